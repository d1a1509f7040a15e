import PyProof.Rows.All
import Wide.All
import OpenK.AllK
import Wide.FinOn
import HandS.Comp
import HandS.Ends
import HandS.Iter
import HandS.Words
import HandS.WordsList
import HandS.Walk
import HandS.IsInst
import HandS.Wide
import PyProof.ReprRoads
import PyProof.ReprLen
import KE.DataMinMax
import HandS.Deep
import HandS.Walk
import HandS.DictComp
import HandS.Iter
import HandS.WordsDict
import HandS.More
import HandS.Style
import HandS.Conv
import HandS.Text
import HandS.StrMore
import HandS.FStr
import HandS.IterVal
import PyProof.StrBlock2
import HandS.SetFor
import HandS.TupSets
import HandS.Strs
import KE.GoesEnum
import HandS.RaiseMore
import KE.KEqSeq
import HandS.WideBits
import HandS.Property
import HandS.MakeKwOnly
import HandS.Words
import HandS.NamedTupSort
import HandS.OwnEq
import HandS.TryOnly
import HandS.WordsExc
import HandS.Star
import KE.KStar
import HandS.Gcd
import HandS.SetKeys
import HandS.TupLen
import PyProof.DictMoreH
import HandS.Flow
import PySem.Challenge.RW_slitdiscs_k60_whole_rings_and_lights
set_option Elab.async false
set_option linter.all false
set_option maxRecDepth 100000
set_option maxHeartbeats 4000000
/-! Own layer over HandS: defs that run where no repr is under way (FnG), repr of data, powers of great ints, calls by keywords alone. -/
namespace Sd
open PySem PySem.Spec PyProof.Rows L2

/-! ### a def called where no repr is under way -/
structure FnG (P : Program) (w : World) (K : PySem.W.Frag) (mg : Str → Option Value) (base : Heap) (C : CXT) (k : Nat) (f : Addr) (fd : FuncData) (ps : List Str) (sp : Sp) : Prop where
  cnt : ∀ {vs H Q E}, sp vs H Q E → vs.length = ps.length
  go : ∀ (A : Around) (out : List Env) (s : Shared) (H : Hp) (ar : Args) (us : List Value) (vs : List V) (Q : VK) (E : XK), A.guards = some [] → Room k A →
    Env0 P w K mg base A out s H → BindsTo s fd ar (ps.zip us) → Vals vs us → sp vs H Q E →
    codeAny (model P w) A (.call (.ref f) ar) (CR C out P w H s Q E) s

section
variable {P : Program} {w : World} {K : PySem.W.Frag} {mg : Str → Option Value} {base : Heap} {C : CXT}
theorem gfn_of {k : Nat} {f : Addr} {nm ql : Str} {pms : Arguments} {bd : List Stmt} {sc : Scope} {v1 v2 v3 v4 cd v5 oc : Value} {an od : Option Addr}
    {osl : Array (Option Value)} {N ps : List Str} {sp : Sp}
    (lk : K.lookup f = some ⟨oc, od, .func (PySem.W.fnOf nm ql pms bd sc v1 v2 v3 v4 an cd v5), osl⟩)
    (hc : PySem.W.codeIn K cd ql = true) (S : FnScope N ps sc)
    (len : ∀ vs H Q E, sp vs H Q E → vs.length = ps.length)
    (hb : ∀ (A : Around) (out : List Env) (s : Shared) (H : Hp) (vs : List V) (Q : VK) (E : XK), A.guards = some [] →
      Room k (A.deeper (envOfC ql sc s.heap.objs.size f cd)) → sp vs H Q E →
      ∃ t, PSs (cxOf C P w K mg base N ql sc f cd A out s H E) bd t ∧ t { nx := fun _ H' => Q .non H', rt := Q } (start N vs) H) :
    FnG P w K mg base C (k + 1) f (PySem.W.fnOf nm ql pms bd sc v1 v2 v3 v4 an cd v5) ps sp := by
  refine ⟨fun h => len _ _ _ _ h, fun A out s H ar us vs Q E hg hr e0 hbd r hsp => ?_⟩
  have n1 := len _ _ _ _ hsp
  have kx : K.In s.heap := e0.mod.kin.keeps fun b o e => (e0.bs b o e).1
  have li : s.heap.NoLimit := e0.mod.nolimit.keeps fun b o e => (e0.bs b o e).1
  refine codeAny_call_function hr.depth (kx _ _ lk) rfl S.co S.gen rfl (PySem.W.codeRec_of kx hc) (hbd _ _ _ _ ?_)
  refine wpAny_newFunctionEnv_cells S.kind (fun ⟨n, v⟩ hy => ?_) fun env he s1 x => ?_
  · rcases S.par n (List.of_mem_zip hy).1 with q | q
    · exact .inl q
    · exact .inr ⟨q, PySem.W.cellsFrom_some _ _ _ (.inl q)⟩
  subst he
  refine ⟨li.keeps x.toInCall.keep, codeAny_func ?_⟩
  obtain ⟨t, ht, hq⟩ := hb A out s H vs Q E hg (hr.deeper _) hsp
  have I0 := inv_start (CX := C) (E := E) S hr.hd e0 n1 r x
  refine wpAny_mono (ht.run [] s1 (start N vs) H _ I0 hq) (fun fl s' hs => ?_) fun e s' hs => hs
  cases fl with
  | next =>
    obtain ⟨σ', H', J, q⟩ := hs
    exact ⟨.non, H', J.os, J.bare, J.base, J.hok, rfl, q⟩
  | ret u =>
    obtain ⟨v, σ', H', J, rv, q⟩ := hs
    exact ⟨v, H', J.os, J.bare, J.base, J.hok, rv, q⟩
  | brk => exact hs.elim fun _ ⟨_, _, q⟩ => False.elim q
  | cont => exact hs.elim fun _ ⟨_, _, q⟩ => False.elim q

/-- as Fun.ok, where no repr is under way -/
theorem okG {x ql : Str} {st : Stmt} {f : Addr} {fd : FuncData} {N ps : List Str} {k : Nat} {sp : Sp} (F : Fun K x ql st f fd) (S : FnScope N ps (defScope st))
    (len : ∀ vs H Q E, sp vs H Q E → vs.length = ps.length)
    (hb : ∀ (cd : Value) (A : Around) (out : List Env) (s : Shared) (H : Hp) (vs : List V) (Q : VK) (E : XK), A.guards = some [] →
      Room k (A.deeper (envOfC ql (defScope st) s.heap.objs.size f cd)) → sp vs H Q E →
      ∃ t, PSs (cxOf CX0 P w K mg base N ql (defScope st) f cd A out s H E).nox (defBody st) t ∧ t { nx := fun _ H' => Q .non H', rt := Q } (start N vs) H) :
    FnG P w K mg base CX0 (k + 1) f fd ps sp := by
  obtain ⟨oc, od, v2, v3, v4, an, cd, v5, osl, rfl, lk, hc⟩ := F.ex
  refine gfn_of lk hc S len fun A out s H vs Q E hg hr hsp => ?_
  obtain ⟨t, h, q⟩ := hb cd A out s H vs Q E hg hr hsp
  exact ⟨t, h.nox, q⟩
end

section
variable {X : Cx} {C : CXT} {k : Nat} {f : Addr} {fd : FuncData} {ps ks : List Str} {sp : Sp} {dvs : List V} {ds : List Value} {E : XK} {x : Str} {p pos : Pos} {e : Expr} {es : List Expr} {kws : List Keyword} {t tk : TA}
theorem endG {pins : List (Addr × Obj)} {σ : L2.St} {H : Hp} {s s' : Shared} {Q : VK} {r : Result} (hx : Passes C X E) (I : Inv X pins σ H s) (h : CR C X.stack X.prog X.w H s Q E r s') :
    (match r with | .ok (.ret u) => EP X pins σ Q u s' | .ok _ => False | .error e => X.xe e s') := by
  cases r with
  | error e => exact hx pins σ H s e s' I h
  | ok fl =>
    cases fl with
    | ret u => exact I.after h
    | next => exact h
    | brk => exact h
    | cont => exact h
theorem goG {pins : List (Addr × Obj)} {σ : L2.St} {H : Hp} {s : Shared} {Q : VK} {us : List Value} {vs : List V} (F : FnG X.prog X.w X.K X.mg X.base C k f fd ps sp) (hA : X.A.guards = some []) (hr : Room k X.A)
    (hb : Binds X.K fd ps ds) (hd : Vals dvs ds) (hx : Passes C X E) (I : Inv X pins σ H s) (r : Vals vs us) (h : sp (vs ++ dvs) H Q E) :
    wpAny (model X.prog X.w) X.A (call (.ref f) us) (EP X pins σ Q) X.xe s := by
  have r2 := r.append hd
  have n2 : (us ++ ds).length = ps.length := r2.length.symm.trans (F.cnt h)
  refine wpAny_call (codeAny_mono (F.go X.A X.stack s H ⟨us, []⟩ _ _ Q E hA hr I.env0 (hb s us I.kIn n2) r2 h) fun r s' hq => ?_)
  have z := endG hx I hq
  cases r with
  | error e => exact z
  | ok fl => cases fl <;> exact z
/-- f(e, ..) where no repr is under way -/
theorem pe_callG (F : FnG X.prog X.w X.K X.mg X.base C k f fd ps sp) (hA : X.A.guards = some []) (hr : Room k X.A) (hg : Gl X x) (hm : X.mg x = some (.ref f)) (hk : PySem.W.keepIn X.K (.ref f) = true)
    (hb : Binds X.K fd ps ds) (hd : Vals dvs ds) (hx : Passes C X E) (ha : PA X (e :: es) t) (hdb : (x == ("__debug__" : Str)) = false := by decide)
    (he : starEach (e :: es) X.env = (false, eval e X.env) :: starEach es X.env := by rfl) (hpl : (backTo pos (starEach es X.env)).any (·.1) = false := by rfl) :
    PE X (.Call (.Name x p) (e :: es) [] pos) (tCall sp dvs E t) := by
  refine ⟨fun pins s σ H Q I h => wpAny_Call_Name_kw (ld_glob I hg hm ?_ hdb)⟩
  refine PySem.W.callWith_K (h₀ := X.base) I.ok.mod.kin hk (thn (ha.run pos pins s σ H _ I h) fun us s1 z => ?_) he hpl
  obtain ⟨vs, H1, I1, r, q⟩ := z
  exact ⟨I1.kIn, goG F hA hr hb hd hx I1 r q⟩
/-- f(k = v, ..): keywords alone -/
def tCallW (sp : Sp) (gV : List V → List V) (E : XK) (tk : TA) : TE := fun σ H Q => tk σ H fun zs H2 => sp (gV zs) H2 Q E
variable {g : List Value → List Value → List Value} {gV : List V → List V → List V}
theorem pe_callW (F : FnOk X.prog X.w X.K X.mg X.base C k f fd ps sp) (hr : Room k X.A) (hg : Gl X x) (hm : X.mg x = some (.ref f)) (hk : PySem.W.keepIn X.K (.ref f) = true) (hb : KBinds X.K fd ps ks g gV) (hx : Passes C X E)
    (hkw : PK X kws tk) (hall : (backToKw pos (keywordEach kws X.env)).all (·.1.isSome) = true := by rfl) (hks : (backToKw pos (keywordEach kws X.env)).filterMap (·.1) = ks := by rfl)
    (hdb : (x == ("__debug__" : Str)) = false := by decide)
    (hpl : ((backTo pos (starEach [] X.env)).any (·.1) || (backToKw pos (keywordEach kws X.env)).any (·.1.isNone)) = false := by rfl) :
    PE X (.Call (.Name x p) [] kws pos) (tCallW sp (gV []) E tk) := by
  refine ⟨fun pins s σ H Q I h => wpAny_Call_Name_kw (ld_glob I hg hm ?_ hdb)⟩
  refine PySem.W.callWith_KW0 (h₀ := X.base) I.ok.mod.kin hk hall (thn (hkw.run pos pins s σ H _ I h) fun ws s2 z => ?_) hpl
  obtain ⟨zs, H2, I2, rz, q2⟩ := z
  refine ⟨I2.kIn, ?_⟩
  rw [hks]
  exact run_fnk F hr hb hx I2 .nil rz q2
end

/-! ### the law's call -/
theorem glaw {P : Program} {w : World} {K : PySem.W.Frag} {mg mb : Str → Option Value} {k : Nat} {fa a : Addr} {fd : FuncData} {x : Str} {sp : Sp} {s1 : Shared} {vs : List Value} {ns : List Int}
    (kx : K.In s1.heap) (hn : s1.heap.Ns mainGlobals mg) (hb : s1.heap.Ns builtinsNs mb) (hbb : ∀ x : Str, x ≠ "__name__" → mb x = bootBuiltins x) (hlim : s1.heap.NoLimit) (hgs : s1.gens = #[])
    (ha : s1.heap.get? a = some { cls := .type "list", data := .seq vs.toArray }) (hi : IntsAre vs ns) (hl : ns.length ≤ sizeLine) (hr : Room k callerA)
    (F : ∀ base : Heap, K.In base → base.Ns mainGlobals mg → FnG P w K mg base CX0 k fa fd [x] sp) (hbind : ∀ (s : Shared) (u : Value), BindsTo s fd ⟨[u], []⟩ [(x, u)])
    (hsp : ∀ H : Hp, SqL K H a (ns.map V.int) → sp [.ref a] H (fun v _ => v = .bl true) E0) :
    codeAny (model P w) callerA (.call (.ref fa) ⟨[.ref a], []⟩) (fun r s' => r = .ok (.ret (.bool true)) ∧ OldK s1.heap s'.heap ∧ s'.os = s1.os ∧ AllBare s'.gens) s1 := by
  have rv := vals_ints hi
  have nv := hi.length
  -- the abstract heap: the script, locked, unless the module itself holds it
  have main : ∀ H : Hp, (∀ b, H b = none ∨ (b = a ∧ H b = some (.frz { cls := .type "list", data := .seq vs.toArray } (.lst (ns.map V.int))))) → (H a ≠ none → K.lookup a = none) →
      SqL K H a (ns.map V.int) → HOk P w H s1.heap →
      codeAny (model P w) callerA (.call (.ref fa) ⟨[.ref a], []⟩) (fun r s' => r = .ok (.ret (.bool true)) ∧ OldK s1.heap s'.heap ∧ s'.os = s1.os ∧ AllBare s'.gens) s1 := by
    intro H hO hK hS hok
    have out : ∀ {b : Addr} {o : Obj}, s1.heap.get? b = some o → (b = a → H b = none) → (hidT s1.heap H).get? b = some o := fun {b o} e n => hidT_get e (by
      rcases hO b with z | ⟨z, _⟩
      · exact z
      · exact n z)
    have dct : ∀ {b : Addr} {m : Str → Option Value}, s1.heap.Ns b m → (hidT s1.heap H).Ns b m := fun {b m} ⟨o, es, ep, e, d, r⟩ => ⟨o, es, ep, out e (fun z => by
      subst z
      rw [ha] at e
      cases e
      cases (show Data.seq vs.toArray _ = Data.dict es ep from d)), d, r⟩
    have kb : K.In (hidT s1.heap H) := fun b o e => out (kx b o e) fun z => by
      subst z
      cases q : H b with
      | none => rfl
      | some u =>
        rw [hK (by rw [q]; exact fun z => nomatch z)] at e
        cases e
    have md : Mod K mg (hidT s1.heap H) := ⟨kb, dct hn, ⟨mb, dct hb, hbb⟩, let ⟨mc, h1, h2⟩ := hlim; ⟨mc, dct h1, h2⟩⟩
    have en : Env0 P w K mg (hidT s1.heap H) callerA [] s1 H := ⟨rfl, md, fun b o e => of_hidT e, Nat.le_of_eq (hidT_size _ _), trivial, fun b z => (List.not_mem_nil z).elim, hok, .of_eq hgs⟩
    refine codeAny_mono ((F _ kb (dct hn)).go callerA [] s1 H ⟨[.ref a], []⟩ [.ref a] [.ref a] _ _ rfl hr en (hbind s1 (.ref a)) (.cons rfl .nil) (hsp H hS)) fun r s' h => ?_
    cases r with
    | error e => exact False.elim h
    | ok fl =>
      cases fl with
      | next => exact False.elim h
      | brk => exact False.elim h
      | cont => exact False.elim h
      | ret u =>
        obtain ⟨v, H', os, br, un, ok', r', q⟩ := h
        cases (show v = .bl true from q)
        cases (show u = Value.bool true from r')
        refine ⟨rfl, OldK.of_keep fun b o e => ?_, os, br⟩
        rcases hO b with z | ⟨_, z⟩
        · exact un.keep b o e z (fun z => (List.not_mem_nil z).elim) (fun z => (List.not_mem_nil z).elim)
        · have e1 := (hok b _ z).1
          have e2 := (ok' b _ (un.frzs b _ _ z)).1
          rw [e] at e1
          cases e1
          exact e2
  cases hk : K.lookup a with
  | some o =>
    have e := kx a o hk
    rw [ha] at e
    cases e
    refine main (fun _ => none) (fun _ => .inl rfl) (fun z => absurd rfl z) (.inr ⟨_, vs.toArray, _, hk, rfl, rfl, rfl, ?_, ?_⟩) fun b u z => nomatch (show (none : Option HO) = some u from z)
    · rw [List.size_toArray, nv]
      exact hl
    · simpa using rv
  | none =>
    refine main (fun b => if b = a then some (.frz { cls := .type "list", data := .seq vs.toArray } (.lst (ns.map V.int))) else none) (fun b => ?_) (fun _ => hk) (.inl (.inr ⟨{ cls := .type "list", data := .seq vs.toArray }, if_pos rfl⟩)) (fun b u z => ?_)
    · by_cases q : b = a
      · exact .inr ⟨q, if_pos q⟩
      · exact .inl (if_neg q)
    · by_cases q : b = a
      · have z2 := (if_pos q).symm.trans z
        cases z2
        subst q
        exact ⟨ha, by rw [List.length_map]; exact hl, vs, _, rv, ha⟩
      · have z2 := (if_neg q).symm.trans z
        cases z2
theorem gwalk {l : PySem.W.OpenLaw} {n k : Nat} {q : Program} {lo : List Str} {XP : (Str → Option Value) → Heap → Prop} {YP : World → Heap → Prop} {d : DefRec} {K : Params → PySem.W.Frag} {sp : PySem.W.Frag → Sp} {x : Str}
    (hn : l.most = some n) (hn2 : n ≤ sizeLine) (hdf : d.params.defaults = []) (hr : Room k callerA) (hY : ∀ (w : World) (h : Heap), YP w h → (K w.params).In h)
    (F : ∀ (w : World) (mg : Str → Option Value) (fa : Addr) (h : Heap), (K w.params).In h → h.Ns mainGlobals mg → mg d.name = some (.ref fa) →
      ∃ fd : FuncData, (∀ (s : Shared) (u : Value), BindsTo s fd ⟨[u], []⟩ [(x, u)]) ∧
        ∀ base : Heap, (K w.params).In base → base.Ns mainGlobals mg → FnG l.prog w (K w.params) mg base CX0 k fa fd [x] (sp (K w.params)))
    (hsp : ∀ (K : PySem.W.Frag) (H : Hp) (a : Addr) (ns : List Int), ns.length ≤ n → SqL K H a (ns.map V.int) → sp K [.ref a] H (fun v _ => v = .bl true) E0) :
    PySem.W.WalkO q lo XP YP l.row.toRowW d [] (fun f vs => PySem.call f vs) := by
  refine Att.attach_call hn hdf fun w s₀ s₁ mg mb fa o pm cd doc a vs ns G Y ho hd hcd hmg hobj hints hlen hg => ?_
  have kx := hY w _ Y
  obtain ⟨fd, hb, hF⟩ := F w mg fa _ kx G.T.g hmg
  exact glaw kx G.T.g G.T.b G.T.builtins G.T.nolimit hg hobj hints (Nat.le_trans hlen hn2) hr hF hb fun H hS => hsp (K w.params) H a ns hlen hS

/-! ### repr of data -/
def rRepr (K : PySem.W.Frag) : List V → Hp → VK → Prop := fun xs H Q => ∃ (a : Addr) (d : PyData), xs = [.ref a] ∧ Dp K H (.ref a) d ∧ d.showable = true ∧ d.hasDict = false ∧ d.depth ≤ 32 ∧ d.shown.length ≤ sizeLine ∧ Q (.str d.shown) H
theorem call_repr {X : Cx} (hA : X.A.guards = some []) {k : Nat} (hr : Room k X.A) : CallR X (.builtin "repr") (rRepr X.K) := by
  intro pins s σ H xs us Q I r h
  obtain ⟨a, d, rfl, hd, h1, h2, h3, h4, q⟩ := h
  cases r with
  | cons r1 r2 =>
    cases r2
    cases r1
    obtain ⟨as, rd⟩ := Dp.reads I d _ _ hd rfl
    have hu := hr.units
    refine repr_of_reads' rd h1 (fun z => by rw [h2] at z; cases z) hA (by omega) (fun _ _ e => e) (fun h' u tk kp => ?_) h4
    exact ⟨.str d.shown, H, I.kept (t' := tk) kp, ⟨u, rfl⟩, q⟩

/-- repr of any data -/
def rReprV (K : PySem.W.Frag) : List V → Hp → VK → Prop := fun xs H Q => ∃ (x : V) (d : PyData), xs = [x] ∧ Dp K H x d ∧ d.showable = true ∧ d.hasDict = false ∧ d.depth ≤ 32 ∧ d.shown.length ≤ sizeLine ∧ Q (.str d.shown) H
theorem reprV {X : Cx} {K : PySem.W.Frag} (hK : X.K = K) (hA : X.A.guards = some []) {k : Nat} (hr : Room k X.A) : CallR X (.builtin "repr") (rReprV K) := by
  subst hK
  intro pins s σ H xs us Q I r h
  obtain ⟨x, d, rfl, hd, h1, h2, h3, h4, q⟩ := h
  have ref : ∀ a : Addr, x = .ref a → wpAny (model X.prog X.w) X.A (call (.builtin "repr") us) (EP X pins σ Q) X.xe s := fun a e => by
    subst e
    exact call_repr hA hr pins s σ H _ us Q I r ⟨a, d, rfl, hd, h1, h2, h3, h4, q⟩
  cases hd with
  | lst _ _ => exact ref _ rfl
  | tup _ _ => exact ref _ rfl
  | non =>
    cases r with
    | cons r1 r2 =>
      cases r2
      cases r1
      exact PySem.P.repr_of_none ⟨.str (PyData.shown .none), H, I.tok _, ⟨_, rfl⟩, q⟩
  | bl b =>
    cases r with
    | cons r1 r2 =>
      cases r2
      cases r1
      cases b with
      | true => exact PySem.P.repr_of_bool ⟨.str (PyData.shown (.bool true)), H, I.tok _, ⟨_, rfl⟩, q⟩
      | false => exact PySem.P.repr_of_bool ⟨.str (PyData.shown (.bool false)), H, I.tok _, ⟨_, rfl⟩, q⟩
  | int i =>
    cases r with
    | cons r1 r2 =>
      cases r2
      obtain ⟨t, rfl⟩ := r1
      have z : i.natAbs.log2 < 1920 := by
        simp only [PyData.showable] at h1
        exact of_decide_eq_true h1
      exact PySem.P.repr_of_int z ⟨.str (PyData.shown (.int i)), H, I.tok _, ⟨_, rfl⟩, q⟩
  | str y =>
    cases r with
    | cons r1 r2 =>
      cases r2
      obtain ⟨t, rfl⟩ := r1
      exact PySem.P.repr_of_str ⟨.str (PyData.shown (.str y)), H, I.tok _, ⟨_, rfl⟩, q⟩ h4

/-! ### a statement, then the rest by a word between them -/
def tMid (t u : TS) : TS := fun D σ H => ∃ M : L2.St → Hp → Prop, t { D with nx := M } σ H ∧ ∀ σ' H', M σ' H' → u D σ' H'
theorem pss_mid {X : Cx} {st : Stmt} {rs : List Stmt} {t u : TS} (h1 : PS X st t) (h2 : PSs X rs u) : PSs X (st :: rs) (tMid t u) :=
  ⟨fun pins s σ H D I ⟨M, hm, hu⟩ => wpAny_execs_cons (thn (h1.run pins s σ H { D with nx := M } I hm) fun f s1 q => by
    cases f with
    | next => exact q.elim fun σ' ⟨H', I', z⟩ => h2.run pins s1 σ' H' D I' (hu σ' H' z)
    | ret v => exact q
    | brk => exact q
    | cont => exact q)⟩

/-! ### rules with the written part named (for blocks of comprehensions) -/
theorem ixL {X : Cx} {K : PySem.W.Frag} (h : X.K = K) : IxR X (rIxL K) := h ▸ ix_list
theorem slL {X : Cx} {K : PySem.W.Frag} (h : X.K = K) : SlR X (rSlL K) := h ▸ sl_list
def rLenL (K : PySem.W.Frag) : List V → Hp → VK → Prop := fun xs H Q => ∃ (p : Addr) (ys : List V), xs = [.ref p] ∧ (SqL K H p ys ∨ SqT K H p ys) ∧ Q (.int ys.length) H
theorem lenL {X : Cx} {K : PySem.W.Frag} (h : X.K = K) : CallR X (.builtin "len") (rLenL K) := h ▸ call_len_seq
theorem sumL {X : Cx} {K : PySem.W.Frag} (h : X.K = K) (hc : X.calm = true) : CallR X (.builtin "sum") (rSum K) := h ▸ cr_sum hc
theorem maxL {X : Cx} {K : PySem.W.Frag} (h : X.K = K) (hc : X.calm = true) : CallR X (.builtin "max") (rMax K) := h ▸ cr_max hc
theorem minL {X : Cx} {K : PySem.W.Frag} (h : X.K = K) (hc : X.calm = true) : CallR X (.builtin "min") (rMin K) := h ▸ cr_min hc
theorem isiL {X : Cx} {K : PySem.W.Frag} (h : X.K = K) : CallR X (.builtin "isinstance") (rIsi K) := h ▸ call_isi
theorem reprL {X : Cx} {K : PySem.W.Frag} (h : X.K = K) (hA : X.A.guards = some []) {k : Nat} (hr : Room k X.A) : CallR X (.builtin "repr") (rRepr K) := h ▸ call_repr hA hr
theorem pg_tupL {X : Cx} {K : PySem.W.Frag} {es : List Expr} {j : Nat} {pos : Pos} {t : TGs} {n : Nat} (h : X.K = K) (hc : X.calm = true) (hs : PGs X es t)
    (hn : (assignEach es X.env).length = n := by rfl) (hst : (assignEach es X.env).findIdx? (·.1) = none := by rfl) : PG X (.Tuple es j pos) (gTup K n t) := h ▸ pg_tup hc hs hn hst
theorem enumL {X : Cx} {K : PySem.W.Frag} {elts : List Expr} {kk : Nat} {tpos p pos : Pos} {e : Expr} {ta : TA} (h : X.K = K) (hg : Gl X "enumerate") (hm : X.mg "enumerate" = none) (ha : PA X [e] ta)
    (hs : starEach [e] X.env = [(false, eval e X.env)] := by rfl) : PI X (.Tuple elts kk tpos) (.Call (.Name "enumerate" p) [e] [] pos) (iEnum K ta) := h ▸ pi_enum hg hm ha hs
theorem zipL {X : Cx} {K : PySem.W.Frag} {elts : List Expr} {kk : Nat} {tpos p pos : Pos} {e e2 : Expr} {ta : TA} (h : X.K = K) (hg : Gl X "zip") (hm : X.mg "zip" = none) (ha : PA X [e, e2] ta)
    (hs : starEach [e, e2] X.env = (false, eval e X.env) :: starEach [e2] X.env := by rfl) (hpl : (backTo pos (starEach [e2] X.env)).any (·.1) = false := by rfl) :
    PI X (.Tuple elts kk tpos) (.Call (.Name "zip" p) [e, e2] [] pos) (iZip K ta) := h ▸ pi_zip hg hm ha hs hpl
theorem pi_tupL {X : Cx} {K : PySem.W.Frag} {tg l : Expr} {tl : TE} (h : X.K = K) (hl : PE X l tl) : PI X tg l (iTup K tl) := h ▸ pi_tup hl
theorem pi_listL {X : Cx} {K : PySem.W.Frag} {tg l : Expr} {tl : TE} (h : X.K = K) (hl : PE X l tl) : PI X tg l (iList K tl) := h ▸ pi_list hl
def rListL (K : PySem.W.Frag) : List V → Hp → VK → Prop := fun xs H Q => ∃ (p : Addr) (ys : List V), xs = [.ref p] ∧ (SqL K H p ys ∨ SqT K H p ys) ∧ ∀ l, H l = none → Q (.ref l) (upd H l (.lst ys))
theorem listL {X : Cx} {K : PySem.W.Frag} (h : X.K = K) : CallR X (.type "list") (rListL K) := h ▸ call_list_of
theorem eqD {X : Cx} {K : PySem.W.Frag} (h : X.K = K) {k : Nat} (hr : Room k X.A) : OpR X (compareOp .Eq) (rEqD K) := h ▸ op_eqD hr.units
theorem neD {X : Cx} {K : PySem.W.Frag} (h : X.K = K) {k : Nat} (hr : Room k X.A) : OpR X (compareOp .NotEq) (rNeD K) := h ▸ op_neD hr.units

/-! ### a power of a great int, the exponent small -/
def CPow3 (i j : Int) : Prop := j = 3 ∧ 0 ≤ i ∧ i.natAbs < 2 ^ 200
theorem op_pow3 {X : Cx} : OpR X (binaryOp .Pow) (rI CPow3 fun i j => .int (i ^ j.toNat)) := opI fun i j t u s Q E hc q => by
  obtain ⟨rfl, h0, h1⟩ := hc
  by_cases e : (i == 0 || i == 1) = true
  · refine PySem.AutoIntOps.pow_1 (by decide) (by decide) e ?_
    have e2 : i ^ (3 : Int).toNat = i := by
      rcases (Bool.or_eq_true _ _).mp e with z | z
      · rw [eq_of_beq z]; rfl
      · rw [eq_of_beq z]; rfl
    rw [e2] at q
    exact q
  · refine PySem.AutoIntOps.pow_4 (by decide) (by decide) e ?_ ?_ q
    · intro z
      have := eq_of_beq z
      omega
    · intro z
      unfold Builtin.Int.intTooBig at z
      have z3 := of_decide_eq_true z
      have b : Builtin.Int.intBits i ≤ 201 := by
        unfold Builtin.Int.intBits
        have y := PySem.Flt.log2_lt_of (show 0 < 200 by decide) h1
        split <;> omega
      have e : bitsLine = 134217728 := by decide
      rw [e] at z3
      omega
end Sd

namespace Sd
open PySem PySem.Spec PyProof.Rows L2

/-! ### heaps -/
/-- all but T is as it was -/
def But (T : Addr) (H H' : Hp) : Prop := ∀ b o, H b = some o → b ≠ T → H' b = some o
theorem But.refl (T : Addr) (H : Hp) : But T H H := fun _ _ h _ => h
theorem But.trans {T : Addr} {H H1 H2 : Hp} (a : But T H H1) (b : But T H1 H2) : But T H H2 := fun c o h n => b c o (a c o h n) n
theorem But.of {T : Addr} {H H' : Hp} (s : Same H H') : But T H H' := fun b o h _ => s b o h
theorem But.lst {T : Addr} {H H' : Hp} {a : Addr} {o : HO} (s : But T H H') (h : H a = some o) (n : a ≠ T) : H' a = some o := s a o h n
theorem new_same {H : Hp} {p : Addr} {o : HO} (h : H p = none) : Same H (upd H p o) := fun b x e => by
  rw [upd_ne (ne_of_none e h)]
  exact e
theorem upd_but {H : Hp} {T : Addr} {o : HO} : But T H (upd H T o) := fun b x e n => by
  rw [upd_ne n]
  exact e
theorem free_but {T : Addr} {H H' : Hp} {p : Addr} {o : HO} (s : But T H H') (hT : H T = some o) (h : H' p = none) (hT' : H' T ≠ none) : H p = none := by
  cases q : H p with
  | none => rfl
  | some u =>
    by_cases e : p = T
    · subst e
      exact absurd h hT'
    · rw [s p u q e] at h
      cases h
/-- the law's tank -/
def Tank (H : Hp) (T : Addr) (c : Int) : Prop := ∃ x y z : Int, H T = some (.lst [.int x, .int y, .int z]) ∧ 0 ≤ x ∧ 0 ≤ y ∧ y < 2 ^ 100 ∧ 0 ≤ z ∧ z ≤ c
theorem Tank.some {H : Hp} {T : Addr} {c : Int} (h : Tank H T c) : ∃ o, H T = some o := let ⟨_, _, _, e, _⟩ := h; ⟨_, e⟩
theorem Tank.same {H H' : Hp} {T : Addr} {c : Int} (h : Tank H T c) (s : Same H H') : Tank H' T c := let ⟨x, y, z, e, r⟩ := h; ⟨x, y, z, s _ _ e, r⟩
theorem Tank.ne {H : Hp} {T p : Addr} {c : Int} (h : Tank H T c) (n : H p = none) : p ≠ T := fun e => by
  obtain ⟨o, q⟩ := h.some
  rw [e, q] at n
  cases n
theorem Tank.up {H : Hp} {T p : Addr} {c : Int} {o : HO} (h : Tank H T c) (n : H p = none) : Tank (upd H p o) T c := h.same (new_same n)
theorem Tank.mono {H : Hp} {T : Addr} {c d : Int} (h : Tank H T c) (l : c ≤ d) : Tank H T d := let ⟨x, y, z, e, a, b, r, f, g⟩ := h; ⟨x, y, z, e, a, b, r, f, by omega⟩

/-! ### lists of ints -/
theorem tyx_list {K : PySem.W.Frag} {H : Hp} {a : Addr} {xs : List V} (h : SqL K H a xs) : TyX K H (.ref a) (.type "list") := by
  rcases h with (h | ⟨o, h⟩) | ⟨o, its, n, hk, hc, _⟩
  · exact .base (.lst h)
  · exact .base (.frz h)
  · exact .kList hk hc
theorem kit_int_int {K : PySem.W.Frag} : PySem.W.kitOne K (.type "int") (.type "int") = some true := kit_ty (by decide +kernel)
theorem kit_int_bool {K : PySem.W.Frag} : PySem.W.kitOne K (.type "int") (.type "bool") = some false := kit_ty (by decide +kernel)
theorem kit_list_list {K : PySem.W.Frag} : PySem.W.kitOne K (.type "list") (.type "list") = some true := kit_ty (by decide +kernel)
/-- a rim: from 1 to 40 numbers from 0 to 10 ** 30 -/
structure Rim (ns : List Int) : Prop where
  pos : 1 ≤ ns.length
  le : ns.length ≤ 40
  all : ∀ n ∈ ns, 0 ≤ n ∧ n ≤ 1000000000000000000000000000000
theorem sz40 {n : Nat} (h : n ≤ 100000) : n < sizeLine := Nat.lt_of_le_of_lt h (by decide)
theorem sz40' {n : Nat} (h : n ≤ 100000) : n ≤ sizeLine := Nat.le_of_lt (sz40 h)
theorem int_at {ns : List Int} {i : Nat} {x : V} (h : (ns.map V.int)[i]? = some x) : ∃ n, ns[i]? = some n ∧ x = .int n := by
  rw [List.getElem?_map] at h
  cases e : ns[i]? with
  | none =>
    rw [e] at h
    cases h
  | some n =>
    rw [e] at h
    exact ⟨n, rfl, (Option.some.inj h).symm⟩
theorem at_int {ns : List Int} {i : Nat} {n : Int} (h : ns[i]? = some n) : (ns.map V.int)[i]? = some (.int n) := by
  rw [List.getElem?_map, h]
  rfl
/-- xs[i] at an int that lies within -/
theorem at_in {ns : List Int} {i : Int} (h0 : 0 ≤ i) (h1 : i < ns.length) : ∃ n, ns[i.toNat]? = some n ∧ atI (ns.map V.int) i = some (.int n) := by
  have h2 : i.toNat < ns.length := by omega
  obtain ⟨j, rfl⟩ : ∃ j : Nat, i = (j : Int) := ⟨i.toNat, by omega⟩
  have h3 : j < ns.length := by omega
  exact ⟨ns[j], List.getElem?_eq_getElem h3, atI_nat (at_int (List.getElem?_eq_getElem h3))⟩
theorem ixN_in {n : Nat} {i : Int} (h0 : 0 ≤ i) (h1 : i < n) : ixN n i = some i.toNat := by
  unfold ixN
  rw [if_pos h0, if_pos h1]

/-! ### turning, mirroring -/
/-- what stands at slot j behind a turn by t -/
def rot (ns : List Int) (t : Int) : List Int := (List.range ns.length).map fun (j : Nat) => ns.getD ((((j : Int) - t) % (ns.length : Int)).toNat) 0
def mir (ns : List Int) : List Int := (List.range ns.length).map fun (j : Nat) => ns.getD (((-(j : Int)) % (ns.length : Int)).toNat) 0
theorem rot_len (ns : List Int) (t : Int) : (rot ns t).length = ns.length := by
  unfold rot
  rw [List.length_map, List.length_range]
theorem mir_len (ns : List Int) : (mir ns).length = ns.length := by
  unfold mir
  rw [List.length_map, List.length_range]
theorem rot_at {ns : List Int} {t : Int} {j : Nat} (h : j < ns.length) : (rot ns t)[j]? = some (ns.getD ((((j : Int) - t) % (ns.length : Int)).toNat) 0) := by
  unfold rot
  rw [List.getElem?_map, List.getElem?_range h]
  rfl
theorem mir_at {ns : List Int} {j : Nat} (h : j < ns.length) : (mir ns)[j]? = some (ns.getD (((-(j : Int)) % (ns.length : Int)).toNat) 0) := by
  unfold mir
  rw [List.getElem?_map, List.getElem?_range h]
  rfl
theorem mod_in {i : Int} {n : Nat} (h : 0 < n) : 0 ≤ i % (n : Int) ∧ i % (n : Int) < n := ⟨Int.emod_nonneg _ (by omega), Int.emod_lt_of_pos _ (by omega)⟩
theorem getD_at {ns : List Int} {j : Nat} {n : Int} (h : ns[j]? = some n) : ns.getD j 0 = n := by
  rw [List.getD_eq_getElem?_getD, h]
  rfl
theorem at_getD {ns : List Int} {j : Nat} (h : j < ns.length) : ns[j]? = some (ns.getD j 0) := by
  rw [List.getD_eq_getElem?_getD, List.getElem?_eq_getElem h]
  rfl
theorem rot_all {ns : List Int} {t : Int} {P : Int → Prop} (h : ∀ n ∈ ns, P n) : ∀ n ∈ rot ns t, P n := fun n hn => by
  unfold rot at hn
  obtain ⟨j, hj, rfl⟩ := List.mem_map.mp hn
  have hj := List.mem_range.mp hj
  have hm := mod_in (i := (j : Int) - t) (show 0 < ns.length by omega)
  exact h _ (List.mem_of_getElem? (at_getD (show (((j : Int) - t) % (ns.length : Int)).toNat < ns.length by omega)))
theorem mir_all {ns : List Int} {P : Int → Prop} (h : ∀ n ∈ ns, P n) : ∀ n ∈ mir ns, P n := fun n hn => by
  unfold mir at hn
  obtain ⟨j, hj, rfl⟩ := List.mem_map.mp hn
  have hj := List.mem_range.mp hj
  have hm := mod_in (i := -(j : Int)) (show 0 < ns.length by omega)
  exact h _ (List.mem_of_getElem? (at_getD (show ((-(j : Int)) % (ns.length : Int)).toNat < ns.length by omega)))
theorem Rim.rot {ns : List Int} (h : Rim ns) (t : Int) : Rim (rot ns t) := ⟨by rw [rot_len]; exact h.pos, by rw [rot_len]; exact h.le, rot_all h.all⟩
theorem Rim.mir {ns : List Int} (h : Rim ns) : Rim (mir ns) := ⟨by rw [mir_len]; exact h.pos, by rw [mir_len]; exact h.le, mir_all h.all⟩
/-- filling slot by slot: found[(i + t) % n] = ns[i] for i below k leaves rot where it was filled -/
theorem rot_back {ns : List Int} {t : Int} {i : Nat} (hi : i < ns.length) : (rot ns t)[((((i : Int) + t) % (ns.length : Int)).toNat)]? = ns[i]? := by
  have hm := mod_in (i := (i : Int) + t) (show 0 < ns.length by omega)
  rw [rot_at (by omega), at_getD hi]
  have e : ((((((i : Int) + t) % (ns.length : Int)).toNat : Nat) : Int) - t) % (ns.length : Int) = (i : Int) := by
    rw [Int.toNat_of_nonneg hm.1, Int.emod_sub_emod]
    rw [show (i : Int) + t - t = (i : Int) by omega]
    exact Int.emod_eq_of_lt (by omega) (by omega)
  rw [e, Int.toNat_natCast]
theorem mir_back {ns : List Int} {i : Nat} (hi : i < ns.length) : (mir ns)[((((0 : Int) - (i : Int)) % (ns.length : Int)).toNat)]? = ns[i]? := by
  have hm := mod_in (i := (0 : Int) - (i : Int)) (show 0 < ns.length by omega)
  rw [mir_at (by omega), at_getD hi]
  have e : (-((((((0 : Int) - (i : Int)) % (ns.length : Int)).toNat : Nat) : Int))) % (ns.length : Int) = (i : Int) := by
    rw [Int.toNat_of_nonneg hm.1]
    rw [show -(((0 : Int) - (i : Int)) % (ns.length : Int)) = 0 - ((0 : Int) - (i : Int)) % (ns.length : Int) by omega, Int.sub_emod_emod]
    rw [show (0 : Int) - (0 - (i : Int)) = (i : Int) by omega]
    exact Int.emod_eq_of_lt (by omega) (by omega)
  rw [e, Int.toNat_natCast]
/-- filled at the places f 0, f 1 .. f (k - 1) as res is -/
def Filled (f : Nat → Nat) (res ms : List Int) (k : Nat) : Prop := ms.length = res.length ∧ ∀ p, (∃ j, j < k ∧ f j = p) → ms[p]? = res[p]?
theorem Filled.step {f : Nat → Nat} {res ms : List Int} {k : Nat} {v : Int} (h : Filled f res ms k) (e : res[f k]? = some v) : Filled f res (ms.set (f k) v) (k + 1) := by
  refine ⟨by rw [List.length_set]; exact h.1, fun p ⟨j, hj, hp⟩ => ?_⟩
  have hk : f k < ms.length := by
    rw [h.1]
    exact (List.getElem?_eq_some_iff.mp e).1
  by_cases q : f k = p
  · subst q
    rw [List.getElem?_set_self hk, e]
  · rw [List.getElem?_set_ne q]
    refine h.2 p ⟨j, ?_, hp⟩
    rcases Nat.lt_or_ge j k with z | z
    · exact z
    · have : j = k := by omega
      subst this
      exact absurd hp q
theorem Filled.done {f : Nat → Nat} {res ms : List Int} {n : Nat} (h : Filled f res ms n) (on : ∀ p, p < res.length → ∃ j, j < n ∧ f j = p) : ms = res := by
  refine List.ext_getElem? fun p => ?_
  by_cases q : p < res.length
  · exact h.2 p (on p q)
  · rw [List.getElem?_eq_none (by rw [h.1]; omega), List.getElem?_eq_none (by omega)]
theorem rot_on {ns : List Int} {t : Int} {p : Nat} (hp : p < ns.length) : ∃ j, j < ns.length ∧ (((j : Int) + t) % (ns.length : Int)).toNat = p := by
  have hm := mod_in (i := (p : Int) - t) (show 0 < ns.length by omega)
  refine ⟨(((p : Int) - t) % (ns.length : Int)).toNat, by omega, ?_⟩
  have e : ((((((p : Int) - t) % (ns.length : Int)).toNat : Nat) : Int) + t) % (ns.length : Int) = (p : Int) := by
    rw [Int.toNat_of_nonneg hm.1, Int.emod_add_emod]
    rw [show (p : Int) - t + t = (p : Int) by omega]
    exact Int.emod_eq_of_lt (by omega) (by omega)
  rw [e, Int.toNat_natCast]
theorem mir_on {ns : List Int} {p : Nat} (hp : p < ns.length) : ∃ j, j < ns.length ∧ (((0 : Int) - (j : Int)) % (ns.length : Int)).toNat = p := by
  have hm := mod_in (i := (0 : Int) - (p : Int)) (show 0 < ns.length by omega)
  refine ⟨(((0 : Int) - (p : Int)) % (ns.length : Int)).toNat, by omega, ?_⟩
  have e : ((0 : Int) - (((((0 : Int) - (p : Int)) % (ns.length : Int)).toNat : Nat) : Int)) % (ns.length : Int) = (p : Int) := by
    rw [Int.toNat_of_nonneg hm.1, Int.sub_emod_emod]
    rw [show (0 : Int) - (0 - (p : Int)) = (p : Int) by omega]
    exact Int.emod_eq_of_lt (by omega) (by omega)
  rw [e, Int.toNat_natCast]
theorem map_set {ns : List Int} {j : Nat} {v : Int} : (ns.map V.int).set j (.int v) = (ns.set j v).map V.int := by
  rw [List.map_set]
theorem take_next {l : List Int} {i : Nat} {v : Int} (h : l[i]? = some v) : (l.take i).map V.int ++ [.int v] = (l.take (i + 1)).map V.int := by
  rw [List.take_add_one, h, List.map_append]
  rfl
theorem take_all {l : List Int} {n : Nat} (h : l.length ≤ n) : l.take n = l := List.take_of_length_le h
theorem rep_one (v : Int) : ∀ k : Nat, (List.replicate k [V.int v]).flatten = (List.replicate k v).map V.int
  | 0 => rfl
  | k + 1 => by
    rw [List.replicate_succ, List.replicate_succ, List.flatten_cons, List.map_cons, rep_one v k]
    rfl
theorem rep_map (ns : List Int) : ∀ k : Nat, (List.replicate k (ns.map V.int)).flatten = ((List.replicate k ns).flatten).map V.int
  | 0 => rfl
  | k + 1 => by
    rw [List.replicate_succ, List.replicate_succ, List.flatten_cons, List.flatten_cons, List.map_append, rep_map ns k]
theorem rep_len (ns : List Int) : ∀ k : Nat, ((List.replicate k ns).flatten).length = k * ns.length
  | 0 => by simp
  | k + 1 => by
    rw [List.replicate_succ, List.flatten_cons, List.length_append, rep_len ns k, Nat.succ_mul, Nat.add_comm]
theorem rep_mem {ns : List Int} {k : Nat} {x : Int} (h : x ∈ (List.replicate k ns).flatten) : x ∈ ns := by
  obtain ⟨l, hl, hx⟩ := List.mem_flatten.mp h
  rw [(List.mem_replicate.mp hl).2] at hx
  exact hx
theorem cut_take (ns : List Int) (s : Int) (h0 : 0 ≤ s) : cutV (ns.map V.int) none (some s) = (ns.take s.toNat).map V.int := by
  obtain ⟨k, rfl⟩ : ∃ k : Nat, s = (k : Int) := ⟨s.toNat, by omega⟩
  unfold cutV
  rw [HT.sIx_none, HT.sIx_nat, Int.toNat_natCast, List.drop_zero, Nat.sub_zero, List.map_take]
  rcases Nat.le_total k (ns.map V.int).length with z | z
  · rw [Nat.min_eq_left z]
  · rw [Nat.min_eq_right z, List.take_of_length_le (Nat.le_refl _), List.take_of_length_le z]

/-! ### data: lists of ints, for repr and == -/
def dI (ns : List Int) : PyData := .list (ns.map PyData.int)
theorem dpAll_ints {K : PySem.W.Frag} {H : Hp} : ∀ ns : List Int, DpAll K H (ns.map V.int) (ns.map PyData.int)
  | [] => .nil
  | n :: ns => .cons (.int n) (dpAll_ints ns)
theorem dp_ints {K : PySem.W.Frag} {H : Hp} {a : Addr} {ns : List Int} (h : SqL K H a (ns.map V.int)) : Dp K H (.ref a) (dI ns) := .lst h (dpAll_ints ns)
/-- what repr and == ask of data -/
structure RP (d : PyData) : Prop where
  sh : d.showable = true
  nd : d.hasDict = false
  cl : d.canLay0 = true
  dp : d.depth ≤ 32
theorem RP.shaped {d : PyData} (h : RP d) : SeqAt.shaped d = true := by
  have := h.dp
  exact Bool.and_eq_true_iff.mpr ⟨h.cl, decide_eq_true (by omega)⟩
theorem RP.refl {d : PyData} (h : RP d) : PyData.eqv d d = true := SeqAt.eqv_refl d h.cl
theorem rp_int {i : Int} (h : i.natAbs < 2 ^ 1000) : RP (.int i) := ⟨by simp only [PyData.showable]; exact decide_eq_true (Nat.lt_trans (PySem.Flt.log2_lt_of (by decide) h) (by decide)), by simp only [PyData.hasDict], by simp only [PyData.canLay0], by simp only [PyData.depth]; omega⟩
/-- all of a list: depth one less -/
structure RPs (k : Nat) (ds : List PyData) : Prop where
  sh : PyData.showableAll ds = true
  nd : PyData.hasDictAll ds = false
  cl : PyData.canLayAll0 ds = true
  dp : PyData.depthAll ds ≤ k
theorem RPs.nil {k : Nat} : RPs k [] := ⟨by simp only [PyData.showableAll], by simp only [PyData.hasDictAll], by simp only [PyData.canLayAll0], by simp only [PyData.depthAll]; omega⟩
theorem RPs.cons {k : Nat} {d : PyData} {ds : List PyData} (h : RP d) (hk : d.depth ≤ k) (hs : RPs k ds) : RPs k (d :: ds) := by
  refine ⟨?_, ?_, ?_, ?_⟩
  · simp only [PyData.showableAll, h.sh, hs.sh, Bool.and_self]
  · simp only [PyData.hasDictAll, h.nd, hs.nd, Bool.or_self]
  · simp only [PyData.canLayAll0, h.cl, hs.cl, Bool.and_self]
  · simp only [PyData.depthAll]
    have := hs.dp
    omega
theorem RPs.list {k : Nat} {ds : List PyData} (h : RPs k ds) (hk : k ≤ 31) : RP (.list ds) ∧ (PyData.list ds).depth ≤ k + 1 := by
  have hd : (PyData.list ds).depth ≤ k + 1 := by
    simp only [PyData.depth]
    have := h.dp
    omega
  refine ⟨⟨?_, ?_, ?_, by omega⟩, hd⟩
  · simp only [PyData.showable, h.sh]
  · simp only [PyData.hasDict, h.nd]
  · simp only [PyData.canLay0, h.cl]
theorem rps_ints : ∀ {ns : List Int}, (∀ n ∈ ns, n.natAbs < 2 ^ 1000) → RPs 0 (ns.map PyData.int)
  | [], _ => RPs.nil
  | n :: ns, h => RPs.cons (rp_int (h n List.mem_cons_self)) (by simp only [PyData.depth]; omega) (rps_ints fun x hx => h x (List.mem_cons_of_mem _ hx))
theorem rp_ints {ns : List Int} (h : ∀ n ∈ ns, n.natAbs < 2 ^ 1000) : RP (dI ns) := ((rps_ints h).list (by omega)).1
theorem dp_ints_depth {ns : List Int} (h : ∀ n ∈ ns, n.natAbs < 2 ^ 1000) : (dI ns).depth ≤ 1 := ((rps_ints h).list (by omega)).2
theorem sum_bound {B : Nat} : ∀ {l : List Nat}, (∀ x ∈ l, x ≤ B) → l.sum ≤ B * l.length
  | [], _ => Nat.zero_le _
  | x :: l, h => by
    have h1 := h x List.mem_cons_self
    have h2 := sum_bound (B := B) (l := l) fun y hy => h y (List.mem_cons_of_mem _ hy)
    rw [List.sum_cons, List.length_cons, Nat.mul_succ]
    omega
theorem shownAll_map (ds : List PyData) : PyData.shownAll ds = ds.map PyData.shown := by
  induction ds with
  | nil => rfl
  | cons d ds ih =>
    simp only [PyData.shownAll, List.map_cons, ih]
/-- how long a list's text is at most, by its items' -/
theorem shown_list {B : Nat} {ds : List PyData} (h : ∀ d ∈ ds, d.shown.length ≤ B) : (PyData.list ds).shown.length ≤ (B + 2) * ds.length + 3 := by
  simp only [PyData.shown]
  have h1 := listText_len_le (PyData.shownAll ds)
  have h2 : ((PyData.shownAll ds).map (·.length)).sum ≤ B * ds.length := by
    rw [shownAll_map, List.map_map]
    have := sum_bound (B := B) (l := ds.map ((fun x => x.length) ∘ PyData.shown)) fun x hx => by
      obtain ⟨d, hd, rfl⟩ := List.mem_map.mp hx
      exact h d hd
    rw [List.length_map] at this
    exact this
  have h3 : (PyData.shownAll ds).length = ds.length := by rw [shownAll_map, List.length_map]
  rw [h3] at h1
  rw [Nat.add_mul]
  omega
theorem shown_int {i : Int} (h : i.natAbs < 2 ^ 1000) : (PyData.int i).shown.length ≤ 1001 := by
  simp only [PyData.shown]
  rw [PySem.ofString_length]
  exact int_text_length_le (by decide) (PySem.Flt.log2_lt_of (by decide) h)
theorem shown_ints {ns : List Int} (h : ∀ n ∈ ns, n.natAbs < 2 ^ 1000) : (dI ns).shown.length ≤ 1003 * ns.length + 3 := by
  have := shown_list (B := 1001) (ds := ns.map PyData.int) fun d hd => by
    obtain ⟨n, hn, rfl⟩ := List.mem_map.mp hd
    exact shown_int (h n hn)
  rw [List.length_map] at this
  exact this
theorem small_abs {n : Int} (h0 : 0 ≤ n) (h1 : n ≤ 1000000000000000000000000000000) : n.natAbs < 2 ^ 1000 := Nat.lt_of_le_of_lt (m := 1000000000000000000000000000000) (by omega) (by decide +kernel)
theorem Rim.abs {ns : List Int} (h : Rim ns) : ∀ n ∈ ns, n.natAbs < 2 ^ 1000 := fun n hn => small_abs (h.all n hn).1 (h.all n hn).2
theorem Rim.rp {ns : List Int} (h : Rim ns) : RP (dI ns) := rp_ints h.abs
theorem Rim.fits {ns : List Int} (h : Rim ns) : (dI ns).shown.length ≤ sizeLine := by
  have := shown_ints h.abs
  have := h.le
  exact sz40' (by omega)
/-- an object that was not there is written -/
theorem same_over {H H4 : Hp} {l : Addr} {o : HO} (s : Same H H4) (n : H l = none) : Same H (upd H4 l o) := fun b x e => by
  rw [upd_ne (ne_of_none e n)]
  exact s b x e
/-- turned back -/
theorem rot_rot {ns : List Int} {t : Int} : rot (rot ns t) (0 - t) = ns := by
  refine List.ext_getElem? fun j => ?_
  by_cases h : j < ns.length
  · rw [rot_at (by rw [rot_len]; exact h), rot_len]
    have hm := mod_in (i := (j : Int) - (0 - t)) (show 0 < ns.length by omega)
    have e := rot_back (t := t) h
    rw [show (j : Int) - (0 - t) = (j : Int) + t by omega]
    rw [show (j : Int) - (0 - t) = (j : Int) + t by omega] at hm
    rw [← e, ← at_getD (by rw [rot_len]; omega)]
  · rw [List.getElem?_eq_none (by rw [rot_len, rot_len]; omega), List.getElem?_eq_none (by omega)]
theorem mir_mir {ns : List Int} : mir (mir ns) = ns := by
  refine List.ext_getElem? fun j => ?_
  by_cases h : j < ns.length
  · rw [mir_at (by rw [mir_len]; exact h), mir_len]
    have hm := mod_in (i := (0 : Int) - (j : Int)) (show 0 < ns.length by omega)
    have e := mir_back h
    rw [show -(j : Int) = (0 : Int) - (j : Int) by omega]
    rw [← e, ← at_getD (by rw [mir_len]; omega)]
  · rw [List.getElem?_eq_none (by rw [mir_len, mir_len]; omega), List.getElem?_eq_none (by omega)]
end Sd

namespace Sd
open PySem PySem.Spec PyProof.Rows L2

/-! ### lights -/
def Ab (k : Nat) (ns : List Int) : Prop := ∀ n ∈ ns, n.natAbs < 2 ^ k
theorem pow_up {a b : Nat} (h : a ≤ b) : (2 : Nat) ^ a ≤ 2 ^ b := Nat.pow_le_pow_right (by decide) h
theorem Ab.mono {k j : Nat} {ns : List Int} (h : Ab k ns) (l : k ≤ j) : Ab j ns := fun n hn => Nat.lt_of_lt_of_le (h n hn) (pow_up l)
theorem Rim.ab {ns : List Int} (h : Rim ns) : Ab 100 ns := fun n hn => by
  have := h.all n hn
  exact Nat.lt_of_le_of_lt (m := 1000000000000000000000000000000) (by omega) (by decide +kernel)
theorem Ab.rot {k : Nat} {ns : List Int} (h : Ab k ns) (t : Int) : Ab k (rot ns t) := rot_all h
theorem Ab.at {k : Nat} {ns : List Int} (h : Ab k ns) {i : Nat} {n : Int} (e : ns[i]? = some n) : n.natAbs < 2 ^ k := h n (List.mem_of_getElem? e)
def prods (ns ms : List Int) : List Int := List.zipWith (· * ·) ns ms
theorem prods_len (ns ms : List Int) : (prods ns ms).length = min ns.length ms.length := List.length_zipWith
theorem prods_at {ns ms : List Int} {i : Nat} {x y : Int} (h1 : ns[i]? = some x) (h2 : ms[i]? = some y) : (prods ns ms)[i]? = some (x * y) := by
  unfold prods
  rw [List.getElem?_zipWith, h1, h2]
theorem prods_ab {a b : Nat} : ∀ {ns ms : List Int}, Ab a ns → Ab b ms → Ab (a + b) (prods ns ms)
  | [], _, _, _ => fun n hn => by
    simp only [prods, List.zipWith_nil_left] at hn
    exact (List.not_mem_nil hn).elim
  | _ :: _, [], _, _ => fun n hn => by
    simp only [prods, List.zipWith_nil_right] at hn
    exact (List.not_mem_nil hn).elim
  | x :: ns, y :: ms, h1, h2 => fun n hn => by
    have hn : n ∈ x * y :: prods ns ms := hn
    rcases List.mem_cons.mp hn with e | e
    · subst e
      exact wide_lt (h1 x List.mem_cons_self) (h2 y List.mem_cons_self)
    · exact prods_ab (fun z hz => h1 z (List.mem_cons_of_mem _ hz)) (fun z hz => h2 z (List.mem_cons_of_mem _ hz)) n e
theorem sum_ab {k : Nat} : ∀ {ns : List Int}, Ab k ns → ns.sum.natAbs ≤ ns.length * 2 ^ k
  | [], _ => Nat.zero_le _
  | x :: ns, h => by
    have h1 := h x List.mem_cons_self
    have h2 := sum_ab (k := k) (ns := ns) fun z hz => h z (List.mem_cons_of_mem _ hz)
    rw [List.sum_cons, List.length_cons, Nat.succ_mul]
    have := Int.natAbs_add_le x ns.sum
    omega
theorem sum_lt {k : Nat} {ns : List Int} (h : Ab k ns) (hl : ns.length < 1024) : ns.sum.natAbs < 2 ^ (k + 10) := by
  have h1 := sum_ab h
  rw [Nat.pow_add]
  refine Nat.lt_of_le_of_lt h1 ?_
  rw [Nat.mul_comm]
  exact Nat.mul_lt_mul_of_pos_left hl (Nat.two_pow_pos k)
/-- the light at a turn -/
def lightV (ns ms : List Int) (t : Int) : Int := (prods ns (rot ms t)).sum
def lightsV (ns ms : List Int) : List Int := (List.range ns.length).map fun (i : Nat) => lightV ns ms (i : Int)
theorem lightsV_len (ns ms : List Int) : (lightsV ns ms).length = ns.length := by
  unfold lightsV
  rw [List.length_map, List.length_range]
theorem lightsV_at {ns ms : List Int} {i : Nat} (h : i < ns.length) : (lightsV ns ms)[i]? = some (lightV ns ms (i : Int)) := by
  unfold lightsV
  rw [List.getElem?_map, List.getElem?_range h]
  rfl
theorem lightV_lt {a b : Nat} {ns ms : List Int} (h1 : Ab a ns) (h2 : Ab b ms) (hl : ns.length < 1024) (t : Int) : (lightV ns ms t).natAbs < 2 ^ (a + b + 10) := by
  refine sum_lt (prods_ab h1 (h2.rot t)) ?_
  rw [prods_len]
  omega
theorem lightsV_ab {a b : Nat} {ns ms : List Int} (h1 : Ab a ns) (h2 : Ab b ms) (hl : ns.length < 1024) : Ab (a + b + 10) (lightsV ns ms) := fun n hn => by
  unfold lightsV at hn
  obtain ⟨i, _, rfl⟩ := List.mem_map.mp hn
  exact lightV_lt h1 h2 hl i
theorem rot_mod (ms : List Int) (t : Int) : rot ms (t % (ms.length : Int)) = rot ms t := by
  unfold rot
  refine List.map_congr_left fun j _ => ?_
  rw [Int.sub_emod_emod]
theorem lightV_mod {ns ms : List Int} (t : Int) : lightV ns ms (t % (ms.length : Int)) = lightV ns ms t := by
  unfold lightV
  rw [rot_mod]
/-- lights[t % n], whatever the turn -/
theorem lights_any {ns ms : List Int} (t : Int) (hl : ns.length = ms.length) (h1 : 1 ≤ ns.length) : atI ((lightsV ns ms).map V.int) (t % (ns.length : Int)) = some (.int (lightV ns ms t)) := by
  have hm := mod_in (i := t) (show 0 < ns.length by omega)
  obtain ⟨n, hn, hat⟩ := at_in (ns := lightsV ns ms) hm.1 (by rw [lightsV_len]; exact hm.2)
  rw [lightsV_at (by omega), Int.toNat_of_nonneg hm.1, hl, lightV_mod] at hn
  rw [hat, ← Option.some.inj hn]
/-! ### the greatest, the places of some -/
theorem max_ex : ∀ {ns : List Int}, 1 ≤ ns.length → ∃ m, m ∈ ns ∧ ∀ y ∈ ns, y ≤ m
  | [], h => absurd h (by decide)
  | [x], _ => ⟨x, List.mem_cons_self, fun y hy => by rw [List.mem_singleton.mp hy]; exact Int.le_refl _⟩
  | x :: z :: ns, _ => by
    obtain ⟨m, hm, hg⟩ := max_ex (ns := z :: ns) (by simp)
    by_cases h : x ≤ m
    · refine ⟨m, List.mem_cons_of_mem _ hm, fun y hy => ?_⟩
      rcases List.mem_cons.mp hy with e | e
      · rw [e]
        exact h
      · exact hg y e
    · refine ⟨x, List.mem_cons_self, fun y hy => ?_⟩
      rcases List.mem_cons.mp hy with e | e
      · rw [e]
        exact Int.le_refl _
      · have := hg y e
        omega
theorem max_one {ns : List Int} {m m' : Int} (h1 : m ∈ ns) (h2 : ∀ y ∈ ns, y ≤ m) (h3 : m' ∈ ns) (h4 : ∀ y ∈ ns, y ≤ m') : m = m' := Int.le_antisymm (h4 _ h1) (h2 _ h3)
/-- the places below k of the items for which p holds -/
def places (p : Int → Bool) (ns : List Int) (k : Nat) : List Int := ((List.range k).filter fun i => p (ns.getD i 0)).map fun (i : Nat) => (i : Int)
theorem places_len (p : Int → Bool) (ns : List Int) (k : Nat) : (places p ns k).length ≤ k := by
  unfold places
  rw [List.length_map]
  refine Nat.le_trans (List.length_filter_le _ _) ?_
  rw [List.length_range]
  exact Nat.le_refl _
theorem places_yes {p : Int → Bool} {ns : List Int} {k : Nat} {n : Int} (h : ns[k]? = some n) (hp : p n = true) : places p ns (k + 1) = places p ns k ++ [(k : Int)] := by
  unfold places
  rw [List.range_succ, List.filter_append, List.map_append]
  have : ([k].filter fun i => p (ns.getD i 0)) = [k] := by
    rw [List.filter_cons, getD_at h, if_pos hp]
    rfl
  rw [this]
  rfl
theorem places_no {p : Int → Bool} {ns : List Int} {k : Nat} {n : Int} (h : ns[k]? = some n) (hp : ¬ p n = true) : places p ns (k + 1) = places p ns k := by
  unfold places
  rw [List.range_succ, List.filter_append, List.map_append]
  have : ([k].filter fun i => p (ns.getD i 0)) = [] := by
    rw [List.filter_cons, getD_at h, if_neg hp]
    rfl
  rw [this]
  simp
theorem places_ab (p : Int → Bool) (ns : List Int) {k : Nat} (h : k < 1000) : Ab 100 (places p ns k) := fun n hn => by
  unfold places at hn
  obtain ⟨i, hi, rfl⟩ := List.mem_map.mp hn
  have := List.mem_range.mp (List.mem_filter.mp hi).1
  exact Nat.lt_of_lt_of_le (m := 1000) (by omega) (by decide)
theorem Ab.rp {k : Nat} {ns : List Int} (h : Ab k ns) (hk : k ≤ 1000) : RP (dI ns) := rp_ints (h.mono hk)
theorem Ab.fits {k : Nat} {ns : List Int} (h : Ab k ns) (hk : k ≤ 1000) (hl : ns.length ≤ 2000) : (dI ns).shown.length ≤ 2100000 := by
  have := shown_ints (h.mono hk)
  omega
theorem fit_le {n : Nat} (h : n ≤ 16000000) : n ≤ sizeLine := Nat.le_trans h (by decide)
/-- some lists of ints, in a list -/
def dL (ls : List (List Int)) : PyData := .list (ls.map dI)
theorem rps_lists {k : Nat} (hk : k ≤ 1000) : ∀ {ls : List (List Int)}, (∀ l ∈ ls, Ab k l) → RPs 1 (ls.map dI)
  | [], _ => RPs.nil
  | l :: ls, h => RPs.cons ((h l List.mem_cons_self).rp hk) (dp_ints_depth ((h l List.mem_cons_self).mono hk)) (rps_lists hk fun x hx => h x (List.mem_cons_of_mem _ hx))
theorem rp_lists {k : Nat} (hk : k ≤ 1000) {ls : List (List Int)} (h : ∀ l ∈ ls, Ab k l) : RP (dL ls) := ((rps_lists hk h).list (by omega)).1
theorem fits_lists {k : Nat} (hk : k ≤ 1000) {ls : List (List Int)} (h : ∀ l ∈ ls, Ab k l) (hl : ∀ l ∈ ls, l.length ≤ 1000) (hn : ls.length ≤ 7) : (dL ls).shown.length ≤ sizeLine := by
  have h1 := shown_list (B := 2100000) (ds := ls.map dI) fun d hd => by
    obtain ⟨l, hm, rfl⟩ := List.mem_map.mp hd
    exact (h l hm).fits hk (by have := hl l hm; omega)
  rw [List.length_map] at h1
  refine fit_le (Nat.le_trans h1 ?_)
  omega
theorem all2 {P : List Int → Prop} {a b : List Int} (h1 : P a) (h2 : P b) : ∀ l ∈ [a, b], P l := fun l hl => by
  simp only [List.mem_cons, List.not_mem_nil, or_false] at hl
  rcases hl with rfl | rfl <;> assumption
theorem all3 {P : List Int → Prop} {a b c : List Int} (h1 : P a) (h2 : P b) (h3 : P c) : ∀ l ∈ [a, b, c], P l := fun l hl => by
  simp only [List.mem_cons, List.not_mem_nil, or_false] at hl
  rcases hl with rfl | rfl | rfl <;> assumption
end Sd

namespace Sd
open PySem PySem.Spec PyProof.Rows L2

/-! ### by steps -/
def stepsV (ns ms : List Int) (f st : Int) (k : Nat) : List Int := (List.range k).map fun (i : Nat) => lightV ns ms (f + st * (i : Int))
theorem stepsV_len (ns ms : List Int) (f st : Int) (k : Nat) : (stepsV ns ms f st k).length = k := by
  unfold stepsV
  rw [List.length_map, List.length_range]
theorem stepsV_at {ns ms : List Int} {f st : Int} {k i : Nat} (h : i < k) : (stepsV ns ms f st k)[i]? = some (lightV ns ms (f + st * (i : Int))) := by
  unfold stepsV
  rw [List.getElem?_map, List.getElem?_range h]
  rfl
/-- the first of them, None if there is none -/
def headV : List Int → V
  | [] => .non
  | x :: _ => .int x
def headD : List Int → PyData
  | [] => .none
  | x :: _ => .int x
theorem places_more (p : Int → Bool) (ns : List Int) (i : Nat) : ∀ d : Nat, ∃ r, places p ns (i + d) = places p ns i ++ r
  | 0 => ⟨[], by simp⟩
  | d + 1 => by
    obtain ⟨r, e⟩ := places_more p ns i d
    refine ⟨r ++ ([i + d].filter fun j => p (ns.getD j 0)).map fun (j : Nat) => (j : Int), ?_⟩
    rw [← List.append_assoc, ← e]
    unfold places
    rw [show i + (d + 1) = (i + d) + 1 from rfl, List.range_succ, List.filter_append, List.map_append]
theorem places_head {p : Int → Bool} {ns : List Int} {i k : Nat} {x : Int} (hx : ns[i]? = some x) (hp : p x = true) (hno : places p ns i = []) (hk : i < k) : headV (places p ns k) = .int i := by
  obtain ⟨r, e⟩ := places_more p ns (i + 1) (k - (i + 1))
  rw [show i + 1 + (k - (i + 1)) = k by omega, places_yes hx hp, hno] at e
  rw [e]
  rfl
theorem places_none {p : Int → Bool} {ns : List Int} {k : Nat} : places p ns k = [] ↔ ∀ i, i < k → ¬ p (ns.getD i 0) = true := by
  unfold places
  rw [List.map_eq_nil_iff, List.filter_eq_nil_iff]
  exact ⟨fun h i hi => h i (List.mem_range.mpr hi), fun h i hi => h i (List.mem_range.mp hi)⟩
theorem places_congr {p : Int → Bool} {ns ms : List Int} {k : Nat} (h : ∀ i, i < k → ns.getD i 0 = ms.getD i 0) : places p ns k = places p ms k := by
  unfold places
  refine congrArg _ (List.filter_congr fun i hi => ?_)
  rw [h i (List.mem_range.mp hi)]
theorem stepsV_getD {ns ms : List Int} {f st : Int} {k i : Nat} (h : i < k) : (stepsV ns ms f st k).getD i 0 = lightV ns ms (f + st * (i : Int)) := getD_at (stepsV_at h)
/-- twice around tells nothing more -/
theorem twice {p : Int → Bool} {ns ms : List Int} {f st : Int} (hl : ns.length = ms.length) : headV (places p (stepsV ns ms f st (2 * ns.length)) (2 * ns.length)) = headV (places p (stepsV ns ms f st ns.length) ns.length) := by
  have e1 : places p (stepsV ns ms f st (2 * ns.length)) ns.length = places p (stepsV ns ms f st ns.length) ns.length :=
    places_congr fun i hi => by rw [stepsV_getD (by omega), stepsV_getD hi]
  obtain ⟨r, e2⟩ := places_more p (stepsV ns ms f st (2 * ns.length)) ns.length ns.length
  rw [show ns.length + ns.length = 2 * ns.length by omega, e1] at e2
  cases e3 : places p (stepsV ns ms f st ns.length) ns.length with
  | cons x xs =>
    rw [e2, e3]
    rfl
  | nil =>
    have h0 := places_none.mp e3
    have h1 : places p (stepsV ns ms f st (2 * ns.length)) (2 * ns.length) = [] := places_none.mpr fun i hi => by
      by_cases hn : i < ns.length
      · have := h0 i hn
        rw [stepsV_getD hn] at this
        rw [stepsV_getD hi]
        exact this
      · have := h0 (i - ns.length) (by omega)
        rw [stepsV_getD (by omega)] at this
        rw [stepsV_getD hi]
        have e4 : lightV ns ms (f + st * (i : Int)) = lightV ns ms (f + st * ((i - ns.length : Nat) : Int)) := by
          rw [← lightV_mod (f + st * (i : Int)), ← lightV_mod (f + st * ((i - ns.length : Nat) : Int)), ← hl]
          have e5 : f + st * (i : Int) = (f + st * ((i - ns.length : Nat) : Int)) + (ns.length : Int) * st := by
            have e6 : (i : Int) = ((i - ns.length : Nat) : Int) + (ns.length : Int) := by omega
            rw [e6, Int.mul_add, Int.mul_comm (ns.length : Int) st]
            have e7 : ((((i - ns.length : Nat) : Int) + (ns.length : Int)) : Int) = (i : Int) := e6.symm
            omega
          rw [e5, Int.add_mul_emod_self_left]
        rw [e4]
        exact this
    rw [h1]
theorem dp_head {K : PySem.W.Frag} {H : Hp} : ∀ l : List Int, Dp K H (headV l) (headD l)
  | [] => .non
  | x :: _ => .int x
theorem rp_head : ∀ {l : List Int}, Ab 100 l → RP (headD l)
  | [], _ => ⟨rfl, rfl, rfl, by decide⟩
  | x :: _, h => rp_int (Nat.lt_of_lt_of_le (h x List.mem_cons_self) (pow_up (by decide)))
theorem fits_head : ∀ {l : List Int}, Ab 100 l → (headD l).shown.length ≤ sizeLine
  | [], _ => by decide +kernel
  | x :: _, h => fit_le (Nat.le_trans (shown_int (Nat.lt_of_lt_of_le (h x List.mem_cons_self) (pow_up (by decide)))) (by decide))
end Sd

namespace Sd
open PySem PySem.Spec PyProof.Rows L2

/-! ### far sums -/
def farV (ns ms : List Int) (f st N : Int) : Int := N / (ns.length : Int) * (stepsV ns ms f st ns.length).sum + ((stepsV ns ms f st ns.length).take (N % (ns.length : Int)).toNat).sum
theorem stepsV_take {ns ms : List Int} {f st : Int} {k r : Nat} (h : r ≤ k) : (stepsV ns ms f st k).take r = stepsV ns ms f st r := by
  unfold stepsV
  rw [← List.map_take, List.take_range, Nat.min_eq_left h]
theorem stepsV_next (ns ms : List Int) (f st : Int) (k : Nat) : (stepsV ns ms f st (k + 1)).sum = (stepsV ns ms f st k).sum + lightV ns ms (f + st * (k : Int)) := by
  unfold stepsV
  rw [List.range_succ, List.map_append, List.sum_append]
  simp
theorem stepsV_add (ns ms : List Int) (f st : Int) (a : Nat) : ∀ b : Nat, (stepsV ns ms f st (a + b)).sum = (stepsV ns ms f st a).sum + (stepsV ns ms (f + st * (a : Int)) st b).sum
  | 0 => by
    show (stepsV ns ms f st a).sum = (stepsV ns ms f st a).sum + 0
    omega
  | b + 1 => by
    rw [show a + (b + 1) = (a + b) + 1 from rfl, stepsV_next, stepsV_next, stepsV_add ns ms f st a b]
    rw [show f + st * (((a + b : Nat)) : Int) = f + st * (a : Int) + st * (b : Int) by rw [Int.natCast_add, Int.mul_add]; omega]
    omega
theorem lightV_congr {ns ms : List Int} {t u : Int} (h : t % (ms.length : Int) = u % (ms.length : Int)) : lightV ns ms t = lightV ns ms u := by
  rw [← lightV_mod t, h, lightV_mod]
theorem stepsV_mod (ns ms : List Int) (f st : Int) (k : Nat) : stepsV ns ms (f % (ms.length : Int)) st k = stepsV ns ms f st k := by
  unfold stepsV
  refine List.map_congr_left fun i _ => lightV_congr ?_
  rw [Int.emod_add_emod]
theorem stepsV_round {ns ms : List Int} (hl : ns.length = ms.length) (f st : Int) (k : Nat) : stepsV ns ms (f + st * (ns.length : Int)) st k = stepsV ns ms f st k := by
  unfold stepsV
  refine List.map_congr_left fun i _ => lightV_congr ?_
  rw [hl, show f + st * (ms.length : Int) + st * (i : Int) = f + st * (i : Int) + st * (ms.length : Int) by omega, Int.add_mul_emod_self_right]
theorem stepsV_rounds {ns ms : List Int} (hl : ns.length = ms.length) (f st : Int) (r : Nat) : ∀ q : Nat, (stepsV ns ms f st (q * ns.length + r)).sum = (q : Int) * (stepsV ns ms f st ns.length).sum + (stepsV ns ms f st r).sum
  | 0 => by simp
  | q + 1 => by
    rw [show (q + 1) * ns.length + r = ns.length + (q * ns.length + r) by rw [Nat.succ_mul]; omega, stepsV_add, stepsV_round hl, stepsV_rounds hl f st r q]
    rw [Int.natCast_succ, Int.add_mul]
    omega
theorem far_eq {ns ms : List Int} (hl : ns.length = ms.length) (h1 : 1 ≤ ns.length) (f st : Int) {N : Int} (h0 : 0 ≤ N) : farV ns ms f st N = (stepsV ns ms f st N.toNat).sum := by
  have hm := mod_in (i := N) (show 0 < ns.length by omega)
  have hq : 0 ≤ N / (ns.length : Int) := Int.ediv_nonneg h0 (by omega)
  have e : N.toNat = (N / (ns.length : Int)).toNat * ns.length + (N % (ns.length : Int)).toNat := by
    have e1 := Int.mul_ediv_add_emod N (ns.length : Int)
    have e2 : (((N / (ns.length : Int)).toNat * ns.length + (N % (ns.length : Int)).toNat : Nat) : Int) = N := by
      rw [Int.natCast_add, Int.natCast_mul, Int.toNat_of_nonneg hq, Int.toNat_of_nonneg hm.1, Int.mul_comm]
      exact e1
    omega
  rw [e, stepsV_rounds hl, Int.toNat_of_nonneg hq]
  unfold farV
  rw [stepsV_take (by omega)]
theorem far_parts {ns ms : List Int} (hl : ns.length = ms.length) (h1 : 1 ≤ ns.length) (f st : Int) {N M : Int} (h0 : 0 ≤ M) (hM : M ≤ N) : farV ns ms f st M + farV ns ms ((f + M * st) % (ns.length : Int)) st (N - M) = farV ns ms f st N := by
  rw [far_eq hl h1 f st h0, far_eq hl h1 _ st (show 0 ≤ N - M by omega), far_eq hl h1 f st (show 0 ≤ N by omega)]
  rw [show N.toNat = M.toNat + (N - M).toNat by omega, stepsV_add, hl, stepsV_mod, Int.toNat_of_nonneg h0, Int.mul_comm st M]
theorem stepsV_ab {a b : Nat} {ns ms : List Int} (h1 : Ab a ns) (h2 : Ab b ms) (hl : ns.length < 1024) (f st : Int) (k : Nat) : Ab (a + b + 10) (stepsV ns ms f st k) := fun n hn => by
  unfold stepsV at hn
  obtain ⟨i, _, rfl⟩ := List.mem_map.mp hn
  exact lightV_lt h1 h2 hl _
theorem steps_sum_lt {ns ms : List Int} (h1 : Ab 100 ns) (h2 : Ab 100 ms) (hl : ns.length < 1024) (f st : Int) (k : Nat) (hk : k < 1024) : (stepsV ns ms f st k).sum.natAbs < 2 ^ 220 :=
  sum_lt (stepsV_ab h1 h2 hl f st k) (by rw [stepsV_len]; exact hk)
theorem far_lt {ns ms : List Int} (h1 : Ab 100 ns) (h2 : Ab 100 ms) (hl : ns.length < 1024) (hp : 1 ≤ ns.length) (f st : Int) {N : Int} (h0 : 0 ≤ N) (hN : N.natAbs < 2 ^ 200) : (farV ns ms f st N).natAbs < 2 ^ 430 := by
  have hm := mod_in (i := N) (show 0 < ns.length by omega)
  have hq : 0 ≤ N / (ns.length : Int) := Int.ediv_nonneg h0 (by omega)
  have hqn : N / (ns.length : Int) ≤ N := Int.ediv_le_self _ h0
  have a1 : (N / (ns.length : Int)).natAbs < 2 ^ 200 := by omega
  have a2 := steps_sum_lt h1 h2 hl f st ns.length hl
  have a3 := wide_lt a1 a2
  unfold farV
  rw [stepsV_take (by omega)]
  have a4 := steps_sum_lt h1 h2 hl f st (N % (ns.length : Int)).toNat (by omega)
  have a5 := Int.natAbs_add_le (N / (ns.length : Int) * (stepsV ns ms f st ns.length).sum) (stepsV ns ms f st (N % (ns.length : Int)).toNat).sum
  have p1 : (2 : Nat) ^ 420 + 2 ^ 220 ≤ 2 ^ 430 := by decide +kernel
  have a3' : (N / (ns.length : Int) * (stepsV ns ms f st ns.length).sum).natAbs < 2 ^ 420 := a3
  exact Nat.lt_of_le_of_lt a5 (Nat.lt_of_lt_of_le (Nat.add_lt_add a3' a4) p1)
end Sd

namespace Sd
open PySem PySem.Spec PyProof.Rows L2

/-! ### lists of ints by their order -/
def LtI (a b : List Int) : Bool := PySem.W.dataLt (dI a) (dI b)
theorem ltI_irr (a : List Int) : LtI a a = false := lex_irrefl _
theorem ltI_trans {a b c : List Int} (h : LtI a b = true) (k : LtI b c = true) : LtI a c = true := lex_trans _ _ _ h k
theorem toks_int (x : Int) : PySem.W.keyToks (.int x) = [.inl x] := by rw [PySem.W.keyToks]
theorem toks_inj : ∀ {a b : List Int}, PySem.W.keyToksAll (a.map PyData.int) = PySem.W.keyToksAll (b.map PyData.int) → a = b
  | [], [], _ => rfl
  | [], y :: b, h => by
    rw [List.map_nil, List.map_cons, PySem.W.toks_all_cons, PySem.W.keyToksAll] at h
    have := (List.cons.inj h).1
    cases this
  | x :: a, [], h => by
    rw [List.map_nil, List.map_cons, PySem.W.toks_all_cons, PySem.W.keyToksAll] at h
    have := (List.cons.inj h).1
    cases this
  | x :: a, y :: b, h => by
    rw [List.map_cons, List.map_cons, PySem.W.toks_all_cons, PySem.W.toks_all_cons, toks_int, toks_int] at h
    have h2 := (List.cons.inj h).2
    have h3 := (List.cons.inj h2).1
    have h4 := (List.cons.inj h2).2
    cases h3
    rw [toks_inj h4]
theorem ltI_total {a b : List Int} (h : LtI a b = false) (k : LtI b a = false) : a = b := by
  have e := lex_total _ _ h k
  unfold dI at e
  rw [PySem.W.keyToks, PySem.W.keyToks] at e
  exact toks_inj e
/-- the least of some lists -/
def LeastI (S : List (List Int)) (m : List Int) : Prop := m ∈ S ∧ ∀ y ∈ S, LtI y m = false
theorem least_one {S : List (List Int)} {m m' : List Int} (h : LeastI S m) (k : LeastI S m') : m = m' := ltI_total (k.2 _ h.1) (h.2 _ k.1)
theorem least_set {S S' : List (List Int)} {m : List Int} (h : LeastI S m) (e : ∀ x, x ∈ S ↔ x ∈ S') : LeastI S' m := ⟨(e _).mp h.1, fun y hy => h.2 y ((e _).mpr hy)⟩
theorem least_le {S : List (List Int)} {m y : List Int} (h : LeastI S m) (hy : y ∈ S) : m = y ∨ LtI m y = true := by
  cases q : LtI m y with
  | true => exact .inr rfl
  | false => exact .inl (ltI_total q (h.2 _ hy))
theorem least_app {S S' : List (List Int)} {a b : List Int} (h : LeastI S a) (k : LeastI S' b) : LeastI (S ++ S') (if LtI b a then b else a) := by
  cases q : LtI b a with
  | true =>
    refine ⟨List.mem_append_right _ k.1, fun y hy => ?_⟩
    rcases List.mem_append.mp hy with hy | hy
    · cases z : LtI y b with
      | false => exact z
      | true =>
        have := ltI_trans z q
        rw [h.2 _ hy] at this
        cases this
    · exact k.2 _ hy
  | false =>
    refine ⟨List.mem_append_left _ h.1, fun y hy => ?_⟩
    rcases List.mem_append.mp hy with hy | hy
    · exact h.2 _ hy
    · cases z : LtI y a with
      | false => exact z
      | true =>
        exfalso
        rcases least_le k hy with e | e
        · rw [e, z] at q
          cases q
        · rw [ltI_trans e z] at q
          cases q
theorem minD_least (x : List Int) (xs : List (List Int)) : ∃ m, PySem.W.minD (dI x) (xs.map dI) = dI m ∧ LeastI (x :: xs) m := by
  have key : ∀ (xs done : List (List Int)) (x : List Int), LeastI done x → ∃ m, PySem.W.minD (dI x) (xs.map dI) = dI m ∧ LeastI (done ++ xs) m := by
    intro xs
    induction xs with
    | nil =>
      intro done x h
      exact ⟨x, rfl, by rw [List.append_nil]; exact h⟩
    | cons y r ih =>
      intro done x h
      have h2 : LeastI (done ++ [y]) (if LtI y x then y else x) := least_app h ⟨List.mem_singleton.mpr rfl, fun z hz => by rw [List.mem_singleton.mp hz]; exact ltI_irr _⟩
      obtain ⟨m, e, hm⟩ := ih _ _ h2
      refine ⟨m, ?_, by rw [List.append_assoc] at hm; exact hm⟩
      rw [← e]
      unfold PySem.W.minD
      rw [List.map_cons, List.foldl_cons]
      have e2 : (if PySem.W.dataLt (dI y) (dI x) then dI y else dI x) = dI (if LtI y x then y else x) := by
        show (if LtI y x = true then dI y else dI x) = dI (if LtI y x then y else x)
        cases LtI y x <;> rfl
      rw [e2]
  exact key xs [x] x ⟨List.mem_singleton.mpr rfl, fun z hz => by rw [List.mem_singleton.mp hz]; exact ltI_irr _⟩

theorem dI_inj {a b : List Int} (h : dI a = dI b) : a = b := by
  unfold dI at h
  have h2 := PyData.list.inj h
  have : ∀ {a b : List Int}, a.map PyData.int = b.map PyData.int → a = b := by
    intro a
    induction a with
    | nil => intro b h; cases b with
      | nil => rfl
      | cons _ _ => cases h
    | cons x a ih => intro b h; cases b with
      | nil => cases h
      | cons y b =>
        rw [List.map_cons, List.map_cons] at h
        have := PyData.int.inj (List.cons.inj h).1
        rw [this, ih (List.cons.inj h).2]
  exact this h2
theorem alike_ints : ∀ a b : List Int, PySem.W.alikeAll (a.map PyData.int) (b.map PyData.int) = true
  | [], _ => by rw [List.map_nil, PySem.W.alikeAll]
  | _ :: _, [] => by rw [List.map_nil, List.map_cons, PySem.W.alikeAll]
  | x :: a, y :: b => by
    rw [List.map_cons, List.map_cons, PySem.W.alikeAll, alike_ints a b, PySem.W.alike]
    rfl
theorem alike_dI (a b : List Int) : PySem.W.alike (dI a) (dI b) = true := by
  unfold dI
  rw [PySem.W.alike]
  exact alike_ints a b
theorem alikeAll_dI (S : List (List Int)) : PySem.W.AlikeAll (S.map dI) := by
  refine ⟨fun x hx y hy => ?_, fun x hx e => ?_⟩
  · obtain ⟨a, _, rfl⟩ := List.mem_map.mp hx
    obtain ⟨b, _, rfl⟩ := List.mem_map.mp hy
    exact alike_dI a b
  · obtain ⟨a, _, rfl⟩ := List.mem_map.mp hx
    unfold dI at e
    cases e
theorem depthAll_ints : ∀ a : List Int, PyData.depthAll (a.map PyData.int) = 0
  | [] => rfl
  | x :: a => by
    show max (PyData.depth (.int x)) (PyData.depthAll (a.map PyData.int)) = 0
    rw [depthAll_ints a]
    simp only [PyData.depth, Nat.max_self]
theorem depth_dI (a : List Int) : (dI a).depth ≤ 1 := by
  unfold dI
  simp only [PyData.depth]
  rw [depthAll_ints]
  exact Nat.le_refl _
theorem depthAll_dI : ∀ S : List (List Int), PyData.depthAll (S.map dI) ≤ 1
  | [] => by show (0 : Nat) ≤ 1; omega
  | a :: S => by
    show max (dI a).depth (PyData.depthAll (S.map dI)) ≤ 1
    have h1 := depth_dI a
    have h2 := depthAll_dI S
    omega

theorem readsAll_kp {h h' : Heap} (k : ∀ c o, h.get? c = some o → h'.get? c = some o) : ∀ {us : List Value} {ds : List PyData} {as : List Addr}, PySem.ReadsAll h us ds as → PySem.ReadsAll h' us ds as
  | _, _, _, .nil => .nil
  | _, _, _, .cons r rs => .cons (PySem.W.reads_keeps k r) (readsAll_kp k rs)
theorem readsAll_ix {h : Heap} : ∀ {us : List Value} {ds : List PyData} {as : List Addr} {i : Nat} {u : Value}, PySem.ReadsAll h us ds as → us[i]? = some u → ∃ d bs, ds[i]? = some d ∧ PySem.Reads h u d bs
  | _, _, _, _, _, .nil, e => by simp at e
  | _, _, _, 0, _, .cons r _, e => by
    have e := Option.some.inj (show some _ = some _ from e)
    subst e
    exact ⟨_, _, rfl, r⟩
  | _, _, _, i + 1, _, .cons _ rs, e => by
    obtain ⟨d, bs, h1, h2⟩ := readsAll_ix (i := i) rs (by simpa using e)
    exact ⟨d, bs, by simpa using h1, h2⟩
theorem vals_ix : ∀ {vs : List V} {us : List Value} {i : Nat} {u : Value}, Vals vs us → us[i]? = some u → ∃ v, vs[i]? = some v ∧ RelV v u
  | _, _, _, _, .nil, e => by simp at e
  | _, _, 0, _, .cons r _, e => by
    have e := Option.some.inj (show some _ = some _ from e)
    subst e
    exact ⟨_, rfl, r⟩
  | _, _, i + 1, _, .cons _ rs, e => by
    obtain ⟨d, h1, h2⟩ := vals_ix (i := i) rs (by simpa using e)
    exact ⟨d, by simpa using h1, h2⟩

/-! ### min(S), S a list of lists of ints -/
def rMinI (K : PySem.W.Frag) : List V → Hp → VK → Prop := fun vs H Q => ∃ (a : Addr) (xs : List V) (S : List (List Int)), vs = [V.ref a] ∧ SqL K H a xs ∧ DpAll K H xs (S.map dI) ∧ 0 < S.length ∧
  ∀ (i : Nat) (v : V) (m : List Int), xs[i]? = some v → S[i]? = some m → LeastI S m → Q v H
theorem cr_minI {X : Cx} {K : PySem.W.Frag} (hK : X.K = K) (hc : X.calm = true) {k : Nat} (hr : Room k X.A) : CallR X (.builtin "min") (rMinI K) := by
  subst hK
  intro pins s σ H vs us Q I r h
  obtain ⟨a, xs, S, rfl, hs, hd, hne, q⟩ := h
  obtain ⟨its, rv, hl, _⟩ := I.list hs
  rw [Vals.ref1 r]
  obtain ⟨as, hR⟩ := Dp.readsAll I _ _ _ hd rv
  cases S with
  | nil => exact absurd hne (Nat.lt_irrefl 0)
  | cons x S =>
    have hu := hr.units
    have hd1 := depthAll_dI (x :: S)
    refine PySem.W.min_list_data (x := dI x) (xs := S.map dI) (as := as) (I.ok.hd hc) hl.isList hR (alikeAll_dI (x :: S)) ?_ fun i v h' tk bs hv hR' kp => ?_
    · have e : PyData.depthAll (dI x :: S.map dI) ≤ 1 := hd1
      omega
    · obtain ⟨m, em, hm⟩ := minD_least x S
      have hv' : its[i]? = some v := by simpa using hv
      obtain ⟨d, cs, hd2, hR2⟩ := readsAll_ix hR hv'
      obtain ⟨y, hy, ry⟩ := vals_ix rv hv'
      obtain ⟨n, hn, e⟩ : ∃ n, (x :: S)[i]? = some n ∧ d = dI n := by
        rw [List.getElem?_map] at hd2
        cases z : (x :: S)[i]? with
        | none =>
          rw [z] at hd2
          cases hd2
        | some n =>
          rw [z] at hd2
          exact ⟨n, rfl, (Option.some.inj hd2).symm⟩
      subst e
      rw [em] at hR'
      have e2 := PySem.W.alike_unique _ _ v _ _ (alike_dI n m) (PySem.W.reads_keeps kp hR2) hR'
      have e3 := dI_inj e2
      subst e3
      exact ⟨y, H, I.kept kp, ry, q i y n hy hn hm⟩
/-! ### min(a, b) of two values, compared where a heap stands -/
section
variable {prog : Program} {w : World} {A : Around} {E : Value → Shared → Prop} {s : Shared}
theorem min_pair {a b : Value} {x y : PyData} {as : List Addr} {Q : Value → Shared → Prop} (hh : A.handled = none) (hR : PySem.ReadsAll s.heap [a, b] [x, y] as) (ha : PySem.W.AlikeAll [x, y]) (hu : A.units + 1 + PyData.depthAll [x, y] < cLine)
    (h : ∀ h' tk, (∀ c o, s.heap.get? c = some o → h'.get? c = some o) → Q (if PySem.W.dataLt y x then b else a) { s with heap := h', toks := tk }) : wpAny (model prog w) A (call (.builtin "min") [a, b]) Q E s := by
  have nm : (toString "min" ++ toString ".loop" : String) = "min.loop" := by decide
  have hT : (s.heap.push { cls := .type "tuple", data := .seq #[a, b] }).IsTuple s.heap.objs.size #[a, b] := ⟨_, Heap.get?_push_size _ rfl, rfl, 0, rfl⟩
  have kp0 : ∀ c o, s.heap.get? c = some o → (s.heap.push { cls := .type "tuple", data := .seq #[a, b] }).get? c = some o := fun c o e => Heap.get?_push_of_some _ e
  have hR2 : PySem.ReadsAll (s.heap.push { cls := .type "tuple", data := .seq #[a, b] }) (#[a, b] : Array Value).toList [x, y] as := readsAll_kp kp0 hR
  refine call_function_tree F.kind_min F.plain_min F.entry_min (F.args_min2 _ _) ?_
  show wpAny _ A.in1 (Builtin.Builtins.bindParams _ _ _ _ >>= _) _ _ s
  refine wpAny_bind (wpAny_of_eq (show Builtin.Builtins.bindParams "min" ["key", "default"] 0 ⟨[], []⟩ = pure [none, none] from rfl) (show wpAny _ A.in1 (newTuple [a, b] >>= _) _ _ s from wpAny_bind (wpAny_newObj_type (wpAny_bind ?_))))
  refine PySem.W.iter_tupleW (A := A.in1) (s := { s with heap := s.heap.push { cls := .type "tuple", data := .seq #[a, b] } }) hh hT fun s₂ e W st hfp hw hk => ?_
  have hS : s₂.heap.objs.size ∉ _ := fun hm => Nat.lt_irrefl _ (hfp _ hm)
  refine wpAny_bind (wpAny_newObj_type ?_)
  rw [nm]
  refine wpAny_pure ⟨plainId_quiet F.plain_min_loop _, codeAny_min_loop_firstH W (s.heap.push { cls := .type "tuple", data := .seq #[a, b] }) hw (fun i j => PySem.W.dataLt ([x, y].getD i .none) ([x, y].getD j .none)) ?_ s₂.heap.objs.size hS (fresh_in hk) _ (show 0 < 2 by decide) (fun c o e => Heap.get?_push_of_some _ (hk c o e)) (W.frame 0 s₂ _ s₂.toks st (Nat.le_refl _) fun c _ o e => Heap.get?_push_of_some _ e) (Heap.get?_push_size _ rfl) fun v s' hP hm => ?_⟩
  · exact PySem.W.cmpIn_lt (A := A.in1) (s := { s with heap := s.heap.push { cls := .type "tuple", data := .seq #[a, b] } }) hR2 ha hu
  · obtain ⟨h', tk, rfl, hk'⟩ := PySem.W.moved_old e rfl (Moved.drop_new (tk := s₂.toks) hm (Nat.le_refl _))
    have q := h h' tk fun c o e => hk' c o (kp0 c o e)
    have ev : v = if PySem.W.dataLt y x then b else a := by
      cases z : PySem.W.dataLt y x with
      | true =>
        have e1 : argBest (fun i j => PySem.W.dataLt ([x, y].getD i .none) ([x, y].getD j .none)) 1 = 1 := if_pos z
        rw [show (#[a, b] : Array Value).size - 1 = 1 from rfl, e1] at hP
        exact (Option.some.inj hP).symm
      | false =>
        have e1 : argBest (fun i j => PySem.W.dataLt ([x, y].getD i .none) ([x, y].getD j .none)) 1 = 0 := if_neg (fun c => by
          have c : PySem.W.dataLt y x = true := c
          rw [z] at c
          cases c)
        rw [show (#[a, b] : Array Value).size - 1 = 1 from rfl, e1] at hP
        exact (Option.some.inj hP).symm
    rw [ev]
    exact q
end
/-- min(a, b) of two lists of ints -/
def rMin2 (K : PySem.W.Frag) : List V → Hp → VK → Prop := fun vs H Q => ∃ (x y : V) (a b : List Int), vs = [x, y] ∧ Dp K H x (dI a) ∧ Dp K H y (dI b) ∧ Q (if LtI b a then y else x) H
theorem cr_min2 {X : Cx} {K : PySem.W.Frag} (hK : X.K = K) (hc : X.calm = true) {k : Nat} (hr : Room k X.A) : CallR X (.builtin "min") (rMin2 K) := by
  subst hK
  intro pins s σ H vs us Q I r h
  obtain ⟨x, y, a, b, rfl, hx, hy, q⟩ := h
  obtain ⟨as, hR⟩ := Dp.readsAll I _ _ _ (.cons hx (.cons hy .nil)) r
  cases r with
  | cons r1 r2 =>
    cases r2 with
    | cons r2 r3 =>
      cases r3
      have hu := hr.units
      have hd1 := depthAll_dI [a, b]
      refine min_pair (I.ok.hd hc) hR (alikeAll_dI [a, b]) ?_ fun h' tk kp => ?_
      · have e : PyData.depthAll [dI a, dI b] ≤ 1 := hd1
        omega
      · have q : Q (if PySem.W.dataLt (dI b) (dI a) then y else x) H := q
        cases z : PySem.W.dataLt (dI b) (dI a) with
        | true =>
          rw [z] at q
          exact ⟨y, H, I.kept kp, r2, q⟩
        | false =>
          rw [z] at q
          exact ⟨x, H, I.kept kp, r1, q⟩
end Sd

namespace Sd
open PySem PySem.Spec PyProof.Rows L2

/-! ### turns, and all that are like -/
theorem ext_getD {a b : List Int} (hl : a.length = b.length) (h : ∀ j, j < a.length → a.getD j 0 = b.getD j 0) : a = b := by
  refine List.ext_getElem? fun j => ?_
  by_cases q : j < a.length
  · rw [at_getD q, at_getD (by omega), h j q]
  · rw [List.getElem?_eq_none (by omega), List.getElem?_eq_none (by omega)]
theorem rot_get {ns : List Int} {t : Int} {j : Nat} (h : j < ns.length) : (rot ns t).getD j 0 = ns.getD ((((j : Int) - t) % (ns.length : Int)).toNat) 0 := getD_at (rot_at h)
theorem mir_get {ns : List Int} {j : Nat} (h : j < ns.length) : (mir ns).getD j 0 = ns.getD (((-(j : Int)) % (ns.length : Int)).toNat) 0 := getD_at (mir_at h)
theorem rot_add (ns : List Int) (s t : Int) : rot (rot ns s) t = rot ns (s + t) := by
  refine ext_getD (by simp only [rot_len]) fun j hj => ?_
  simp only [rot_len] at hj
  have hm := mod_in (i := (j : Int) - t) (show 0 < ns.length by omega)
  rw [rot_get (by rw [rot_len]; exact hj), rot_len, rot_get (by omega), rot_get hj]
  rw [Int.toNat_of_nonneg hm.1, Int.emod_sub_emod]
  rw [show (j : Int) - t - s = (j : Int) - (s + t) by omega]
theorem rot_zero (ns : List Int) : rot ns 0 = ns := by
  refine ext_getD (rot_len _ _) fun j hj => ?_
  rw [rot_len] at hj
  rw [rot_get hj, Int.sub_zero, Int.emod_eq_of_lt (by omega) (by omega), Int.toNat_natCast]
theorem rot_full (ns : List Int) : rot ns (ns.length : Int) = ns := by
  rw [← rot_mod, Int.emod_self, rot_zero]
theorem mir_rot (ns : List Int) (t : Int) : mir (rot ns t) = rot (mir ns) (-t) := by
  refine ext_getD (by simp only [rot_len, mir_len]) fun j hj => ?_
  simp only [rot_len, mir_len] at hj
  have hm := mod_in (i := -(j : Int)) (show 0 < ns.length by omega)
  have hm2 := mod_in (i := (j : Int) - -t) (show 0 < ns.length by omega)
  rw [mir_get (by rw [rot_len]; exact hj), rot_len, rot_get (by omega), rot_get (by rw [mir_len]; exact hj), mir_len, mir_get (by omega)]
  rw [Int.toNat_of_nonneg hm.1, Int.toNat_of_nonneg hm2.1, Int.emod_sub_emod]
  have e : (-(((j : Int) - -t) % (ns.length : Int))) % (ns.length : Int) = (-((j : Int) - -t)) % (ns.length : Int) := by
    rw [← Int.zero_sub, ← Int.zero_sub ((j : Int) - -t), Int.sub_emod_emod]
  rw [e, show -((j : Int) - -t) = -(j : Int) - t by omega]
def turnsL (ns : List Int) : List (List Int) := (List.range ns.length).map fun (t : Nat) => rot ns (t : Int)
def bothL (ns : List Int) : List (List Int) := turnsL ns ++ turnsL (mir ns)
theorem turns_len (ns : List Int) : (turnsL ns).length = ns.length := by
  unfold turnsL
  rw [List.length_map, List.length_range]
theorem mem_turns {ns x : List Int} (h : 1 ≤ ns.length) : x ∈ turnsL ns ↔ ∃ t : Int, x = rot ns t := by
  unfold turnsL
  constructor
  · intro hx
    obtain ⟨t, _, rfl⟩ := List.mem_map.mp hx
    exact ⟨_, rfl⟩
  · intro ⟨t, ht⟩
    have hm := mod_in (i := t) (show 0 < ns.length by omega)
    refine List.mem_map.mpr ⟨(t % (ns.length : Int)).toNat, List.mem_range.mpr (by omega), ?_⟩
    rw [Int.toNat_of_nonneg hm.1, rot_mod, ht]
theorem mem_both {ns x : List Int} (h : 1 ≤ ns.length) : x ∈ bothL ns ↔ ∃ t : Int, x = rot ns t ∨ x = rot (mir ns) t := by
  unfold bothL
  rw [List.mem_append, mem_turns h, mem_turns (by rw [mir_len]; exact h)]
  constructor
  · rintro (⟨t, e⟩ | ⟨t, e⟩)
    · exact ⟨t, .inl e⟩
    · exact ⟨t, .inr e⟩
  · rintro ⟨t, e | e⟩
    · exact .inl ⟨t, e⟩
    · exact .inr ⟨t, e⟩
theorem both_len {ns x : List Int} (h : 1 ≤ ns.length) (hx : x ∈ bothL ns) : x.length = ns.length := by
  obtain ⟨t, rfl | rfl⟩ := (mem_both h).mp hx
  · exact rot_len _ _
  · rw [rot_len, mir_len]
theorem both_sub {ns ms x : List Int} (h : 1 ≤ ns.length) (hm : ms ∈ bothL ns) (hx : x ∈ bothL ms) : x ∈ bothL ns := by
  have hl := both_len h hm
  obtain ⟨s, e⟩ := (mem_both (by omega)).mp hx
  obtain ⟨t, rfl | rfl⟩ := (mem_both h).mp hm
  · rcases e with rfl | rfl
    · rw [rot_add]
      exact (mem_both h).mpr ⟨_, .inl rfl⟩
    · rw [mir_rot, rot_add]
      exact (mem_both h).mpr ⟨_, .inr rfl⟩
  · rcases e with rfl | rfl
    · rw [rot_add]
      exact (mem_both h).mpr ⟨_, .inr rfl⟩
    · rw [mir_rot, mir_mir, rot_add]
      exact (mem_both h).mpr ⟨_, .inl rfl⟩
theorem both_symm {ns ms : List Int} (h : 1 ≤ ns.length) (hm : ms ∈ bothL ns) : ns ∈ bothL ms := by
  have hl := both_len h hm
  obtain ⟨t, rfl | rfl⟩ := (mem_both h).mp hm
  · refine (mem_both (by omega)).mpr ⟨-t, .inl ?_⟩
    rw [rot_add, show t + -t = 0 by omega, rot_zero]
  · refine (mem_both (by omega)).mpr ⟨t, .inr ?_⟩
    rw [mir_rot, mir_mir, rot_add, show -t + t = 0 by omega, rot_zero]
theorem like_iff {ns ms m m' : List Int} (h : 1 ≤ ns.length) (h2 : 1 ≤ ms.length) (hm : LeastI (bothL ns) m) (hm' : LeastI (bothL ms) m') : m = m' ↔ ms ∈ bothL ns := by
  constructor
  · rintro rfl
    exact both_sub h hm.1 (both_symm h2 hm'.1)
  · intro e
    refine least_one hm (least_set hm' fun x => ⟨both_sub h e, both_sub h2 (both_symm h e)⟩)
theorem eqv_dI (a b : List Int) : PyData.eqv (dI a) (dI b) = decide (a = b) := by
  by_cases e : a = b
  · subst e
    rw [decide_eq_true rfl]
    exact PySem.W.eqv_refl_alike _ (alike_dI a a)
  · rw [decide_eq_false e]
    cases q : PyData.eqv (dI a) (dI b) with
    | false => rfl
    | true =>
      exfalso
      have z := (PySem.W.toks_eqv (dI a) (dI b) (alike_dI a b)).1 q
      unfold dI at z
      rw [PySem.W.keyToks, PySem.W.keyToks] at z
      exact e (toks_inj z)
theorem any_dI (S : List (List Int)) (m : List Int) : ((S.map dI).any fun z => PyData.eqv z (dI m)) = decide (m ∈ S) := by
  induction S with
  | nil => simp
  | cons a S ih =>
    rw [List.map_cons, List.any_cons, ih, eqv_dI]
    by_cases e : a = m
    · subst e
      simp
    · have e2 : ¬ m = a := fun z => e z.symm
      simp [e, e2]

/-! ### the turns at which one becomes the other -/
def hits (xs ys : List Int) (o : Int) : Nat → List Int
  | 0 => []
  | k + 1 => hits xs ys o k ++ (if rot xs (o + (k : Int)) = ys then [o + (k : Int)] else [])
theorem hits_yes {xs ys : List Int} {o : Int} {k : Nat} (h : rot xs (o + (k : Int)) = ys) : hits xs ys o (k + 1) = hits xs ys o k ++ [o + (k : Int)] := by
  rw [hits, if_pos h]
theorem hits_no {xs ys : List Int} {o : Int} {k : Nat} (h : ¬ rot xs (o + (k : Int)) = ys) : hits xs ys o (k + 1) = hits xs ys o k := by
  rw [hits, if_neg h, List.append_nil]
theorem hits_more (xs ys : List Int) (o : Int) (k : Nat) : ∀ m, ∃ r, hits xs ys o (k + m) = hits xs ys o k ++ r
  | 0 => ⟨[], by rw [List.append_nil]; rfl⟩
  | m + 1 => by
    obtain ⟨r, e⟩ := hits_more xs ys o k m
    refine ⟨r ++ (if rot xs (o + ((k + m : Nat) : Int)) = ys then [o + ((k + m : Nat) : Int)] else []), ?_⟩
    rw [← List.append_assoc, ← e]
    rfl
theorem hits_head {xs ys : List Int} {o : Int} {k n : Nat} (h0 : hits xs ys o k = []) (h : rot xs (o + (k : Int)) = ys) (hk : k < n) : ∃ r, hits xs ys o n = (o + (k : Int)) :: r := by
  obtain ⟨r, e⟩ := hits_more xs ys o (k + 1) (n - (k + 1))
  rw [show k + 1 + (n - (k + 1)) = n by omega, hits_yes h, h0] at e
  exact ⟨r, e⟩
theorem hits_shift (xs ys : List Int) (o : Int) : ∀ k, hits xs ys o k = (hits (rot xs o) ys 0 k).map (o + ·)
  | 0 => rfl
  | k + 1 => by
    have e : rot (rot xs o) (0 + (k : Int)) = rot xs (o + (k : Int)) := by rw [rot_add, show o + (0 + (k : Int)) = o + (k : Int) by omega]
    by_cases q : rot xs (o + (k : Int)) = ys
    · rw [hits_yes q, hits_yes (by rw [e]; exact q), hits_shift xs ys o k, List.map_append]
      simp
    · rw [hits_no q, hits_no (by rw [e]; exact q), hits_shift xs ys o k]
theorem hits_all {xs ys : List Int} {o : Int} : ∀ {k : Nat}, ∀ t ∈ hits xs ys o k, o ≤ t ∧ t < o + (k : Int)
  | 0, t, h => by cases h
  | k + 1, t, h => by
    rw [hits] at h
    rcases List.mem_append.mp h with h | h
    · have := hits_all t h
      omega
    · split at h
      · have := List.mem_singleton.mp h
        omega
      · cases h
theorem hits_len (xs ys : List Int) (o : Int) : ∀ k, (hits xs ys o k).length ≤ k
  | 0 => Nat.le_refl _
  | k + 1 => by
    have := hits_len xs ys o k
    rw [hits, List.length_append]
    split
    · simp only [List.length_singleton]; omega
    · simp only [List.length_nil]; omega
theorem hits_ab {xs ys : List Int} {o : Int} {k : Nat} (h0 : 0 ≤ o) (ho : o ≤ 10) (hk : k ≤ 1000) : Ab 100 (hits xs ys o k) := fun t ht => by
  have := hits_all t ht
  exact Nat.lt_of_lt_of_le (m := 1100) (by omega) (by decide)
/-- the period -/
def perL (ns : List Int) : List Int := hits ns ns 1 ns.length
theorem per_ex {ns : List Int} (h : 1 ≤ ns.length) : ∃ p r, perL ns = p :: r := by
  unfold perL
  cases e : hits ns ns 1 ns.length with
  | cons p r => exact ⟨p, r, rfl⟩
  | nil =>
    exfalso
    obtain ⟨k, hk⟩ : ∃ k, ns.length = k + 1 := ⟨ns.length - 1, by omega⟩
    rw [hk, hits_yes (by rw [show (1 : Int) + (k : Int) = ((k + 1 : Nat) : Int) by omega, ← hk]; exact rot_full ns)] at e
    have := congrArg List.length e
    simp at this

/-! ### rows of new lists -/
inductive Rows (H H' : Hp) : List V → List (List Int) → Prop
  | nil : Rows H H' [] []
  | cons {l : Addr} {m : List Int} {vs : List V} {S : List (List Int)} : H l = none → H' l = some (.lst (m.map V.int)) → Rows H H' vs S → Rows H H' (.ref l :: vs) (m :: S)
theorem Rows.up {H H1 H2 : Hp} {vs : List V} {S : List (List Int)} (h : Rows H H1 vs S) (s : Same H1 H2) : Rows H H2 vs S := by
  induction h with
  | nil => exact .nil
  | cons a b _ ih => exact .cons a (s _ _ b) ih
theorem Rows.down {H0 H H1 : Hp} {vs : List V} {S : List (List Int)} (h : Rows H H1 vs S) (s : Same H0 H) : Rows H0 H1 vs S := by
  induction h with
  | nil => exact .nil
  | cons a b _ ih => exact .cons (s.free a) b ih
theorem Rows.snoc {H H1 : Hp} {vs : List V} {S : List (List Int)} {l : Addr} {m : List Int} (h : Rows H H1 vs S) (a : H l = none) (b : H1 l = some (.lst (m.map V.int))) : Rows H H1 (vs ++ [.ref l]) (S ++ [m]) := by
  induction h with
  | nil => exact .cons a b .nil
  | cons c d _ ih => exact .cons c d ih
theorem Rows.app {H H1 : Hp} {vs ws : List V} {S T : List (List Int)} (h : Rows H H1 vs S) (k : Rows H H1 ws T) : Rows H H1 (vs ++ ws) (S ++ T) := by
  induction h with
  | nil => exact k
  | cons c d _ ih => exact .cons c d ih
theorem Rows.len {H H1 : Hp} {vs : List V} {S : List (List Int)} (h : Rows H H1 vs S) : vs.length = S.length := by
  induction h with
  | nil => rfl
  | cons _ _ _ ih => rw [List.length_cons, List.length_cons, ih]
theorem Rows.dp {K : PySem.W.Frag} {H H1 : Hp} {vs : List V} {S : List (List Int)} (h : Rows H H1 vs S) : DpAll K H1 vs (S.map dI) := by
  induction h with
  | nil => exact .nil
  | cons _ b _ ih => exact .cons (dp_ints (SqL.of b)) ih
theorem Rows.at {H H1 : Hp} {vs : List V} {S : List (List Int)} (h : Rows H H1 vs S) {i : Nat} {v : V} (hv : vs[i]? = some v) : ∃ l m, v = .ref l ∧ S[i]? = some m ∧ H l = none ∧ H1 l = some (.lst (m.map V.int)) := by
  induction h generalizing i with
  | nil => simp at hv
  | cons a b _ ih =>
    cases i with
    | zero =>
      have e := Option.some.inj (show some _ = some _ from hv)
      subst e
      exact ⟨_, _, rfl, rfl, a, b⟩
    | succ i => exact ih (i := i) (by simpa using hv)
theorem take_map_next {f : Nat → List Int} {n i : Nat} (h : i < n) : ((List.range n).map f).take i ++ [f i] = ((List.range n).map f).take (i + 1) := by
  rw [List.take_add_one, List.getElem?_map, List.getElem?_range h]
  rfl
theorem rows_over {H H1 : Hp} {vs : List V} {S : List (List Int)} {D : Addr} {o : HO} (h : Rows H H1 vs S) (k : ∀ l, V.ref l ∈ vs → l ≠ D) : Rows H (upd H1 D o) vs S := by
  induction h with
  | nil => exact .nil
  | cons a b _ ih => exact .cons a (by rw [upd_ne (k _ List.mem_cons_self)]; exact b) (ih fun l hl => k l (List.mem_cons_of_mem _ hl))
theorem Rows.ne {H H1 : Hp} {vs : List V} {S : List (List Int)} {D : Addr} {o : HO} (h : Rows H H1 vs S) (e : H1 D = some (.lst vs)) : ∀ l, V.ref l ∈ vs → l ≠ D := by
  intro l hl z
  subst z
  have : ∀ {ws : List V} {T : List (List Int)}, Rows H H1 ws T → V.ref l ∈ ws → ∃ m : List Int, H1 l = some (.lst (m.map V.int)) := by
    intro ws T h2
    induction h2 with
    | nil => intro z; cases z
    | cons a b _ ih =>
      intro z
      rcases List.mem_cons.mp z with z | z
      · cases z
        exact ⟨_, b⟩
      · exact ih z
  obtain ⟨m, hm⟩ := this h hl
  rw [e] at hm
  have hm : vs = m.map V.int := by
    have := Option.some.inj hm
    injection this
  rw [hm] at hl
  obtain ⟨i, _, z⟩ := List.mem_map.mp hl
  cases z
theorem Rim.of_both {ns m : List Int} (h : Rim ns) (hm : m ∈ bothL ns) : Rim m := by
  obtain ⟨t, rfl | rfl⟩ := (mem_both h.pos).mp hm
  · exact h.rot t
  · exact h.mir.rot t
theorem tank_free {T : Addr} {H H' : Hp} {c d : Int} {p : Addr} (u : But T H H') (k : Tank H T c) (k' : Tank H' T d) (h : H' p = none) : H p = none := by
  obtain ⟨o, e⟩ := k.some
  obtain ⟨o', e'⟩ := k'.some
  exact free_but u e h (by rw [e']; exact fun z => nomatch z)
/-- one of some new lists -/
def OneOf (H H' : Hp) (T : Addr) (n : Nat) (v : V) : Prop := ∃ (l : Addr) (ms : List Int), v = .ref l ∧ H l = none ∧ l ≠ T ∧ H' l = some (.lst (ms.map V.int)) ∧ Rim ms ∧ ms.length = n
theorem OneOf.but {H H1 H2 : Hp} {T : Addr} {n : Nat} {v : V} (h : OneOf H H1 T n v) (u : But T H1 H2) : OneOf H H2 T n v := by
  obtain ⟨l, ms, e, a, b, c, d, f⟩ := h
  exact ⟨l, ms, e, a, b, u _ _ c b, d, f⟩
theorem at_any {xs : List V} {i : Int} (h0 : 0 ≤ i) (h1 : i < xs.length) : ∃ v, v ∈ xs ∧ atI xs i = some v := by
  obtain ⟨j, rfl⟩ : ∃ j : Nat, i = (j : Int) := ⟨i.toNat, by omega⟩
  have h3 : j < xs.length := by omega
  exact ⟨xs[j], List.getElem_mem h3, atI_nat (List.getElem?_eq_getElem h3)⟩
theorem rows_step {H H1 H2 : Hp} {D l : Addr} {vs : List V} {S : List (List Int)} {i : Nat} {m : List Int} (hD : H D = none) (s1 : Same H H1) (hD1 : H1 D = some (.lst vs)) (hr1 : Rows H H1 vs (S.take i)) (s2 : Same H1 H2) (hl : H1 l = none) (hl2 : H2 l = some (.lst (m.map V.int))) (hi : S[i]? = some m) :
    Same H (upd H2 D (.lst (vs ++ [.ref l]))) ∧ Rows H (upd H2 D (.lst (vs ++ [.ref l]))) (vs ++ [.ref l]) (S.take (i + 1)) := by
  refine ⟨same_over (s1.trans s2) hD, ?_⟩
  have nl : l ≠ D := fun e => by
    rw [e, hD1] at hl
    cases hl
  have hr3 := hr1.up s2
  have hr4 := rows_over (o := .lst (vs ++ [.ref l])) hr3 (hr3.ne (o := .lst vs) (s2 _ _ hD1))
  have := hr4.snoc (s1.free hl) (m := m) (by rw [upd_ne nl]; exact hl2)
  rw [List.take_add_one, hi]
  exact this
theorem turns_at {ns : List Int} {i : Nat} (h : i < ns.length) : (turnsL ns)[i]? = some (rot ns (0 + (i : Int))) := by
  unfold turnsL
  rw [List.getElem?_map, List.getElem?_range h, Int.zero_add]
  rfl
theorem rows_fit {H H1 : Hp} {vs : List V} {S : List (List Int)} {i n : Nat} (h : Rows H H1 vs (S.take i)) (hn : S.length = n) (hk : n ≤ 100000) : vs.length < sizeLine := by
  have := h.len
  rw [List.length_take] at this
  exact sz40 (by omega)
/-- the answers, as data -/
def ansD (p hs : List Int) (m m2 : List Int) (x : Bool) : PyData := .list [headD p, headD hs, dI m, dI m2, .bool x]
theorem rp_bl (x : Bool) : RP (.bool x) := ⟨by simp only [PyData.showable], by simp only [PyData.hasDict], by simp only [PyData.canLay0], by simp only [PyData.depth]; omega⟩
theorem depth_head : ∀ l : List Int, (headD l).depth ≤ 1
  | [] => by simp only [headD, PyData.depth]; omega
  | _ :: _ => by simp only [headD, PyData.depth]; omega
theorem shown_head {l : List Int} (h : Ab 100 l) : (headD l).shown.length ≤ 100000 := by
  cases l with
  | nil => decide +kernel
  | cons x r => exact Nat.le_trans (shown_int (Nat.lt_of_lt_of_le (h x List.mem_cons_self) (pow_up (by decide)))) (by decide)
theorem ansD_rp {p hs m m2 : List Int} {x : Bool} (h1 : Ab 100 p) (h2 : Ab 100 hs) (h3 : Rim m) (h4 : Rim m2) : RP (ansD p hs m m2 x) ∧ (ansD p hs m m2 x).shown.length ≤ sizeLine := by
  have d3 := dp_ints_depth h3.abs
  have d4 := dp_ints_depth h4.abs
  refine ⟨((RPs.cons (rp_head h1) (depth_head p) (RPs.cons (rp_head h2) (depth_head hs) (RPs.cons h3.rp d3 (RPs.cons h4.rp d4 (RPs.cons (rp_bl x) (by simp only [PyData.depth]; omega) RPs.nil))))).list (by omega)).1, ?_⟩
  have e := shown_list (B := 100000) (ds := [headD p, headD hs, dI m, dI m2, .bool x]) fun d hd => by
    simp only [List.mem_cons, List.not_mem_nil, or_false] at hd
    rcases hd with rfl | rfl | rfl | rfl | rfl
    · exact shown_head h1
    · exact shown_head h2
    · have := shown_ints h3.abs
      have := h3.le
      omega
    · have := shown_ints h4.abs
      have := h4.le
      omega
    · cases x <;> decide +kernel
  exact fit_le (Nat.le_trans e (by show (100000 + 2) * 5 + 3 ≤ 16000000; decide))
theorem ansD_dp {K : PySem.W.Frag} {H : Hp} {l a b : Addr} {p hs m m2 : List Int} {x : Bool} (h : SqL K H l [headV p, headV hs, .ref a, .ref b, .bl x]) (ha : SqL K H a (m.map V.int)) (hb : SqL K H b (m2.map V.int)) : Dp K H (.ref l) (ansD p hs m m2 x) :=
  .lst h (.cons (dp_head p) (.cons (dp_head hs) (.cons (dp_ints ha) (.cons (dp_ints hb) (.cons (.bl x) .nil)))))
theorem atI_cons {v : V} {vs : List V} : atI (v :: vs) 0 = some v := atI_nat (j := 0) rfl
theorem perL_ab {ns : List Int} (h : ns.length ≤ 40) : Ab 100 (perL ns) := hits_ab (by decide) (by decide) (by omega)
theorem inD {X : Cx} {K : PySem.W.Frag} (h : X.K = K) {k : Nat} (hr : Room k X.A) : OpR X (compareOp .In) (rInD K) := h ▸ op_inD (by have := hr.un; omega)
end Sd

namespace Sd
open PySem PySem.Spec PyProof.Rows L2

/-! ### lights of turned and of mirrored discs -/
def cutAt (l : List Int) (b : Int) : Nat := ((0 - b) % (l.length : Int)).toNat
theorem on_rot {l : List Int} (b : Int) (h : 1 ≤ l.length) : l.drop (cutAt l b) ++ l.take (cutAt l b) = rot l b := by
  have hm := mod_in (i := 0 - b) (show 0 < l.length by omega)
  have hc : ((cutAt l b : Nat) : Int) = (0 - b) % (l.length : Int) := Int.toNat_of_nonneg hm.1
  generalize cutAt l b = c at hc
  have hcl : c < l.length := by omega
  refine ext_getD ?_ fun j hj => ?_
  · rw [List.length_append, List.length_drop, List.length_take, rot_len]
    omega
  · rw [List.length_append, List.length_drop, List.length_take] at hj
    have hj : j < l.length := by omega
    rw [rot_get hj]
    have e : ((j : Int) - b) % (l.length : Int) = ((c : Int) + j) % (l.length : Int) := by
      rw [hc, Int.emod_add_emod]
      exact congrArg (· % (l.length : Int)) (by omega)
    rw [e]
    rw [List.getD_eq_getElem?_getD, List.getD_eq_getElem?_getD]
    by_cases q : j < l.length - c
    · rw [List.getElem?_append_left (by rw [List.length_drop]; exact q), List.getElem?_drop, Int.emod_eq_of_lt (by omega) (by omega)]
      rw [show ((c : Int) + (j : Int)).toNat = c + j by omega]
    · rw [List.getElem?_append_right (by rw [List.length_drop]; omega), List.length_drop, List.getElem?_take_of_lt (by omega)]
      rw [show ((c : Int) + (j : Int)) = ((j - (l.length - c) : Nat) : Int) + (l.length : Int) by omega, Int.add_emod_right, Int.emod_eq_of_lt (by omega) (by omega), Int.toNat_natCast]
theorem sum_rot (l : List Int) (b : Int) : (rot l b).sum = l.sum := by
  by_cases h : 1 ≤ l.length
  · rw [← on_rot b h, List.sum_append, Int.add_comm, ← List.sum_append, List.take_append_drop]
  · have : l = [] := List.length_eq_zero_iff.mp (by omega)
    subst this
    rfl
theorem mir_cut {l : List Int} (h : 1 ≤ l.length) : l.take 1 ++ (l.drop 1).reverse = mir l := by
  refine ext_getD ?_ fun j hj => ?_
  · rw [List.length_append, List.length_reverse, List.length_drop, List.length_take, mir_len]
    omega
  · rw [List.length_append, List.length_reverse, List.length_drop, List.length_take] at hj
    have hj : j < l.length := by omega
    rw [mir_get hj, List.getD_eq_getElem?_getD, List.getD_eq_getElem?_getD]
    by_cases q : j = 0
    · subst q
      rw [List.getElem?_append_left (by rw [List.length_take]; omega), List.getElem?_take_of_lt (by omega)]
      rw [show (-((0 : Nat) : Int)) % (l.length : Int) = 0 by simp]
      rfl
    · rw [List.getElem?_append_right (by rw [List.length_take]; omega), List.length_take, List.getElem?_reverse (by rw [List.length_drop]; omega), List.length_drop, List.getElem?_drop]
      have e : (-(j : Int)) % (l.length : Int) = (l.length : Int) - j := by
        rw [← Int.add_emod_right, Int.emod_eq_of_lt (by omega) (by omega)]
        omega
      rw [e]
      rw [show 1 + (l.length - 1 - 1 - (j - min 1 l.length)) = ((l.length : Int) - (j : Int)).toNat by omega]
theorem sum_mir (l : List Int) : (mir l).sum = l.sum := by
  by_cases h : 1 ≤ l.length
  · rw [← mir_cut h, List.sum_append, List.sum_reverse, ← List.sum_append, List.take_append_drop]
  · have : l = [] := List.length_eq_zero_iff.mp (by omega)
    subst this
    rfl
theorem prods_get {a b : List Int} {j : Nat} (h1 : j < a.length) (h2 : j < b.length) : (prods a b).getD j 0 = a.getD j 0 * b.getD j 0 := getD_at (prods_at (at_getD h1) (at_getD h2))
theorem prods_rot {a b : List Int} (hl : a.length = b.length) (s : Int) : prods (rot a s) (rot b s) = rot (prods a b) s := by
  have lp : (prods a b).length = a.length := by rw [prods_len]; omega
  refine ext_getD (by rw [prods_len, rot_len, rot_len, rot_len, lp]; omega) fun j hj => ?_
  rw [prods_len, rot_len, rot_len] at hj
  have hm := mod_in (i := (j : Int) - s) (show 0 < a.length by omega)
  rw [prods_get (by rw [rot_len]; omega) (by rw [rot_len]; omega), rot_get (by omega), rot_get (by omega), rot_get (by omega), lp, ← hl, prods_get (by omega) (by omega)]
theorem prods_mir {a b : List Int} (hl : a.length = b.length) : prods (mir a) (mir b) = mir (prods a b) := by
  have lp : (prods a b).length = a.length := by rw [prods_len]; omega
  refine ext_getD (by rw [prods_len, mir_len, mir_len, mir_len, lp]; omega) fun j hj => ?_
  rw [prods_len, mir_len, mir_len] at hj
  have hm := mod_in (i := -(j : Int)) (show 0 < a.length by omega)
  rw [prods_get (by rw [mir_len]; omega) (by rw [mir_len]; omega), mir_get (by omega), mir_get (by omega), mir_get (by omega), lp, ← hl, prods_get (by omega) (by omega)]
theorem prods_comm (a b : List Int) : prods a b = prods b a := by
  unfold prods
  exact List.zipWith_comm_of_comm Int.mul_comm
theorem light_rot2 (ns ms : List Int) (b t : Int) : lightV ns (rot ms b) t = lightV ns ms (t + b) := by
  unfold lightV
  rw [rot_add, Int.add_comm]
theorem light_rot1 {ns ms : List Int} (hl : ns.length = ms.length) (b t : Int) : lightV (rot ns b) ms t = lightV ns ms (t - b) := by
  unfold lightV
  rw [show rot ms t = rot (rot ms (t - b)) b by rw [rot_add, show t - b + b = t by omega], prods_rot (by rw [rot_len]; exact hl), sum_rot]
theorem light_mir {ns ms : List Int} (hl : ns.length = ms.length) (t : Int) : lightV (mir ns) (mir ms) t = lightV ns ms (-t) := by
  unfold lightV
  rw [show rot (mir ms) t = mir (rot ms (-t)) by rw [mir_rot, Int.neg_neg], prods_mir (by rw [rot_len]; exact hl), sum_mir]
theorem light_swap {ns ms : List Int} (hl : ns.length = ms.length) (t : Int) : lightV ms ns t = lightV ns ms (-t) := by
  have e := light_rot1 hl t 0
  rw [show (0 : Int) - t = -t by omega] at e
  rw [← e]
  unfold lightV
  rw [rot_zero, prods_comm]
theorem lights_get {ns ms : List Int} {i : Nat} (h : i < ns.length) : (lightsV ns ms).getD i 0 = lightV ns ms (i : Int) := getD_at (lightsV_at h)
theorem lights_getM {ns ms : List Int} (hl : ns.length = ms.length) (h1 : 1 ≤ ns.length) (t : Int) : (lightsV ns ms).getD ((t % (ns.length : Int)).toNat) 0 = lightV ns ms t := by
  have hm := mod_in (i := t) (show 0 < ns.length by omega)
  rw [lights_get (by omega), Int.toNat_of_nonneg hm.1, hl, lightV_mod]
theorem lights_rotG {ns ms as bs : List Int} (hl : ns.length = ms.length) (ha : as.length = ns.length) (b : Int) (h : ∀ t, lightV as bs t = lightV ns ms (t - b)) : lightsV as bs = rot (lightsV ns ms) b := by
  refine ext_getD (by rw [rot_len, lightsV_len, lightsV_len, ha]) fun j hj => ?_
  rw [lightsV_len] at hj
  rw [lights_get hj, rot_get (by rw [lightsV_len]; omega), lightsV_len, lights_getM hl (by omega), h]
theorem lights_mirG {ns ms as bs : List Int} (hl : ns.length = ms.length) (ha : as.length = ns.length) (h : ∀ t, lightV as bs t = lightV ns ms (-t)) : lightsV as bs = mir (lightsV ns ms) := by
  refine ext_getD (by rw [mir_len, lightsV_len, lightsV_len, ha]) fun j hj => ?_
  rw [lightsV_len] at hj
  rw [lights_get hj, mir_get (by rw [lightsV_len]; omega), lightsV_len, lights_getM hl (by omega), h]
theorem lights_rot2 {ns ms : List Int} (hl : ns.length = ms.length) (b : Int) : lightsV ns (rot ms b) = rot (lightsV ns ms) (0 - b) :=
  lights_rotG hl rfl _ fun t => by rw [light_rot2, show t - (0 - b) = t + b by omega]
theorem lights_rot1 {ns ms : List Int} (hl : ns.length = ms.length) (b : Int) : lightsV (rot ns b) ms = rot (lightsV ns ms) b :=
  lights_rotG hl (rot_len _ _) _ fun t => light_rot1 hl b t
theorem lights_both {ns ms : List Int} (hl : ns.length = ms.length) (b : Int) : lightsV (rot ns b) (rot ms b) = lightsV ns ms := by
  have := lights_rotG (as := rot ns b) (bs := rot ms b) hl (rot_len _ _) 0 fun t => by rw [light_rot2, light_rot1 hl, show t + b - b = t - 0 by omega]
  rw [this, rot_zero]
theorem lights_mir {ns ms : List Int} (hl : ns.length = ms.length) : lightsV (mir ns) (mir ms) = mir (lightsV ns ms) := lights_mirG hl (mir_len _) fun t => light_mir hl t
theorem lights_swap {ns ms : List Int} (hl : ns.length = ms.length) : lightsV ms ns = mir (lightsV ns ms) := lights_mirG hl hl.symm fun t => light_swap hl t
theorem steps_rot2 (ns ms : List Int) (b f st : Int) (k : Nat) : stepsV ns (rot ms b) f st k = stepsV ns ms (f + b) st k := by
  unfold stepsV
  refine List.map_congr_left fun i _ => ?_
  rw [light_rot2, show f + st * (i : Int) + b = f + b + st * (i : Int) by omega]
theorem far_rot2 {ns ms : List Int} (hl : ns.length = ms.length) (b f st N : Int) : farV ns (rot ms b) f st N = farV ns ms ((f + b) % (ns.length : Int)) st N := by
  unfold farV
  rw [steps_rot2, hl, stepsV_mod]

/-! ### the period -/
theorem hits_congr {xs ys xs' ys' : List Int} {o : Int} (h : ∀ t, rot xs t = ys ↔ rot xs' t = ys') : ∀ k, hits xs ys o k = hits xs' ys' o k
  | 0 => rfl
  | k + 1 => by
    by_cases q : rot xs (o + (k : Int)) = ys
    · rw [hits_yes q, hits_yes ((h _).mp q), hits_congr h k]
    · rw [hits_no q, hits_no (fun z => q ((h _).mpr z)), hits_congr h k]
theorem hits_first {xs ys : List Int} {o p : Int} {r : List Int} : ∀ {k : Nat}, hits xs ys o k = p :: r → rot xs p = ys ∧ o ≤ p ∧ p < o + (k : Int) ∧ ∀ t, o ≤ t → t < p → ¬ rot xs t = ys
  | 0, h => by cases h
  | k + 1, h => by
    by_cases q : rot xs (o + (k : Int)) = ys
    · rw [hits_yes q] at h
      cases e : hits xs ys o k with
      | nil =>
        rw [e] at h
        have hp := (List.cons.inj h).1
        subst hp
        refine ⟨q, by omega, by omega, fun t h1 h2 z => ?_⟩
        have : ∀ {k : Nat} {t : Int}, o ≤ t → t < o + (k : Int) → rot xs t = ys → hits xs ys o k ≠ [] := by
            intro k
            induction k with
            | zero => intro t a b _; omega
            | succ k ih =>
              intro t a b z e
              by_cases c : t = o + (k : Int)
              · subst c
                rw [hits_yes z] at e
                have := congrArg List.length e
                simp at this
              · refine ih a (by omega) z ?_
                rw [hits] at e
                exact (List.append_eq_nil_iff.mp e).1
        exact this h1 h2 z e
      | cons p' r' =>
        rw [e] at h
        have hp : p' = p := (List.cons.inj h).1
        subst hp
        obtain ⟨a, b, c, d⟩ := hits_first (k := k) e
        exact ⟨a, b, by omega, d⟩
    · rw [hits_no q] at h
      obtain ⟨a, b, c, d⟩ := hits_first (k := k) h
      exact ⟨a, b, by omega, d⟩
theorem hits_ex {xs ys : List Int} {o t : Int} : ∀ {k : Nat}, o ≤ t → t < o + (k : Int) → rot xs t = ys → ∃ p r, hits xs ys o k = p :: r
  | 0, a, b, _ => by omega
  | k + 1, a, b, z => by
    by_cases c : t = o + (k : Int)
    · subst c
      rw [hits_yes z]
      cases hits xs ys o k with
      | nil => exact ⟨_, _, rfl⟩
      | cons p r => exact ⟨_, _, rfl⟩
    · obtain ⟨p, r, e⟩ := hits_ex (k := k) a (by omega) z
      rw [hits, e]
      exact ⟨_, _, rfl⟩
theorem rot_inj {ns : List Int} {s t : Int} (h : rot ns s = rot ns t) : rot ns (s - t) = ns := by
  have e := congrArg (fun l => rot l (0 - t)) h
  simp only [rot_add] at e
  rw [show t + (0 - t) = 0 by omega, rot_zero, show s + (0 - t) = s - t by omega] at e
  exact e
/-- what the period is -/
structure Per (ns : List Int) (p : Int) : Prop where
  fix : rot ns p = ns
  pos : 1 ≤ p
  le : p ≤ ns.length
  low : ∀ t, 1 ≤ t → t < p → ¬ rot ns t = ns
theorem per_of {ns : List Int} {p : Int} {r : List Int} (h : perL ns = p :: r) : Per ns p := by
  unfold perL at h
  obtain ⟨a, b, c, d⟩ := hits_first h
  exact ⟨a, b, by omega, d⟩
theorem Per.mul {ns : List Int} {p : Int} (h : Per ns p) : ∀ q : Nat, rot ns (p * (q : Int)) = ns
  | 0 => by rw [show p * ((0 : Nat) : Int) = 0 by simp, rot_zero]
  | q + 1 => by
    rw [show p * ((q + 1 : Nat) : Int) = p * (q : Int) + p by rw [Int.natCast_succ, Int.mul_add, Int.mul_one], ← rot_add, h.mul q, h.fix]
theorem Per.mulZ {ns : List Int} {p : Int} (h : Per ns p) (q : Int) : rot ns (p * q) = ns := by
  rcases Int.eq_nat_or_neg q with ⟨k, e | e⟩
  · rw [e]
    exact h.mul k
  · have e2 := rot_inj (ns := ns) (s := 0) (t := p * (k : Int)) (by rw [rot_zero, h.mul k])
    rw [show (0 : Int) - p * (k : Int) = p * q by rw [e, Int.mul_neg]; omega] at e2
    exact e2
theorem Per.mod {ns : List Int} {p : Int} (h : Per ns p) (t : Int) : rot ns (t % p) = rot ns t := by
  have e := Int.mul_ediv_add_emod t p
  have e2 : rot (rot ns (p * (t / p))) (t % p) = rot ns t := by rw [rot_add, e]
  rw [h.mulZ] at e2
  exact e2
theorem Per.zero {ns : List Int} {p : Int} (h : Per ns p) {t : Int} (e : rot ns t = ns) : t % p = 0 := by
  have hp := h.pos
  have a := Int.emod_nonneg t (show p ≠ 0 by omega)
  have b := Int.emod_lt_of_pos t (show 0 < p by omega)
  rw [← h.mod] at e
  by_cases c : 1 ≤ t % p
  · exact absurd e (h.low _ c b)
  · omega
theorem Per.dvd {ns : List Int} {p : Int} (h : Per ns p) : (ns.length : Int) % p = 0 := h.zero (rot_full ns)
/-- the least turn from one to the other lies below the period -/
theorem Per.first {ns ms : List Int} {p q : Int} {r : List Int} {k : Nat} (h : Per ns p) (e : hits ns ms 0 k = q :: r) : 0 ≤ q ∧ q < p ∧ rot ns q = ms := by
  obtain ⟨a, b, _, d⟩ := hits_first e
  have hp := h.pos
  have m0 := Int.emod_nonneg q (show p ≠ 0 by omega)
  have m1 := Int.emod_lt_of_pos q (show 0 < p by omega)
  refine ⟨b, ?_, a⟩
  by_cases c : q < p
  · exact c
  · exact absurd (by rw [h.mod]; exact a) (d (q % p) m0 (by omega))
theorem Per.between {ns : List Int} {p q b : Int} {r : List Int} {k : Nat} (h : Per ns p) (e : hits ns (rot ns b) 0 k = q :: r) : q = b % p := by
  obtain ⟨q0, q1, q2⟩ := h.first e
  have z := h.zero (rot_inj q2)
  have e2 : q % p = b % p := Int.emod_eq_emod_iff_emod_sub_eq_zero.mpr z
  rw [Int.emod_eq_of_lt q0 q1] at e2
  exact e2
theorem per_rot {ns : List Int} (b : Int) : perL (rot ns b) = perL ns := by
  unfold perL
  rw [rot_len]
  refine hits_congr (fun t => ?_) _
  rw [rot_add]
  constructor
  · intro h
    have := rot_inj h
    rw [show b + t - b = t by omega] at this
    exact this
  · intro h
    rw [show b + t = t + b by omega, ← rot_add, h]
theorem per_mir {ns : List Int} : perL (mir ns) = perL ns := by
  unfold perL
  rw [mir_len]
  refine hits_congr (fun t => ?_) _
  have key : ∀ {xs : List Int} {t : Int}, rot xs t = xs → rot (mir xs) t = mir xs := fun {xs t} h => by
    have e := congrArg mir h
    rw [mir_rot] at e
    have e2 := rot_inj (ns := mir xs) (s := 0) (t := -t) (by rw [rot_zero, e])
    rw [show (0 : Int) - -t = t by omega] at e2
    exact e2
  constructor
  · intro h
    have := key h
    rw [mir_mir] at this
    exact this
  · exact key

/-! ### sorted lists -/
theorem sorted_eq : ∀ {a b : List Int}, a.Perm b → a.Pairwise (· ≤ ·) → b.Pairwise (· ≤ ·) → a = b
  | [], b, p, _, _ => (List.nil_perm.mp p).symm
  | x :: a, b, p, ha, hb => by
    cases b with
    | nil => exact absurd p.length_eq (by simp)
    | cons y b =>
      have h1 := List.pairwise_cons.mp ha
      have h2 := List.pairwise_cons.mp hb
      have e : x = y := by
        rcases List.mem_cons.mp (p.mem_iff.mp List.mem_cons_self) with e | e
        · exact e
        · rcases List.mem_cons.mp (p.mem_iff.mpr List.mem_cons_self) with e' | e'
          · exact e'.symm
          · have := h1.1 y e'
            have := h2.1 x e
            omega
      subst e
      rw [sorted_eq p.cons_inv h1.2 h2.2]
theorem perm_mem : ∀ {a b : List Int}, a.Nodup → b.Nodup → (∀ x, x ∈ a ↔ x ∈ b) → a.Perm b
  | [], b, _, _, h => by
    cases b with
    | nil => exact .nil
    | cons y b => exact absurd ((h y).mpr List.mem_cons_self) (List.not_mem_nil)
  | x :: a, b, ha, hb, h => by
    have h1 := List.nodup_cons.mp ha
    have hx : x ∈ b := (h x).mp List.mem_cons_self
    have p := List.perm_cons_erase hx
    refine List.Perm.trans (List.Perm.cons x (perm_mem h1.2 (hb.erase x) fun y => ?_)) p.symm
    rw [hb.mem_erase_iff]
    constructor
    · intro hy
      exact ⟨fun e => h1.1 (by rw [← e]; exact hy), (h y).mp (List.mem_cons_of_mem _ hy)⟩
    · rintro ⟨n, hy⟩
      rcases List.mem_cons.mp ((h y).mpr hy) with e | e
      · exact absurd e n
      · exact e
theorem mem_places {p : Int → Bool} {ns : List Int} {k : Nat} {x : Int} : x ∈ places p ns k ↔ ∃ i : Nat, x = (i : Int) ∧ i < k ∧ p (ns.getD i 0) = true := by
  unfold places
  constructor
  · intro h
    obtain ⟨i, hi, rfl⟩ := List.mem_map.mp h
    have := List.mem_filter.mp hi
    exact ⟨i, rfl, List.mem_range.mp this.1, this.2⟩
  · rintro ⟨i, rfl, h1, h2⟩
    exact List.mem_map.mpr ⟨i, List.mem_filter.mpr ⟨List.mem_range.mpr h1, h2⟩, rfl⟩
theorem places_sorted (p : Int → Bool) (ns : List Int) (k : Nat) : (places p ns k).Pairwise (· < ·) := by
  unfold places
  rw [List.pairwise_map]
  refine List.Pairwise.imp (fun {a b} h => by show (a : Int) < (b : Int); omega) (List.Pairwise.filter _ List.pairwise_lt_range)
theorem nodup_lt {l : List Int} (h : l.Pairwise (· < ·)) : l.Nodup := List.Pairwise.imp (fun {a b} h e => by omega) h
/-- the brightest turns of the turned one -/
theorem brights_rot {ns ms : List Int} (hl : ns.length = ms.length) (h1 : 1 ≤ ns.length) (b m : Int) {s : List Int}
    (hp : s.Perm ((places (fun x => decide (x = m)) (lightsV ns ms) ns.length).map fun one => (one - b) % (ns.length : Int))) (hs : s.Pairwise (· ≤ ·)) :
    places (fun x => decide (x = m)) (lightsV ns (rot ms b)) ns.length = s := by
  refine sorted_eq (List.Perm.trans (perm_mem (nodup_lt (places_sorted _ _ _)) ?_ fun x => ?_) hp.symm) (List.Pairwise.imp (fun {a b} h => by omega) (places_sorted _ _ _)) hs
  · rw [List.Nodup, List.pairwise_map]
    refine List.Pairwise.imp_of_mem (fun {x y} hx hy hxy e => ?_) (places_sorted _ _ _)
    obtain ⟨i, rfl, hi, _⟩ := mem_places.mp hx
    obtain ⟨j, rfl, hj, _⟩ := mem_places.mp hy
    have e2 := Int.emod_eq_emod_iff_emod_sub_eq_zero.mp e
    rw [show (i : Int) - b - ((j : Int) - b) = (i : Int) - j by omega] at e2
    have e3 := Int.emod_eq_emod_iff_emod_sub_eq_zero.mpr e2
    rw [Int.emod_eq_of_lt (by omega) (by omega), Int.emod_eq_of_lt (by omega) (by omega)] at e3
    omega
  · rw [mem_places, List.mem_map]
    constructor
    · rintro ⟨i, rfl, hi, hq⟩
      have hm := mod_in (i := (i : Int) + b) (show 0 < ns.length by omega)
      refine ⟨((i : Int) + b) % (ns.length : Int), mem_places.mpr ⟨(((i : Int) + b) % (ns.length : Int)).toNat, by omega, by omega, ?_⟩, ?_⟩
      · rw [lights_getM hl h1]
        rw [lights_get hi, light_rot2] at hq
        exact hq
      · rw [Int.emod_sub_emod, show (i : Int) + b - b = i by omega, Int.emod_eq_of_lt (by omega) (by omega)]
    · rintro ⟨x', hx, rfl⟩
      obtain ⟨i, rfl, hi, hq⟩ := mem_places.mp hx
      have hm := mod_in (i := (i : Int) - b) (show 0 < ns.length by omega)
      refine ⟨(((i : Int) - b) % (ns.length : Int)).toNat, by omega, by omega, ?_⟩
      rw [lights_get (by omega), Int.toNat_of_nonneg hm.1, light_rot2]
      rw [lights_get hi] at hq
      rw [← lightV_mod, ← hl, Int.emod_add_emod, hl, lightV_mod, show (i : Int) - b + b = i by omega]
      exact hq
end Sd

namespace Sd
open PySem PySem.Spec PyProof.Rows L2

/-! ### data of any kind, with empty dicts -/
mutual
inductive Dq (H : Hp) : V → PyData → Prop
  | non : Dq H .non .none
  | bl (b : Bool) : Dq H (.bl b) (.bool b)
  | int (i : Int) : Dq H (.int i) (.int i)
  | str (x : Str) : Dq H (.str x) (.str x)
  | lst {a : Addr} {xs : List V} {ds : List PyData} : H a = some (.lst xs) → DqAll H xs ds → Dq H (.ref a) (.list ds)
  | tup {a : Addr} {xs : List V} {ds : List PyData} : H a = some (.tup xs) → DqAll H xs ds → Dq H (.ref a) (.tuple ds)
  | emp {a : Addr} : H a = some (.dK []) → Dq H (.ref a) (.dict [])
inductive DqAll (H : Hp) : List V → List PyData → Prop
  | nil : DqAll H [] []
  | cons {v : V} {vs : List V} {d : PyData} {ds : List PyData} : Dq H v d → DqAll H vs ds → DqAll H (v :: vs) (d :: ds)
end
mutual
theorem Dq.same {H H' : Hp} (s : Same H H') : ∀ {v : V} {d : PyData}, Dq H v d → Dq H' v d
  | _, _, .non => .non
  | _, _, .bl b => .bl b
  | _, _, .int i => .int i
  | _, _, .str x => .str x
  | _, _, .lst h1 h2 => .lst (s _ _ h1) (DqAll.same s h2)
  | _, _, .tup h1 h2 => .tup (s _ _ h1) (DqAll.same s h2)
  | _, _, .emp h => .emp (s _ _ h)
theorem DqAll.same {H H' : Hp} (s : Same H H') : ∀ {vs : List V} {ds : List PyData}, DqAll H vs ds → DqAll H' vs ds
  | _, _, .nil => .nil
  | _, _, .cons h1 h2 => .cons (Dq.same s h1) (DqAll.same s h2)
end
section
variable {X : Cx} {pins : List (Addr × Obj)} {σ : L2.St} {H : Hp} {s : Shared}
theorem emp_reads (I : Inv X pins σ H s) {a : Addr} (h : H a = some (.dK [])) : Reads s.heap (.ref a) (.dict []) (a :: [] ++ []) ∧ sysModules ∉ (a :: [] ++ [] : List Addr) ∧ s.TypeIs (.ref a) "dict" := by
  obtain ⟨_, hsys, vs, kv, o, es, ep, e, ex, ed, _, pr, _⟩ := (show ObjOk X.prog X.w H s.heap a (.dK []) from I.hok a _ h)
  cases kv
  have he : es.toList = [] := by
    cases hl : es.toList with
    | nil => rfl
    | cons x l =>
      rw [hl] at pr
      cases pr
  refine ⟨.dict e ex.1 ed ?_ ?_, ?_, ⟨o, e, ex.1⟩⟩
  · rw [he]
    exact .nil
  · rw [he]
    exact .nil
  · intro z
    simp only [List.append_nil, List.mem_cons, List.not_mem_nil, or_false] at z
    rw [← z] at hsys
    exact absurd hsys (by decide)
mutual
theorem reprK_q (I : Inv X pins σ H s) : ∀ (d : PyData) (v : V) (u : Value), Dq H v d → RelV v u → d.showable = true → d.shown.length ≤ sizeLine →
    ∃ as bs, Reads s.heap u d as ∧ ReadAtMost s.heap d.depth bs ∧ ReprK X.prog X.w bs s.heap d.depth u d.shown
  | .none, _, u, q, r, hs, hz => by
    cases q
    cases r
    obtain ⟨bs, h1, h2⟩ := ReprK.of_reads (prog := X.prog) (w := X.w) (Reads.none (h := s.heap)) hs (fun z => by simp only [PyData.hasDict] at z; cases z) hz
    exact ⟨_, bs, .none, h1, h2⟩
  | .bool b, _, u, q, r, hs, hz => by
    cases q
    cases r
    obtain ⟨bs, h1, h2⟩ := ReprK.of_reads (prog := X.prog) (w := X.w) (Reads.bool (h := s.heap) b) hs (fun z => by simp only [PyData.hasDict] at z; cases z) hz
    exact ⟨_, bs, .bool b, h1, h2⟩
  | .int i, _, u, q, r, hs, hz => by
    cases q
    obtain ⟨t, rfl⟩ := r
    obtain ⟨bs, h1, h2⟩ := ReprK.of_reads (prog := X.prog) (w := X.w) (Reads.int (h := s.heap) i t) hs (fun z => by simp only [PyData.hasDict] at z; cases z) hz
    exact ⟨_, bs, .int i t, h1, h2⟩
  | .str x, _, u, q, r, hs, hz => by
    cases q
    obtain ⟨t, rfl⟩ := r
    obtain ⟨bs, h1, h2⟩ := ReprK.of_reads (prog := X.prog) (w := X.w) (Reads.str (h := s.heap) x t) hs (fun z => by simp only [PyData.hasDict] at z; cases z) hz
    exact ⟨_, bs, .str x t, h1, h2⟩
  | .dict kvs, _, u, q, r, hs, hz => by
    cases q with
    | emp h =>
      cases r
      obtain ⟨rd, ns, _⟩ := emp_reads I h
      obtain ⟨bs, h1, h2⟩ := ReprK.of_reads (prog := X.prog) (w := X.w) rd hs (fun _ => ns) hz
      exact ⟨_, bs, rd, h1, h2⟩
  | .list ds, _, u, q, r, hs, hz => by
    cases q with
    | lst h hq =>
      cases r
      obtain ⟨_, its, n, rv, e⟩ := (show ObjOk X.prog X.w H s.heap _ (.lst _) from I.hok _ _ h)
      have hz2 : (listText (PyData.shownAll ds)).length ≤ sizeLine := by simpa only [PyData.shown] using hz
      obtain ⟨as, bs, ra, hb, hk⟩ := reprAllK_q I ds _ its hq rv (by simpa [PyData.showable] using hs) fun t ht => Nat.le_trans (listText_mem_le ht) hz2
      have rd : Reads s.heap (.ref _) (.list ds) _ := .list e rfl rfl ra
      have hna := not_mem_of_deeper rd (by simp only [PyData.depth]; omega) hb
      refine ⟨_, _, rd, ReadAtMost.cons rd (by simp only [PyData.depth]; omega) hb, ?_⟩
      simp only [PyData.depth, PyData.shown]
      cases its with
      | nil =>
        cases ra
        simp only [PyData.shownAll, listText_nil]
        exact ReprK.listEmpty e rfl rfl
      | cons y l => exact ReprK.list e rfl rfl hna (by simpa using hk.length_eq) fun i y e => hk.item i y (by simpa using e)
  | .tuple ds, _, u, q, r, hs, hz => by
    cases q with
    | tup h hq =>
      cases r
      obtain ⟨_, its, rv, o, e, hc, n, hd⟩ := (show ObjOk X.prog X.w H s.heap _ (.tup _) from I.hok _ _ h)
      have hz2 : (tupleText (PyData.shownAll ds)).length ≤ sizeLine := by simpa only [PyData.shown] using hz
      obtain ⟨as, bs, ra, hb, hk⟩ := reprAllK_q I ds _ its hq rv (by simpa [PyData.showable] using hs) fun t ht => Nat.le_trans (tupleText_mem_le ht) hz2
      have rd : Reads s.heap (.ref _) (.tuple ds) _ := .tuple e hc hd ra
      have hna := not_mem_of_deeper rd (by simp only [PyData.depth]; omega) hb
      refine ⟨_, _, rd, ReadAtMost.cons rd (by simp only [PyData.depth]; omega) hb, ?_⟩
      simp only [PyData.depth, PyData.shown]
      exact ReprK.tuple e hc hd hna hk
theorem reprAllK_q (I : Inv X pins σ H s) : ∀ (ds : List PyData) (vs : List V) (us : List Value), DqAll H vs ds → Vals vs us → PyData.showableAll ds = true → (∀ t ∈ PyData.shownAll ds, t.length ≤ sizeLine) →
    ∃ as bs, ReadsAll s.heap us ds as ∧ ReadAtMost s.heap (PyData.depthAll ds) bs ∧ ReprAllK X.prog X.w bs s.heap (PyData.depthAll ds) us (PyData.shownAll ds)
  | [], _, us, q, r, _, _ => by
    cases q
    cases r
    exact ⟨[], [], .nil, (fun _ h => nomatch h), by simp only [PyData.shownAll]; exact .nil⟩
  | d :: ds, _, us, q, r, hs, hz => by
    cases q with
    | cons q1 q2 =>
      cases r with
      | cons r1 r2 =>
        have hs2 : d.showable = true ∧ PyData.showableAll ds = true := by simpa [PyData.showableAll] using hs
        obtain ⟨a1, b1, x1, y1, k1⟩ := reprK_q I d _ _ q1 r1 hs2.1 (hz _ (by simp only [PyData.shownAll]; exact List.mem_cons_self))
        obtain ⟨a2, b2, x2, y2, k2⟩ := reprAllK_q I ds _ _ q2 r2 hs2.2 fun t ht => hz t (by simp only [PyData.shownAll]; exact List.mem_cons_of_mem _ ht)
        refine ⟨_, b1 ++ b2, .cons x1 x2, (y1.mono ?_).append (y2.mono ?_), ?_⟩
        · simp only [PyData.depthAll]
          omega
        · simp only [PyData.depthAll]
          omega
        · simp only [PyData.depthAll, PyData.shownAll]
          exact .cons ((k1.more fun b hb => List.mem_append_left _ hb).level_le (by omega)) (k2.more_le (fun b hb => List.mem_append_right _ hb) (by omega))
end
/-- repr of any such thing -/
def rReprQ : List V → Hp → VK → Prop := fun xs H Q => ∃ (x : V) (d : PyData), xs = [x] ∧ Dq H x d ∧ d.showable = true ∧ d.depth ≤ 32 ∧ d.shown.length ≤ sizeLine ∧ Q (.str d.shown) H
theorem reprQ {X : Cx} (hA : X.A.guards = some []) {k : Nat} (hr : Room k X.A) : CallR X (.builtin "repr") rReprQ := by
  intro pins s σ H xs us Q I r h
  obtain ⟨x, d, rfl, hd, h1, h3, h4, q⟩ := h
  have hu := hr.units
  have flat : ∀ {d : PyData}, Dp X.K H x d → d.showable = true → d.hasDict = false → d.depth ≤ 32 → d.shown.length ≤ sizeLine → Q (.str d.shown) H → wpAny (model X.prog X.w) X.A (call (.builtin "repr") us) (EP X pins σ Q) X.xe s := fun a b c e f g =>
    reprV rfl hA hr pins s σ H _ us Q I r ⟨x, _, rfl, a, b, c, e, f, g⟩
  cases hd with
  | non => exact flat .non h1 rfl h3 h4 q
  | bl b => exact flat (.bl b) h1 (by simp only [PyData.hasDict]) h3 h4 q
  | int i => exact flat (.int i) h1 (by simp only [PyData.hasDict]) h3 h4 q
  | str y => exact flat (.str y) h1 (by simp only [PyData.hasDict]) h3 h4 q
  | emp ha =>
    cases r with
    | cons r1 r2 =>
      cases r2
      cases r1
      obtain ⟨rd, ns, _⟩ := emp_reads I ha
      exact repr_of_reads' rd h1 (fun _ => ns) hA (by omega) (fun _ _ e => e) (fun h' u tk kp => ⟨.str (PyData.shown (.dict [])), H, I.kept (t' := tk) kp, ⟨u, rfl⟩, q⟩) h4
  | @lst a xs ds ha hq =>
    cases r with
    | cons r1 r2 =>
      cases r2
      cases r1
      obtain ⟨_, its, n, rv, e⟩ := (show ObjOk X.prog X.w H s.heap a (.lst xs) from I.hok a _ ha)
      have hz2 : (listText (PyData.shownAll ds)).length ≤ sizeLine := by simpa only [PyData.shown] using h4
      obtain ⟨as, bs, ra, hb, hk⟩ := reprAllK_q I ds _ its hq rv (by simpa [PyData.showable] using h1) fun t ht => Nat.le_trans (listText_mem_le ht) hz2
      have rd : Reads s.heap (.ref a) (.list ds) _ := .list e rfl rfl ra
      have hna := not_mem_of_deeper rd (by simp only [PyData.depth]; omega) hb
      have hdp : PyData.depthAll ds + 1 ≤ 32 := by simpa only [PyData.depth] using h3
      simp only [PyData.shown] at q
      refine call_repr_slot (by omega) ⟨_, e, rfl⟩ F.slot_list_repr.toG ?_
      cases its with
      | nil =>
        cases ra
        simp only [PyData.shownAll, listText_nil] at q
        exact call_list_repr_empty ⟨_, e, rfl⟩ e rfl ⟨_, _, rfl, .str "[]", H, I.tok _, ⟨_, rfl⟩, q⟩
      | cons y l =>
        exact call_list_reprK e rfl rfl hna (by simpa using hk.length_eq) (fun i y e => hk.item i y (by simpa using e)) hA (fun b _ => Clear.nil b) (by show X.A.units + 1 + _ < cLine; omega) (fun _ _ e => e)
          (fun h' u tk kp => ⟨_, _, rfl, .str (listText (PyData.shownAll ds)), H, I.kept (t' := tk) kp, ⟨u, rfl⟩, q⟩) hz2
  | @tup a xs ds ha hq =>
    cases r with
    | cons r1 r2 =>
      cases r2
      cases r1
      obtain ⟨_, its, rv, o, e, hc, n, hd⟩ := (show ObjOk X.prog X.w H s.heap a (.tup xs) from I.hok a _ ha)
      have hz2 : (tupleText (PyData.shownAll ds)).length ≤ sizeLine := by simpa only [PyData.shown] using h4
      obtain ⟨as, bs, ra, hb, hk⟩ := reprAllK_q I ds _ its hq rv (by simpa [PyData.showable] using h1) fun t ht => Nat.le_trans (tupleText_mem_le ht) hz2
      have rd : Reads s.heap (.ref a) (.tuple ds) _ := .tuple e hc hd ra
      have hna := not_mem_of_deeper rd (by simp only [PyData.depth]; omega) hb
      have hdp : PyData.depthAll ds + 1 ≤ 32 := by simpa only [PyData.depth] using h3
      simp only [PyData.shown] at q
      refine call_repr_slot (by omega) ⟨_, e, hc⟩ F.slot_tuple_repr ?_
      exact call_tuple_reprK e hc hd hna hk hA (fun b _ => Clear.nil b) (by show X.A.units + 1 + _ < cLine; omega) (fun _ _ e => e)
          (fun h' u tk kp => ⟨_, _, rfl, .str (tupleText (PyData.shownAll ds)), H, I.kept (t' := tk) kp, ⟨u, rfl⟩, q⟩) hz2
end
end Sd

namespace Sd
open PySem PySem.Spec PyProof.Rows L2

/-! ### what isinstance says of data -/
def tyQ : PyData → String
  | .none => "NoneType"
  | .bool _ => "bool"
  | .int _ => "int"
  | .str _ => "str"
  | .list _ => "list"
  | .tuple _ => "tuple"
  | .dict _ => "dict"
def intQ : PyData → Bool
  | .int _ => true
  | .bool _ => true
  | _ => false
def boolQ : PyData → Bool
  | .bool _ => true
  | _ => false
def listQ : PyData → Bool
  | .list _ => true
  | _ => false
theorem kit_intQ {K : PySem.W.Frag} (d : PyData) : PySem.W.kitOne K (.type (tyQ d)) (.type "int") = some (intQ d) := by
  cases d with
  | none => exact kit_ty (show kitB "NoneType" "int" = some false by decide +kernel)
  | bool _ => exact kit_ty (show kitB "bool" "int" = some true by decide +kernel)
  | int _ => exact kit_ty (show kitB "int" "int" = some true by decide +kernel)
  | str _ => exact kit_ty (show kitB "str" "int" = some false by decide +kernel)
  | list _ => exact kit_ty (show kitB "list" "int" = some false by decide +kernel)
  | tuple _ => exact kit_ty (show kitB "tuple" "int" = some false by decide +kernel)
  | dict _ => exact kit_ty (show kitB "dict" "int" = some false by decide +kernel)
theorem kit_boolQ {K : PySem.W.Frag} (d : PyData) : PySem.W.kitOne K (.type (tyQ d)) (.type "bool") = some (boolQ d) := by
  cases d with
  | none => exact kit_ty (show kitB "NoneType" "bool" = some false by decide +kernel)
  | bool _ => exact kit_ty (show kitB "bool" "bool" = some true by decide +kernel)
  | int _ => exact kit_ty (show kitB "int" "bool" = some false by decide +kernel)
  | str _ => exact kit_ty (show kitB "str" "bool" = some false by decide +kernel)
  | list _ => exact kit_ty (show kitB "list" "bool" = some false by decide +kernel)
  | tuple _ => exact kit_ty (show kitB "tuple" "bool" = some false by decide +kernel)
  | dict _ => exact kit_ty (show kitB "dict" "bool" = some false by decide +kernel)
theorem kit_listQ {K : PySem.W.Frag} (d : PyData) : PySem.W.kitOne K (.type (tyQ d)) (.type "list") = some (listQ d) := by
  cases d with
  | none => exact kit_ty (show kitB "NoneType" "list" = some false by decide +kernel)
  | bool _ => exact kit_ty (show kitB "bool" "list" = some false by decide +kernel)
  | int _ => exact kit_ty (show kitB "int" "list" = some false by decide +kernel)
  | str _ => exact kit_ty (show kitB "str" "list" = some false by decide +kernel)
  | list _ => exact kit_ty (show kitB "list" "list" = some true by decide +kernel)
  | tuple _ => exact kit_ty (show kitB "tuple" "list" = some false by decide +kernel)
  | dict _ => exact kit_ty (show kitB "dict" "list" = some false by decide +kernel)
theorem ty_q {K : PySem.W.Frag} {H : Hp} {v : V} {d : PyData} (q : Dq H v d) : TyX K H v (.type (tyQ d)) := by
  cases q with
  | non => exact .base .non
  | bl b => exact .base (.bl b)
  | int i => exact .base (.int i)
  | str x => exact .base (.str x)
  | lst h _ => exact .base (.lst h)
  | tup h _ => exact .base (.tup h)
  | emp h => exact .base (.dK h)
/-- an item that a slot of a disc can have -/
def okS (top : Int) : PyData → Bool
  | .int i => decide (0 ≤ i) && decide (i ≤ top)
  | _ => false
/-- a disc with items up to top -/
def discQ (top : Int) : PyData → Bool
  | .list ds => decide (1 ≤ ds.length) && decide (ds.length ≤ 40) && ds.all (okS top)
  | _ => false
def slotsQ : PyData → Bool
  | .list ds => decide (1 ≤ ds.length) && decide (ds.length ≤ 40)
  | _ => false
theorem DqAll.length {H : Hp} : ∀ {xs : List V} {ds : List PyData}, DqAll H xs ds → xs.length = ds.length
  | _, _, .nil => rfl
  | _, _, .cons _ h => congrArg Nat.succ (DqAll.length h)
theorem DqAll.at {H : Hp} : ∀ {xs : List V} {ds : List PyData} {i : Nat} {x : V}, DqAll H xs ds → xs[i]? = some x → ∃ d, ds[i]? = some d ∧ Dq H x d
  | _, _, _, _, .nil, e => by simp at e
  | _, _, 0, _, .cons h _, e => by
    simp at e
    subst e
    exact ⟨_, rfl, h⟩
  | _, _, i + 1, x, .cons _ h, e => by
    obtain ⟨d, h1, h2⟩ := DqAll.at (i := i) (x := x) h (by simpa using e)
    exact ⟨d, by simpa using h1, h2⟩
theorem DqAll.ints {H : Hp} {top : Int} : ∀ {xs : List V} {ds : List PyData}, DqAll H xs ds → ds.all (okS top) = true → ∃ ns : List Int, xs = ns.map V.int ∧ ns.length = ds.length ∧ ds = ns.map PyData.int ∧ ∀ n ∈ ns, 0 ≤ n ∧ n ≤ top
  | _, _, .nil, _ => ⟨[], rfl, rfl, rfl, fun n hn => (List.not_mem_nil hn).elim⟩
  | _, _, .cons (d := d) h hs, e => by
    rw [List.all_cons, Bool.and_eq_true] at e
    obtain ⟨ns, h1, h2, h3, h4⟩ := DqAll.ints hs e.2
    cases h with
    | int i =>
      have e1 := (Bool.and_eq_true _ _).mp e.1
      refine ⟨i :: ns, by rw [h1]; rfl, congrArg Nat.succ h2, by rw [h3]; rfl, fun n hn => ?_⟩
      rcases List.mem_cons.mp hn with z | z
      · rw [z]
        exact ⟨of_decide_eq_true e1.1, of_decide_eq_true e1.2⟩
      · exact h4 n z
    | non => exact absurd e.1 (by show ¬ false = true; decide)
    | bl b => exact absurd e.1 (by show ¬ false = true; decide)
    | str x => exact absurd e.1 (by show ¬ false = true; decide)
    | lst _ _ => exact absurd e.1 (by show ¬ false = true; decide)
    | tup _ _ => exact absurd e.1 (by show ¬ false = true; decide)
    | emp _ => exact absurd e.1 (by show ¬ false = true; decide)
theorem ints_ok {top : Int} : ∀ {ns : List Int}, (ns.map PyData.int).all (okS top) = true ↔ ∀ n ∈ ns, 0 ≤ n ∧ n ≤ top
  | [] => by simp
  | n :: ns => by
    have ih := ints_ok (top := top) (ns := ns)
    rw [List.map_cons, List.all_cons, Bool.and_eq_true, ih]
    constructor
    · intro h m hm
      have e1 := (Bool.and_eq_true _ _).mp h.1
      rcases List.mem_cons.mp hm with z | z
      · rw [z]
        exact ⟨of_decide_eq_true e1.1, of_decide_eq_true e1.2⟩
      · exact h.2 m z
    · intro h
      have h1 := h n List.mem_cons_self
      exact ⟨(Bool.and_eq_true _ _).mpr ⟨decide_eq_true h1.1, decide_eq_true h1.2⟩, fun m hm => h m (List.mem_cons_of_mem _ hm)⟩
/-- what holds of all items up to i, one more -/
theorem all_next {p : PyData → Bool} {ds : List PyData} {i : Nat} {d : PyData} (e : ds[i]? = some d) (h : (ds.take i).all p = true) : (ds.take (i + 1)).all p = p d := by
  rw [List.take_add_one, e, List.all_append, h]
  simp
theorem all_no {p : PyData → Bool} {ds : List PyData} {i : Nat} {d : PyData} (e : ds[i]? = some d) (h : p d = false) : ds.all p = false := by
  cases z : ds.all p with
  | false => rfl
  | true =>
    rw [List.all_eq_true.mp z d (List.mem_of_getElem? e)] at h
    cases h

/-! ### things beside a tank -/
def mask (t : Addr) (H : Hp) : Hp := fun b => if b = t then none else H b
theorem mask_ne {t b : Addr} {H : Hp} (h : b ≠ t) : mask t H b = H b := if_neg h
theorem mask_same (t : Addr) (H : Hp) : Same (mask t H) H := fun b o e => by
  unfold mask at e
  split at e
  · cases e
  · exact e
theorem mask_but {t : Addr} {H H' : Hp} (u : But t H H') : Same (mask t H) (mask t H') := fun b o e => by
  unfold mask at e ⊢
  split at e
  · cases e
  · rename_i n
    rw [if_neg n]
    exact u b o e n
/-- an item; a thing -/
def El (t : Addr) (H : Hp) (v : V) : Prop := ∃ d, Dq (mask t H) v d ∧ d.showable = true ∧ d.depth ≤ 1 ∧ d.shown.length ≤ 1100
def Th (t : Addr) (H : Hp) (v : V) : Prop := ∃ d, Dq (mask t H) v d ∧ d.showable = true ∧ d.depth ≤ 3 ∧ d.shown.length ≤ 300000
theorem El.but {t : Addr} {H H' : Hp} {v : V} (h : El t H v) (u : But t H H') : El t H' v := let ⟨d, q, r⟩ := h; ⟨d, q.same (mask_but u), r⟩
theorem Th.but {t : Addr} {H H' : Hp} {v : V} (h : Th t H v) (u : But t H H') : Th t H' v := let ⟨d, q, r⟩ := h; ⟨d, q.same (mask_but u), r⟩
theorem El.th {t : Addr} {H : Hp} {v : V} (h : El t H v) : Th t H v := let ⟨d, q, r1, r2, r3⟩ := h; ⟨d, q, r1, by omega, by omega⟩
theorem el_non {t : Addr} {H : Hp} : El t H .non := ⟨.none, .non, rfl, by decide, by decide +kernel⟩
theorem el_bl {t : Addr} {H : Hp} (b : Bool) : El t H (.bl b) := ⟨.bool b, .bl b, by simp only [PyData.showable], by simp only [PyData.depth]; omega, by cases b <;> decide +kernel⟩
theorem el_int {t : Addr} {H : Hp} {i : Int} (h : i.natAbs < 2 ^ 1000) : El t H (.int i) := ⟨.int i, .int i, (rp_int h).sh, by simp only [PyData.depth]; omega, by have := shown_int h; omega⟩
theorem el_emp {t : Addr} {H : Hp} {a : Addr} (h : H a = some (.dK [])) (n : a ≠ t) : El t H (.ref a) := ⟨.dict [], .emp (by rw [mask_ne n]; exact h), by decide, by decide, by decide +kernel⟩
/-- items all told -/
theorem els {t : Addr} {H : Hp} : ∀ {xs : List V}, (∀ x ∈ xs, El t H x) → ∃ ds, DqAll (mask t H) xs ds ∧ PyData.showableAll ds = true ∧ PyData.depthAll ds ≤ 1 ∧ ∀ d ∈ ds, d.shown.length ≤ 1100
  | [], _ => ⟨[], .nil, by simp only [PyData.showableAll], by simp only [PyData.depthAll]; omega, fun d hd => (List.not_mem_nil hd).elim⟩
  | x :: xs, h => by
    obtain ⟨d, q, r1, r2, r3⟩ := h x List.mem_cons_self
    obtain ⟨ds, p1, p2, p3, p4⟩ := els (xs := xs) fun y hy => h y (List.mem_cons_of_mem _ hy)
    refine ⟨d :: ds, .cons q p1, by simp only [PyData.showableAll, r1, p2, Bool.and_self], by simp only [PyData.depthAll]; omega, fun e he => ?_⟩
    rcases List.mem_cons.mp he with z | z
    · rw [z]
      exact r3
    · exact p4 e z
theorem th_list {t : Addr} {H : Hp} {p : Addr} {xs : List V} (h : H p = some (.lst xs)) (n : p ≠ t) (hl : xs.length ≤ 200) (hx : ∀ x ∈ xs, El t H x) : Th t H (.ref p) := by
  obtain ⟨ds, p1, p2, p3, p4⟩ := els hx
  have e := p1.length
  refine ⟨.list ds, .lst (by rw [mask_ne n]; exact h) p1, by simp only [PyData.showable, p2], by simp only [PyData.depth]; omega, ?_⟩
  have := shown_list p4
  omega
theorem shown_tuple {B : Nat} {ds : List PyData} (h : ∀ d ∈ ds, d.shown.length ≤ B) : (PyData.tuple ds).shown.length ≤ (B + 2) * ds.length + 3 := by
  simp only [PyData.shown]
  have e3 : (((if (PyData.shownAll ds).length == 1 then ",)" else ")" : String) : Str)).length ≤ 2 := by split <;> decide +kernel
  have e1 : ((("(" : String) : Str)).length = 1 := rfl
  unfold tupleText
  rw [strLen_append, strLen_append, e1]
  have h2 : piled (PyData.shownAll ds) ≤ (B + 2) * ds.length := by
    unfold piled
    have := sum_bound (B := B + 2) (l := (PyData.shownAll ds).map fun t => t.length + 2) fun x hx => by
      obtain ⟨s, hs, rfl⟩ := List.mem_map.mp hx
      rw [shownAll_map] at hs
      obtain ⟨d, hd, rfl⟩ := List.mem_map.mp hs
      have := h d hd
      omega
    rw [List.length_map, shownAll_map, List.length_map] at this
    rw [shownAll_map] at *
    exact this
  by_cases z : PyData.shownAll ds = []
  · rw [z] at e3 ⊢
    have : (Str.join ", " []).length = 0 := by decide +kernel
    omega
  · have := join_length_add (PyData.shownAll ds) z
    omega
theorem th_tuple {t : Addr} {H : Hp} {p : Addr} {xs : List V} (h : H p = some (.tup xs)) (n : p ≠ t) (hl : xs.length ≤ 200) (hx : ∀ x ∈ xs, El t H x) : Th t H (.ref p) := by
  obtain ⟨ds, p1, p2, p3, p4⟩ := els hx
  have e := p1.length
  refine ⟨.tuple ds, .tup (by rw [mask_ne n]; exact h) p1, by simp only [PyData.showable, p2], by simp only [PyData.depth]; omega, ?_⟩
  have := shown_tuple p4
  omega
/-- [thing] -/
theorem th_one {t : Addr} {H : Hp} {p b : Addr} {ns : List Int} (h : H p = some (.lst [.ref b])) (n : p ≠ t) (hb : H b = some (.lst (ns.map V.int))) (nb : b ≠ t) (hl : ns.length ≤ 40) (hx : ∀ n ∈ ns, n.natAbs < 2 ^ 1000) : Th t H (.ref p) := by
  obtain ⟨ds, p1, p2, p3, p4⟩ := els (t := t) (H := H) (xs := ns.map V.int) fun x hxx => by
    obtain ⟨m, hm, rfl⟩ := List.mem_map.mp hxx
    exact el_int (hx m hm)
  have e := p1.length
  rw [List.length_map] at e
  have z := shown_list p4
  refine ⟨.list [.list ds], .lst (by rw [mask_ne n]; exact h) (.cons (.lst (by rw [mask_ne nb]; exact hb) p1) .nil), by simp only [PyData.showable, PyData.showableAll, p2, Bool.and_self], by simp only [PyData.depth, PyData.depthAll]; omega, ?_⟩
  have z2 := shown_list (B := 1102 * 40 + 3) (ds := [.list ds]) fun d hd => by
    rw [List.mem_singleton.mp hd]
    omega
  exact Nat.le_trans z2 (by show (1102 * 40 + 3 + 2) * 1 + 3 ≤ 300000; decide)
/-- [1], (1,) as items -/
theorem el_list1 {t : Addr} {H : Hp} {p : Addr} (h : H p = some (.lst [.int 1])) (n : p ≠ t) : El t H (.ref p) := ⟨.list [.int 1], .lst (by rw [mask_ne n]; exact h) (.cons (.int 1) .nil), by decide, by decide, by decide +kernel⟩
theorem el_list0 {t : Addr} {H : Hp} {p : Addr} (h : H p = some (.lst [])) (n : p ≠ t) : El t H (.ref p) := ⟨.list [], .lst (by rw [mask_ne n]; exact h) .nil, by decide, by decide, by decide +kernel⟩
theorem el_tup1 {t : Addr} {H : Hp} {p : Addr} (h : H p = some (.tup [.int 1])) (n : p ≠ t) : El t H (.ref p) := ⟨.tuple [.int 1], .tup (by rw [mask_ne n]; exact h) (.cons (.int 1) .nil), by decide, by decide, by decide +kernel⟩
theorem el_tup0 {t : Addr} {H : Hp} {p : Addr} (h : H p = some (.tup [])) (n : p ≠ t) : El t H (.ref p) := ⟨.tuple [], .tup (by rw [mask_ne n]; exact h) .nil, by decide, by decide, by decide +kernel⟩
theorem el_ints {t : Addr} {H : Hp} {ns : List Int} (h : ∀ n ∈ ns, n.natAbs < 2 ^ 1000) : ∀ x ∈ ns.map V.int, El t H x := fun x hx => by
  obtain ⟨m, hm, rfl⟩ := List.mem_map.mp hx
  exact el_int (h m hm)
theorem _root_.L2.Same.seqT {K : PySem.W.Frag} {H H' : Hp} {a : Addr} {xs : List V} (s : Same H H') (h : H a = some (.tup xs)) : SqT K H' a xs := SqT.of (s _ _ h)
end Sd

namespace Sd
open PySem PySem.Spec PyProof.Rows L2

/-! ### polynomials, lowest power first -/
/-- f times low taken away from l at s, s + 1 .. s + j - 1 -/
def subI (low : List Int) (f : Int) (s : Nat) : Nat → List Int → List Int
  | 0, l => l
  | j + 1, l => (subI low f s j l).set (s + j) ((subI low f s j l).getD (s + j) 0 - f * low.getD j 0)
/-- so many steps of the division, from the top: quotient behind, rest in front -/
def divN (low : List Int) : Nat → List Int → List Int
  | 0, l => l
  | k + 1, l => divN low k (subI low (l.getD (low.length - 1 + k) 0) k (low.length - 1) l)
def divL (low l : List Int) : List Int := divN low (l.length - (low.length - 1)) l
def quo (low l : List Int) : List Int := (divL low l).drop (low.length - 1)
def rst (low l : List Int) : List Int := (divL low l).take (low.length - 1)
theorem subI_len (low : List Int) (f : Int) (s : Nat) : ∀ (j : Nat) (l : List Int), (subI low f s j l).length = l.length
  | 0, _ => rfl
  | j + 1, l => by
    rw [subI, List.length_set, subI_len low f s j l]
theorem divN_len (low : List Int) : ∀ (k : Nat) (l : List Int), (divN low k l).length = l.length
  | 0, _ => rfl
  | k + 1, l => by
    rw [divN, divN_len low k, subI_len]
theorem divL_len (low l : List Int) : (divL low l).length = l.length := divN_len _ _ _
theorem quo_len (low l : List Int) : (quo low l).length = l.length - (low.length - 1) := by
  unfold quo
  rw [List.length_drop, divL_len]
theorem rst_len (low l : List Int) : (rst low l).length = min (low.length - 1) l.length := by
  unfold rst
  rw [List.length_take, divL_len]
/-- what lies behind stays -/
theorem subI_get (low : List Int) (f : Int) (s : Nat) : ∀ (j : Nat) (l : List Int) (i : Nat), s + j ≤ i → (subI low f s j l)[i]? = l[i]?
  | 0, _, _, _ => rfl
  | j + 1, l, i, h => by
    rw [subI, List.getElem?_set_ne (by omega)]
    exact subI_get low f s j l i (by omega)
theorem subI_drop (low : List Int) (f : Int) (s j : Nat) (l : List Int) {i : Nat} (h : s + j ≤ i) : (subI low f s j l).drop i = l.drop i := by
  refine List.ext_getElem? fun k => ?_
  rw [List.getElem?_drop, List.getElem?_drop, subI_get low f s j l (i + k) (by omega)]
/-- the table of C(1) to C(40) -/
def cycT : List (List Int) := [[], [-1, 1], [1, 1], [1, 1, 1], [1, 0, 1], [1, 1, 1, 1, 1], [1, -1, 1], [1, 1, 1, 1, 1, 1, 1], [1, 0, 0, 0, 1], [1, 0, 0, 1, 0, 0, 1], [1, -1, 1, -1, 1], [1, 1, 1, 1, 1, 1, 1, 1, 1, 1, 1], [1, 0, -1, 0, 1], [1, 1, 1, 1, 1, 1, 1, 1, 1, 1, 1, 1, 1], [1, -1, 1, -1, 1, -1, 1], [1, -1, 0, 1, -1, 1, 0, -1, 1], [1, 0, 0, 0, 0, 0, 0, 0, 1], [1, 1, 1, 1, 1, 1, 1, 1, 1, 1, 1, 1, 1, 1, 1, 1, 1], [1, 0, 0, -1, 0, 0, 1], [1, 1, 1, 1, 1, 1, 1, 1, 1, 1, 1, 1, 1, 1, 1, 1, 1, 1, 1], [1, 0, -1, 0, 1, 0, -1, 0, 1], [1, -1, 0, 1, -1, 0, 1, 0, -1, 1, 0, -1, 1], [1, -1, 1, -1, 1, -1, 1, -1, 1, -1, 1], [1, 1, 1, 1, 1, 1, 1, 1, 1, 1, 1, 1, 1, 1, 1, 1, 1, 1, 1, 1, 1, 1, 1], [1, 0, 0, 0, -1, 0, 0, 0, 1], [1, 0, 0, 0, 0, 1, 0, 0, 0, 0, 1, 0, 0, 0, 0, 1, 0, 0, 0, 0, 1], [1, -1, 1, -1, 1, -1, 1, -1, 1, -1, 1, -1, 1], [1, 0, 0, 0, 0, 0, 0, 0, 0, 1, 0, 0, 0, 0, 0, 0, 0, 0, 1], [1, 0, -1, 0, 1, 0, -1, 0, 1, 0, -1, 0, 1], [1, 1, 1, 1, 1, 1, 1, 1, 1, 1, 1, 1, 1, 1, 1, 1, 1, 1, 1, 1, 1, 1, 1, 1, 1, 1, 1, 1, 1], [1, 1, 0, -1, -1, -1, 0, 1, 1], [1, 1, 1, 1, 1, 1, 1, 1, 1, 1, 1, 1, 1, 1, 1, 1, 1, 1, 1, 1, 1, 1, 1, 1, 1, 1, 1, 1, 1, 1, 1], [1, 0, 0, 0, 0, 0, 0, 0, 0, 0, 0, 0, 0, 0, 0, 0, 1], [1, -1, 0, 1, -1, 0, 1, -1, 0, 1, -1, 1, 0, -1, 1, 0, -1, 1, 0, -1, 1], [1, -1, 1, -1, 1, -1, 1, -1, 1, -1, 1, -1, 1, -1, 1, -1, 1], [1, -1, 0, 0, 0, 1, -1, 1, -1, 0, 1, -1, 1, -1, 1, 0, -1, 1, -1, 1, 0, 0, 0, -1, 1], [1, 0, 0, 0, 0, 0, -1, 0, 0, 0, 0, 0, 1], [1, 1, 1, 1, 1, 1, 1, 1, 1, 1, 1, 1, 1, 1, 1, 1, 1, 1, 1, 1, 1, 1, 1, 1, 1, 1, 1, 1, 1, 1, 1, 1, 1, 1, 1, 1, 1], [1, -1, 1, -1, 1, -1, 1, -1, 1, -1, 1, -1, 1, -1, 1, -1, 1, -1, 1], [1, -1, 0, 1, -1, 0, 1, -1, 0, 1, -1, 0, 1, 0, -1, 1, 0, -1, 1, 0, -1, 1, 0, -1, 1], [1, 0, 0, 0, -1, 0, 0, 0, 1, 0, 0, 0, -1, 0, 0, 0, 1]]
def cyc (p : Nat) : List Int := cycT.getD p []
/-- low coefficients are 1, 0 or -1 -/
def Unt (l : List Int) : Prop := ∀ x ∈ l, -1 ≤ x ∧ x ≤ 1
theorem cyc_all : ∀ p, p < 41 → 1 ≤ p → (2 ≤ (cyc p).length ∧ (cyc p).length ≤ p + 1 ∧ (cyc p).all (fun x => decide (-1 ≤ x ∧ x ≤ 1)) = true) := by decide +kernel
theorem cyc_len {p : Nat} (h1 : 1 ≤ p) (h : p ≤ 40) : 2 ≤ (cyc p).length ∧ (cyc p).length ≤ p + 1 := ⟨(cyc_all p (by omega) h1).1, (cyc_all p (by omega) h1).2.1⟩
theorem cyc_unt {p : Nat} (h1 : 1 ≤ p) (h : p ≤ 40) : Unt (cyc p) := fun x hx => of_decide_eq_true (List.all_eq_true.mp (cyc_all p (by omega) h1).2.2 x hx)
/-- x ** p - 1 -/
def xn1 (p : Nat) : List Int := [-1] ++ List.replicate (p - 1) 0 ++ [1]
theorem xn1_len {p : Nat} (h : 1 ≤ p) : (xn1 p).length = p + 1 := by
  unfold xn1
  rw [List.length_append, List.length_append, List.length_replicate]
  show 1 + (p - 1) + 1 = p + 1
  omega
/-- x ** p - 1 without C(1), C(2) .. C(k) -/
def rootF (p : Nat) : Nat → List Int
  | 0 => xn1 p
  | k + 1 => if p % (k + 1) = 0 then quo (cyc (k + 1)) (rootF p k) else rootF p k
theorem root_all : ∀ p, p < 41 → 1 ≤ p → rootF p (p - 1) = cyc p := by decide +kernel
theorem root_cyc {p : Nat} (h1 : 1 ≤ p) (h : p ≤ 40) : rootF p (p - 1) = cyc p := root_all p (by omega) h1
theorem rootF_len (p : Nat) (h : 1 ≤ p) : ∀ k, (rootF p k).length ≤ p + 1
  | 0 => by rw [rootF, xn1_len h]; exact Nat.le_refl _
  | k + 1 => by
    have := rootF_len p h k
    rw [rootF]
    split
    · rw [quo_len]; omega
    · exact this
/-- the divisors of n up to k -/
def divs (n : Nat) : Nat → List Nat
  | 0 => []
  | k + 1 => if n % (k + 1) = 0 then divs n k ++ [k + 1] else divs n k
theorem divs_mem {n : Nat} : ∀ {k d : Nat}, d ∈ divs n k ↔ 1 ≤ d ∧ d ≤ k ∧ n % d = 0
  | 0, d => by
    rw [divs]
    exact ⟨fun h => (List.not_mem_nil h).elim, fun h => by omega⟩
  | k + 1, d => by
    rw [divs]
    by_cases c : n % (k + 1) = 0
    · rw [if_pos c, List.mem_append, divs_mem (k := k), List.mem_singleton]
      constructor
      · rintro (⟨a, b, e⟩ | rfl)
        · exact ⟨a, by omega, e⟩
        · exact ⟨by omega, Nat.le_refl _, c⟩
      · rintro ⟨a, b, e⟩
        by_cases z : d = k + 1
        · exact .inr z
        · exact .inl ⟨a, by omega, e⟩
    · rw [if_neg c, divs_mem (k := k)]
      constructor
      · rintro ⟨a, b, e⟩
        exact ⟨a, by omega, e⟩
      · rintro ⟨a, b, e⟩
        refine ⟨a, ?_, e⟩
        have : d ≠ k + 1 := fun z => c (by rw [← z]; exact e)
        omega
theorem divs_len {n : Nat} : ∀ k, (divs n k).length ≤ k
  | 0 => Nat.le_refl _
  | k + 1 => by
    have := divs_len (n := n) k
    rw [divs]
    split
    · rw [List.length_append]
      show _ + 1 ≤ _
      omega
    · omega
/-- x ** p - 1 without all C(d), d of a list that divides p -/
def foldQ (p : Nat) (ds : List Nat) : List Int := ds.foldl (fun a d => if p % d = 0 then quo (cyc d) a else a) (xn1 p)
theorem foldQ_snoc (p : Nat) (ds : List Nat) (d : Nat) : foldQ p (ds ++ [d]) = if p % d = 0 then quo (cyc d) (foldQ p ds) else foldQ p ds := by
  unfold foldQ
  rw [List.foldl_append]
  rfl
theorem foldQ_divs {n p : Nat} (hp : n % p = 0) : ∀ k, foldQ p (divs n k) = rootF p k
  | 0 => rfl
  | k + 1 => by
    rw [divs, rootF]
    by_cases c : n % (k + 1) = 0
    · rw [if_pos c, foldQ_snoc, foldQ_divs hp k]
    · rw [if_neg c, foldQ_divs hp k, if_neg]
      intro z
      exact c (Nat.mod_eq_zero_of_dvd (Nat.dvd_trans (Nat.dvd_of_mod_eq_zero z) (Nat.dvd_of_mod_eq_zero hp)))
theorem foldQ_len {p : Nat} (h : 1 ≤ p) : ∀ ds : List Nat, ∀ a : List Int, a.length ≤ p + 1 → (ds.foldl (fun a d => if p % d = 0 then quo (cyc d) a else a) a).length ≤ p + 1
  | [], a, ha => ha
  | d :: ds, a, ha => by
    rw [List.foldl_cons]
    refine foldQ_len h ds _ ?_
    split
    · rw [quo_len]; omega
    · exact ha
/-- the blind divisors -/
def blB (ns : List Int) (d : Nat) : Bool := (rst (cyc d) ns).all fun x => decide (x = 0)
def blindN (ns : List Int) (k : Nat) : List Nat := (divs ns.length k).filter (blB ns)
def blindL (ns : List Int) : List Nat := blindN ns ns.length
/-- the product of C(d) for all that are not blind -/
def hidQ (ns : List Int) : List Int := (blindL ns).foldl (fun a d => quo (cyc d) a) (xn1 ns.length)
def degS (ds : List Nat) : Nat := (ds.map fun d => (cyc d).length - 1).sum
theorem deg_all : ∀ n, n < 41 → 1 ≤ n → degS (divs n n) = n := by decide +kernel
theorem degS_filter (p : Nat → Bool) : ∀ ds : List Nat, degS (ds.filter p) ≤ degS ds
  | [] => Nat.le_refl _
  | d :: ds => by
    have := degS_filter p ds
    rw [List.filter_cons]
    split
    · unfold degS at *
      rw [List.map_cons, List.sum_cons, List.map_cons, List.sum_cons]
      omega
    · unfold degS at *
      rw [List.map_cons, List.sum_cons]
      omega
theorem fold_len : ∀ (ds : List Nat) (a : List Int), degS ds ≤ a.length → (ds.foldl (fun a d => quo (cyc d) a) a).length = a.length - degS ds
  | [], a, _ => rfl
  | d :: ds, a, h => by
    unfold degS at h
    rw [List.map_cons, List.sum_cons] at h
    rw [List.foldl_cons, fold_len ds _ (by rw [quo_len]; unfold degS; omega), quo_len]
    unfold degS
    rw [List.map_cons, List.sum_cons]
    omega
theorem blind_deg {ns : List Int} (h1 : 1 ≤ ns.length) (h : ns.length ≤ 40) : degS (blindL ns) ≤ ns.length := by
  have := degS_filter (blB ns) (divs ns.length ns.length)
  rw [deg_all ns.length (by omega) h1] at this
  exact this
theorem hidQ_len {ns : List Int} (h1 : 1 ≤ ns.length) (h : ns.length ≤ 40) : (hidQ ns).length = ns.length + 1 - degS (blindL ns) := by
  have := blind_deg h1 h
  unfold hidQ
  rw [fold_len _ _ (by rw [xn1_len h1]; omega), xn1_len h1]
theorem blind_mem {ns : List Int} {d : Nat} (h : d ∈ blindL ns) : 1 ≤ d ∧ d ≤ ns.length ∧ ns.length % d = 0 := divs_mem.mp (List.mem_filter.mp h).1
theorem degS_pos {ns : List Int} (h : ns.length ≤ 40) : degS (blindL ns) = 0 ↔ blindL ns = [] := by
  constructor
  · intro z
    cases e : blindL ns with
    | nil => rfl
    | cons d ds =>
      exfalso
      have hd := blind_mem (ns := ns) (d := d) (by rw [e]; exact List.mem_cons_self)
      have := (cyc_len hd.1 (by omega)).1
      rw [e] at z
      unfold degS at z
      rw [List.map_cons, List.sum_cons] at z
      omega
  · intro z
    rw [z]
    rfl
theorem divs_sorted {n : Nat} : ∀ {k i d e : Nat}, (divs n k)[i]? = some d → e ∈ (divs n k).take i → e < d
  | 0, _, _, _, h, _ => by
    rw [divs] at h
    cases h
  | k + 1, i, d, e, h, he => by
    rw [divs] at h he
    by_cases c : n % (k + 1) = 0
    · rw [if_pos c] at h he
      by_cases z : i < (divs n k).length
      · rw [List.getElem?_append_left z] at h
        rw [List.take_append_of_le_length (Nat.le_of_lt z)] at he
        exact divs_sorted h he
      · have hi : i = (divs n k).length := by
          have := (List.getElem?_eq_some_iff.mp h).1
          rw [List.length_append] at this
          have t : i < (divs n k).length + 1 := this
          omega
        subst hi
        rw [List.getElem?_append_right (Nat.le_refl _), Nat.sub_self] at h
        have hd : k + 1 = d := Option.some.inj h
        rw [List.take_left] at he
        have := (divs_mem.mp he).2.1
        omega
    · rw [if_neg c] at h he
      exact divs_sorted h he
theorem divs_lt {n k i d e : Nat} (h : (divs n k)[i]? = some d) (he : e ∈ (divs n k).take i) : e < d := divs_sorted h he
theorem degI : ∀ {ds : List Nat}, (∀ d ∈ ds, 1 ≤ d ∧ d ≤ 40) → (ds.map fun d => ((cyc d).length : Int) - 1).sum = (degS ds : Int)
  | [], _ => rfl
  | d :: ds, h => by
    have hd := h d List.mem_cons_self
    have hl := (cyc_len hd.1 hd.2).1
    rw [List.map_cons, List.sum_cons, degI fun x hx => h x (List.mem_cons_of_mem _ hx)]
    unfold degS
    rw [List.map_cons, List.sum_cons]
    omega
end Sd

namespace Sd
open PySem PySem.Spec PyProof.Rows L2

/-! ### rules: any of a list of ints, xs[i] -= .., a dict that is locked and left so, a dict comprehension over its items -/
section
variable {X : Cx}
theorem truth_ints {K : PySem.W.Frag} {prog : Program} {w : World} {A : Around} {ns : List Int} {its : List Value} (r : Vals (ns.map V.int) its) :
    TruthOf prog w A (fun i v => its.toArray[i]? = some v) (fun i => (ns.map fun n => decide (n ≠ 0)).getD i false) := fun i v s Q E hv hq => by
  have hv' : its[i]? = some v := by simpa using hv
  have hl := r.length
  rw [List.length_map] at hl
  have hi : i < ns.length := by
    rw [hl]
    exact (List.getElem?_eq_some_iff.mp hv').1
  obtain ⟨w1, e1, r1⟩ := r.get (i := i) (x := .int ns[i]) (by rw [List.getElem?_map, List.getElem?_eq_getElem hi]; rfl)
  rw [hv'] at e1
  cases e1
  obtain ⟨t, rfl⟩ := r1
  have hg : (ns.map fun n => decide (n ≠ 0)).getD i false = decide (ns[i] ≠ 0) := by
    rw [List.getD_eq_getElem?_getD, List.getElem?_map, List.getElem?_eq_getElem hi]
    rfl
  have hq' : Q ((ns.map fun n => decide (n ≠ 0)).getD i false) s := hq
  rw [hg] at hq'
  refine PySem.P.truthy_int ?_
  have e : (ns[i] != 0) = decide (ns[i] ≠ 0) := by
    by_cases c : ns[i] = 0
    · rw [c]; rfl
    · rw [decide_eq_true c]
      exact bne_iff_ne.mpr c
  first
    | exact hq'
    | (rw [e]; exact hq')
def rAnyI (K : PySem.W.Frag) : List V → Hp → VK → Prop := fun vs H Q => ∃ (a : Addr) (ns : List Int), vs = [V.ref a] ∧ SqL K H a (ns.map V.int) ∧ Q (.bl (!ns.all fun x => decide (x = 0))) H
theorem any_not_all : ∀ ns : List Int, (ns.map fun n => decide (n ≠ 0)).any id = !ns.all fun x => decide (x = 0)
  | [] => rfl
  | n :: ns => by
    rw [List.map_cons, List.any_cons, List.all_cons, any_not_all ns, Bool.not_and]
    congr 1
    by_cases c : n = 0
    · rw [decide_eq_true c]; subst c; rfl
    · rw [decide_eq_false c]
      exact decide_eq_true c
theorem cr_anyI {K : PySem.W.Frag} (hK : X.K = K) (hc : X.calm = true) : CallR X (.builtin "any") (rAnyI K) := by
  subst hK
  intro pins s σ H vs us Q I r h
  obtain ⟨a, ns, rfl, hs, q⟩ := h
  obtain ⟨its, rv, hl, _⟩ := I.list hs
  rw [Vals.ref1 r]
  refine call_any_walk (iter_any hl.isList fun s₂ e2 st hne => ?_)
  subst e2
  refine ⟨_, _, _, _, _, _, _, rfl, Walks.list (A := X.A.in1) (I.ok.hd hc) _ a hne its.toArray, st, truth_ints (K := X.K) rv, fun h' tk hk => ?_⟩
  refine ⟨.bl _, H, I.kept fun b o eo => hk b o (fun hmem => ?_) (Heap.get?_push_of_some _ eo), ?_, q⟩
  · rcases List.mem_cons.mp hmem with e1 | hmem
    · exact absurd (e1 ▸ Heap.lt_size eo) (Nat.lt_irrefl _)
    · cases hmem
  · show Value.bool _ = Value.bool _
    have e := any_range (ns.map fun n => decide (n ≠ 0))
    rw [← any_not_all, ← e, List.size_toArray, ← rv.length, List.length_map, List.length_map]
/-- xs[i], read by an augmented assignment -/
def rGetL (K : PySem.W.Frag) : V → V → Hp → VK → Prop := fun o i H Q => ∃ (p : Addr) (xs : List V) (k : Int) (z : V), o = .ref p ∧ i = .int k ∧ SqL K H p xs ∧ 0 ≤ k ∧ xs[k.toNat]? = some z ∧ Q z H
theorem get_listP {K : PySem.W.Frag} (hK : X.K = K) : PGet X (rGetL K) := by
  subst hK
  intro pins s σ H o i ov iv Q I ro ri h
  obtain ⟨p, xs, k, z, rfl, rfl, hq, h0, he, q⟩ := h
  cases ro
  obtain ⟨t, rfl⟩ := ri
  obtain ⟨its, r, pl, hz⟩ := I.list hq
  obtain ⟨w, ew, rw'⟩ := r.get he
  have hlt : k.toNat < its.length := (List.getElem?_eq_some_iff.mp ew).1
  have hn := line63
  have hl := r.length
  exact wpAny_getItem_list pl.isList h0 (by omega) (by simpa using ew) ⟨z, H, I, rw', q⟩
/-- the dict that an expression gives is locked from then on -/
def tLk (td : TE) : TE := fun σ H Q => td σ H fun x H1 => ∃ d kvs, x = .ref d ∧ H1 d = some (.dK kvs) ∧ ∀ od, Q x (upd H1 d (.frz od (.dK kvs)))
theorem pe_lk {e : Expr} {td : TE} (h : PE X e td) : PE X e (tLk td) := by
  refine ⟨fun pins s σ H Q I hw => ?_⟩
  refine thn (h.run pins s σ H _ I hw) fun v s1 ⟨x, H1, I1, r, d, kvs, ex, hd, q⟩ => ?_
  obtain ⟨od, I2⟩ := I1.lock hd trivial
  exact ⟨x, _, I2, r, q od⟩
theorem ixT {K : PySem.W.Frag} (h : X.K = K) : IxR X (rIxT K) := h ▸ ix_tup
theorem dc_it {J : It} {n : Nat} {G : Hp → Prop} {Y : Nat → Hp → V → Hp → Prop} (w : Walk J n G Y) {g : TG} {tt : TT} {tk tv : TE} {vs : List Nat} {σ : L2.St} {H1 : Hp} {D : Addr} {Qd : Hp → Prop} (Pv : Nat → Hp → Prop) (h0 : Pv 0 (upd H1 D (.dK []))) (hG : ∀ i H, i ≤ n → Pv i H → G H)
    (hs : ∀ i x H H', i < n → Pv i H → Y i H x H' → g x (wipe σ vs) H' fun σ2 H2 => wipe σ2 vs = wipe σ vs ∧ tt σ2 H2 fun b H3 =>
      if b = true then tk σ2 H3 fun y H4 => tv σ2 H4 fun z H5 => ∃ kvs k, y = kV k ∧ H5 D = some (.dK kvs) ∧ kvs.length < sizeLine ∧ Pv (i + 1) (upd H5 D (.dK (putK kvs k z))) else Pv (i + 1) H3) (hd : ∀ H, Pv n H → Qd H) :
    ∃ W : Nat → Nat → Hp → Prop, (∃ m, W 0 m (upd H1 D (.dK []))) ∧ ∀ i m H, W i m H →
      (J.stop i H ∧ Qd H) ∨ (J.go i H ∧ ∃ Nx : Hp → Prop, (∀ H', Nx H' → ∃ m', m' < m ∧ W (i + 1) m' H') ∧ ∀ x H', J.yld i H x H' → g x (wipe σ vs) H' fun σ2 H2 => wipe σ2 vs = wipe σ vs ∧ tt σ2 H2 fun b H3 =>
        if b = true then tk σ2 H3 fun y H4 => tv σ2 H4 fun z H5 => ∃ kvs k, y = kV k ∧ H5 D = some (.dK kvs) ∧ kvs.length < sizeLine ∧ Nx (upd H5 D (.dK (putK kvs k z))) else Nx H3) := by
  refine ⟨fun i m H => m = n - i ∧ i ≤ n ∧ Pv i H, ⟨n, by simp, Nat.zero_le _, h0⟩, ?_⟩
  rintro i m H ⟨rfl, hi, p⟩
  have q := hG i H hi p
  by_cases hlt : i < n
  · exact .inr ⟨w.goes i H hlt q, Pv (i + 1), fun H' p' => ⟨n - (i + 1), by omega, rfl, hlt, p'⟩, fun x H' y => hs i x H H' hlt p (w.yields i H x H' hlt q y)⟩
  · have e : i = n := by omega
    subst e
    exact .inl ⟨w.stops H q, hd H p⟩
end
/-! ### dicts from divisors to lists -/
inductive Tabl (H : Hp) : List (Key × V) → List Nat → Prop
  | nil : Tabl H [] []
  | cons {d : Nat} {r : Addr} {kvs : List (Key × V)} {ds : List Nat} : H r = some (.lst ((cyc d).map V.int)) → Tabl H kvs ds → Tabl H ((.inl (d : Int), .ref r) :: kvs) (d :: ds)
theorem Tabl.same {H H' : Hp} (s : Same H H') : ∀ {kvs : List (Key × V)} {ds : List Nat}, Tabl H kvs ds → Tabl H' kvs ds
  | _, _, .nil => .nil
  | _, _, .cons h t => .cons (s _ _ h) (t.same s)
theorem Tabl.but {H H' : Hp} {T : Addr} (hT : ∀ xs, H T ≠ some (.lst xs)) (s : But T H H') : ∀ {kvs : List (Key × V)} {ds : List Nat}, Tabl H kvs ds → Tabl H' kvs ds
  | _, _, .nil => .nil
  | _, _, .cons h t => .cons (s _ _ h (fun e => hT _ (by rw [← e]; exact h))) (t.but hT s)
theorem Tabl.len {H : Hp} : ∀ {kvs : List (Key × V)} {ds : List Nat}, Tabl H kvs ds → kvs.length = ds.length
  | _, _, .nil => rfl
  | _, _, .cons _ t => by rw [List.length_cons, List.length_cons, t.len]
theorem Tabl.at {H : Hp} : ∀ {kvs : List (Key × V)} {ds : List Nat} {i : Nat}, Tabl H kvs ds → i < ds.length → ∃ d r, ds[i]? = some d ∧ kvs[i]? = some (.inl (d : Int), .ref r) ∧ H r = some (.lst ((cyc d).map V.int))
  | _, _, i, .nil, h => absurd h (Nat.not_lt_zero _)
  | _, _, 0, .cons h t, _ => ⟨_, _, rfl, rfl, h⟩
  | _, _, i + 1, .cons h t, l => t.at (i := i) (Nat.lt_of_succ_lt_succ l)
theorem Tabl.snoc {H : Hp} {d : Nat} {r : Addr} (h : H r = some (.lst ((cyc d).map V.int))) : ∀ {kvs : List (Key × V)} {ds : List Nat}, Tabl H kvs ds → Tabl H (kvs ++ [(.inl (d : Int), .ref r)]) (ds ++ [d])
  | _, _, .nil => .cons h .nil
  | _, _, .cons h1 t => .cons h1 (t.snoc h)
theorem Tabl.put {H : Hp} {d : Nat} : ∀ {kvs : List (Key × V)} {ds : List Nat}, Tabl H kvs ds → (∀ e ∈ ds, e < d) → (kvs.any fun kv => decide (kv.1 = (.inl (d : Int) : Key))) = false
  | _, _, .nil, _ => rfl
  | _, _, @Tabl.cons _ e r kvs ds _ t, h => by
    rw [List.any_cons, t.put fun x hx => h x (List.mem_cons_of_mem _ hx), Bool.or_false]
    refine decide_eq_false fun z => ?_
    have h1 := h e List.mem_cons_self
    have h2 : (e : Int) = (d : Int) := Sum.inl.inj z
    omega
theorem Tabl.putK {H : Hp} {d : Nat} {v : V} {kvs : List (Key × V)} {ds : List Nat} (t : Tabl H kvs ds) (h : ∀ e ∈ ds, e < d) : putK kvs (.inl (d : Int)) v = kvs ++ [(.inl (d : Int), v)] := by
  unfold L2.putK
  rw [if_neg (by rw [t.put h]; exact Bool.false_ne_true)]
theorem eqv_dI0 (a : List Int) : PyData.eqv (dI a) (dI []) = a.isEmpty := by cases a <;> rfl
end Sd

namespace Sd
open PySem PySem.Spec PyProof.Rows L2

/-! ### things without dicts within, beside a tank -/
def NDk : PyData → Prop
  | .list ds => PyData.hasDictAll ds = false ∧ PyData.canLayAll0 ds = true
  | _ => True
def E9 (t : Addr) (H : Hp) (v : V) : Prop := ∃ d, Dq (mask t H) v d ∧ d.showable = true ∧ d.depth ≤ 1 ∧ d.shown.length ≤ 1100 ∧ d.hasDict = false ∧ d.canLay0 = true
def T9 (t : Addr) (H : Hp) (v : V) : Prop := ∃ d, Dq (mask t H) v d ∧ d.showable = true ∧ d.depth ≤ 3 ∧ d.shown.length ≤ 300000 ∧ NDk d
theorem E9.but {t : Addr} {H H' : Hp} {v : V} (h : E9 t H v) (u : But t H H') : E9 t H' v := let ⟨d, q, r⟩ := h; ⟨d, q.same (mask_but u), r⟩
theorem T9.but {t : Addr} {H H' : Hp} {v : V} (h : T9 t H v) (u : But t H H') : T9 t H' v := let ⟨d, q, r⟩ := h; ⟨d, q.same (mask_but u), r⟩
theorem ndk_of {d : PyData} (h : d.hasDict = false ∧ d.canLay0 = true) : NDk d := by
  cases d <;> first | trivial | (obtain ⟨h1, h2⟩ := h; simp only [PyData.hasDict] at h1; simp only [PyData.canLay0] at h2; exact ⟨h1, h2⟩)
theorem E9.th {t : Addr} {H : Hp} {v : V} (h : E9 t H v) : T9 t H v := let ⟨d, q, r1, r2, r3, r4⟩ := h; ⟨d, q, r1, by omega, by omega, ndk_of r4⟩
theorem e9_non {t : Addr} {H : Hp} : E9 t H .non := ⟨.none, .non, rfl, by decide, by decide +kernel, by decide, by decide⟩
theorem e9_bl {t : Addr} {H : Hp} (b : Bool) : E9 t H (.bl b) := ⟨.bool b, .bl b, by simp only [PyData.showable], by simp only [PyData.depth]; omega, by cases b <;> decide +kernel, by simp only [PyData.hasDict], by simp only [PyData.canLay0]⟩
theorem e9_int {t : Addr} {H : Hp} {i : Int} (h : i.natAbs < 2 ^ 1000) : E9 t H (.int i) := ⟨.int i, .int i, (rp_int h).sh, by simp only [PyData.depth]; omega, by have := shown_int h; omega, by simp only [PyData.hasDict], by simp only [PyData.canLay0]⟩
theorem e9_str0 {t : Addr} {H : Hp} : E9 t H (.str "0") := ⟨.str "0", .str "0", by simp only [PyData.showable], by simp only [PyData.depth]; omega, by decide +kernel, by simp only [PyData.hasDict], by decide +kernel⟩
theorem t9_emp {t : Addr} {H : Hp} {a : Addr} (h : H a = some (.dK [])) (n : a ≠ t) : T9 t H (.ref a) := ⟨.dict [], .emp (by rw [mask_ne n]; exact h), by decide, by decide, by decide +kernel, trivial⟩
theorem e9s {t : Addr} {H : Hp} : ∀ {xs : List V}, (∀ x ∈ xs, E9 t H x) → ∃ ds, DqAll (mask t H) xs ds ∧ PyData.showableAll ds = true ∧ PyData.depthAll ds ≤ 1 ∧ (∀ d ∈ ds, d.shown.length ≤ 1100) ∧ PyData.hasDictAll ds = false ∧ PyData.canLayAll0 ds = true
  | [], _ => ⟨[], .nil, by simp only [PyData.showableAll], by simp only [PyData.depthAll]; omega, fun d hd => (List.not_mem_nil hd).elim, by simp only [PyData.hasDictAll], by simp only [PyData.canLayAll0]⟩
  | x :: xs, h => by
    obtain ⟨d, q, r1, r2, r3, r4, r5⟩ := h x List.mem_cons_self
    obtain ⟨ds, p1, p2, p3, p4, p5, p6⟩ := e9s (xs := xs) fun y hy => h y (List.mem_cons_of_mem _ hy)
    refine ⟨d :: ds, .cons q p1, by simp only [PyData.showableAll, r1, p2, Bool.and_self], by simp only [PyData.depthAll]; omega, fun e he => ?_, by simp only [PyData.hasDictAll, r4, p5, Bool.or_self], by simp only [PyData.canLayAll0, r5, p6, Bool.and_self]⟩
    rcases List.mem_cons.mp he with z | z
    · rw [z]
      exact r3
    · exact p4 e z
theorem t9_list {t : Addr} {H : Hp} {p : Addr} {xs : List V} (h : H p = some (.lst xs)) (n : p ≠ t) (hl : xs.length ≤ 200) (hx : ∀ x ∈ xs, E9 t H x) : T9 t H (.ref p) := by
  obtain ⟨ds, p1, p2, p3, p4, p5⟩ := e9s hx
  have e := p1.length
  refine ⟨.list ds, .lst (by rw [mask_ne n]; exact h) p1, by simp only [PyData.showable, p2], by simp only [PyData.depth]; omega, ?_, p5⟩
  have := shown_list p4
  omega
theorem t9_tuple {t : Addr} {H : Hp} {p : Addr} {xs : List V} (h : H p = some (.tup xs)) (n : p ≠ t) (hl : xs.length ≤ 200) (hx : ∀ x ∈ xs, E9 t H x) : T9 t H (.ref p) := by
  obtain ⟨ds, p1, p2, p3, p4, p5⟩ := e9s hx
  have e := p1.length
  refine ⟨.tuple ds, .tup (by rw [mask_ne n]; exact h) p1, by simp only [PyData.showable, p2], by simp only [PyData.depth]; omega, ?_, trivial⟩
  have := shown_tuple p4
  omega
theorem e9_ints {t : Addr} {H : Hp} {ns : List Int} (h : ∀ n ∈ ns, n.natAbs < 2 ^ 1000) : ∀ x ∈ ns.map V.int, E9 t H x := fun x hx => by
  obtain ⟨m, hm, rfl⟩ := List.mem_map.mp hx
  exact e9_int (h m hm)
theorem t9_ints {t : Addr} {H : Hp} {p : Addr} {ns : List Int} (h : H p = some (.lst (ns.map V.int))) (n : p ≠ t) (hl : ns.length ≤ 200) (hx : ∀ n ∈ ns, n.natAbs < 2 ^ 1000) : T9 t H (.ref p) :=
  t9_list h n (by rw [List.length_map]; exact hl) (e9_ints hx)
theorem t9_rep {t : Addr} {H : Hp} {p : Addr} {k : Nat} {v : Int} (h : H p = some (.lst (List.replicate k [V.int v]).flatten)) (n : p ≠ t) (hl : k ≤ 200) (hv : v.natAbs < 2 ^ 1000) : T9 t H (.ref p) := by
  rw [rep_one] at h
  exact t9_ints h n (by rw [List.length_replicate]; exact hl) fun m hm => by rw [(List.mem_replicate.mp hm).2]; exact hv
theorem rep_any (v : V) : ∀ k : Nat, (List.replicate k [v]).flatten = List.replicate k v
  | 0 => rfl
  | k + 1 => by
    rw [List.replicate_succ, List.replicate_succ, List.flatten_cons, rep_any v k]
    rfl
/-- [ints] -/
theorem t9_one {t : Addr} {H : Hp} {p b : Addr} {ns : List Int} (h : H p = some (.lst [.ref b])) (n : p ≠ t) (hb : H b = some (.lst (ns.map V.int))) (nb : b ≠ t) (hl : ns.length ≤ 40) (hx : ∀ n ∈ ns, n.natAbs < 2 ^ 1000) : T9 t H (.ref p) := by
  obtain ⟨ds, p1, p2, p3, p4, p5, p6⟩ := e9s (t := t) (H := H) (xs := ns.map V.int) fun x hxx => by
    obtain ⟨m, hm, rfl⟩ := List.mem_map.mp hxx
    exact e9_int (hx m hm)
  have e := p1.length
  rw [List.length_map] at e
  have z := shown_list p4
  refine ⟨.list [.list ds], .lst (by rw [mask_ne n]; exact h) (.cons (.lst (by rw [mask_ne nb]; exact hb) p1) .nil), by simp only [PyData.showable, PyData.showableAll, p2, Bool.and_self], by simp only [PyData.depth, PyData.depthAll]; omega, ?_, by show PyData.hasDictAll [.list ds] = false ∧ PyData.canLayAll0 [.list ds] = true; simp only [PyData.hasDictAll, PyData.hasDict, p5, Bool.or_self, PyData.canLayAll0, PyData.canLay0, p6, Bool.and_self, and_self]⟩
  have z2 := shown_list (B := 1102 * 40 + 3) (ds := [.list ds]) fun d hd => by
    rw [List.mem_singleton.mp hd]
    omega
  exact Nat.le_trans z2 (by show (1102 * 40 + 3 + 2) * 1 + 3 ≤ 300000; decide)
/-- [0], (0,) as items -/
theorem e9_list0 {t : Addr} {H : Hp} {p : Addr} (h : H p = some (.lst [.int 0])) (n : p ≠ t) : E9 t H (.ref p) := ⟨.list [.int 0], .lst (by rw [mask_ne n]; exact h) (.cons (.int 0) .nil), by decide, by decide, by decide +kernel, by decide, by decide⟩
theorem e9_tup0 {t : Addr} {H : Hp} {p : Addr} (h : H p = some (.tup [.int 0])) (n : p ≠ t) : E9 t H (.ref p) := ⟨.tuple [.int 0], .tup (by rw [mask_ne n]; exact h) (.cons (.int 0) .nil), by decide, by decide, by decide +kernel, by decide, by decide⟩
/-! ### two that change -/
def But2 (t f : Addr) (H H' : Hp) : Prop := ∀ b o, H b = some o → b ≠ t → b ≠ f → H' b = some o
theorem but2_mask {t f : Addr} {H H' : Hp} (u : But2 t f H H') : But t (mask f H) (mask f H') := fun b o e n => by
  unfold mask at e ⊢
  split at e
  · cases e
  · rename_i nf
    rw [if_neg nf]
    exact u b o e n nf
theorem but_mask {t f : Addr} {H H' : Hp} (u : But t H H') : But t (mask f H) (mask f H') := but2_mask fun b o e n _ => u b o e n
theorem mask_in {t f : Addr} {H H' : Hp} (u : But t H H') (h : H f = none) : But t H (mask f H') := fun b o e n => by
  have : b ≠ f := ne_of_none e h
  rw [mask_ne this]
  exact u b o e n
theorem T9.out {t f : Addr} {H : Hp} {v : V} (h : T9 t (mask f H) v) : T9 t H v := h.but (But.of (mask_same f H))
theorem cut_takeV (xs : List V) (s : Int) (h0 : 0 ≤ s) : cutV xs none (some s) = xs.take s.toNat := by
  obtain ⟨k, rfl⟩ : ∃ k : Nat, s = (k : Int) := ⟨s.toNat, by omega⟩
  unfold cutV
  rw [HT.sIx_none, HT.sIx_nat, Int.toNat_natCast, List.drop_zero, Nat.sub_zero]
  rcases Nat.le_total k xs.length with z | z
  · rw [Nat.min_eq_left z]
  · rw [Nat.min_eq_right z, List.take_of_length_le (Nat.le_refl _), List.take_of_length_le z]
theorem cut_memV {xs : List V} {lo hi : Option Int} {x : V} (h : x ∈ cutV xs lo hi) : x ∈ xs := List.mem_of_mem_drop (List.mem_of_mem_take h)
/-! ### from told data to what is compared -/
mutual
theorem Dq.dp {K : PySem.W.Frag} {H : Hp} : ∀ {v : V} {d : PyData}, Dq H v d → d.hasDict = false → Dp K H v d
  | _, _, .non, _ => .non
  | _, _, .bl b, _ => .bl b
  | _, _, .int i, _ => .int i
  | _, _, .str x, _ => .str x
  | _, _, .lst h1 h2, n => .lst (SqL.of h1) (DqAll.dp h2 (by simp only [PyData.hasDict] at n; exact n))
  | _, _, .tup h1 h2, n => .tup (SqT.of h1) (DqAll.dp h2 (by simp only [PyData.hasDict] at n; exact n))
  | _, _, .emp _, n => by
    simp only [PyData.hasDict] at n
    cases n
theorem DqAll.dp {K : PySem.W.Frag} {H : Hp} : ∀ {vs : List V} {ds : List PyData}, DqAll H vs ds → PyData.hasDictAll ds = false → DpAll K H vs ds
  | _, _, .nil, _ => .nil
  | _, _, .cons h1 h2, n => by
    simp only [PyData.hasDictAll, Bool.or_eq_false_iff] at n
    exact .cons (Dq.dp h1 n.1) (DqAll.dp h2 n.2)
end
theorem eqv_nil (ds : List PyData) : PyData.eqv (.list ds) (.list []) = ds.isEmpty := by cases ds <;> rfl
/-! ### bounds -/
theorem subI_ab {b : Nat} {low : List Int} {f : Int} {s : Nat} (hU : Unt low) (hf : f.natAbs < 2 ^ b) : ∀ (j : Nat) {l : List Int}, Ab b l → Ab (b + 1) (subI low f s j l)
  | 0, l, h => h.mono (Nat.le_succ b)
  | j + 1, l, h => fun n hn => by
    rw [subI] at hn
    rcases List.mem_or_eq_of_mem_set hn with z | z
    · exact subI_ab hU hf j h n z
    · have h1 : ((subI low f s j l).getD (s + j) 0).natAbs < 2 ^ b := by
        rw [List.getD_eq_getElem?_getD, subI_get low f s j l (s + j) (Nat.le_refl _)]
        cases e : l[s + j]? with
        | none => exact Nat.pos_of_ne_zero (by have := Nat.one_le_two_pow (n := b); omega)
        | some x => exact h x (List.mem_of_getElem? e)
      have h2 : (f * low.getD j 0).natAbs < 2 ^ b := by
        rw [List.getD_eq_getElem?_getD]
        cases e : low[j]? with
        | none =>
          show (f * 0).natAbs < 2 ^ b
          rw [Int.mul_zero]
          exact Nat.lt_of_le_of_lt (Nat.zero_le _) hf
        | some x =>
          have hx := hU x (List.mem_of_getElem? e)
          have : x = -1 ∨ x = 0 ∨ x = 1 := by omega
          show (f * x).natAbs < 2 ^ b
          rcases this with rfl | rfl | rfl <;> omega
      rw [Nat.pow_succ]
      omega
theorem divN_ab {low : List Int} (hU : Unt low) : ∀ (k b : Nat) {l : List Int}, Ab b l → Ab (b + k) (divN low k l)
  | 0, _, _, h => h
  | k + 1, b, l, h => by
    rw [divN]
    have hf : (l.getD (low.length - 1 + k) 0).natAbs < 2 ^ b := by
      rw [List.getD_eq_getElem?_getD]
      cases e : l[low.length - 1 + k]? with
      | none => exact Nat.pos_of_ne_zero (by have := Nat.one_le_two_pow (n := b); omega)
      | some x => exact h x (List.mem_of_getElem? e)
    have := divN_ab hU k (b + 1) (subI_ab hU hf (low.length - 1) (s := k) h)
    rw [show b + (k + 1) = b + 1 + k by omega]
    exact this
theorem quo_ab {low l : List Int} (hU : Unt low) {b : Nat} (h : Ab b l) : Ab (b + l.length) (quo low l) := fun n hn => by
  have := divN_ab hU (l.length - (low.length - 1)) b h n (List.mem_of_mem_drop hn)
  exact Nat.lt_of_lt_of_le this (pow_up (by omega))
theorem divs_few : ∀ n, n < 41 → (divs n n).length ≤ 9 := by decide +kernel
theorem foldq_ab {n : Nat} : ∀ (ds : List Nat) (a : List Int) (b : Nat), (∀ d ∈ ds, 1 ≤ d ∧ d ≤ 40) → a.length ≤ n + 1 → Ab b a → Ab (b + (n + 1) * ds.length) (ds.foldl (fun a d => quo (cyc d) a) a)
  | [], a, b, _, _, h => h
  | d :: ds, a, b, hd, hl, h => by
    have h1 := hd d List.mem_cons_self
    rw [List.foldl_cons]
    have h2 := quo_ab (cyc_unt h1.1 h1.2) h
    have := foldq_ab (n := n) ds (quo (cyc d) a) (b + (n + 1)) (fun x hx => hd x (List.mem_cons_of_mem _ hx)) (by rw [quo_len]; omega) (h2.mono (by omega))
    rw [List.length_cons, Nat.mul_succ]
    rw [show b + ((n + 1) * ds.length + (n + 1)) = b + (n + 1) + (n + 1) * ds.length by omega]
    exact this
theorem xn1_ab (n : Nat) : Ab 1 (xn1 n) := fun x hx => by
  unfold xn1 at hx
  rcases List.mem_append.mp hx with h | h
  · rcases List.mem_append.mp h with h | h
    · rw [List.mem_singleton.mp h]
      decide
    · rw [(List.mem_replicate.mp h).2]
      decide
  · rw [List.mem_singleton.mp h]
    decide
theorem hidQ_ab {ns : List Int} (l1 : 1 ≤ ns.length) (h : ns.length ≤ 40) : Ab 400 (hidQ ns) := by
  have h1 := foldq_ab (n := ns.length) (blindL ns) (xn1 ns.length) 1 (fun d hd => by have := blind_mem hd; omega) (by rw [xn1_len l1]; exact Nat.le_refl _) (xn1_ab _)
  have h2 : (blindL ns).length ≤ 9 := Nat.le_trans (List.length_filter_le _ _) (divs_few _ (by omega))
  have h3 : (ns.length + 1) * (blindL ns).length ≤ 41 * 9 := Nat.mul_le_mul (by omega) h2
  exact Ab.mono h1 (by omega)
end Sd

namespace Sd
open PySem PySem.Spec PyProof.Rows L2

/-! ### polynomials that act on sequences -/
abbrev Sq := Int → Int
def act : List Int → Sq → Sq
  | [], _, _ => 0
  | a :: p, s, i => a * s i + act p s (i + 1)
theorem act_congr {s t : Sq} : ∀ {p : List Int} {i i' : Int}, (∀ j : Nat, j < p.length → s (i + j) = t (i' + j)) → act p s i = act p t i'
  | [], _, _, _ => rfl
  | a :: p, i, i', h => by
    have h0 := h 0 (Nat.succ_pos _)
    have e0 : s i = t i' := by
      have : s (i + ((0 : Nat) : Int)) = t (i' + ((0 : Nat) : Int)) := h0
      rw [show i + ((0 : Nat) : Int) = i by omega, show i' + ((0 : Nat) : Int) = i' by omega] at this
      exact this
    have ih := act_congr (s := s) (t := t) (p := p) (i := i + 1) (i' := i' + 1) fun j hj => by
      have := h (j + 1) (Nat.succ_lt_succ hj)
      rw [show i + ((j + 1 : Nat) : Int) = i + 1 + (j : Int) by omega, show i' + ((j + 1 : Nat) : Int) = i' + 1 + (j : Int) by omega] at this
      exact this
    rw [act, act, e0, ih]
theorem act_shift (p : List Int) (s : Sq) (c i : Int) : act p (fun k => s (k + c)) i = act p s (i + c) :=
  act_congr fun j _ => by show s (i + j + c) = s (i + c + j); rw [show i + (j : Int) + c = i + c + j by omega]
theorem act_add : ∀ (p : List Int) (s t : Sq) (i : Int), act p (fun k => s k + t k) i = act p s i + act p t i
  | [], _, _, _ => rfl
  | a :: p, s, t, i => by
    rw [act, act, act, act_add p s t, Int.mul_add]
    omega
theorem act_mul : ∀ (p : List Int) (c : Int) (s : Sq) (i : Int), act p (fun k => c * s k) i = c * act p s i
  | [], c, _, _ => (Int.mul_zero c).symm
  | a :: p, c, s, i => by
    rw [act, act, act_mul p c s, Int.mul_add, ← Int.mul_assoc, ← Int.mul_assoc, Int.mul_comm a c]
theorem act_zero (p : List Int) (i : Int) : act p (fun _ => 0) i = 0 := by
  have := act_mul p 0 (fun _ => 0) i
  exact (by simpa using this)
theorem act_null {p : List Int} {s : Sq} (h : ∀ i, s i = 0) (i : Int) : act p s i = 0 := by
  rw [show s = fun _ => 0 from funext h]
  exact act_zero p i
theorem act_comm : ∀ (p q : List Int) (s : Sq) (i : Int), act p (act q s) i = act q (act p s) i
  | [], q, s, i => by
    have e : act [] s = fun _ => 0 := rfl
    rw [e, act_zero]
    rfl
  | a :: p, q, s, i => by
    have e : act (a :: p) s = fun k => a * s k + act p s (k + 1) := rfl
    rw [e, act_add q (fun k => a * s k) (fun k => act p s (k + 1)), act_mul, act_shift, ← act_comm p q s (i + 1)]
    rfl
theorem act_append : ∀ (p q : List Int) (s : Sq) (i : Int), act (p ++ q) s i = act p s i + act q s (i + p.length)
  | [], q, s, i => by
    show act q s i = 0 + act q s (i + ((0 : Nat) : Int))
    rw [Int.zero_add, show i + ((0 : Nat) : Int) = i by omega]
  | a :: p, q, s, i => by
    rw [List.cons_append, act, act, act_append p q s, List.length_cons, show i + 1 + (p.length : Int) = i + ((p.length + 1 : Nat) : Int) by omega]
    omega
theorem act_zeros (s : Sq) : ∀ (k : Nat) (i : Int), act (List.replicate k 0) s i = 0
  | 0, _ => rfl
  | k + 1, i => by
    rw [List.replicate_succ, act, act_zeros s k, Int.zero_mul, Int.zero_add]
theorem act_set : ∀ (p : List Int) (m : Nat) (v : Int) (s : Sq) (i : Int), m < p.length → act (p.set m v) s i = act p s i + (v - p.getD m 0) * s (i + m)
  | [], _, _, _, _, h => absurd h (Nat.not_lt_zero _)
  | a :: p, 0, v, s, i, _ => by
    show v * s i + act p s (i + 1) = a * s i + act p s (i + 1) + (v - a) * s (i + ((0 : Nat) : Int))
    rw [show i + ((0 : Nat) : Int) = i by omega, Int.sub_mul]
    omega
  | a :: p, m + 1, v, s, i, h => by
    have ih := act_set p m v s (i + 1) (Nat.lt_of_succ_lt_succ h)
    show a * s i + act (p.set m v) s (i + 1) = a * s i + act p s (i + 1) + (v - p.getD m 0) * s (i + ((m + 1 : Nat) : Int))
    rw [ih, show i + 1 + (m : Int) = i + ((m + 1 : Nat) : Int) by omega]
    omega
/-! ### division -/
theorem subI_take {low : List Int} {f : Int} {s n : Nat} : ∀ (j : Nat) (l : List Int), s + j ≤ n → n ≤ l.length → (subI low f s j l).take n = subI low f s j (l.take n)
  | 0, _, _, _ => rfl
  | j + 1, l, h, hn => by
    rw [subI, subI, List.take_set, subI_take j l (by omega) hn]
    congr 2
    rw [← subI_take j l (by omega) hn, List.getD_eq_getElem?_getD, List.getD_eq_getElem?_getD, List.getElem?_take_of_lt (by omega)]
theorem act_subI {low : List Int} {f : Int} {k : Nat} (s : Sq) (i : Int) : ∀ (j : Nat) (l : List Int), j ≤ low.length → k + j ≤ l.length → act (subI low f k j l) s i = act l s i - f * act (low.take j) s (i + k)
  | 0, l, _, _ => by
    show act l s i = act l s i - f * 0
    rw [Int.mul_zero, Int.sub_zero]
  | j + 1, l, h, hl => by
    obtain ⟨c, hc⟩ : ∃ c, low[j]? = some c := ⟨_, List.getElem?_eq_getElem (by omega)⟩
    rw [subI, act_set _ _ _ _ _ (by rw [subI_len]; omega), act_subI s i j l (by omega) (by omega), List.take_add_one, hc, getD_at hc]
    show _ = act l s i - f * act (low.take j ++ [c]) s (i + k)
    rw [act_append, List.length_take, show min j low.length = j by omega]
    show _ = act l s i - f * (act (low.take j) s (i + k) + (c * s (i + k + j) + 0))
    rw [show i + (k : Int) + (j : Int) = i + ((k + j : Nat) : Int) by omega, Int.mul_add, Int.add_zero, ← Int.mul_assoc]
    have : ((subI low f k j l).getD (k + j) 0 - f * c - (subI low f k j l).getD (k + j) 0) * s (i + ((k + j : Nat) : Int)) = -(f * c * s (i + ((k + j : Nat) : Int))) := by
      rw [show (subI low f k j l).getD (k + j) 0 - f * c - (subI low f k j l).getD (k + j) 0 = -(f * c) by omega, Int.neg_mul]
    rw [this]
    omega
theorem divN_get (low : List Int) : ∀ (k : Nat) (l : List Int) (i : Nat), low.length - 1 + k ≤ i → (divN low k l)[i]? = l[i]?
  | 0, _, _, _ => rfl
  | k + 1, l, i, h => by
    rw [divN, divN_get low k _ i (by omega), subI_get low _ _ _ l i (by omega)]
/-- the highest coefficient is 1 -/
def Mon (low : List Int) : Prop := ∃ p, low = p ++ [1]
theorem Mon.len {low : List Int} (h : Mon low) : low.take (low.length - 1) ++ [1] = low := by
  obtain ⟨p, rfl⟩ := h
  rw [List.length_append]
  show (p ++ [1]).take (p.length + 1 - 1) ++ [1] = p ++ [1]
  rw [Nat.add_sub_cancel, List.take_left]
theorem act_divN {low : List Int} (hM : Mon low) (s : Sq) (i : Int) : ∀ (k : Nat) (l : List Int), low.length - 1 + k ≤ l.length →
    act (l.take (low.length - 1 + k)) s i = act ((divN low k l).take (low.length - 1)) s i + act (((divN low k l).drop (low.length - 1)).take k) (act low s) i
  | 0, l, _ => by
    show act (l.take (low.length - 1)) s i = act (l.take (low.length - 1)) s i + act ((l.drop (low.length - 1)).take 0) (act low s) i
    rw [List.take_zero]
    show _ = _ + 0
    rw [Int.add_zero]
  | k + 1, l, hl => by
    have hl1 : 1 ≤ low.length := by
      obtain ⟨p, rfl⟩ := hM
      rw [List.length_append]
      show 1 ≤ p.length + 1
      omega
    obtain ⟨f, hf⟩ : ∃ f, l[low.length - 1 + k]? = some f := ⟨_, List.getElem?_eq_getElem (by omega)⟩
    have hf' : l.getD (low.length - 1 + k) 0 = f := getD_at hf
    have ih := act_divN hM s i k (subI low f k (low.length - 1) l) (by rw [subI_len]; omega)
    have e1 : l.take (low.length - 1 + (k + 1)) = l.take (low.length - 1 + k) ++ [f] := by
      rw [← Nat.add_assoc, List.take_add_one, hf]
      rfl
    have hlt : (l.take (low.length - 1 + k)).length = low.length - 1 + k := by rw [List.length_take]; omega
    rw [subI_take (n := low.length - 1 + k) _ _ (by omega) (by omega), act_subI s i (low.length - 1) _ (by omega) (by omega)] at ih
    rw [divN, hf']
    have hg : (divN low k (subI low f k (low.length - 1) l))[low.length - 1 + k]? = some f := by
      rw [divN_get low k _ _ (Nat.le_refl _), subI_get low f k _ l _ (by omega)]
      exact hf
    have e2 : ((divN low k (subI low f k (low.length - 1) l)).drop (low.length - 1)).take (k + 1) = ((divN low k (subI low f k (low.length - 1) l)).drop (low.length - 1)).take k ++ [f] := by
      rw [List.take_add_one, List.getElem?_drop, hg]
      rfl
    have hlk : (((divN low k (subI low f k (low.length - 1) l)).drop (low.length - 1)).take k).length = k := by
      rw [List.length_take, List.length_drop, divN_len, subI_len]
      omega
    have em : act low s (i + k) = act (low.take (low.length - 1)) s (i + k) + s (i + k + (low.length - 1 : Nat)) := by
      have := act_append (low.take (low.length - 1)) [1] s (i + k)
      rw [hM.len, List.length_take, show min (low.length - 1) low.length = low.length - 1 by omega] at this
      rw [this]
      show _ + (1 * s _ + 0) = _
      rw [Int.one_mul, Int.add_zero]
    rw [e1, act_append, hlt, e2, act_append, hlk]
    show act (l.take (low.length - 1 + k)) s i + (f * s (i + ((low.length - 1 + k : Nat) : Int)) + 0) = _ + (_ + (f * act low s (i + k) + 0))
    rw [em, Int.mul_add, show i + ((low.length - 1 + k : Nat) : Int) = i + (k : Int) + ((low.length - 1 : Nat) : Int) by omega]
    omega
theorem act_div {low : List Int} (hM : Mon low) (l : List Int) (s : Sq) (i : Int) : act l s i = act (rst low l) s i + act (quo low l) (act low s) i := by
  by_cases c : low.length - 1 ≤ l.length
  · have := act_divN hM s i (l.length - (low.length - 1)) l (by omega)
    rw [List.take_of_length_le (by omega)] at this
    rw [this]
    unfold rst quo divL
    rw [List.take_of_length_le (i := l.length - (low.length - 1)) (by rw [List.length_drop, divN_len]; exact Nat.le_refl _)]
  · unfold rst quo divL
    rw [show l.length - (low.length - 1) = 0 by omega]
    show act l s i = act (l.take (low.length - 1)) s i + act (l.drop (low.length - 1)) (act low s) i
    rw [List.take_of_length_le (by omega), List.drop_of_length_le (by omega)]
    show _ = _ + 0
    rw [Int.add_zero]
theorem act_all0 {p : List Int} (h : (p.all fun x => decide (x = 0)) = true) (s : Sq) (i : Int) : act p s i = 0 := by
  have e : p = List.replicate p.length 0 := List.eq_replicate_iff.mpr ⟨rfl, fun b hb => of_decide_eq_true (List.all_eq_true.mp h b hb)⟩
  rw [e]
  exact act_zeros s _ i
theorem act_exact {low l : List Int} (hM : Mon low) (h : ((rst low l).all fun x => decide (x = 0)) = true) (s : Sq) (i : Int) : act l s i = act (quo low l) (act low s) i := by
  rw [act_div hM, act_all0 h, Int.zero_add]
end Sd

namespace Sd
open PySem PySem.Spec PyProof.Rows L2

/-! ### facts of C(1) to C(40) -/
theorem cyc_mon0 : ∀ p, p < 41 → 1 ≤ p → (cyc p).getLast? = some 1 := by decide +kernel
theorem cyc_mon {p : Nat} (h1 : 1 ≤ p) (h : p ≤ 40) : Mon (cyc p) := by
  have := cyc_mon0 p (by omega) h1
  obtain ⟨q, hq⟩ := List.getLast?_eq_some_iff.mp this
  exact ⟨q, hq⟩
def all0 (l : List Int) : Bool := l.all fun x => decide (x = 0)
theorem cyc_xn0 : ∀ p, p < 41 → 1 ≤ p → all0 (rst (cyc p) (xn1 p)) = true := by decide +kernel
def phi (g : Nat) : Nat → List Int
  | 0 => [1]
  | k + 1 => (1 :: List.replicate (g - 1) 0) ++ phi g k
theorem cyc_phi0 : ∀ d, d < 41 → ∀ g, g < d → 1 ≤ g → d % g = 0 → all0 (rst (cyc d) (phi g (d / g - 1))) = true := by decide +kernel
def chain : List Nat → List Int → Bool
  | [], a => decide (a = [1])
  | d :: ds, a => all0 (rst (cyc d) a) && chain ds (quo (cyc d) a)
theorem chain0 : ∀ n, n < 41 → 1 ≤ n → chain (divs n n) (xn1 n) = true := by decide +kernel
end Sd

namespace Sd
open PySem PySem.Spec PyProof.Rows L2

/-! ### many act one behind the other -/
def acts : List Nat → Sq → Sq
  | [], s => s
  | d :: ds, s => acts ds (act (cyc d) s)
theorem acts_congr {s t : Sq} (h : ∀ i, s i = t i) (ds : List Nat) (i : Int) : acts ds s i = acts ds t i := by rw [show s = t from funext h]
theorem acts_act : ∀ (ds : List Nat) (p : List Int) (s : Sq) (i : Int), acts ds (act p s) i = act p (acts ds s) i
  | [], _, _, _ => rfl
  | d :: ds, p, s, i => by
    rw [acts, acts, acts_congr (t := act p (act (cyc d) s)) (fun k => act_comm (cyc d) p s k), acts_act ds p]
theorem acts_null {s : Sq} (h : ∀ i, s i = 0) : ∀ (ds : List Nat) (i : Int), acts ds s i = 0
  | [], i => h i
  | d :: ds, i => acts_null (s := act (cyc d) s) (act_null h) ds i
theorem acts_filter (p : Nat → Bool) : ∀ (ds : List Nat) (s : Sq) (i : Int), acts ds s i = acts (ds.filter p) (acts (ds.filter fun d => !p d) s) i
  | [], _, _ => rfl
  | d :: ds, s, i => by
    rw [acts, acts_filter p ds, List.filter_cons, List.filter_cons]
    cases h : p d with
    | true =>
      rw [if_pos rfl, if_neg (by decide), acts]
      exact acts_congr (fun k => acts_act _ _ _ _) _ _
    | false =>
      rw [if_neg (by decide), if_pos (by decide), acts]
theorem xn1_act {n : Nat} (h : 1 ≤ n) (s : Sq) (i : Int) : act (xn1 n) s i = s (i + n) - s i := by
  unfold xn1
  rw [act_append, act_append, act_zeros, List.length_append, List.length_replicate]
  show -1 * s i + 0 + 0 + (1 * s (i + ((1 + (n - 1) : Nat) : Int)) + 0) = _
  rw [show ((1 + (n - 1) : Nat) : Int) = (n : Int) by omega, Int.one_mul]
  omega
theorem chain_act : ∀ {ds : List Nat} {a : List Int}, (∀ d ∈ ds, 1 ≤ d ∧ d ≤ 40) → chain ds a = true → ∀ (s : Sq) (i : Int), act a s i = acts ds s i
  | [], a, _, h, s, i => by
    have e : a = [1] := of_decide_eq_true h
    rw [e]
    show 1 * s i + 0 = s i
    omega
  | d :: ds, a, hd, h, s, i => by
    have h' := (Bool.and_eq_true _ _).mp h
    have h1 := hd d List.mem_cons_self
    rw [act_exact (cyc_mon h1.1 h1.2) h'.1, chain_act (fun x hx => hd x (List.mem_cons_of_mem _ hx)) h'.2]
    rfl
theorem all_act {n : Nat} (h1 : 1 ≤ n) (h : n ≤ 40) (s : Sq) (i : Int) : acts (divs n n) s i = s (i + n) - s i := by
  rw [← chain_act (a := xn1 n) (fun d hd => by have := divs_mem.mp hd; omega) (chain0 n (by omega) h1), xn1_act h1]
/-! ### what two different ones both kill is 0 -/
def PerS (w : Sq) (d : Nat) : Prop := ∀ i, w (i + d) = w i
theorem PerS.mul {w : Sq} {d : Nat} (h : PerS w d) : ∀ (k : Nat) (i : Int), w (i + ((k * d : Nat) : Int)) = w i
  | 0, i => by rw [Nat.zero_mul, show i + ((0 : Nat) : Int) = i by omega]
  | k + 1, i => by
    rw [Nat.succ_mul, show i + ((k * d + d : Nat) : Int) = i + ((k * d : Nat) : Int) + (d : Int) by omega, h, h.mul k]
theorem PerS.mod {w : Sq} {d e : Nat} (hd : PerS w d) (he : PerS w e) : PerS w (e % d) := fun i => by
  have h1 := hd.mul (e / d) (i + ((e % d : Nat) : Int))
  have h2 : i + ((e % d : Nat) : Int) + ((e / d * d : Nat) : Int) = i + (e : Int) := by
    have := Nat.mod_add_div e d
    rw [Nat.mul_comm] at this
    omega
  rw [h2, he] at h1
  exact h1.symm
theorem PerS.gcd {w : Sq} (d e : Nat) : PerS w d → PerS w e → PerS w (Nat.gcd d e) := by
  induction d, e using Nat.gcd.induction with
  | H0 e => intro _ he; rw [Nat.gcd_zero_left]; exact he
  | H1 d e _ ih => intro hd he; rw [Nat.gcd_rec]; exact ih (hd.mod he) hd
theorem phi_act {w : Sq} {g : Nat} (h1 : 1 ≤ g) (h : PerS w g) : ∀ (k : Nat) (i : Int), act (phi g k) w i = ((k : Int) + 1) * w i
  | 0, i => by
    show 1 * w i + 0 = ((0 : Nat) + 1 : Int) * w i
    rw [show (((0 : Nat) : Int) + 1) = 1 by omega, Int.add_zero]
  | k + 1, i => by
    rw [phi, act_append, List.length_cons, List.length_replicate, phi_act h1 h k]
    rw [show i + ((g - 1 + 1 : Nat) : Int) = i + (g : Int) by omega, h i]
    show 1 * w i + act (List.replicate (g - 1) 0) w (i + 1) + ((k : Int) + 1) * w i = (((k + 1 : Nat) : Int) + 1) * w i
    rw [act_zeros, show (((k + 1 : Nat) : Int) + 1) = 1 + ((k : Int) + 1) by omega, Int.add_mul 1]
    omega
theorem cyc_per {w : Sq} {d : Nat} (h1 : 1 ≤ d) (h : d ≤ 40) (hw : ∀ i, act (cyc d) w i = 0) : PerS w d := fun i => by
  have e := act_exact (cyc_mon h1 h) (cyc_xn0 d (by omega) h1) w i
  rw [act_null hw, xn1_act h1] at e
  omega
theorem cyc_low {w : Sq} {d g : Nat} (h : d ≤ 40) (hg : g < d) (hg1 : 1 ≤ g) (hz : d % g = 0) (hw : ∀ i, act (cyc d) w i = 0) (hp : PerS w g) (i : Int) : w i = 0 := by
  have e := act_exact (cyc_mon (by omega) h) (cyc_phi0 d (by omega) g hg hg1 hz) w i
  rw [act_null hw, phi_act hg1 hp] at e
  have : 0 < d / g := Nat.div_pos (by omega) hg1
  rcases Int.mul_eq_zero.mp e with z | z
  · omega
  · exact z
theorem two_kill {w : Sq} {d e : Nat} (d1 : 1 ≤ d) (d40 : d ≤ 40) (e1 : 1 ≤ e) (e40 : e ≤ 40) (ne : d ≠ e) (hd : ∀ i, act (cyc d) w i = 0) (he : ∀ i, act (cyc e) w i = 0) (i : Int) : w i = 0 := by
  have hg := PerS.gcd d e (cyc_per d1 d40 hd) (cyc_per e1 e40 he)
  have g1 : 1 ≤ Nat.gcd d e := Nat.gcd_pos_of_pos_left e d1
  have gd := Nat.gcd_dvd_left d e
  have ge := Nat.gcd_dvd_right d e
  by_cases c : Nat.gcd d e < d
  · exact cyc_low d40 c g1 (Nat.mod_eq_zero_of_dvd gd) hd hg i
  · have hd' : Nat.gcd d e = d := Nat.le_antisymm (Nat.le_of_dvd d1 gd) (by omega)
    rw [hd'] at ge hg
    have : d ≤ e := Nat.le_of_dvd e1 ge
    exact cyc_low e40 (by omega) d1 (Nat.mod_eq_zero_of_dvd ge) he hg i
theorem peel {d : Nat} (d1 : 1 ≤ d) (d40 : d ≤ 40) : ∀ {T : List Nat} {w : Sq}, (∀ e ∈ T, e ≠ d ∧ 1 ≤ e ∧ e ≤ 40) → (∀ i, act (cyc d) w i = 0) → (∀ i, acts T w i = 0) → ∀ i, w i = 0
  | [], _, _, _, h, i => h i
  | e :: T, w, ht, hd, h, i => by
    obtain ⟨h1, h2, h3⟩ := ht e List.mem_cons_self
    have hw1 : ∀ k, act (cyc e) w k = 0 := peel d1 d40 (T := T) (w := act (cyc e) w) (fun x hx => ht x (List.mem_cons_of_mem _ hx)) (fun k => by rw [act_comm, act_null hd]) h
    exact two_kill d1 d40 h2 h3 (fun z => h1 z.symm) hd hw1 i
theorem divs_one {n : Nat} : ∀ {k d : Nat}, d ∈ divs n k → (divs n k).filter (fun e => decide (e = d)) = [d]
  | 0, d, h => by
    rw [divs] at h
    exact (List.not_mem_nil h).elim
  | k + 1, d, h => by
    rw [divs] at h ⊢
    by_cases c : n % (k + 1) = 0
    · rw [if_pos c] at h ⊢
      rw [List.filter_append]
      by_cases z : d = k + 1
      · subst z
        have e1 : (divs n k).filter (fun e => decide (e = k + 1)) = [] := List.filter_eq_nil_iff.mpr fun a ha => by
          have := (divs_mem.mp ha).2.1
          intro y
          have := of_decide_eq_true y
          omega
        rw [e1, List.filter_cons, if_pos (decide_eq_true rfl), List.filter_nil, List.nil_append]
      · have hm : d ∈ divs n k := by
          rcases List.mem_append.mp h with y | y
          · exact y
          · exact absurd (List.mem_singleton.mp y) z
        rw [divs_one hm, List.filter_cons, if_neg (by intro y; exact z (of_decide_eq_true y).symm), List.filter_nil, List.append_nil]
    · rw [if_neg c] at h ⊢
      exact divs_one h
/-- each of some kills what the others leave: the rest kill it -/
theorem kill {n : Nat} (n1 : 1 ≤ n) (n40 : n ≤ 40) {u : Sq} (hp : PerS u n) : ∀ (T : List Nat), (∀ d ∈ T, d ∈ divs n n ∧ ∀ i, acts ((divs n n).filter fun e => decide (e ≠ d)) u i = 0) → ∀ i, acts ((divs n n).filter fun e => decide (e ∉ T)) u i = 0
  | [], _, i => by
    have e : (divs n n).filter (fun e => decide (e ∉ ([] : List Nat))) = divs n n := List.filter_eq_self.mpr fun a _ => decide_eq_true (List.not_mem_nil)
    rw [e, all_act n1 n40, hp]
    omega
  | d :: T, h, i => by
    have hT := kill n1 n40 hp T fun x hx => h x (List.mem_cons_of_mem _ hx)
    obtain ⟨hd, hk⟩ := h d List.mem_cons_self
    have hd40 := divs_mem.mp hd
    by_cases c : d ∈ T
    · have e : (divs n n).filter (fun e => decide (e ∉ d :: T)) = (divs n n).filter (fun e => decide (e ∉ T)) := List.filter_congr fun a _ => decide_eq_decide.mpr ⟨fun y z => y (List.mem_cons_of_mem _ z), fun y z => by
        rcases List.mem_cons.mp z with w | w
        · subst w; exact y c
        · exact y w⟩
      rw [e]
      exact hT i
    · refine peel (d := d) hd40.1 (by omega) (T := (divs n n).filter fun e => decide (e ∈ T)) (w := acts ((divs n n).filter fun e => decide (e ∉ d :: T)) u) (fun e he => ?_) (fun k => ?_) (fun k => ?_) i
      · have h1 := List.mem_filter.mp he
        have h2 := of_decide_eq_true h1.2
        have h3 := divs_mem.mp h1.1
        exact ⟨fun z => c (by rw [← z]; exact h2), h3.1, by omega⟩
      · have h1 := acts_filter (fun e => decide (e ≠ d)) ((divs n n).filter fun e => decide (e ∉ T)) u k
        rw [hT k, List.filter_filter, List.filter_filter] at h1
        have e1 : (divs n n).filter (fun a => decide (a ≠ d) && decide (a ∉ T)) = (divs n n).filter fun e => decide (e ∉ d :: T) := List.filter_congr fun a _ => by
          rw [← Bool.decide_and]
          exact decide_eq_decide.mpr ⟨fun y z => by rcases List.mem_cons.mp z with w | w; exact y.1 w; exact y.2 w, fun y => ⟨fun z => y (by rw [z]; exact List.mem_cons_self), fun z => y (List.mem_cons_of_mem _ z)⟩⟩
        have e2 : (divs n n).filter (fun a => (!decide (a ≠ d)) && decide (a ∉ T)) = [d] := by
          rw [← divs_one hd]
          refine List.filter_congr fun a _ => ?_
          by_cases y : a = d
          · subst y
            rw [decide_eq_false (fun z => z rfl), decide_eq_true c, decide_eq_true rfl]
            rfl
          · rw [decide_eq_true y, decide_eq_false y]
            rfl
        rw [e1, e2] at h1
        have h2 : acts ((divs n n).filter fun e => decide (e ∉ d :: T)) (acts [d] u) k = act (cyc d) (acts ((divs n n).filter fun e => decide (e ∉ d :: T)) u) k := acts_act _ _ _ _
        rw [← h2]
        exact h1.symm
      · have h1 := acts_filter (fun e => decide (e ∈ T)) ((divs n n).filter fun e => decide (e ≠ d)) u k
        rw [hk k, List.filter_filter, List.filter_filter] at h1
        have e1 : (divs n n).filter (fun a => decide (a ∈ T) && decide (a ≠ d)) = (divs n n).filter fun e => decide (e ∈ T) := List.filter_congr fun a _ => by
          rw [← Bool.decide_and]
          exact decide_eq_decide.mpr ⟨fun y => y.1, fun y => ⟨y, fun z => c (by rw [← z]; exact y)⟩⟩
        have e2 : (divs n n).filter (fun a => (!decide (a ∈ T)) && decide (a ≠ d)) = (divs n n).filter fun e => decide (e ∉ d :: T) := List.filter_congr fun a _ => by
          rw [← decide_not, ← Bool.decide_and]
          exact decide_eq_decide.mpr ⟨fun y z => by rcases List.mem_cons.mp z with w | w; exact y.2 w; exact y.1 w, fun y => ⟨fun z => y (List.mem_cons_of_mem _ z), fun z => y (by rw [z]; exact List.mem_cons_self)⟩⟩
        rw [e1, e2] at h1
        exact h1.symm
/-! ### the disc as a sequence -/
def dlt (n : Nat) : Sq := fun i => if i % (n : Int) = 0 then 1 else 0
theorem dlt_per {n : Nat} : PerS (dlt n) n := fun i => by
  unfold dlt
  rw [Int.add_emod_right]
theorem act_dlt {n : Nat} (h1 : 1 ≤ n) : ∀ (p : List Int), p.length ≤ n → ∀ i : Int, act p (dlt n) i = p.getD (((-i) % (n : Int)).toNat) 0
  | [], _, i => by
    rw [List.getD_eq_getElem?_getD, List.getElem?_nil]
    rfl
  | a :: p, h, i => by
    rw [List.length_cons] at h
    rw [act, act_dlt h1 p (by omega)]
    have hm := mod_in (i := -i) (show 0 < n by omega)
    have hm2 := mod_in (i := -(i + 1)) (show 0 < n by omega)
    by_cases c : i % (n : Int) = 0
    · have e0 : (-i) % (n : Int) = 0 := Int.emod_eq_zero_of_dvd (Int.dvd_neg.mpr (Int.dvd_of_emod_eq_zero c))
      have e1 : (-(i + 1)) % (n : Int) = n - 1 := by
        have : (-(i + 1)) % (n : Int) = (((-i) % (n : Int)) + ((n : Int) - 1)) % (n : Int) := by
          rw [Int.emod_add_emod, show -i + ((n : Int) - 1) = -(i + 1) + (n : Int) by omega, Int.add_emod_right]
        rw [this, e0, Int.zero_add, Int.emod_eq_of_lt (by omega) (by omega)]
      rw [e0, e1]
      show a * dlt n i + p.getD ((n : Int) - 1).toNat 0 = a
      have e2 : p.getD ((n : Int) - 1).toNat 0 = 0 := by
        rw [List.getD_eq_getElem?_getD, List.getElem?_eq_none (by omega)]
        rfl
      rw [e2]
      unfold dlt
      rw [if_pos c]
      omega
    · have hpos : 0 < (-i) % (n : Int) := by
        rcases Int.lt_or_eq_of_le hm.1 with y | y
        · exact y
        · exact absurd (Int.emod_eq_zero_of_dvd (Int.dvd_neg.mp (Int.dvd_of_emod_eq_zero y.symm))) c
      have e1 : (-(i + 1)) % (n : Int) = (-i) % (n : Int) - 1 := by
        have : (-(i + 1)) % (n : Int) = (((-i) % (n : Int)) - 1) % (n : Int) := by
          rw [Int.emod_sub_emod, show -i - 1 = -(i + 1) by omega]
        rw [this, Int.emod_eq_of_lt (by omega) (by omega)]
      rw [e1]
      have e3 : ((-i) % (n : Int)).toNat = ((-i) % (n : Int) - 1).toNat + 1 := by omega
      rw [e3, List.getD_cons_succ]
      unfold dlt
      rw [if_neg c, Int.mul_zero, Int.zero_add]
/-- all that are not blind kill a disc, counted backwards -/
theorem blind_kill {ns : List Int} (l1 : 1 ≤ ns.length) (l40 : ns.length ≤ 40) (i : Int) : acts ((divs ns.length ns.length).filter fun e => decide (e ∉ blindL ns)) (act ns (dlt ns.length)) i = 0 := by
  refine kill l1 l40 (fun k => ?_) (blindL ns) (fun d hd => ⟨(List.mem_filter.mp hd).1, fun k => ?_⟩) i
  · have := act_shift ns (dlt ns.length) ns.length k
    rw [← this]
    exact act_congr fun j _ => dlt_per _
  · have hm := blind_mem hd
    have hb : blB ns d = true := (List.mem_filter.mp hd).2
    have e1 : act ns (dlt ns.length) = act (quo (cyc d) ns) (act (cyc d) (dlt ns.length)) := funext fun m => act_exact (cyc_mon hm.1 (by omega)) hb _ m
    rw [e1, acts_act]
    refine act_null (fun m => ?_) k
    have h1 := acts_filter (fun e => decide (e ≠ d)) (divs ns.length ns.length) (dlt ns.length) m
    have e2 : (divs ns.length ns.length).filter (fun a => !decide (a ≠ d)) = [d] := by
      rw [← divs_one (List.mem_filter.mp hd).1]
      refine List.filter_congr fun a _ => ?_
      by_cases y : a = d
      · rw [decide_eq_true y, decide_eq_false (fun z => z y)]
        rfl
      · rw [decide_eq_false y, decide_eq_true y]
        rfl
    rw [all_act l1 l40, dlt_per, e2] at h1
    have h2 : acts ((divs ns.length ns.length).filter fun e => decide (e ≠ d)) (acts [d] (dlt ns.length)) m = acts ((divs ns.length ns.length).filter fun e => decide (e ≠ d)) (act (cyc d) (dlt ns.length)) m := rfl
    rw [← h2, ← h1]
    omega
/-! ### products -/
/-- f times q added to l at s, s + 1 .. -/
def addI (q : List Int) (f : Int) (s : Nat) : Nat → List Int → List Int
  | 0, l => l
  | j + 1, l => (addI q f s j l).set (s + j) ((addI q f s j l).getD (s + j) 0 + f * q.getD j 0)
def mulN (p q : List Int) : Nat → List Int
  | 0 => List.replicate (p.length + q.length - 1) 0
  | i + 1 => addI q (p.getD i 0) i q.length (mulN p q i)
def mulL (p q : List Int) : List Int := mulN p q p.length
theorem addI_len (q : List Int) (f : Int) (s : Nat) : ∀ (j : Nat) (l : List Int), (addI q f s j l).length = l.length
  | 0, _ => rfl
  | j + 1, l => by
    rw [addI, List.length_set, addI_len q f s j l]
theorem mulN_len (p q : List Int) : ∀ i, (mulN p q i).length = p.length + q.length - 1
  | 0 => List.length_replicate
  | i + 1 => by rw [mulN, addI_len, mulN_len p q i]
theorem act_addI {q : List Int} {f : Int} {k : Nat} (s : Sq) (i : Int) : ∀ (j : Nat) (l : List Int), j ≤ q.length → k + j ≤ l.length → act (addI q f k j l) s i = act l s i + f * act (q.take j) s (i + k)
  | 0, l, _, _ => by
    show act l s i = act l s i + f * 0
    rw [Int.mul_zero, Int.add_zero]
  | j + 1, l, h, hl => by
    obtain ⟨c, hc⟩ : ∃ c, q[j]? = some c := ⟨_, List.getElem?_eq_getElem (by omega)⟩
    rw [addI, act_set _ _ _ _ _ (by rw [addI_len]; omega), act_addI s i j l (by omega) (by omega), List.take_add_one, hc, getD_at hc]
    show _ = act l s i + f * act (q.take j ++ [c]) s (i + k)
    rw [act_append, List.length_take, show min j q.length = j by omega]
    show _ = act l s i + f * (act (q.take j) s (i + k) + (c * s (i + k + j) + 0))
    rw [show i + (k : Int) + (j : Int) = i + ((k + j : Nat) : Int) by omega, Int.mul_add, Int.add_zero, ← Int.mul_assoc]
    rw [show (addI q f k j l).getD (k + j) 0 + f * c - (addI q f k j l).getD (k + j) 0 = f * c by omega]
    omega
theorem act_mulN (p q : List Int) (hq : 1 ≤ q.length) (s : Sq) (i : Int) : ∀ k, k ≤ p.length → act (mulN p q k) s i = act (p.take k) (act q s) i
  | 0, _ => by
    rw [mulN, act_zeros]
    rfl
  | k + 1, h => by
    obtain ⟨c, hc⟩ : ∃ c, p[k]? = some c := ⟨_, List.getElem?_eq_getElem (by omega)⟩
    rw [mulN, act_addI s i q.length _ (Nat.le_refl _) (by rw [mulN_len]; omega), act_mulN p q hq s i k (by omega), List.take_add_one, hc, getD_at hc, List.take_of_length_le (Nat.le_refl _)]
    show _ = act (p.take k ++ [c]) (act q s) i
    rw [act_append, List.length_take, show min k p.length = k by omega]
    show _ = _ + (c * act q s (i + k) + 0)
    omega
theorem act_mulL (p q : List Int) (hq : 1 ≤ q.length) (s : Sq) (i : Int) : act (mulL p q) s i = act p (act q s) i := by
  unfold mulL
  rw [act_mulN p q hq s i p.length (Nat.le_refl _), List.take_of_length_le (Nat.le_refl _)]
/-- the product of C(d), one behind the other -/
def prodL (ds : List Nat) : List Int := ds.foldl (fun a d => mulL a (cyc d)) [1]
theorem prodL_snoc (ds : List Nat) (d : Nat) : prodL (ds ++ [d]) = mulL (prodL ds) (cyc d) := by
  unfold prodL
  rw [List.foldl_append]
  rfl
theorem fold_act : ∀ (ds : List Nat) (a : List Int), (∀ d ∈ ds, 1 ≤ d ∧ d ≤ 40) → ∀ (s : Sq) (i : Int), act (ds.foldl (fun a d => mulL a (cyc d)) a) s i = act a (acts ds s) i
  | [], _, _, _, _ => rfl
  | d :: ds, a, h, s, i => by
    have h1 := h d List.mem_cons_self
    have hl := (cyc_len h1.1 h1.2).1
    rw [List.foldl_cons, fold_act ds _ (fun x hx => h x (List.mem_cons_of_mem _ hx)), act_mulL _ _ (by omega)]
    refine act_congr fun j _ => ?_
    exact (acts_act ds (cyc d) s _).symm
theorem prodL_act {ds : List Nat} (h : ∀ d ∈ ds, 1 ≤ d ∧ d ≤ 40) (s : Sq) (i : Int) : act (prodL ds) s i = acts ds s i := by
  unfold prodL
  rw [fold_act ds [1] h]
  show 1 * acts ds s i + 0 = _
  omega
end Sd

namespace Sd
open PySem PySem.Spec PyProof.Rows L2

/-! ### bounds of products and rests -/
/-- small enough to be a factor of any number -/
def Sml (l : List Int) : Prop := ∀ x ∈ l, x.natAbs < 2 ^ 62
theorem Unt.sml {l : List Int} (h : Unt l) : Sml l := fun x hx => by
  have := h x hx
  exact Nat.lt_of_lt_of_le (m := 2) (by omega) (by decide)
def Bd (B : Nat) (l : List Int) : Prop := ∀ x ∈ l, x.natAbs ≤ B
theorem addI_get (q : List Int) (f : Int) (s : Nat) : ∀ (j : Nat) (l : List Int) (i : Nat), s + j ≤ i → (addI q f s j l)[i]? = l[i]?
  | 0, _, _, _ => rfl
  | j + 1, l, i, h => by
    rw [addI, List.getElem?_set_ne (by omega)]
    exact addI_get q f s j l i (by omega)
theorem addI_bd {A B : Nat} {q : List Int} {f : Int} {s : Nat} (hU : Unt q) (hf : f.natAbs ≤ B) : ∀ (j : Nat) {l : List Int}, Bd A l → Bd (A + B) (addI q f s j l)
  | 0, l, h => fun x hx => Nat.le_trans (h x hx) (Nat.le_add_right _ _)
  | j + 1, l, h => fun n hn => by
    rw [addI] at hn
    rcases List.mem_or_eq_of_mem_set hn with z | z
    · exact addI_bd hU hf j h n z
    · have h1 : ((addI q f s j l).getD (s + j) 0).natAbs ≤ A := by
        rw [List.getD_eq_getElem?_getD, addI_get q f s j l (s + j) (Nat.le_refl _)]
        cases e : l[s + j]? with
        | none => exact Nat.zero_le _
        | some x => exact h x (List.mem_of_getElem? e)
      have h2 : (f * q.getD j 0).natAbs ≤ B := by
        rw [List.getD_eq_getElem?_getD]
        cases e : q[j]? with
        | none =>
          show (f * 0).natAbs ≤ B
          rw [Int.mul_zero]
          exact Nat.zero_le _
        | some x =>
          have hx := hU x (List.mem_of_getElem? e)
          have : x = -1 ∨ x = 0 ∨ x = 1 := by omega
          show (f * x).natAbs ≤ B
          rcases this with rfl | rfl | rfl <;> omega
      omega
theorem mulN_bd {B : Nat} {p q : List Int} (hU : Unt q) (hp : Bd B p) : ∀ i, Bd (i * B) (mulN p q i)
  | 0 => fun x hx => by
    rw [mulN] at hx
    rw [(List.mem_replicate.mp hx).2]
    exact Nat.zero_le _
  | i + 1 => by
    rw [mulN, Nat.succ_mul]
    refine addI_bd hU ?_ _ (mulN_bd hU hp i)
    rw [List.getD_eq_getElem?_getD]
    cases e : p[i]? with
    | none => exact Nat.zero_le _
    | some x => exact hp x (List.mem_of_getElem? e)
theorem fold_bd : ∀ (ds : List Nat) (a : List Int) (B : Nat), (∀ d ∈ ds, 1 ≤ d ∧ d ≤ 40) → 1 ≤ a.length → a.length + degS ds ≤ 41 → Bd B a → Bd (B * 41 ^ ds.length) (ds.foldl (fun a d => mulL a (cyc d)) a) ∧ (ds.foldl (fun a d => mulL a (cyc d)) a).length = a.length + degS ds
  | [], a, B, _, _, _, h => ⟨by rw [List.length_nil, Nat.pow_zero, Nat.mul_one]; exact h, rfl⟩
  | d :: ds, a, B, hd, ha, hl, h => by
    have h1 := hd d List.mem_cons_self
    have hc := cyc_len h1.1 h1.2
    unfold degS at hl
    rw [List.map_cons, List.sum_cons] at hl
    have hm : (mulL a (cyc d)).length = a.length + ((cyc d).length - 1) := by
      unfold mulL
      rw [mulN_len]
      omega
    have hb : Bd (B * 41) (mulL a (cyc d)) := fun x hx => by
      have := mulN_bd (cyc_unt h1.1 h1.2) h a.length x hx
      exact Nat.le_trans this (by rw [Nat.mul_comm]; exact Nat.mul_le_mul_left _ (by omega))
    obtain ⟨i1, i2⟩ := fold_bd ds (mulL a (cyc d)) (B * 41) (fun x hx => hd x (List.mem_cons_of_mem _ hx)) (by omega) (by rw [hm]; unfold degS; omega) hb
    rw [List.foldl_cons]
    refine ⟨?_, ?_⟩
    · rw [List.length_cons, Nat.pow_succ, Nat.mul_comm (41 ^ ds.length), ← Nat.mul_assoc]
      exact i1
    · rw [i2, hm]
      unfold degS
      rw [List.map_cons, List.sum_cons]
      omega
/-- those that are not blind -/
def seenL (ns : List Int) : List Nat := (divs ns.length ns.length).filter fun e => decide (e ∉ blindL ns)
theorem seen_mem {ns : List Int} {d : Nat} (h : d ∈ seenL ns) : 1 ≤ d ∧ d ≤ ns.length ∧ ns.length % d = 0 := divs_mem.mp (List.mem_filter.mp h).1
theorem seen_deg {ns : List Int} (l1 : 1 ≤ ns.length) (l40 : ns.length ≤ 40) : degS (seenL ns) ≤ ns.length := by
  have := degS_filter (fun e => decide (e ∉ blindL ns)) (divs ns.length ns.length)
  rw [deg_all ns.length (by omega) l1] at this
  exact this
def seenP (ns : List Int) : List Int := prodL (seenL ns)
theorem seenP_len {ns : List Int} (l1 : 1 ≤ ns.length) (l40 : ns.length ≤ 40) : (seenP ns).length = 1 + degS (seenL ns) := by
  have h := seen_deg l1 l40
  exact (fold_bd (seenL ns) [1] 1 (fun d hd => by have := seen_mem hd; omega) (Nat.le_refl _) (by show 1 + _ ≤ 41; omega) (fun x hx => by rw [List.mem_singleton.mp hx]; decide)).2
theorem seenP_sml {ns : List Int} (l1 : 1 ≤ ns.length) (l40 : ns.length ≤ 40) : Sml (seenP ns) := fun x hx => by
  have h := seen_deg l1 l40
  have h1 := (fold_bd (seenL ns) [1] 1 (fun d hd => by have := seen_mem hd; omega) (Nat.le_refl _) (by show 1 + _ ≤ 41; omega) (fun x hx => by rw [List.mem_singleton.mp hx]; decide)).1 x hx
  have h2 : (seenL ns).length ≤ 9 := Nat.le_trans (List.length_filter_le _ _) (divs_few _ (by omega))
  have h3 : 1 * 41 ^ (seenL ns).length ≤ 41 ^ 9 := by rw [Nat.one_mul]; exact Nat.pow_le_pow_right (by decide) h2
  exact Nat.lt_of_le_of_lt (Nat.le_trans h1 h3) (by decide)
theorem fold_mon : ∀ (ds : List Nat) (a : List Int), (∀ d ∈ ds, 1 ≤ d ∧ d ≤ 40) → 1 ≤ a.length → Mon a → Mon (ds.foldl (fun a d => mulL a (cyc d)) a)
  | [], a, _, _, h => h
  | d :: ds, a, hd, ha, h => by
    have h1 := hd d List.mem_cons_self
    have hc := cyc_len h1.1 h1.2
    rw [List.foldl_cons]
    have hm : (mulL a (cyc d)).length = a.length + ((cyc d).length - 1) := by
      unfold mulL
      rw [mulN_len]
      omega
    refine fold_mon ds _ (fun x hx => hd x (List.mem_cons_of_mem _ hx)) (by omega) ?_
    -- the last number of a product
    obtain ⟨p, hp⟩ := h
    obtain ⟨q, hq⟩ := cyc_mon h1.1 h1.2
    have hl : (mulL a (cyc d))[a.length + (cyc d).length - 2]? = some 1 := by
      have hap : a.length = p.length + 1 := by rw [hp, List.length_append]; rfl
      have hcq : (cyc d).length = q.length + 1 := by rw [hq, List.length_append]; rfl
      unfold mulL
      rw [hap, mulN]
      have ea : a.getD p.length 0 = 1 := by
        rw [hp, List.getD_eq_getElem?_getD, List.getElem?_append_right (Nat.le_refl _), Nat.sub_self]
        rfl
      rw [ea, hcq, addI]
      have hidx : p.length + 1 + (q.length + 1) - 2 = p.length + q.length := by omega
      rw [hidx]
      have ec : (cyc d).getD q.length 0 = 1 := by
        rw [hq, List.getD_eq_getElem?_getD, List.getElem?_append_right (Nat.le_refl _), Nat.sub_self]
        rfl
      have e0 : (addI (cyc d) 1 p.length q.length (mulN a (cyc d) p.length)).getD (p.length + q.length) 0 = 0 := by
        rw [List.getD_eq_getElem?_getD, addI_get _ _ _ _ _ _ (Nat.le_refl _), mulN_top (a := a) (c := cyc d) (i := p.length) (k := p.length + q.length) (by omega) (by omega) (by omega)]
        rfl
      rw [List.getElem?_set_self (by rw [addI_len, mulN_len]; omega), e0, ec]
      rfl
    refine ⟨(mulL a (cyc d)).take (a.length + (cyc d).length - 2), ?_⟩
    have h2 : (mulL a (cyc d)).take (a.length + (cyc d).length - 2 + 1) = (mulL a (cyc d)).take (a.length + (cyc d).length - 2) ++ [1] := by
      rw [List.take_add_one, hl]
      rfl
    rw [← h2, List.take_of_length_le (by rw [hm]; omega)]
where
  mulN_top {a c : List Int} (hc : 1 ≤ c.length) : ∀ {i k : Nat}, i + c.length - 1 ≤ k → k < a.length + c.length - 1 → (mulN a c i)[k]? = some 0
    | 0, k, _, hk => by
      rw [mulN, List.getElem?_replicate, if_pos hk]
    | i + 1, k, h, hk => by
      rw [mulN, addI_get _ _ _ _ _ _ (by omega)]
      exact mulN_top hc (by omega) hk

/-! ### the rests, the rows -/
theorem subI_abS {b : Nat} {low : List Int} {f : Int} {s : Nat} (hU : Sml low) (hf : f.natAbs < 2 ^ b) : ∀ (j : Nat) {l : List Int}, Ab b l → Ab (b + 63) (subI low f s j l)
  | 0, l, h => h.mono (Nat.le_add_right _ _)
  | j + 1, l, h => fun n hn => by
    rw [subI] at hn
    rcases List.mem_or_eq_of_mem_set hn with z | z
    · exact subI_abS hU hf j h n z
    · have hp : 0 < 2 ^ b := Nat.two_pow_pos b
      have h1 : ((subI low f s j l).getD (s + j) 0).natAbs < 2 ^ b := by
        rw [List.getD_eq_getElem?_getD, subI_get low f s j l (s + j) (Nat.le_refl _)]
        cases e : l[s + j]? with
        | none => exact hp
        | some x => exact h x (List.mem_of_getElem? e)
      have h2 : (f * low.getD j 0).natAbs < 2 ^ (b + 62) := by
        rw [List.getD_eq_getElem?_getD]
        cases e : low[j]? with
        | none =>
          show (f * 0).natAbs < _
          rw [Int.mul_zero]
          exact Nat.two_pow_pos _
        | some x => exact wide_lt hf (hU x (List.mem_of_getElem? e))
      have h3 : (2 : Nat) ^ b ≤ 2 ^ (b + 62) := pow_up (by omega)
      rw [show b + 63 = (b + 62) + 1 by omega, Nat.pow_succ]
      omega
theorem divN_abS {low : List Int} (hU : Sml low) : ∀ (k b : Nat) {l : List Int}, Ab b l → Ab (b + 63 * k) (divN low k l)
  | 0, _, _, h => h
  | k + 1, b, l, h => by
    rw [divN]
    have hf : (l.getD (low.length - 1 + k) 0).natAbs < 2 ^ b := by
      rw [List.getD_eq_getElem?_getD]
      cases e : l[low.length - 1 + k]? with
      | none => exact Nat.two_pow_pos b
      | some x => exact h x (List.mem_of_getElem? e)
    have := divN_abS hU k (b + 63) (subI_abS hU hf (low.length - 1) (s := k) h)
    rw [show b + 63 * (k + 1) = b + 63 + 63 * k by omega]
    exact this
theorem rst_abS {low l : List Int} (hU : Sml low) {b : Nat} (h : Ab b l) : Ab (b + 63 * l.length) (rst low l) := fun n hn => by
  have := divN_abS hU (l.length - (low.length - 1)) b h n (List.mem_of_mem_take hn)
  exact Nat.lt_of_lt_of_le this (pow_up (by omega))
/-- x ** m -/
def powL (m : Nat) : List Int := List.replicate m 0 ++ [1]
theorem powL_len (m : Nat) : (powL m).length = m + 1 := by
  unfold powL
  rw [List.length_append, List.length_replicate]
  rfl
theorem powL_ab (m : Nat) : Ab 1 (powL m) := fun x hx => by
  unfold powL at hx
  rcases List.mem_append.mp hx with h | h
  · rw [(List.mem_replicate.mp h).2]
    decide
  · rw [List.mem_singleton.mp h]
    decide
theorem powL_act (m : Nat) (s : Sq) (i : Int) : act (powL m) s i = s (i + m) := by
  unfold powL
  rw [act_append, act_zeros, List.length_replicate]
  show 0 + (1 * s (i + m) + 0) = _
  omega
/-- x ** m less its rest -/
def fillL (P : List Int) (n m : Nat) : List Int := (((rst P (powL m)).map fun x => -x) ++ List.replicate (n - (rst P (powL m)).length) 0).set m 1
def stepL (P : List Int) (n p : Nat) : List Int := (fillL P n (n - 1 - p)).reverse
theorem rst_powL {P : List Int} {m : Nat} (h : P.length - 1 ≤ m) : (rst P (powL m)).length = P.length - 1 := by
  rw [rst_len, powL_len]
  omega
theorem fillL_len {P : List Int} {n m : Nat} (h : P.length - 1 ≤ m) (hm : m < n) : (fillL P n m).length = n := by
  unfold fillL
  rw [List.length_set, List.length_append, List.length_map, List.length_replicate, rst_powL h]
  omega
theorem act_neg : ∀ (p : List Int) (s : Sq) (i : Int), act (p.map fun x => -x) s i = -act p s i
  | [], _, _ => rfl
  | a :: p, s, i => by
    rw [List.map_cons, act, act, act_neg p, Int.neg_mul]
    omega
theorem fillL_act {P : List Int} (hM : Mon P) {n m : Nat} (h : P.length - 1 ≤ m) (hm : m < n) (s : Sq) (i : Int) : act (fillL P n m) s i = act (quo P (powL m)) (act P s) i := by
  have hr := rst_powL h
  have e := act_div hM (powL m) s i
  rw [powL_act] at e
  unfold fillL
  rw [act_set _ _ _ _ _ (by rw [List.length_append, List.length_map, List.length_replicate, hr]; omega), act_append, act_neg, act_zeros]
  have e0 : (((rst P (powL m)).map fun x => -x) ++ List.replicate (n - (rst P (powL m)).length) 0).getD m 0 = 0 := by
    rw [List.getD_eq_getElem?_getD, List.getElem?_append_right (by rw [List.length_map, hr]; omega), List.getElem?_replicate]
    split <;> rfl
  rw [e0]
  omega
theorem fillL_ab {P : List Int} (hS : Sml P) {n m : Nat} (hm : m < 40) : Ab 2600 (fillL P n m) := fun x hx => by
  unfold fillL at hx
  rcases List.mem_or_eq_of_mem_set hx with z | z
  · rcases List.mem_append.mp z with h | h
    · obtain ⟨y, hy, rfl⟩ := List.mem_map.mp h
      have h1 := rst_abS hS (powL_ab m) y hy
      rw [powL_len] at h1
      have h2 := Nat.lt_of_lt_of_le h1 (pow_up (a := 1 + 63 * (m + 1)) (b := 2600) (by omega))
      rw [Int.natAbs_neg]
      exact h2
    · rw [(List.mem_replicate.mp h).2]
      exact Nat.two_pow_pos _
  · rw [z]
    exact Nat.lt_of_lt_of_le (m := 2 ^ 1) (by decide) (pow_up (by decide))
theorem prods_act : ∀ (p q : List Int), p.length ≤ q.length → (prods p q).sum = act p (fun i => q.getD i.toNat 0) 0
  | [], q, _ => by
    show (List.zipWith (· * ·) [] q).sum = 0
    rw [List.zipWith_nil_left]
    rfl
  | a :: p, [], h => absurd h (Nat.not_succ_le_zero _)
  | a :: p, b :: q, h => by
    have ih := prods_act p q (Nat.le_of_succ_le_succ h)
    show (List.zipWith (· * ·) (a :: p) (b :: q)).sum = a * b + act p (fun i => (b :: q).getD i.toNat 0) (0 + 1)
    rw [List.zipWith_cons_cons, List.sum_cons]
    show a * b + (prods p q).sum = _
    rw [ih]
    refine congrArg (a * b + ·) (act_congr fun j _ => ?_)
    show q.getD (0 + (j : Int)).toNat 0 = (b :: q).getD (0 + 1 + (j : Int)).toNat 0
    rw [show (0 + 1 + (j : Int)).toNat = (0 + (j : Int)).toNat + 1 by omega, List.getD_cons_succ]
theorem prods_rev {p q : List Int} (h : p.length = q.length) : (prods p.reverse q).sum = (prods p q.reverse).sum := by
  have e : prods p.reverse q = (prods p q.reverse).reverse := by
    unfold prods
    rw [List.reverse_zipWith (by rw [List.length_reverse]; exact h), List.reverse_reverse]
  rw [e, List.sum_reverse]
/-- a row in steps has no light -/
theorem step_dark {ns : List Int} (l1 : 1 ≤ ns.length) (l40 : ns.length ≤ 40) {p : Nat} (hp : p < ns.length - degS (seenL ns)) (t : Int) : lightV ns (stepL (seenP ns) ns.length p) t = 0 := by
  have hd := seen_deg l1 l40
  have hPl := seenP_len l1 l40
  have hM : Mon (seenP ns) := fold_mon (seenL ns) [1] (fun d hd => by have := seen_mem hd; omega) (Nat.le_refl _) ⟨[], rfl⟩
  have hm1 : (seenP ns).length - 1 ≤ ns.length - 1 - p := by omega
  have hm2 : ns.length - 1 - p < ns.length := by omega
  have hfl := fillL_len hm1 hm2
  have hl : (stepL (seenP ns) ns.length p).length = ns.length := by
    unfold stepL
    rw [List.length_reverse, hfl]
  rw [light_swap hl]
  unfold lightV stepL
  rw [prods_rev (by rw [rot_len, hfl]), prods_act _ _ (by rw [List.length_reverse, rot_len, hfl]; exact Nat.le_refl _)]
  have e : act (fillL (seenP ns) ns.length (ns.length - 1 - p)) (fun i => (rot ns (-t)).reverse.getD i.toNat 0) 0 = act (fillL (seenP ns) ns.length (ns.length - 1 - p)) (act ns (dlt ns.length)) (-((ns.length : Int) - 1 + t)) := act_congr fun j hj => by
    rw [hfl] at hj
    show (rot ns (-t)).reverse.getD (0 + (j : Int)).toNat 0 = act ns (dlt ns.length) (-((ns.length : Int) - 1 + t) + (j : Int))
    rw [act_dlt l1 ns (Nat.le_refl _), show (0 + (j : Int)).toNat = j by omega, List.getD_eq_getElem?_getD, List.getElem?_reverse (by rw [rot_len]; exact hj), rot_len, rot_at (by omega)]
    show ns.getD _ 0 = ns.getD _ 0
    rw [show ((ns.length - 1 - j : Nat) : Int) - -t = -(-((ns.length : Int) - 1 + t) + (j : Int)) by omega]
  rw [e, fillL_act hM hm1 hm2]
  refine act_null (fun i => ?_) _
  unfold seenP
  rw [prodL_act (fun d hd => by have := seen_mem hd; omega)]
  exact blind_kill l1 l40 i
end Sd

namespace Sd
open PySem PySem.Spec PyProof.Rows L2

/-! ### lights of sums of rows -/
/-- one row and a multiple of another -/
def linL (t : Int) (a b : List Int) : List Int := List.zipWith (fun x y => x + t * y) a b
theorem linL_len {t : Int} {a b : List Int} (h : a.length = b.length) : (linL t a b).length = a.length := by
  unfold linL
  rw [List.length_zipWith]
  omega
theorem linL_at {t : Int} {a b : List Int} {i : Nat} {x y : Int} (h1 : a[i]? = some x) (h2 : b[i]? = some y) : (linL t a b)[i]? = some (x + t * y) := by
  unfold linL
  rw [List.getElem?_zipWith, h1, h2]
theorem linL_get {t : Int} {a b : List Int} (h : a.length = b.length) {i : Nat} (hi : i < a.length) : (linL t a b).getD i 0 = a.getD i 0 + t * b.getD i 0 :=
  getD_at (linL_at (at_getD hi) (at_getD (by omega)))
theorem linL_ab {t : Int} {a b : List Int} {k j m : Nat} (ha : Ab k a) (hb : Ab j b) (ht : t.natAbs < 2 ^ m) : Ab (k + j + m + 1) (linL t a b) := fun x hx => by
  unfold linL at hx
  obtain ⟨i, hi, e⟩ := List.mem_iff_getElem.mp hx
  rw [List.length_zipWith] at hi
  rw [List.getElem_zipWith] at e
  have h1 := ha _ (List.getElem_mem (show i < a.length by omega))
  have h2 := hb _ (List.getElem_mem (show i < b.length by omega))
  rw [← e]
  have h3 := wide_lt ht h2
  have p1 : (2 : Nat) ^ k ≤ 2 ^ (k + j + m) := pow_up (by omega)
  have p2 : (2 : Nat) ^ (m + j) ≤ 2 ^ (k + j + m) := pow_up (by omega)
  rw [Nat.pow_succ]
  omega
theorem light_act {ns ms : List Int} (hl : ns.length = ms.length) (t : Int) : lightV ns ms t = act ns (fun i => (rot ms t).getD i.toNat 0) 0 := by
  unfold lightV
  exact prods_act ns (rot ms t) (by rw [rot_len]; omega)
theorem light_lin {ns a b : List Int} (ha : ns.length = a.length) (hb : ns.length = b.length) (t u : Int) : lightV ns (linL t a b) u = lightV ns a u + t * lightV ns b u := by
  have hab : a.length = b.length := by omega
  rw [light_act (by rw [linL_len hab]; exact ha), light_act ha, light_act hb, ← act_mul, ← act_add]
  refine act_congr fun j hj => ?_
  show (rot (linL t a b) u).getD (0 + (j : Int)).toNat 0 = (rot a u).getD (0 + (j : Int)).toNat 0 + t * (rot b u).getD (0 + (j : Int)).toNat 0
  rw [show (0 + (j : Int)).toNat = j by omega, rot_get (by rw [linL_len hab]; omega), rot_get (by omega), rot_get (by omega), linL_len hab, ← hab]
  have hm := mod_in (i := (j : Int) - u) (show 0 < a.length by omega)
  exact linL_get hab (by omega)
theorem lights_lin {ns a b : List Int} (ha : ns.length = a.length) (hb : ns.length = b.length) (t : Int) : lightsV ns (linL t a b) = linL t (lightsV ns a) (lightsV ns b) := by
  refine ext_getD (by rw [linL_len (by rw [lightsV_len, lightsV_len]), lightsV_len, lightsV_len]) fun j hj => ?_
  rw [lightsV_len] at hj
  rw [lights_get hj, linL_get (by rw [lightsV_len, lightsV_len]) (by rw [lightsV_len]; exact hj), lights_get hj, lights_get hj]
  exact light_lin ha hb t j
theorem lights_dark {ns a b : List Int} (ha : ns.length = a.length) (hb : ns.length = b.length) (hz : ∀ t, lightV ns b t = 0) (t : Int) : lightsV ns (linL t a b) = lightsV ns a := by
  refine ext_getD (by rw [lightsV_len, lightsV_len]) fun j hj => ?_
  rw [lightsV_len] at hj
  rw [lights_get hj, lights_get hj, light_lin ha hb, hz, Int.mul_zero, Int.add_zero]
theorem act_const : ∀ (p : List Int) (c i : Int), act p (fun _ => c) i = p.sum * c
  | [], c, _ => by
    show 0 = 0 * c
    rw [Int.zero_mul]
  | a :: p, c, i => by
    rw [act, act_const p c, List.sum_cons, Int.add_mul]
theorem light_part {ns ms : List Int} (hl : ns.length = ms.length) : ∀ k : Nat, ((List.range k).map fun (t : Nat) => lightV ns ms (t : Int)).sum = act ns (fun i => ((List.range k).map fun (t : Nat) => (rot ms (t : Int)).getD i.toNat 0).sum) 0
  | 0 => by
    show 0 = act ns (fun _ => 0) 0
    rw [act_zero]
  | k + 1 => by
    rw [List.range_succ, List.map_append, List.sum_append, light_part hl k]
    have e : (fun i : Int => ((List.range k ++ [k]).map fun (t : Nat) => (rot ms (t : Int)).getD i.toNat 0).sum) = fun i => ((List.range k).map fun (t : Nat) => (rot ms (t : Int)).getD i.toNat 0).sum + (rot ms (k : Int)).getD i.toNat 0 := funext fun i => by
      rw [List.map_append, List.sum_append]
      show _ + ((rot ms (k : Int)).getD i.toNat 0 + 0) = _
      rw [Int.add_zero]
    rw [e, act_add, ← light_act hl]
    show _ + (lightV ns ms k + 0) = _
    rw [Int.add_zero]
theorem neg_mod_mod (j t : Int) {n : Int} : -((t - j) % n) % n = (j - t) % n := by
  rw [show j - t = -(t - j) by omega]
  have e : -((t - j) % n) = -(t - j) + n * ((t - j) / n) := by
    rw [Int.emod_def]
    omega
  rw [e, Int.add_mul_emod_self_left]
theorem lights_sum {ns ms : List Int} (hl : ns.length = ms.length) : (lightsV ns ms).sum = ns.sum * ms.sum := by
  unfold lightsV
  rw [light_part hl, ← act_const ns ms.sum 0]
  refine act_congr fun j hj => ?_
  show ((List.range ns.length).map fun (t : Nat) => (rot ms (t : Int)).getD (0 + (j : Int)).toNat 0).sum = ms.sum
  rw [show (0 + (j : Int)).toNat = j by omega]
  have e : ((List.range ns.length).map fun (t : Nat) => (rot ms (t : Int)).getD j 0) = rot (mir ms) (j : Int) := by
    refine ext_getD (by rw [List.length_map, List.length_range, rot_len, mir_len]; exact hl) fun t ht => ?_
    rw [List.length_map, List.length_range] at ht
    rw [List.getD_eq_getElem?_getD, List.getElem?_map, List.getElem?_range ht]
    show (rot ms (t : Int)).getD j 0 = _
    have hm := mod_in (i := (t : Int) - (j : Int)) (show 0 < ms.length by omega)
    rw [rot_get (by omega), rot_get (by rw [mir_len]; omega), mir_len, mir_get (by omega), Int.toNat_of_nonneg hm.1]
    rw [neg_mod_mod j t]
  rw [e, sum_rot, sum_mir]
theorem light_lone {ns : List Int} {s : Nat} (hs : s < ns.length) (t : Int) : lightV ns ((List.replicate ns.length 0).set s 1) t = ns.getD ((((s : Int) + t) % (ns.length : Int)).toNat) 0 := by
  have hl : ns.length = ((List.replicate ns.length (0 : Int)).set s 1).length := by rw [List.length_set, List.length_replicate]
  rw [light_swap hl.symm, light_act hl.symm, act_set _ _ _ _ _ (by rw [List.length_replicate]; exact hs), act_zeros, List.getD_eq_getElem?_getD, List.getElem?_replicate, if_pos hs]
  show 0 + (1 - 0) * (rot ns (-t)).getD (0 + (s : Int)).toNat 0 = _
  rw [show (0 + (s : Int)).toNat = s by omega, rot_get hs, show (s : Int) - -t = s + t by omega]
  omega
theorem lights_lone {ns : List Int} {s : Nat} (hs : s < ns.length) : lightsV ns ((List.replicate ns.length 0).set s 1) = rot ns (0 - (s : Int)) := by
  refine ext_getD (by rw [lightsV_len, rot_len]) fun j hj => ?_
  rw [lightsV_len] at hj
  rw [lights_get hj, light_lone hs, rot_get hj, show (j : Int) - (0 - (s : Int)) = s + j by omega]
end Sd

namespace Sd
open PySem PySem.Spec PyProof.Rows L2

/-! ### a function along the ints, that comes again -/
def seqG (g : Int → Int) (f : Int) (k : Nat) : List Int := (List.range k).map fun (i : Nat) => g (f + (i : Int))
theorem seqG_len (g : Int → Int) (f : Int) (k : Nat) : (seqG g f k).length = k := by
  unfold seqG
  rw [List.length_map, List.length_range]
theorem seqG_at {g : Int → Int} {f : Int} {k i : Nat} (h : i < k) : (seqG g f k)[i]? = some (g (f + (i : Int))) := by
  unfold seqG
  rw [List.getElem?_map, List.getElem?_range h]
  rfl
theorem seqG_add (g : Int → Int) (f : Int) (a b : Nat) : seqG g f (a + b) = seqG g f a ++ seqG g (f + (a : Int)) b := by
  unfold seqG
  rw [List.range_add, List.map_append, List.map_map]
  refine congrArg (_ ++ ·) (List.map_congr_left fun i _ => ?_)
  show g (f + ((a + i : Nat) : Int)) = g (f + (a : Int) + (i : Int))
  rw [Int.natCast_add, Int.add_assoc]
theorem seqG_take {g : Int → Int} {f : Int} {k r : Nat} (h : r ≤ k) : (seqG g f k).take r = seqG g f r := by
  obtain ⟨d, rfl⟩ : ∃ d, k = r + d := ⟨k - r, by omega⟩
  rw [seqG_add, List.take_append_of_le_length (by rw [seqG_len]; omega), List.take_of_length_le (by rw [seqG_len]; omega)]
theorem seqG_drop {g : Int → Int} {f : Int} {k r : Nat} (h : r ≤ k) : (seqG g f k).drop r = seqG g (f + (r : Int)) (k - r) := by
  obtain ⟨d, rfl⟩ : ∃ d, k = r + d := ⟨k - r, by omega⟩
  rw [seqG_add, List.drop_append_of_le_length (by rw [seqG_len]; omega), List.drop_of_length_le (by rw [seqG_len]; omega), List.nil_append, show r + d - r = d by omega]
structure Again (g : Int → Int) (W : Nat) : Prop where
  pos : 0 < W
  per : ∀ t, g (t + (W : Int)) = g t
section
variable {g : Int → Int} {W : Nat}
theorem Again.muls (h : Again g W) (t : Int) : ∀ q : Nat, g (t + (q : Int) * (W : Int)) = g t
  | 0 => by rw [Int.natCast_zero, Int.zero_mul, Int.add_zero]
  | q + 1 => by
    rw [Int.natCast_add, Int.add_mul, ← Int.add_assoc, Int.natCast_one, Int.one_mul, h.per, h.muls t q]
theorem Again.mod (h : Again g W) (t : Int) (h0 : 0 ≤ t) : g (t % (W : Int)) = g t := by
  have e := h.muls (t % (W : Int)) (t / (W : Int)).toNat
  have hp := h.pos
  rw [Int.toNat_of_nonneg (Int.ediv_nonneg h0 (by omega)), Int.mul_comm, Int.emod_add_mul_ediv] at e
  exact e.symm
theorem Again.seq (h : Again g W) (f : Int) (k : Nat) : seqG g (f + (W : Int)) k = seqG g f k := by
  unfold seqG
  refine List.map_congr_left fun i _ => ?_
  rw [show f + (W : Int) + (i : Int) = f + (i : Int) + (W : Int) by omega, h.per]
theorem Again.seqMod (h : Again g W) (f : Int) (h0 : 0 ≤ f) (k : Nat) : seqG g (f % (W : Int)) k = seqG g f k := by
  have hp := h.pos
  have m := Int.emod_nonneg f (show (W : Int) ≠ 0 by omega)
  unfold seqG
  refine List.map_congr_left fun i _ => ?_
  rw [← h.mod (f % (W : Int) + (i : Int)) (by omega), Int.emod_add_emod, h.mod (f + (i : Int)) (by omega)]
theorem Again.round1 (h : Again g W) (f : Int) : (seqG g (f + 1) W).sum = (seqG g f W).sum := by
  have e1 := seqG_add g f 1 W
  have e2 := seqG_add g f W 1
  rw [Nat.add_comm] at e2
  rw [e1] at e2
  have e3 := congrArg List.sum e2
  rw [List.sum_append, List.sum_append] at e3
  have o1 : (seqG g f 1).sum = g f := by
    show g (f + ((0 : Nat) : Int)) + 0 = g f
    rw [Int.natCast_zero, Int.add_zero, Int.add_zero]
  have o2 : (seqG g (f + (W : Int)) 1).sum = g f := by
    rw [h.seq]
    exact o1
  rw [o1, o2] at e3
  have e4 : (seqG g (f + ((1 : Nat) : Int)) W).sum = (seqG g f W).sum := by omega
  exact e4
theorem Again.round (h : Again g W) : ∀ f : Nat, (seqG g (f : Int) W).sum = (seqG g 0 W).sum
  | 0 => rfl
  | f + 1 => by
    rw [← h.round f, ← h.round1 (f : Int)]
    rfl
theorem Again.rounds (h : Again g W) (f : Int) (r : Nat) : ∀ q : Nat, (seqG g f (q * W + r)).sum = (q : Int) * (seqG g f W).sum + (seqG g f r).sum
  | 0 => by rw [Nat.zero_mul, Nat.zero_add, Int.natCast_zero, Int.zero_mul, Int.zero_add]
  | q + 1 => by
    rw [show (q + 1) * W + r = W + (q * W + r) by rw [Nat.succ_mul]; omega, seqG_add, List.sum_append, h.seq, h.rounds f r q, Int.natCast_add, Int.add_mul, Int.natCast_one, Int.one_mul]
    omega
/-- the sum of far as many -/
def farG (g : Int → Int) (W : Nat) (f N : Int) : Int := N / (W : Int) * (seqG g f W).sum + (seqG g f (N % (W : Int)).toNat).sum
theorem Again.far (h : Again g W) (f : Int) {N : Int} (h0 : 0 ≤ N) : farG g W f N = (seqG g f N.toNat).sum := by
  have hp := h.pos
  have q0 := Int.ediv_nonneg h0 (show (0 : Int) ≤ (W : Int) by omega)
  have m0 := Int.emod_nonneg N (show (W : Int) ≠ 0 by omega)
  have e : N.toNat = (N / (W : Int)).toNat * W + (N % (W : Int)).toNat := by
    have z := Int.mul_ediv_add_emod N (W : Int)
    have z2 : (((N / (W : Int)).toNat * W + (N % (W : Int)).toNat : Nat) : Int) = N := by
      rw [Int.natCast_add, Int.natCast_mul, Int.toNat_of_nonneg q0, Int.toNat_of_nonneg m0, Int.mul_comm]
      exact z
    omega
  rw [e, h.rounds, Int.toNat_of_nonneg q0]
  rfl
theorem Again.parts (h : Again g W) (f : Int) {N M : Int} (h0 : 0 ≤ M) (hM : M ≤ N) : farG g W f M + farG g W (f + M) (N - M) = farG g W f N := by
  rw [h.far f h0, h.far (f + M) (by omega), h.far f (by omega)]
  have e := seqG_add g f M.toNat (N - M).toNat
  rw [show M.toNat + (N - M).toNat = N.toNat by omega, Int.toNat_of_nonneg h0] at e
  rw [e, List.sum_append]
end
theorem cut_both {ns : List Int} {lo hi : Nat} (h2 : hi ≤ ns.length) (h : lo ≤ hi) : cutV (ns.map V.int) (some (lo : Int)) (some (hi : Int)) = ((ns.drop lo).take (hi - lo)).map V.int := by
  unfold cutV
  rw [HT.sIx_nat, HT.sIx_nat, List.length_map, Nat.min_eq_left h2, Nat.min_eq_left (show lo ≤ ns.length by omega), List.map_take, List.map_drop]
theorem twice_cut {g : Int → Int} {W : Nat} (h : Again g W) {lo r : Nat} (hr : lo + r ≤ W + W) : (((seqG g 0 W ++ seqG g 0 W).drop lo).take r) = seqG g (lo : Int) r := by
  have e := seqG_add g 0 W W
  rw [h.seq] at e
  rw [← e, seqG_drop (by omega), seqG_take (by omega), Int.zero_add]
theorem cut_twice {g : Int → Int} {W : Nat} (h : Again g W) {lo r : Nat} (hr : lo + r ≤ W + W) : cutV ((seqG g 0 W).map V.int ++ (seqG g 0 W).map V.int) (some (lo : Int)) (some ((lo : Int) + (r : Int))) = (seqG g (lo : Int) r).map V.int := by
  rw [← List.map_append, ← Int.natCast_add, cut_both (by rw [List.length_append, seqG_len]; exact hr) (Nat.le_add_right _ _), Nat.add_sub_cancel_left, twice_cut h hr]
/-- from each f on each value of a round comes within a round -/
theorem Again.comes {g : Int → Int} {W : Nat} (h : Again g W) {f : Int} (h0 : 0 ≤ f) {j : Nat} (hj : j < W) : ∃ i : Nat, i < W ∧ g (f + (i : Int)) = g (j : Int) := by
  have hp := h.pos
  have m0 := Int.emod_nonneg ((j : Int) - f) (show (W : Int) ≠ 0 by omega)
  have m1 := Int.emod_lt_of_pos ((j : Int) - f) (show 0 < (W : Int) by omega)
  refine ⟨(((j : Int) - f) % (W : Int)).toNat, by omega, ?_⟩
  rw [Int.toNat_of_nonneg m0, ← h.mod (f + ((j : Int) - f) % (W : Int)) (by omega), Int.add_emod_emod, show f + ((j : Int) - f) = (j : Int) by omega, h.mod (j : Int) (by omega)]
theorem seqG_mem {g : Int → Int} {f x : Int} {k : Nat} (h : x ∈ seqG g f k) : ∃ j : Nat, j < k ∧ x = g (f + (j : Int)) := by
  unfold seqG at h
  obtain ⟨i, hi, rfl⟩ := List.mem_map.mp h
  exact ⟨i, List.mem_range.mp hi, rfl⟩
/-- the first place from f on with at least m, within k -/
def firstG (g : Int → Int) (m f : Int) (k : Nat) : Option Nat := (List.range k).find? fun (j : Nat) => decide (m ≤ g (f + (j : Int)))
theorem firstG_some {g : Int → Int} {m f : Int} {k i : Nat} : firstG g m f k = some i ↔ i < k ∧ m ≤ g (f + (i : Int)) ∧ ∀ j : Nat, j < i → ¬ m ≤ g (f + (j : Int)) := by
  unfold firstG
  rw [List.find?_range_eq_some]
  constructor
  · rintro ⟨h1, h2, h3⟩
    exact ⟨List.mem_range.mp h2, of_decide_eq_true h1, fun j hj => of_decide_eq_false (by simpa using h3 j hj)⟩
  · rintro ⟨h1, h2, h3⟩
    exact ⟨decide_eq_true h2, List.mem_range.mpr h1, fun j hj => by simpa using h3 j hj⟩
theorem firstG_none {g : Int → Int} {m f : Int} {k : Nat} : firstG g m f k = none ↔ ∀ j : Nat, j < k → ¬ m ≤ g (f + (j : Int)) := by
  unfold firstG
  rw [List.find?_eq_none]
  constructor
  · intro h j hj e
    exact h j (List.mem_range.mpr hj) (decide_eq_true e)
  · intro h j hj e
    exact h j (List.mem_range.mp hj) (of_decide_eq_true e)
theorem Again.first {g : Int → Int} {W : Nat} (h : Again g W) (m f : Int) (k : Nat) : firstG g m (f + (W : Int)) k = firstG g m f k := by
  unfold firstG
  refine congrArg (fun p => List.find? p (List.range k)) (funext fun j => ?_)
  rw [show f + (W : Int) + (j : Int) = f + (j : Int) + (W : Int) by omega, h.per]
def firstV (f : Int) : Option Nat → V
  | some k => .int (f + (k : Int))
  | none => .non

/-! ### two rings -/
def ringAt (ns ms : List Int) (t : Int) : Int := ns.getD ((t % (ns.length : Int)).toNat) 0 * ms.getD ((t % (ms.length : Int)).toNat) 0
def ringW (ns ms : List Int) : Nat := Nat.lcm ns.length ms.length
theorem ringW_pos {ns ms : List Int} (h1 : 1 ≤ ns.length) (h2 : 1 ≤ ms.length) : 0 < ringW ns ms := Nat.lcm_pos (by omega) (by omega)
theorem ringW_le {ns ms : List Int} : ringW ns ms ≤ ns.length * ms.length := by
  unfold ringW Nat.lcm
  exact Nat.div_le_self _ _
theorem mod_again {n W : Nat} (h : n ∣ W) (t : Int) : (t + (W : Int)) % (n : Int) = t % (n : Int) := by
  obtain ⟨c, rfl⟩ := h
  rw [Int.natCast_mul, Int.add_mul_emod_self_left]
theorem ring_again {ns ms : List Int} (h1 : 1 ≤ ns.length) (h2 : 1 ≤ ms.length) : Again (ringAt ns ms) (ringW ns ms) := ⟨ringW_pos h1 h2, fun t => by
  unfold ringAt ringW
  rw [mod_again (Nat.dvd_lcm_left _ _), mod_again (Nat.dvd_lcm_right _ _)]⟩
theorem Rim.getD {ns : List Int} (h : Rim ns) (i : Nat) : 0 ≤ ns.getD i 0 ∧ (ns.getD i 0).natAbs < 2 ^ 100 := by
  by_cases hi : i < ns.length
  · have := h.all _ (List.mem_of_getElem? (at_getD hi))
    have := h.ab _ (List.mem_of_getElem? (at_getD hi))
    exact ⟨by omega, by omega⟩
  · rw [List.getD_eq_getElem?_getD, List.getElem?_eq_none (by omega)]
    exact ⟨by decide, by decide⟩
theorem ringAt_lt {ns ms : List Int} (h1 : Rim ns) (h2 : Rim ms) (t : Int) : 0 ≤ ringAt ns ms t ∧ (ringAt ns ms t).natAbs < 2 ^ 200 := ⟨Int.mul_nonneg (h1.getD _).1 (h2.getD _).1, wide_lt (h1.getD _).2 (h2.getD _).2⟩
theorem ringL_ab {ns ms : List Int} (h1 : Rim ns) (h2 : Rim ms) (f : Int) (k : Nat) : Ab 200 (seqG (ringAt ns ms) f k) := fun n hn => by
  unfold seqG at hn
  obtain ⟨i, _, rfl⟩ := List.mem_map.mp hn
  exact (ringAt_lt h1 h2 _).2
theorem sum_ltk {k j : Nat} {ns : List Int} (h : Ab k ns) (hl : ns.length < 2 ^ j) : ns.sum.natAbs < 2 ^ (k + j) := by
  have h1 := sum_ab h
  rw [Nat.pow_add]
  refine Nat.lt_of_le_of_lt h1 ?_
  rw [Nat.mul_comm]
  exact Nat.mul_lt_mul_of_pos_left hl (Nat.two_pow_pos k)
theorem ring_far_lt {ns ms : List Int} (h1 : Rim ns) (h2 : Rim ms) (f : Int) {N : Int} (h0 : 0 ≤ N) (hN : N.natAbs < 2 ^ 200) : (farG (ringAt ns ms) (ringW ns ms) f N).natAbs < 2 ^ 430 := by
  have hW : ringW ns ms < 2 ^ 12 := by
    have := ringW_le (ns := ns) (ms := ms)
    have a := h1.le
    have b := h2.le
    have := Nat.mul_le_mul a b
    omega
  have p := ringW_pos h1.pos h2.pos
  have m0 := Int.emod_nonneg N (show (ringW ns ms : Int) ≠ 0 by omega)
  have m1 := Int.emod_lt_of_pos N (show 0 < (ringW ns ms : Int) by omega)
  have a1 := sum_ltk (j := 12) (ringL_ab h1 h2 f (ringW ns ms)) (by rw [seqG_len]; exact hW)
  have a2 := sum_ltk (j := 12) (ringL_ab h1 h2 f (N % (ringW ns ms : Int)).toNat) (by rw [seqG_len]; omega)
  have q1 : (N / (ringW ns ms : Int)).natAbs < 2 ^ 200 := by
    have := Int.ediv_le_self (ringW ns ms : Int) h0
    have := Int.ediv_nonneg h0 (show (0 : Int) ≤ (ringW ns ms : Int) by omega)
    omega
  have z := wide_lt q1 a1
  unfold farG
  have y := Int.natAbs_add_le (N / (ringW ns ms : Int) * (seqG (ringAt ns ms) f (ringW ns ms)).sum) (seqG (ringAt ns ms) f (N % (ringW ns ms : Int)).toNat).sum
  have c1 : (2 : Nat) ^ (200 + (200 + 12)) ≤ 2 ^ 429 := pow_up (by decide)
  have c2 : (2 : Nat) ^ (200 + 12) ≤ 2 ^ 429 := pow_up (by decide)
  have c3 : (2 : Nat) ^ 430 = 2 ^ 429 + 2 ^ 429 := by rw [show (430 : Nat) = 429 + 1 from rfl, Nat.pow_succ]; omega
  rw [c3]
  exact Nat.lt_of_le_of_lt y (by omega)

def rLcm : List V → Hp → VK → Prop := fun vs H Q => ∃ a b : Nat, vs = [.int a, .int b] ∧ a ≤ 1000 ∧ b ≤ 1000 ∧ Q (.int ((Nat.lcm a b : Nat) : Int)) H
theorem cr_lcm {X : Cx} : CallR X (.builtin "math.lcm") rLcm := by
  intro pins s σ H vs us Q I r h
  obtain ⟨a, b, rfl, ha, hb, q⟩ := h
  obtain ⟨t, u, rfl⟩ := Vals.int2 r
  have e : (((Nat.lcm 1 (a : Int).natAbs).lcm (b : Int).natAbs : Nat) : Int) = ((Nat.lcm a b : Nat) : Int) := by
    rw [Int.natAbs_natCast, Int.natAbs_natCast, Nat.lcm_one_left]
  have hle : Nat.lcm a b ≤ 1000000 := by
    have h1 : Nat.lcm a b ≤ a * b := by
      unfold Nat.lcm
      exact Nat.div_le_self _ _
    have := Nat.mul_le_mul ha hb
    omega
  refine PySem.W.mg_lcm_v (by rw [Int.natAbs_natCast]; exact Nat.lt_of_le_of_lt ha (by decide)) (by rw [Int.natAbs_natCast]; exact Nat.lt_of_le_of_lt hb (by decide)) e ?_ ⟨.int _, H, I.tok _, ⟨_, rfl⟩, q⟩
  rw [Int.natAbs_natCast]
  have := PySem.Flt.log2_lt_of (n := Nat.lcm a b) (k := 20) (by decide) (Nat.lt_of_le_of_lt hle (by decide))
  exact Nat.lt_trans this (by decide)
end Sd

namespace Sd
open PySem PySem.Spec PyProof.Rows L2

/-! ### dark stretches -/
def maxI (i j : Int) : Int := if j > i then j else i
theorem maxI_le {i j : Int} : i ≤ maxI i j ∧ j ≤ maxI i j := by
  unfold maxI
  split <;> omega
theorem maxI_assoc (i j k : Int) : maxI (maxI i j) k = maxI i (maxI j k) := by
  unfold maxI
  split <;> split <;> (first | omega | (split <;> omega))
theorem maxI_comm (i j : Int) : maxI i j = maxI j i := by
  unfold maxI
  split <;> split <;> omega
theorem maxI_self (i : Int) : maxI i i = i := by
  unfold maxI
  split <;> omega
theorem maxI_of {i j : Int} (h : j ≤ i) : maxI i j = i := by
  unfold maxI
  split <;> omega
def runS (s : Int × Int) (x : Int) : Int × Int := (maxI s.1 (if x = 0 then s.2 + 1 else 0), if x = 0 then s.2 + 1 else 0)
theorem runs_max (m1 : Int) : ∀ (L : List Int) (m2 r : Int), L.foldl runS (maxI m1 m2, r) = (maxI m1 (L.foldl runS (m2, r)).1, (L.foldl runS (m2, r)).2)
  | [], _, _ => rfl
  | x :: L, m2, r => by
    rw [List.foldl_cons, List.foldl_cons]
    have e : runS (maxI m1 m2, r) x = (maxI m1 (runS (m2, r) x).1, (runS (m2, r) x).2) := by
      unfold runS
      rw [maxI_assoc]
    rw [e]
    exact runs_max m1 L (runS (m2, r) x).1 (runS (m2, r) x).2
theorem runs_end : ∀ (L : List Int) (m m' r r' : Int), (∃ x ∈ L, x ≠ 0) → (L.foldl runS (m, r)).2 = (L.foldl runS (m', r')).2
  | [], _, _, _, _, ⟨_, h, _⟩ => (List.not_mem_nil h).elim
  | x :: L, m, m', r, r', ⟨y, hy, hn⟩ => by
    rw [List.foldl_cons, List.foldl_cons]
    by_cases hL : ∃ x ∈ L, x ≠ 0
    · exact runs_end L _ _ _ _ hL
    · have hx : x ≠ 0 := by
        rcases List.mem_cons.mp hy with e | e
        · rw [← e]
          exact hn
        · exact absurd ⟨y, e, hn⟩ hL
      have gen : ∀ (L : List Int) (m m' r : Int), (L.foldl runS (m, r)).2 = (L.foldl runS (m', r)).2 := fun L => by
        induction L with
        | nil => exact fun _ _ _ => rfl
        | cons x L ih => exact fun m m' r => ih _ _ _
      show (L.foldl runS (maxI m (if x = 0 then r + 1 else 0), if x = 0 then r + 1 else 0)).2 = (L.foldl runS (maxI m' (if x = 0 then r' + 1 else 0), if x = 0 then r' + 1 else 0)).2
      rw [if_neg hx, if_neg hx]
      exact gen L _ _ _
/-- the longest dark stretch of two rounds is that of three -/
theorem runs_three {L : List Int} (h : ∃ x ∈ L, x ≠ 0) : ((L ++ L).foldl runS (0, 0)).1 = ((L ++ L ++ L).foldl runS (0, 0)).1 := by
  rw [List.foldl_append, List.foldl_append, List.foldl_append]
  have eA : L.foldl runS (0, 0) = ((L.foldl runS (0, 0)).1, (L.foldl runS (0, 0)).2) := rfl
  generalize (L.foldl runS (0, 0)).1 = m1 at eA
  have e2 := runs_end L m1 0 (L.foldl runS (0, 0)).2 0 h
  generalize et : (L.foldl runS (0, 0)).2 = t at eA e2
  rw [eA]
  have e3 := runs_max m1 L m1 t
  rw [maxI_self] at e3
  have eB : L.foldl runS (m1, t) = ((L.foldl runS (m1, t)).1, t) := Prod.ext rfl e2
  have e4 := congrArg Prod.fst e3
  generalize hm2 : (L.foldl runS (m1, t)).1 = m2 at eB e4
  rw [eB]
  show m2 = (L.foldl runS (m2, t)).1
  have e5 := runs_max m2 L m1 t
  rw [hm2, maxI_self] at e5
  have e6 : maxI m2 m1 = m2 := by
    rw [maxI_comm]
    exact e4.symm
  rw [e6] at e5
  rw [e5]
def stretchV (L : List Int) : V := if (L.all fun x => decide (x = 0)) = true then .non else .int ((L ++ L).foldl runS (0, 0)).1
theorem runs_ab : ∀ (L : List Int) (m r : Int), 0 ≤ m → 0 ≤ r → 0 ≤ (L.foldl runS (m, r)).1 ∧ (L.foldl runS (m, r)).1 ≤ maxI m (r + L.length) ∧ 0 ≤ (L.foldl runS (m, r)).2 ∧ (L.foldl runS (m, r)).2 ≤ r + L.length
  | [], m, r, hm, hr => ⟨hm, maxI_le.1, hr, by rw [List.length_nil]; show r ≤ r + ((0 : Nat) : Int); omega⟩
  | x :: L, m, r, hm, hr => by
    have hx : 0 ≤ (if x = 0 then r + 1 else 0) ∧ (if x = 0 then r + 1 else 0) ≤ r + 1 := by split <;> omega
    have h := runs_ab L (maxI m (if x = 0 then r + 1 else 0)) (if x = 0 then r + 1 else 0) (Int.le_trans hm maxI_le.1) hx.1
    rw [List.foldl_cons, List.length_cons, show runS (m, r) x = (maxI m (if x = 0 then r + 1 else 0), if x = 0 then r + 1 else 0) from rfl]
    generalize (if x = 0 then r + 1 else 0) = z at hx h ⊢
    refine ⟨h.1, Int.le_trans h.2.1 ?_, h.2.2.1, ?_⟩
    · have hz := hx.2
      rw [maxI_assoc]
      unfold maxI
      split <;> split <;> (first | omega | (split <;> omega))
    · have := h.2.2.2
      omega
/-- several rounds, one behind the other -/
theorem seq_rounds {g : Int → Int} {W : Nat} (h : Again g W) : ∀ k : Nat, (List.replicate k (seqG g 0 W)).flatten = seqG g 0 (k * W)
  | 0 => by rw [Nat.zero_mul]; rfl
  | k + 1 => by
    have e := seqG_add g 0 W (k * W)
    rw [h.seq] at e
    rw [List.replicate_succ, List.flatten_cons, seq_rounds h k, show (k + 1) * W = W + k * W by rw [Nat.succ_mul]; omega, e]
theorem seqG_getD {g : Int → Int} {f : Int} {k i : Nat} (h : i < k) : (seqG g f k).getD i 0 = g (f + (i : Int)) := getD_at (seqG_at h)
theorem cut_seq {g : Int → Int} {lo r n : Nat} (hr : lo + r ≤ n) : cutV ((seqG g 0 n).map V.int) (some (lo : Int)) (some ((lo : Int) + (r : Int))) = (seqG g (lo : Int) r).map V.int := by
  rw [← Int.natCast_add, cut_both (by rw [seqG_len]; exact hr) (Nat.le_add_right _ _), Nat.add_sub_cancel_left, seqG_drop (by omega), seqG_take (by omega), Int.zero_add]
theorem max_all {L : List Int} {m : Int} (h0 : ∀ x ∈ L, 0 ≤ x) (h1 : m ∈ L) (h2 : ∀ x ∈ L, x ≤ m) : (m = 0) ↔ (L.all fun x => decide (x = 0)) = true := by
  rw [List.all_eq_true]
  constructor
  · intro e x hx
    exact decide_eq_true (by have := h0 x hx; have := h2 x hx; omega)
  · intro h
    exact of_decide_eq_true (h m h1)
/-! ### all places with at least so much -/
def hitsG (g : Int → Int) (m f : Int) (k : Nat) : List Int := ((List.range k).filter fun (i : Nat) => decide (m ≤ g (f + (i : Int)))).map fun (i : Nat) => f + (i : Int)
theorem hitsG_yes {g : Int → Int} {m f : Int} {k : Nat} (h : m ≤ g (f + (k : Int))) : hitsG g m f (k + 1) = hitsG g m f k ++ [f + (k : Int)] := by
  unfold hitsG
  rw [List.range_succ, List.filter_append, List.map_append]
  have : ([k].filter fun (i : Nat) => decide (m ≤ g (f + (i : Int)))) = [k] := by
    rw [List.filter_cons, if_pos (decide_eq_true h)]
    rfl
  rw [this]
  rfl
theorem hitsG_no {g : Int → Int} {m f : Int} {k : Nat} (h : ¬ m ≤ g (f + (k : Int))) : hitsG g m f (k + 1) = hitsG g m f k := by
  unfold hitsG
  rw [List.range_succ, List.filter_append, List.map_append]
  have : ([k].filter fun (i : Nat) => decide (m ≤ g (f + (i : Int)))) = [] := by
    rw [List.filter_cons, if_neg (fun e => h (of_decide_eq_true e))]
    rfl
  rw [this]
  simp
theorem hitsG_len (g : Int → Int) (m f : Int) (k : Nat) : (hitsG g m f k).length ≤ k := by
  unfold hitsG
  rw [List.length_map]
  refine Nat.le_trans (List.length_filter_le _ _) ?_
  rw [List.length_range]
  exact Nat.le_refl _
theorem hitsG_ab {g : Int → Int} {m f : Int} {k : Nat} (h0 : 0 ≤ f) (h1 : f < 2 ^ 90) (hk : k < 100000) : Ab 100 (hitsG g m f k) := fun n hn => by
  unfold hitsG at hn
  obtain ⟨i, hi, rfl⟩ := List.mem_map.mp hn
  have := List.mem_range.mp (List.mem_filter.mp hi).1
  have e : (2 : Nat) ^ 100 = 1267650600228229401496703205376 := by decide
  rw [e]
  omega
theorem hitsG_head {g : Int → Int} {m f : Int} {k : Nat} : (hitsG g m f k = [] ∧ firstG g m f k = none) ∨ ∃ (j : Nat) (r : List Int), hitsG g m f k = (f + (j : Int)) :: r ∧ firstG g m f k = some j := by
  have e : firstG g m f k = ((List.range k).filter fun (i : Nat) => decide (m ≤ g (f + (i : Int)))).head? := (List.head?_filter).symm
  unfold hitsG
  rw [e]
  cases (List.range k).filter fun (i : Nat) => decide (m ≤ g (f + (i : Int))) with
  | nil => exact .inl ⟨rfl, rfl⟩
  | cons j r => exact .inr ⟨j, _, rfl, rfl⟩
theorem Again.first2 {g : Int → Int} {W : Nat} (h : Again g W) (m f : Int) {k : Nat} (hk : k = 2 * W) : firstG g m f k = firstG g m f W := by
  subst hk
  cases e : firstG g m f W with
  | some j =>
    obtain ⟨h1, h2, h3⟩ := firstG_some.mp e
    exact firstG_some.mpr ⟨by omega, h2, h3⟩
  | none =>
    have hn := firstG_none.mp e
    refine firstG_none.mpr fun j hj => ?_
    rcases Nat.lt_or_ge j W with z | z
    · exact hn j z
    · have := hn (j - W) (by omega)
      rw [← h.per (f + ((j - W : Nat) : Int)), show f + ((j - W : Nat) : Int) + (W : Int) = f + (j : Int) by omega] at this
      exact this
def firstD (f : Int) : Option Nat → PyData
  | some k => .int (f + (k : Int))
  | none => .none
theorem firstD_dp {K : PySem.W.Frag} {H : Hp} (f : Int) : ∀ o : Option Nat, Dp K H (firstV f o) (firstD f o)
  | some _ => .int _
  | none => .non
def stretchD (L : List Int) : PyData := if (L.all fun x => decide (x = 0)) = true then .none else .int ((L ++ L).foldl runS (0, 0)).1
theorem stretchD_dp {K : PySem.W.Frag} {H : Hp} (L : List Int) : Dp K H (stretchV L) (stretchD L) := by
  unfold stretchV stretchD
  split
  · exact .non
  · exact .int _
/-- data that a list of two may hold -/
structure Sdat (d : PyData) : Prop where
  rp : RP d
  dp : d.depth ≤ 1
  le : d.shown.length ≤ 3000
theorem sdat_int {i : Int} {k : Nat} (h : i.natAbs < 2 ^ k) (hk : k ≤ 1000) : Sdat (.int i) := ⟨rp_int (Nat.lt_of_lt_of_le h (pow_up hk)), by simp only [PyData.depth]; omega, Nat.le_trans (shown_int (Nat.lt_of_lt_of_le h (pow_up hk))) (by decide)⟩
theorem sdat_none : Sdat .none := ⟨⟨by simp only [PyData.showable], by simp only [PyData.hasDict], by simp only [PyData.canLay0], by simp only [PyData.depth]; omega⟩, by simp only [PyData.depth]; omega, Nat.le_trans (m := 10) (by decide) (by decide)⟩
theorem sdat_first {f : Int} {o : Option Nat} (h : ∀ k, o = some k → (f + (k : Int)).natAbs < 2 ^ 200) : Sdat (firstD f o) := by
  cases o with
  | none => exact sdat_none
  | some k => exact sdat_int (h k rfl) (by decide)
theorem sdat_stretch {L : List Int} (h : L.length ≤ 2000) : Sdat (stretchD L) := by
  unfold stretchD
  split
  · exact sdat_none
  · have z := runs_ab (L ++ L) 0 0 (by decide) (by decide)
    rw [List.length_append] at z
    refine sdat_int (k := 100) ?_ (by decide)
    have e : (2 : Nat) ^ 100 = 1267650600228229401496703205376 := by decide
    have z2 := z.2.1
    unfold maxI at z2
    rw [e]
    split at z2 <;> omega
theorem sdat_two {a b : PyData} (ha : Sdat a) (hb : Sdat b) : RP (.list [a, b]) ∧ (PyData.list [a, b]).shown.length ≤ sizeLine := by
  refine ⟨((RPs.cons ha.rp ha.dp (RPs.cons hb.rp hb.dp RPs.nil)).list (by omega)).1, ?_⟩
  have h1 := shown_list (B := 3000) (ds := [a, b]) fun d hd => by
    simp only [List.mem_cons, List.not_mem_nil, or_false] at hd
    rcases hd with rfl | rfl
    · exact ha.le
    · exact hb.le
  refine fit_le (Nat.le_trans h1 ?_)
  show (3000 + 2) * 2 + 3 ≤ 16000000
  omega
end Sd

namespace Sd
open PySem PySem.Spec PyProof.Rows L2

/-! ### texts -/
def mkS (l : List Nat) : Str := ⟨l.toArray⟩
theorem tl_mk (l : List Nat) : TL.tl (mkS l) = l := rfl
theorem mk_tl (x : Str) : mkS (TL.tl x) = x := TL.ext_tl rfl
theorem mk_inj {a b : List Nat} : mkS a = mkS b ↔ a = b := ⟨fun e => by
  have := congrArg TL.tl e
  exact this, fun e => by rw [e]⟩
theorem mk_app (a b : List Nat) : mkS a ++ mkS b = mkS (a ++ b) := TL.ext_tl (by rw [TL.tl_append]; rfl)
theorem mk_len (l : List Nat) : (mkS l).length = l.length := by
  rw [TL.len_tl]
  rfl
/-- the signs of an int -/
def intL (n : Int) : List Nat := if n < 0 then 45 :: TL.numL n.natAbs else TL.numL n.natAbs
def intS (n : Int) : Str := mkS (intL n)
theorem tl_ofString (s : String) : TL.tl (Str.ofString s) = s.toList.map Char.toNat := by
  rw [PySem.Str.ofString_eq_toList]
theorem str_int (n : Int) : Str.ofString (toString n) = intS n := by
  refine TL.ext_tl ?_
  rw [show TL.tl (intS n) = intL n from rfl]
  unfold intL
  by_cases h : n < 0
  · rw [if_pos h, PyProof.Rows.toString_neg h, tl_ofString, String.toList_append, List.map_append]
    have e : (0 : Int) - n = ((n.natAbs : Nat) : Int) := by omega
    have t := TL.tl_num n.natAbs
    rw [tl_ofString] at t
    rw [e, t]
    rfl
  · rw [if_neg h]
    have e : n = ((n.natAbs : Nat) : Int) := by omega
    have t := TL.tl_num n.natAbs
    rw [← e] at t
    exact t
theorem numL_head : ∀ n : Nat, 0 < n → (TL.numL n).head? ≠ some 48 := fun n => by
  induction n using Nat.strongRecOn with
  | _ n ih =>
    intro hn
    by_cases h : n < 10
    · rw [TL.numL_lt h]
      intro e
      have := Option.some.inj e
      omega
    · rw [TL.numL_step (by omega)]
      have hp := ih (n / 10) (by omega) (by omega)
      cases e : TL.numL (n / 10) with
      | nil => exact absurd e (TL.numL_ne _)
      | cons c r =>
        rw [e] at hp
        exact hp
theorem intL_pos {n : Int} (h : 0 ≤ n) : intL n = TL.numL n.natAbs := if_neg (by omega)
theorem intL_neg {n : Int} (h : n < 0) : intL n = 45 :: TL.numL n.natAbs := if_pos h
theorem intL_ne (n : Int) : intL n ≠ [] := by
  unfold intL
  split
  · exact fun e => nomatch e
  · exact TL.numL_ne _
theorem intL_free {n : Int} {s : Nat} (h : s < 48 ∨ 57 < s) (h2 : s ≠ 45) : s ∉ intL n := fun hm => by
  unfold intL at hm
  split at hm
  · rcases List.mem_cons.mp hm with e | e
    · exact h2 e
    · exact TL.numL_free h e
  · exact TL.numL_free h hm
theorem intL_len {n : Int} {k : Nat} (hk : 0 < k) (h : n.natAbs < 10 ^ k) : (intL n).length ≤ k + 1 := by
  have := TL.numL_len hk h
  unfold intL
  split
  · rw [List.length_cons]
    omega
  · omega
theorem num_digit {c : Nat} (h0 : 48 ≤ c) (h1 : c ≤ 57) : Unicode.isDigit c = true := by
  have : ∀ d : Nat, d < 10 → Unicode.isDigit (48 + d) = true := by decide +kernel
  have e := this (c - 48) (by omega)
  rw [show 48 + (c - 48) = c by omega] at e
  exact e
theorem all_tl (x : Str) (p : Nat → Bool) : x.cps.all p = (TL.tl x).all p := by
  rw [← Array.all_toList]
theorem dig_isascii (n : Nat) : Txt.isascii (mkS (TL.numL n)) = true := by
  unfold Txt.isascii
  rw [all_tl, List.all_eq_true]
  intro c hc
  have := TL.numL_digits n c hc
  exact decide_eq_true (by omega)
theorem dig_isdigit (n : Nat) : Txt.isdigit (mkS (TL.numL n)) = true := by
  unfold Txt.isdigit
  rw [Bool.and_eq_true]
  refine ⟨decide_eq_true ?_, ?_⟩
  · rw [mk_len]
    exact List.length_pos_iff.mpr (TL.numL_ne n)
  · rw [all_tl, List.all_eq_true]
    intro c hc
    have := TL.numL_digits n c hc
    exact num_digit (by omega) (by omega)
theorem starts_one (l : List Nat) (c : Nat) : Txt.startswith (mkS l) (mkS [c]) = decide (l.head? = some c) := by
  unfold Txt.startswith
  rw [mk_len, mk_len, PySem.StrLaws.subAt_eq, mk_len]
  show (decide (0 + 1 ≤ l.length) && (List.take 1 (l.drop 0) == [c])) = _
  cases l with
  | nil => rfl
  | cons x r =>
    show (decide (0 + 1 ≤ r.length + 1) && ([x] == [c])) = decide (some x = some c)
    rw [decide_eq_true (by omega), Bool.true_and]
    by_cases h : x = c
    · subst h
      rw [decide_eq_true rfl]
      exact beq_self_eq_true _
    · rw [decide_eq_false (fun e => h (Option.some.inj e))]
      exact beq_eq_false_iff_ne.mpr fun e => h (List.cons.inj e).1
theorem int_reads {n : Int} (h : n.natAbs < 10 ^ 600) : PySem.intText? (intS n) = some n := by
  by_cases h0 : n < 0
  · have e := PySem.intText_neg (x := intS n) (cs := TL.numL n.natAbs) (by show intL n = _; exact intL_neg h0) (TL.numL_digits _) (TL.numL_ne _) (by
      rw [TL.len_tl]
      show (intL n).length ≤ 4300
      have := intL_len (by decide) h
      omega)
    rw [e, TL.numL_val]
    exact congrArg some (by omega)
  · have e := PySem.intText_digits (x := intS n) (by show NumText.AllDigits (intL n); rw [intL_pos (by omega)]; exact TL.numL_digits _) (by show intL n ≠ []; exact intL_ne n) (by
      rw [TL.len_tl]
      show (intL n).length ≤ 4300
      have := intL_len (by decide) h
      omega)
    rw [e]
    show some ((NumText.digitsVal (intL n) : Nat) : Int) = some n
    rw [intL_pos (by omega), TL.numL_val]
    exact congrArg some (by omega)
/-- words joined by a sign -/
def spS : Str := mkS [32]
def wordsS (ws : List (List Nat)) : Str := Txt.join spS (ws.map mkS)
theorem tl_words (ws : List (List Nat)) : TL.tl (wordsS ws) = TL.joinL [32] ws := by
  unfold wordsS
  rw [TL.join_eq, TL.tl_join, List.map_map]
  have e : ws.map (TL.tl ∘ mkS) = ws := by
    conv => rhs; rw [← List.map_id ws]
    exact List.map_congr_left fun _ _ => rfl
  rw [e]
  rfl
theorem words_split {ws : List (List Nat)} (hne : ws ≠ []) (hf : ∀ w ∈ ws, 32 ∉ w) : Txt.split (wordsS ws) spS = ws.map mkS :=
  TL.split_join (s := 32) (S := []) rfl (by decide +kernel) (fun e => hne (List.map_eq_nil_iff.mp e)) fun p hp => by
    obtain ⟨w, hw, rfl⟩ := List.mem_map.mp hp
    exact hf w hw
theorem joinL_len {k : Nat} : ∀ {ws : List (List Nat)}, (∀ w ∈ ws, w.length ≤ k) → (TL.joinL [32] ws).length ≤ (k + 1) * ws.length
  | [], _ => Nat.zero_le _
  | [p], h => by
    show p.length ≤ (k + 1) * 1
    have := h p (List.mem_singleton.mpr rfl)
    omega
  | p :: q :: r, h => by
    show (p ++ ([32] ++ TL.joinL [32] (q :: r))).length ≤ (k + 1) * ((q :: r).length + 1)
    have h1 := h p List.mem_cons_self
    have h2 := joinL_len (ws := q :: r) fun w hw => h w (List.mem_cons_of_mem _ hw)
    rw [List.length_append, List.length_append, Nat.mul_add]
    show p.length + (1 + _) ≤ _
    omega
theorem words_len {k : Nat} {ws : List (List Nat)} (h : ∀ w ∈ ws, w.length ≤ k) : (wordsS ws).length ≤ (k + 1) * ws.length := by
  rw [TL.len_tl, tl_words]
  exact joinL_len h
theorem join_fits {k : Nat} {ws : List (List Nat)} (h : ∀ w ∈ ws, w.length ≤ k) (hk : k ≤ 1000) (hn : ws.length ≤ 1000) : ((ws.map mkS).map (·.length)).sum + (ws.map mkS).length * spS.length ≤ 16777216 := by
  have h1 : ((ws.map mkS).map (·.length)).sum ≤ k * ws.length := by
    have := sum_bound (B := k) (l := (ws.map mkS).map (·.length)) fun x hx => by
      obtain ⟨y, hy, rfl⟩ := List.mem_map.mp hx
      obtain ⟨w, hw, rfl⟩ := List.mem_map.mp hy
      rw [mk_len]
      exact h w hw
    rw [List.length_map, List.length_map] at this
    exact this
  have h2 : k * ws.length ≤ 1000 * 1000 := Nat.mul_le_mul hk hn
  have h3 : spS.length = 1 := by rw [show spS = mkS [32] from rfl, mk_len]; rfl
  rw [List.length_map, h3]
  omega
/-- looks, as words -/
def lookL (p : Int × Int) : List Nat := intL p.1 ++ (61 :: intL p.2)
theorem look_free (p : Int × Int) : 32 ∉ lookL p := fun h => by
  unfold lookL at h
  rcases List.mem_append.mp h with e | e
  · exact intL_free (.inl (by decide)) (by decide) e
  · rcases List.mem_cons.mp e with e | e
    · exact absurd e (by decide)
    · exact intL_free (.inl (by decide)) (by decide) e
theorem look_cut (p : Int × Int) : Txt.partition (mkS (lookL p)) (mkS [61]) = (intS p.1, mkS [61], intS p.2) := by
  have e : mkS (lookL p) = intS p.1 ++ mkS [61] ++ intS p.2 := by
    unfold intS lookL
    rw [mk_app, mk_app, List.append_assoc]
    rfl
  rw [e]
  exact TL.partition_app (s := 61) (S := []) rfl (show 61 ∉ intL p.1 from intL_free (.inr (by decide)) (by decide))
theorem look_len {p : Int × Int} {k : Nat} (hk : 0 < k) (h1 : p.1.natAbs < 10 ^ k) (h2 : p.2.natAbs < 10 ^ k) : (lookL p).length ≤ 2 * k + 3 := by
  have a := intL_len hk h1
  have b := intL_len hk h2
  unfold lookL
  rw [List.length_append, List.length_cons]
  omega
/-! ### a text, many times -/
theorem op_mulS {X : Cx} : OpR X (binaryOp .Mult) (fun x y H Q => ∃ (a : Str) (n : Int), x = .str a ∧ y = .int n ∧ MulOk a n ∧ Q (.str (Txt.mul a n)) H) := by
  intro pins s σ H x y v u Q I rx ry h
  obtain ⟨a, n, rfl, rfl, hm, q⟩ := h
  obtain ⟨t, rfl⟩ := rx
  obtain ⟨t', rfl⟩ := ry
  exact PySem.SB.mul hm fun t'' k => ⟨.str _, H, I.tok _, ⟨_, rfl⟩, q⟩
/-! ### the written signs -/
theorem cSp : Str.ofString " " = spS := TL.ext_tl (by rw [tl_ofString]; rfl)
theorem cDash : Str.ofString "-" = mkS [45] := TL.ext_tl (by rw [tl_ofString]; rfl)
theorem cZero : Str.ofString "0" = mkS [48] := TL.ext_tl (by rw [tl_ofString]; rfl)
theorem cEq : Str.ofString "=" = mkS [61] := TL.ext_tl (by rw [tl_ofString]; rfl)
theorem cNone : Str.ofString "" = mkS [] := TL.ext_tl (by rw [tl_ofString]; rfl)
theorem join_one (y x : Str) : Txt.join y [x] = x := by
  rw [TL.join_eq]
  rfl
theorem join_none (y : Str) : Txt.join y [] = mkS [] := by
  rw [TL.join_eq]
  rfl
theorem cut_tail (c : Nat) (l : List Nat) : cutS (mkS (c :: l)) (some 1) none = mkS l := by
  unfold cutS
  have e1 : HT.sIx (mkS (c :: l)).length 0 (some 1) = 1 := by
    have := HT.sIx_nat (mkS (c :: l)).length 0 1
    rw [mk_len, List.length_cons] at this ⊢
    rw [show (some (1 : Int)) = some ((1 : Nat) : Int) from rfl, this]
    omega
  rw [e1, HT.sIx_none, mk_len]
  show mkS (((c :: l).drop 1).take ((c :: l).length - 1)) = mkS l
  rw [List.drop_one, List.tail_cons, List.length_cons, Nat.add_sub_cancel, List.take_length]
theorem spl_le {n k : Nat} (h : n ≤ k) (hk : k ≤ 1000000) : n ≤ sizeLine := Nat.le_trans h (Nat.le_trans hk (by decide))
theorem abs10 {n : Int} {k : Nat} (h : n.natAbs < 10 ^ k) (hk : k ≤ 100) : n.natAbs < 2 ^ 1000 := Nat.lt_of_lt_of_le h (Nat.le_trans (Nat.pow_le_pow_right (by decide) hk) (by decide +kernel))
theorem abs_log {n : Int} {k : Nat} (h : n.natAbs < 10 ^ k) (hk : k ≤ 100) : n.natAbs.log2 < 1920 := Nat.lt_trans (PySem.Flt.log2_lt_of (by decide) (abs10 h hk)) (by decide)
/-- pairs of ints, in tuples -/
inductive Prs (H : Hp) : List V → List (Int × Int) → Prop
  | nil : Prs H [] []
  | cons {t : Addr} {p : Int × Int} {vs : List V} {ps : List (Int × Int)} (h : H t = some (.tup [.int p.1, .int p.2])) (r : Prs H vs ps) : Prs H (.ref t :: vs) (p :: ps)
theorem Prs.up {H H1 : Hp} {vs : List V} {ps : List (Int × Int)} (h : Prs H vs ps) (s : Same H H1) : Prs H1 vs ps := by
  induction h with
  | nil => exact .nil
  | cons h _ ih => exact .cons (s _ _ h) ih
theorem Prs.len {H : Hp} {vs : List V} {ps : List (Int × Int)} (h : Prs H vs ps) : vs.length = ps.length := by
  induction h with
  | nil => rfl
  | cons _ _ ih => rw [List.length_cons, List.length_cons, ih]
theorem Prs.at {H : Hp} {vs : List V} {ps : List (Int × Int)} (h : Prs H vs ps) : ∀ {i : Nat} {v : V}, vs[i]? = some v → ∃ t p, v = .ref t ∧ ps[i]? = some p ∧ H t = some (.tup [.int p.1, .int p.2]) := by
  induction h with
  | nil => exact fun e => nomatch e
  | cons h _ ih =>
    intro i v e
    cases i with
    | zero => exact ⟨_, _, (Option.some.inj e).symm, rfl, h⟩
    | succ i => exact ih e
theorem Prs.snoc {H : Hp} {vs : List V} {ps : List (Int × Int)} {t : Addr} {p : Int × Int} (h : Prs H vs ps) (e : H t = some (.tup [.int p.1, .int p.2])) : Prs H (vs ++ [.ref t]) (ps ++ [p]) := by
  induction h with
  | nil => exact .cons e .nil
  | cons h _ ih => exact .cons h ih
def dP (p : Int × Int) : PyData := .tuple [.int p.1, .int p.2]
theorem Prs.dp {K : PySem.W.Frag} {H : Hp} {vs : List V} {ps : List (Int × Int)} (h : Prs H vs ps) : DpAll K H vs (ps.map dP) := by
  induction h with
  | nil => exact .nil
  | cons h _ ih => exact .cons (.tup (SqT.of h) (.cons (.int _) (.cons (.int _) .nil))) ih
/-- f'..', its parts one behind the other -/
def tJoined (ts : List TE) : TE := fun σ H Q => tJs ts Str.empty σ H fun out H1 => Q (.str out) H1
theorem pe_joinedN {X : Cx} {v1 v2 : Expr} {rest : List Expr} {ts : List TE} {pos : Pos} (h : PJ X (v1 :: v2 :: rest) ts) : PE X (.JoinedStr (v1 :: v2 :: rest) pos) (tJoined ts) := pe_joined h
end Sd

namespace Sd
open PySem PySem.Spec PyProof.Rows L2

/-! ### data that repr can show, with bounds -/
structure Dat (k B : Nat) (d : PyData) : Prop where
  rp : RP d
  dp : d.depth ≤ k
  le : d.shown.length ≤ B
theorem Dat.mono {k B k' B' : Nat} {d : PyData} (h : Dat k B d) (hk : k ≤ k') (hB : B ≤ B') : Dat k' B' d := ⟨h.rp, Nat.le_trans h.dp hk, Nat.le_trans h.le hB⟩
theorem Dat.fits {k B : Nat} {d : PyData} (h : Dat k B d) (hB : B ≤ 16000000) : d.shown.length ≤ sizeLine := fit_le (Nat.le_trans h.le hB)
theorem dat_int {i : Int} {k : Nat} (h : i.natAbs < 10 ^ k) (hk : k ≤ 100) : Dat 0 1001 (.int i) := ⟨rp_int (abs10 h hk), by simp only [PyData.depth]; omega, shown_int (abs10 h hk)⟩
theorem dat_str {x : Str} {n : Nat} (h : ∀ c ∈ TL.tl x, c < 128) (hl : x.length ≤ n) : Dat 0 (10 * n + 2) (.str x) := by
  refine ⟨⟨by simp only [PyData.showable], by simp only [PyData.hasDict], ?_, by simp only [PyData.depth]; omega⟩, by simp only [PyData.depth]; omega, ?_⟩
  · simp only [PyData.canLay0]
    unfold PyData.strOk
    rw [all_tl, List.all_eq_true]
    exact fun c hc => decide_eq_true (Nat.lt_of_lt_of_le (h c hc) (by decide))
  simp only [PyData.shown]
  have := PySem.StrLaws.reprText_len x fun c hc => Nat.lt_of_lt_of_le (h c hc) (by decide)
  omega
theorem rps_dat {k B : Nat} : ∀ {ds : List PyData}, (∀ d ∈ ds, Dat k B d) → RPs k ds
  | [], _ => RPs.nil
  | d :: ds, h => RPs.cons (h d List.mem_cons_self).rp (h d List.mem_cons_self).dp (rps_dat fun x hx => h x (List.mem_cons_of_mem _ hx))
theorem dat_list {k B n : Nat} {ds : List PyData} (h : ∀ d ∈ ds, Dat k B d) (hk : k ≤ 30) (hn : ds.length ≤ n) : Dat (k + 1) ((B + 2) * n + 3) (.list ds) := by
  obtain ⟨a, b⟩ := (rps_dat h).list (by omega)
  refine ⟨a, b, ?_⟩
  have := shown_list (B := B) (ds := ds) fun d hd => (h d hd).le
  have := Nat.mul_le_mul_left (B + 2) hn
  omega
theorem dat_tup {k B n : Nat} {ds : List PyData} (h : ∀ d ∈ ds, Dat k B d) (hk : k ≤ 30) (hn : ds.length ≤ n) : Dat (k + 1) ((B + 2) * n + 3) (.tuple ds) := by
  have hs := rps_dat h
  have hd : (PyData.tuple ds).depth ≤ k + 1 := by
    simp only [PyData.depth]
    have := hs.dp
    omega
  refine ⟨⟨?_, ?_, ?_, by omega⟩, hd, ?_⟩
  · simp only [PyData.showable, hs.sh]
  · simp only [PyData.hasDict, hs.nd]
  · simp only [PyData.canLay0, hs.cl]
  · simp only [PyData.shown]
    have h1 := tupleText_len_le (PyData.shownAll ds)
    have h2 : ((PyData.shownAll ds).map (·.length)).sum ≤ B * ds.length := by
      rw [shownAll_map, List.map_map]
      have := sum_bound (B := B) (l := ds.map ((fun x => x.length) ∘ PyData.shown)) fun x hx => by
        obtain ⟨d, hd, rfl⟩ := List.mem_map.mp hx
        exact (h d hd).le
      rw [List.length_map] at this
      exact this
    have h3 : (PyData.shownAll ds).length = ds.length := by rw [shownAll_map, List.length_map]
    rw [h3] at h1
    have h4 := Nat.mul_le_mul_left (B + 2) hn
    have h5 : (B + 2) * ds.length = B * ds.length + 2 * ds.length := Nat.add_mul _ _ _
    omega
theorem dat_ints {ns : List Int} {k n : Nat} (h : ∀ x ∈ ns, x.natAbs < 10 ^ k) (hk : k ≤ 100) (hn : ns.length ≤ n) : Dat 1 (1003 * n + 3) (dI ns) :=
  dat_list (k := 0) (B := 1001) (fun d hd => by
    obtain ⟨x, hx, rfl⟩ := List.mem_map.mp hd
    exact dat_int (h x hx) hk) (by decide) (by rw [List.length_map]; exact hn)
theorem dat_pairs {ps : List (Int × Int)} {k n : Nat} (h : ∀ p ∈ ps, p.1.natAbs < 10 ^ k ∧ p.2.natAbs < 10 ^ k) (hk : k ≤ 100) (hn : ps.length ≤ n) : Dat 2 (2011 * n + 3) (.list (ps.map dP)) :=
  dat_list (k := 1) (B := 2009) (fun d hd => by
    obtain ⟨p, hp, rfl⟩ := List.mem_map.mp hd
    exact dat_tup (k := 0) (B := 1001) (n := 2) (fun d hd => by
      simp only [List.mem_cons, List.not_mem_nil, or_false] at hd
      rcases hd with rfl | rfl
      · exact dat_int (h p hp).1 hk
      · exact dat_int (h p hp).2 hk) (by decide) (Nat.le_refl _)) (by decide) (by rw [List.length_map]; exact hn)
theorem intL_low (n : Int) : ∀ c ∈ intL n, c < 128 := fun c hc => by
  unfold intL at hc
  split at hc
  · rcases List.mem_cons.mp hc with e | e
    · omega
    · have := TL.numL_digits _ c e
      omega
  · have := TL.numL_digits _ c hc
    omega
theorem lookL_low (p : Int × Int) : ∀ c ∈ lookL p, c < 128 := fun c hc => by
  unfold lookL at hc
  rcases List.mem_append.mp hc with e | e
  · exact intL_low _ c e
  · rcases List.mem_cons.mp e with e | e
    · omega
    · exact intL_low _ c e
theorem joinL_low : ∀ {ws : List (List Nat)}, (∀ x ∈ ws, ∀ c ∈ x, c < 128) → ∀ c ∈ TL.joinL [32] ws, c < 128
  | [], _ => fun c hc => (List.not_mem_nil hc).elim
  | [p], h => h p (List.mem_singleton.mpr rfl)
  | p :: q :: r, h => fun c hc => by
    have hc : c ∈ p ++ ([32] ++ TL.joinL [32] (q :: r)) := hc
    rcases List.mem_append.mp hc with e | e
    · exact h p List.mem_cons_self c e
    · rcases List.mem_append.mp e with e | e
      · rw [List.mem_singleton.mp e]
        omega
      · exact joinL_low (fun x hx => h x (List.mem_cons_of_mem _ hx)) c e
theorem dat_words {ws : List (List Nat)} {k n : Nat} (h : ∀ x ∈ ws, x.length ≤ k ∧ ∀ c ∈ x, c < 128) (hn : ws.length ≤ n) : Dat 0 (10 * ((k + 1) * n) + 2) (.str (wordsS ws)) := by
  refine dat_str (fun c hc => ?_) ?_
  · rw [tl_words] at hc
    exact joinL_low (fun x hx => (h x hx).2) c hc
  · exact Nat.le_trans (words_len fun x hx => (h x hx).1) (Nat.mul_le_mul_left _ hn)
theorem dat_row {ns : List Int} {k n : Nat} (hk : 0 < k) (h : ∀ x ∈ ns, x.natAbs < 10 ^ k) (hn : ns.length ≤ n) : Dat 0 (10 * ((k + 1 + 1) * n) + 2) (.str (wordsS (ns.map intL))) :=
  dat_words (fun x hx => by
    obtain ⟨m, hm, rfl⟩ := List.mem_map.mp hx
    exact ⟨intL_len hk (h m hm), intL_low m⟩) (by rw [List.length_map]; exact hn)
theorem dat_looks {ps : List (Int × Int)} {k n : Nat} (hk : 0 < k) (h : ∀ p ∈ ps, p.1.natAbs < 10 ^ k ∧ p.2.natAbs < 10 ^ k) (hn : ps.length ≤ n) : Dat 0 (10 * ((2 * k + 3 + 1) * n) + 2) (.str (wordsS (ps.map lookL))) :=
  dat_words (fun x hx => by
    obtain ⟨p, hp, rfl⟩ := List.mem_map.mp hx
    exact ⟨look_len hk (h p hp).1 (h p hp).2, lookL_low p⟩) (by rw [List.length_map]; exact hn)
end Sd

namespace Sd
open PySem PySem.Spec PyProof.Rows L2
section
variable {P : Program} {w : World} {A : Around} {E : Value → Shared → Prop} {s : Shared}
/-- the set object just made -/
abbrev bareSet (w : World) : Obj := { cls := .type "set", dict := none, data := .set #[] 0 (.fresh 0 0 (!w.params.followText "set-order")) }
/-- what set.__init__ leaves -/
def InitI (w : World) (s : Shared) (ns : List Int) (s₂ : Shared) : Prop := ∃ h' tk c, s₂ = { s with heap := h', toks := tk } ∧ SetR w h' s.heap.objs.size (fun j => decide (j ∈ ns)) c ∧ c ≤ ns.length ∧ ∀ b o, s.heap.get? b = some o → h'.get? b = some o
/-- set.__init__ of a bare set with a list of ints -/
theorem init_ints {l : Addr} {items : Array Value} (ns : List Int) (hh : A.handled = none) (hl : s.heap.IsList l items) (hit : IntsAre items.toList ns) (hb : ns.length + 1 < scanBound) :
    codeAny (model P w) A (.call (.builtin "set.__init__") ⟨[.ref s.heap.objs.size, .ref l], []⟩) (wants (fun r s₂ => r = .none ∧ InitI w s ns s₂) E) { s with heap := s.heap.push (bareSet w) } := by
  have hS : (s.heap.push (bareSet w)).get? s.heap.objs.size = some (bareSet w) := Heap.get?_push_size _ rfl
  have hT : Shared.TypeIs { s with heap := s.heap.push (bareSet w) } (.ref s.heap.objs.size) "set" := ⟨_, hS, rfl⟩
  have hz : items.size = ns.length := by
    have q := IntsAre.length hit
    rwa [Array.length_toList] at q
  have val : ∀ (i : Nat) (v : Value), items[i]? = some v → ∃ k t, ns[i]? = some k ∧ v = .int k t := fun i v hv => by
    have hi : i < ns.length := by rw [← hz]; exact (Array.getElem?_eq_some_iff.mp hv).1
    obtain ⟨t, e⟩ := PyProof.Rows.IntsAre.int_at hit i v (by rw [Array.getElem?_toList]; exact hv)
    exact ⟨ns[i], t, List.getElem?_eq_getElem hi, by rw [e, List.getD_eq_getElem?_getD, List.getElem?_eq_getElem hi]; rfl⟩
  have isL : (s.heap.push (bareSet w)).IsList l items := hl.push _
  have lt : l < s.heap.objs.size := let ⟨_, h, _⟩ := hl; Heap.lt_size h
  refine codeAny_call_builtin F.called_set.init.plain F.entry_set_init (check_set_init_1 hT ?_)
  obtain ⟨ol, hol, hcl, nl, hdl⟩ := isL
  obtain ⟨ocls, odict, odata, oslots⟩ := ol
  simp only at hcl hdl
  subst hcl; subst hdl
  have sub1 := F.sub_list_set
  have sub2 := F.sub_list_frozenset
  have ne : (Value.type "list" == Value.type "dict") = false := by decide
  unfold Builtin.«set.__init__» noKeywords Builtin.Frozenset.updateFrom
  generalize hPI : pyIter = PI
  wp_walk
  subst hPI
  have isL : (s.heap.push (bareSet w)).IsList l items := ⟨_, hol, rfl, nl, rfl⟩
  have size1 : (s.heap.push (bareSet w)).objs.size = s.heap.objs.size + 1 := Heap.size_push ..
  have apart : l ≠ (s.heap.push (bareSet w)).objs.size := Nat.ne_of_lt (by rw [size1]; exact Nat.lt_succ_of_lt lt)
  have out : s.heap.objs.size ∉ [(s.heap.push (bareSet w)).objs.size, l] := fun h => by
    rcases List.mem_cons.mp h with e | e
    · rw [size1] at e
      exact absurd e (Nat.ne_of_lt (Nat.lt_succ_self _))
    · exact absurd (List.mem_singleton.mp e) (Nat.ne_of_gt lt)
  have h3 : A.in1.in1.handled = none := by simp [hh]
  refine wpAny_pyIter_list isL ?_
  refine wpAny_bind (wpAny_runValue ?_)
  refine set_update_ints ((Walks.list h3 _ l apart items).toS) s.heap.objs.size out ns hz hb val (items.size - 0) 0 _ (by omega) (Nat.zero_le _)
    ⟨⟨_, Heap.get?_push_size _ rfl, rfl, rfl⟩, (isL.push _)⟩ ?a1 ?a2
  case a1 =>
    have hg : ((s.heap.push (bareSet w)).push { cls := .type "list_iterator", data := .fields #[.ref l, .int 0 0] }).get? s.heap.objs.size = some (bareSet w) := Heap.get?_push_of_some _ hS
    exact ⟨0, Nat.le_refl 0, setR_new_at hg⟩
  case a2 =>
    intro s' c' hm hc' hS'
    obtain ⟨h', g2, d', tk', os'⟩ := s'
    have eg : g2 = s.gens := hm.gens
    have ed : d' = s.drawn := hm.drawn
    have eo : os' = s.os := hm.os
    subst eg ed eo
    refine wpAny_pure ?_
    refine wpAny_pure ⟨rfl, h', tk', c', rfl, hS', by omega, fun b o e => ?_⟩
    have b0 : b < s.heap.objs.size := Heap.lt_size e
    refine hm.heap b o (fun h => ?_) (Heap.get?_push_of_some _ (Heap.get?_push_of_some _ e))
    rcases List.mem_cons.mp h with z | z
    · exact absurd z (Nat.ne_of_lt b0)
    · have q := List.mem_singleton.mp z
      rw [size1] at q
      exact absurd q (Nat.ne_of_lt (Nat.lt_succ_of_lt b0))
/-- set(xs), xs a list of ints -/
theorem call_set_intsL {l : Addr} {items : Array Value} (ns : List Int) {Q : Value → Shared → Prop} (hh : A.handled = none) (hl : s.heap.IsList l items) (hit : IntsAre items.toList ns) (hb : ns.length + 1 < scanBound)
    (h : ∀ s₂, InitI w s ns s₂ → Q (.ref s.heap.objs.size) s₂) : wpAny (model P w) A (call (.type "set") [.ref l]) Q E s := by
  obtain ⟨c, tl, hmro⟩ := F.called_set.mro
  have hmade := F.called_set.made
  have hsub := F.called_set.sub
  have h1 := F.called_set.notType
  have h2 := F.called_set.canCreate
  have hct := F.typeCall_set_1 (.ref l)
  have hli := F.called_set.init.lookup
  have hbi := F.called_set.init.bind (.ref s.heap.objs.size)
  refine wpAny_call (codeAny_of_tree ?_)
  show wpAny _ _ (callAny (.type "set") _) _ _ _
  refine wpAny_pure ⟨Code.quiet_builtin _ (by decide +kernel), codeAny_builtin F.entry_type_call ?_⟩
  rw [Around.under_plain (weight_type_call_type "set" [.ref l] []) rfl]
  repeat (any_goals (first | assumption | wp_step))
  refine codeAny_mono (code_set_led1 (.ref l) (E := E) (Q₁ := fun obj s₁ => obj = .ref s.heap.objs.size ∧ s₁ = { s with heap := s.heap.push (bareSet w) }) ⟨rfl, rfl⟩) fun r s₁ hr => ?_
  rcases r with e | fl
  · exact hr
  cases fl with
  | ret obj =>
    obtain ⟨rfl, rfl⟩ := hr
    have hS : (s.heap.push (bareSet w)).get? s.heap.objs.size = some (bareSet w) := Heap.get?_push_size _ rfl
    have hT : Shared.TypeIs { s with heap := s.heap.push (bareSet w) } (.ref s.heap.objs.size) "set" := ⟨_, hS, rfl⟩
    repeat (any_goals (first | assumption | wp_step))
    refine codeAny_mono (init_ints (E := E) ns ?_ hl hit hb) fun r₂ s₂ hr₂ => ?_
    · simp [hh]
    rcases r₂ with e | fl₂
    · exact hr₂
    cases fl₂ with
    | ret r =>
      obtain ⟨rfl, hI⟩ := hr₂
      repeat (any_goals (first | assumption | wp_step))
      exact h _ hI
    | _ => exact hr₂.elim
  | _ => exact hr.elim
end
section
variable {X : Cx}
def rSetOfI (K : PySem.W.Frag) (w : World) : List V → Hp → VK → Prop := fun xs H Q => ∃ (l : Addr) (ns : List Int), xs = [V.ref l] ∧ SqL K H l (ns.map V.int) ∧ ns.length < 1000 ∧
  ∀ (a : Addr) (c : Nat), H a = none → c ≤ ns.length → Q (.ref a) (upd H a (SetO w a (fun j => decide (j ∈ ns)) c))
theorem cr_setOfI (hc : X.calm = true) : CallR X (.type "set") (rSetOfI X.K X.w) := by
  intro pins s σ H xs us Q I r h
  obtain ⟨l, ns, rfl, hl, hf, q⟩ := h
  rw [Vals.ref1 r]
  obtain ⟨its, rv, pl, hz⟩ := I.list hl
  have hn : H s.heap.objs.size = none := I.hok.fresh (Nat.le_refl _)
  refine call_set_intsL (P := X.prog) (w := X.w) ns (I.ok.hd hc) pl.isList (by simpa using intsAre_of rv) (by unfold scanBound; omega) fun s₂ hI => ?_
  obtain ⟨h', tk, c, rfl, R, hcn, k⟩ := hI
  exact ⟨.ref s.heap.objs.size, upd H s.heap.objs.size (SetO X.w s.heap.objs.size (fun j => decide (j ∈ ns)) c), I.laid (t' := tk) k (Nat.le_refl _) (setO_new R), rfl, q _ c hn hcn⟩
end
/-! ### a tank whose second number is greater -/
def Stk (H : Hp) (T : Addr) (c : Int) : Prop := ∃ x y z : Int, H T = some (.lst [.int x, .int y, .int z]) ∧ 0 ≤ x ∧ 0 ≤ y ∧ y < 170141183460469231731687303715884105727 ∧ 0 ≤ z ∧ z ≤ c
theorem Stk.some {H : Hp} {T : Addr} {c : Int} (h : Stk H T c) : ∃ o, H T = some o := let ⟨_, _, _, e, _⟩ := h; ⟨_, e⟩
theorem Stk.same {H H' : Hp} {T : Addr} {c : Int} (h : Stk H T c) (s : Same H H') : Stk H' T c := let ⟨x, y, z, e, r⟩ := h; ⟨x, y, z, s _ _ e, r⟩
theorem Stk.ne {H : Hp} {T p : Addr} {c : Int} (h : Stk H T c) (n : H p = none) : p ≠ T := fun e => by
  obtain ⟨o, q⟩ := h.some
  rw [e, q] at n
  cases n
theorem Stk.up {H : Hp} {T p : Addr} {c : Int} {o : HO} (h : Stk H T c) (n : H p = none) : Stk (upd H p o) T c := h.same (new_same n)
theorem Stk.mono {H : Hp} {T : Addr} {c d : Int} (h : Stk H T c) (l : c ≤ d) : Stk H T d := let ⟨x, y, z, e, a, b, r, f, g⟩ := h; ⟨x, y, z, e, a, b, r, f, by omega⟩
theorem Stk.over {H : Hp} {T p : Addr} {c : Int} {o : HO} (h : Stk H T c) (n : p ≠ T) : Stk (upd H p o) T c := let ⟨x, y, z, e, r⟩ := h; ⟨x, y, z, by rw [upd_ne n.symm]; exact e, r⟩
/-! ### a square of a great int -/
def CPow2 (i j : Int) : Prop := j = 2 ∧ 0 ≤ i ∧ i.natAbs < 2 ^ 200
theorem op_pow2 {X : Cx} : OpR X (binaryOp .Pow) (rI CPow2 fun i j => .int (i ^ j.toNat)) := opI fun i j t u s Q E hc q => by
  obtain ⟨rfl, h0, h1⟩ := hc
  by_cases e : (i == 0 || i == 1) = true
  · refine PySem.AutoIntOps.pow_1 (by decide) (by decide) e ?_
    have e2 : i ^ (2 : Int).toNat = i := by
      rcases (Bool.or_eq_true _ _).mp e with z | z
      · rw [eq_of_beq z]; rfl
      · rw [eq_of_beq z]; rfl
    rw [e2] at q
    exact q
  · refine PySem.AutoIntOps.pow_4 (by decide) (by decide) e ?_ ?_ q
    · intro z
      have := eq_of_beq z
      omega
    · intro z
      unfold Builtin.Int.intTooBig at z
      have z3 := of_decide_eq_true z
      have b : Builtin.Int.intBits i ≤ 201 := by
        unfold Builtin.Int.intBits
        have y := PySem.Flt.log2_lt_of (show 0 < 200 by decide) h1
        split <;> omega
      have e : bitsLine = 134217728 := by decide
      rw [e] at z3
      omega
/-! ### rows of bits, sums over bits -/
def bitR : Nat → Nat → List Int
  | 0, _ => []
  | n + 1, b => (((b / 2 ^ n) % 2 : Nat) : Int) :: bitR n b
theorem bitR_len : ∀ n b : Nat, (bitR n b).length = n
  | 0, _ => rfl
  | n + 1, b => by
    show (bitR n b).length + 1 = n + 1
    rw [bitR_len n b]
theorem bitR_at : ∀ {n b i : Nat}, i < n → (bitR n b)[i]? = some (((b / 2 ^ (n - 1 - i)) % 2 : Nat) : Int)
  | 0, _, _, h => absurd h (Nat.not_lt_zero _)
  | n + 1, b, 0, _ => by
    show some (((b / 2 ^ n) % 2 : Nat) : Int) = _
    rw [show n + 1 - 1 - 0 = n by omega]
  | n + 1, b, i + 1, h => by
    show (bitR n b)[i]? = _
    rw [bitR_at (show i < n by omega), show n + 1 - 1 - (i + 1) = n - 1 - i by omega]
theorem bitR_add : ∀ n q b : Nat, bitR n (2 ^ n * q + b) = bitR n b
  | 0, _, _ => rfl
  | n + 1, q, b => by
    show (((2 ^ (n + 1) * q + b) / 2 ^ n % 2 : Nat) : Int) :: bitR n (2 ^ (n + 1) * q + b) = ((b / 2 ^ n % 2 : Nat) : Int) :: bitR n b
    have e : 2 ^ (n + 1) * q = 2 ^ n * (2 * q) := by rw [Nat.pow_succ, Nat.mul_assoc]
    rw [e, bitR_add n (2 * q) b, Nat.mul_add_div (Nat.pow_pos (by decide)), Nat.mul_add_mod]
theorem bitR_01 : ∀ {n b : Nat} {x : Int}, x ∈ bitR n b → 0 ≤ x ∧ x ≤ 1
  | 0, _, _, h => absurd h List.not_mem_nil
  | n + 1, b, x, h => by
    rcases List.mem_cons.mp h with e | e
    · rw [e]
      have := Nat.mod_lt (b / 2 ^ n) (show 0 < 2 by decide)
      omega
    · exact bitR_01 e
def sumsB : List Int → List Int
  | [] => [0]
  | x :: r => sumsB r ++ (sumsB r).map (· + x)
theorem sumsB_len : ∀ xs : List Int, (sumsB xs).length = 2 ^ xs.length
  | [] => rfl
  | x :: r => by
    show (sumsB r ++ (sumsB r).map (· + x)).length = 2 ^ (r.length + 1)
    rw [List.length_append, List.length_map, sumsB_len r, Nat.pow_succ]
    omega
theorem sumsB_at : ∀ {xs : List Int} {b : Nat}, b < 2 ^ xs.length → (sumsB xs)[b]? = some (prods xs (bitR xs.length b)).sum
  | [], b, h => by
    obtain rfl : b = 0 := by
      have : b < 1 := h
      omega
    rfl
  | x :: r, b, h => by
    have h : b < 2 ^ (r.length + 1) := h
    rw [Nat.pow_succ] at h
    show (sumsB r ++ (sumsB r).map (· + x))[b]? = some (prods (x :: r) ((((b / 2 ^ r.length) % 2 : Nat) : Int) :: bitR r.length b)).sum
    show _ = some (x * (((b / 2 ^ r.length) % 2 : Nat) : Int) + (prods r (bitR r.length b)).sum)
    by_cases hb : b < 2 ^ r.length
    · rw [List.getElem?_append_left (by rw [sumsB_len]; exact hb), sumsB_at hb, Nat.div_eq_of_lt hb]
      show _ = some (x * 0 + _)
      rw [Int.mul_zero, Int.zero_add]
    · obtain ⟨c, rfl⟩ : ∃ c, b = 2 ^ r.length * 1 + c := ⟨b - 2 ^ r.length, by omega⟩
      have hc : c < 2 ^ r.length := by omega
      rw [List.getElem?_append_right (by rw [sumsB_len]; omega), sumsB_len, List.getElem?_map, show 2 ^ r.length * 1 + c - 2 ^ r.length = c by omega, sumsB_at hc, bitR_add, Nat.mul_add_div (Nat.pow_pos (by decide)), Nat.div_eq_of_lt hc]
      show some (_ + x) = some (x * 1 + _)
      rw [Int.mul_one, Int.add_comm]
theorem lights_at {ns : List Int} {t : Int} {b : Nat} (h1 : 1 ≤ ns.length) (h : b < 2 ^ ns.length) : (sumsB (rot ns (-t)))[b]? = some (lightV ns (bitR ns.length b) t) := by
  rw [sumsB_at (by rw [rot_len]; exact h), rot_len]
  have e := light_rot1 (ns := ns) (ms := bitR ns.length b) (bitR_len _ _).symm (-t) 0
  rw [show (0 : Int) - -t = t by omega] at e
  rw [← e]
  show _ = some (prods (rot ns (-t)) (rot (bitR ns.length b) 0)).sum
  rw [rot_zero]
/-- the numbers of the rows that fit -/
def okF (ns : List Int) (p : Int × Int) (b : Nat) : Bool := decide (lightV ns (bitR ns.length b) p.1 = p.2)
def fitsF (ns : List Int) (ps : List (Int × Int)) : List Nat := ps.foldl (fun F p => F.filter (okF ns p)) (List.range (2 ^ ns.length))
theorem fits_take {ns : List Int} {ps : List (Int × Int)} {i : Nat} {p : Int × Int} (h : ps[i]? = some p) : fitsF ns (ps.take (i + 1)) = (fitsF ns (ps.take i)).filter (okF ns p) := by
  unfold fitsF
  rw [List.take_add_one, h, List.foldl_append]
  rfl
theorem fits_all (ns : List Int) (ps : List (Int × Int)) : fitsF ns (ps.take ps.length) = fitsF ns ps := by rw [List.take_length]
theorem foldF_len {α : Type} (g : α → Nat → Bool) : ∀ (ps : List α) (F : List Nat), (ps.foldl (fun F p => F.filter (g p)) F).length ≤ F.length
  | [], F => Nat.le_refl _
  | p :: r, F => Nat.le_trans (foldF_len g r (F.filter (g p))) (List.length_filter_le _ _)
theorem foldF_mem {α : Type} (g : α → Nat → Bool) : ∀ (ps : List α) (F : List Nat) {b : Nat}, b ∈ ps.foldl (fun F p => F.filter (g p)) F → b ∈ F
  | [], F, _, h => h
  | p :: r, F, _, h => (List.mem_filter.mp (foldF_mem g r (F.filter (g p)) h)).1
theorem fits_len (ns : List Int) (ps : List (Int × Int)) : (fitsF ns ps).length ≤ 2 ^ ns.length := by
  have := foldF_len (okF ns) ps (List.range (2 ^ ns.length))
  rwa [List.length_range] at this
theorem fits_mem {ns : List Int} {ps : List (Int × Int)} {b : Nat} (h : b ∈ fitsF ns ps) : b < 2 ^ ns.length := List.mem_range.mp (foldF_mem (okF ns) ps _ h)
/-! ### lists of lists of ints -/
inductive LL (H : Hp) : List V → List (List Int) → Prop
  | nil : LL H [] []
  | cons {a : Addr} {r : List Int} {vs : List V} {S : List (List Int)} (h : H a = some (.lst (r.map V.int))) (t : LL H vs S) : LL H (.ref a :: vs) (r :: S)
theorem none_back {H H1 : Hp} {p : Addr} (s : Same H H1) (n : H1 p = none) : H p = none := by
  cases e : H p with
  | none => rfl
  | some o =>
    have := s _ _ e
    rw [n] at this
    cases this
theorem LL.up {H H1 : Hp} {vs : List V} {S : List (List Int)} (h : LL H vs S) (s : Same H H1) : LL H1 vs S := by
  induction h with
  | nil => exact .nil
  | cons h _ ih => exact .cons (s _ _ h) ih
theorem LL.len {H : Hp} {vs : List V} {S : List (List Int)} (h : LL H vs S) : vs.length = S.length := by
  induction h with
  | nil => rfl
  | cons _ _ ih => rw [List.length_cons, List.length_cons, ih]
theorem LL.at {H : Hp} {vs : List V} {S : List (List Int)} (h : LL H vs S) : ∀ {i : Nat} {v : V}, vs[i]? = some v → ∃ a r, v = .ref a ∧ S[i]? = some r ∧ H a = some (.lst (r.map V.int)) := by
  induction h with
  | nil => exact fun e => nomatch e
  | cons h _ ih =>
    intro i v e
    cases i with
    | zero => exact ⟨_, _, (Option.some.inj e).symm, rfl, h⟩
    | succ i => exact ih e
theorem LL.get {H : Hp} {vs : List V} {S : List (List Int)} (h : LL H vs S) : ∀ {i : Nat} {r : List Int}, S[i]? = some r → ∃ a, vs[i]? = some (.ref a) ∧ H a = some (.lst (r.map V.int)) := by
  induction h with
  | nil => exact fun e => nomatch e
  | cons h _ ih =>
    intro i v e
    cases i with
    | zero => exact ⟨_, rfl, by rw [← Option.some.inj e]; exact h⟩
    | succ i => exact ih e
theorem LL.snoc {H : Hp} {vs : List V} {S : List (List Int)} {a : Addr} {r : List Int} (h : LL H vs S) (e : H a = some (.lst (r.map V.int))) : LL H (vs ++ [.ref a]) (S ++ [r]) := by
  induction h with
  | nil => exact .cons e .nil
  | cons h _ ih => exact .cons h ih
end Sd

namespace Sd
open PySem PySem.Spec PyProof.Rows L2
/-! ### enumerate(tuple) -/
theorem meets_enum1 {v : Value} {o : Obj} {G : Heap → Prop} (B : Begins v o G) :
    Meets (Builtin.«enumerate.__new__» ⟨[.type "enumerate", v], []⟩) (fun _ R s => G s.heap ∧
      R (.ok (.ret (.ref (s.heap.push o).objs.size))) { s with heap := (s.heap.push o).push { cls := .type "enumerate", data := .fields #[.none, .bool false, .ref s.heap.objs.size, rawInt 0, .none, .none] } }) :=
  .of_wp fun prog w A R s h => by
    obtain ⟨hp, g, d, tk, os⟩ := s; obtain ⟨h1, h⟩ := h
    have hsub := sub_enumerate
    have go : ∀ {A' : Around} {E : Value → Shared → Prop} {Q : Value → Shared → Prop}, Q (.ref hp.objs.size) ⟨hp.push o, g, d, tk, os⟩ → wpAny (model prog w) A' (pyIter v) Q E ⟨hp, g, d, tk, os⟩ :=
      fun q => B.iter prog w _ _ ⟨hp, g, d, tk, os⟩ _ h1 q
    wp_walk using go
    refine wpAny_stack_any fun st => wpAny_pure ?_
    split
    · rename_i c _ _ _ _ _
      cases (c == Value.type "enumerate") <;>
      · wp_walk using go
        exact ⟨_, rfl, h⟩
    · wp_walk using go
      exact ⟨_, rfl, h⟩
section
variable {P : Program} {w : World} {A : Around} {E : Value → Shared → Prop} {s : Shared}
theorem enum1_begins {v : Value} {o : Obj} {G : Heap → Prop} {Q : Value → Shared → Prop} (B : Begins v o G) (h1 : G s.heap)
    (h : ∀ h', IsEnum h' (s.heap.objs.size + 1) s.heap.objs.size 0 .none → h'.get? s.heap.objs.size = some o → (∀ b u, s.heap.get? b = some u → h'.get? b = some u) → Q (.ref (s.heap.objs.size + 1)) { s with heap := h' }) :
    wpAny (model P w) A (call (.type "enumerate") [v]) Q E s := by
  refine callType_new F.called_enumerate (by decide) (F.typeCall_enumerate_1 _) (F.newCall_enumerate_1 _) (fun obj => F.args_object_init_2 obj _) F.entry_enumerate_new (meets_enum1 B) ⟨h1, ?_⟩
  have hz : (s.heap.push o).objs.size = s.heap.objs.size + 1 := Heap.size_push ..
  show _ ∧ _
  rw [hz]
  have he : IsEnum ((s.heap.push o).push { cls := .type "enumerate", data := .fields #[.none, .bool false, .ref s.heap.objs.size, rawInt 0, .none, .none] }) (s.heap.objs.size + 1) s.heap.objs.size 0 .none := by
    have q := Heap.get?_push_size (s.heap.push o) (o := { cls := .type "enumerate", data := .fields #[.none, .bool false, .ref s.heap.objs.size, rawInt 0, .none, .none] }) rfl
    rw [hz] at q
    exact q
  exact ⟨⟨_, he, rfl⟩, h _ he (Heap.get?_push_of_some _ (Heap.get?_push_size _ B.free)) fun b u x => Heap.get?_push_of_some _ (Heap.get?_push_of_some _ x)⟩
end
/-- a tuple's iterator behind its last item -/
theorem drawn_out {P : Program} {w : World} {A : Around} (hh : A.handled = none) (it t : Addr) (k : Nat) (items : Array Value) (hx : items[k]? = none) :
    Draws P w A it [it, t] 0 (fun _ _ => False) (fun _ h => h.IsTupleIter it t k ∧ h.IsTuple t items) where
  live := fun _ _ st => let ⟨o, ho, _⟩ := st.1; ⟨o, ho⟩
  frame := fun _ _ _ st hk => ⟨st.1.at fun o e => hk it (by simp) o e, st.2.at fun o e => hk t (by simp) o e⟩
  item := fun i s Q E hi => absurd hi (Nat.not_lt_zero _)
  done := fun s Q E st hE => wpAny_nextOf_tuple_end hh st.1 st.2 hx hE
/-- the tuple at a, each item in a new pair -/
def Iet (K : PySem.W.Frag) (a : Addr) : It :=
  ⟨fun i H => ∃ (xs : List V) (x : V), SqT K H a xs ∧ xs[i]? = some x, fun i H v H' => ∃ T x, v = .ref T ∧ H T = none ∧ H' = upd H T (.tup [.int (i : Nat), x]) ∧ ∀ xs, SqT K H a xs → xs[i]? = some x, fun i H => ∃ xs : List V, SqT K H a xs ∧ xs.length ≤ i⟩
theorem turn_enumT {P : Program} {w : World} {K : PySem.W.Frag} {elts : List Expr} {kk : Nat} {tpos : Pos} (a e it : Addr) (hea : e ≠ a) (hai : a ≠ it) :
    Turn P w K (.Tuple elts kk tpos) (Iet K a) [e, it] e (fun i h => (∃ old, IsEnum h e it ((i : Nat) : Int) old) ∧ h.IsTupleIter it a i ∧ e ≠ it) where
  mem := by simp
  obj := fun i h st b hb => by
    obtain ⟨⟨old, he⟩, ⟨o, ho, hc, hd⟩, _⟩ := st
    rcases (by simpa using hb : b = e ∨ b = it) with rfl | rfl
    · exact ⟨_, he, fun v q => nomatch q⟩
    · exact ⟨o, ho, fun v q => by rw [hd] at q; cases q⟩
  keep := fun i h h' st k => let ⟨⟨old, he⟩, hi, hne⟩ := st; ⟨⟨old, k e (by simp) _ he⟩, hi.at fun o q => k it (by simp) o q, hne⟩
  item := by
    intro X hP hw hK hc i pins s σ H E I hf st hg
    subst hP hw hK
    obtain ⟨⟨old, he⟩, hit, hne⟩ := st
    obtain ⟨xs, x, hq, hx⟩ := hg
    obtain ⟨its, rv, p, hz⟩ := I.tuple hq
    obtain ⟨u, hu, ru⟩ := rv.get hx
    have hel : e < s.heap.objs.size := Heap.lt_size he
    have hil : it < s.heap.objs.size := by obtain ⟨_, q, _⟩ := hit; exact Heap.lt_size q
    have pt : s.heap.IsTuple a its.toArray := p
    have hin : i < its.toArray.size := by
      have := (List.getElem?_eq_some_iff.mp hu).1
      simpa using this
    refine wpAny_pyNext_enum_itemC (Draws.tuple (prog := X.prog) (w := X.w) (A := X.A.in1) (by simp [I.ok.hd hc]) it a hai its.toArray) he ⟨hit, pt⟩ hin hne (by simp [hne, hea]) fun v h' tk hv ho hst' hT hsz hk => ?_
    obtain rfl : v = u := by
      have q : its.toArray[i]? = some v := hv
      rw [List.getElem?_toArray, hu] at q
      exact (Option.some.inj q).symm
    refine ⟨_, rfl, wpAny_letOwnedTupleGo_enum (s := { s with heap := h', toks := tk + 1 }) ho fun h'' he' sb => ?_⟩
    have hT2 : h''.get? s.heap.objs.size = some { cls := .type "tuple", data := .seq #[.int i tk, v] } := (sb.2 _ (Nat.ne_of_gt hel)).trans hT
    have new : ObjOk X.prog X.w (upd H s.heap.objs.size (.tup [.int (i : Nat), x])) h'' s.heap.objs.size (.tup [.int (i : Nat), x]) :=
      ⟨by show 2 ≤ sizeLine; decide, [.int i tk, v], .cons ⟨_, rfl⟩ (.cons ru .nil), ⟨_, hT2, rfl, _, rfl⟩⟩
    have I1 : Inv X pins σ (upd H s.heap.objs.size (.tup [.int (i : Nat), x])) { s with heap := h'', toks := tk + 1 } :=
      I.turnedNew (ch := [e, it]) (fun b ob hb q => (sb.2 b (fun z => hb (by simp [z]))).trans (hk b ob (fun z => hb (by simp [z])) (fun z => hb (by simp [z])) q)) hf (Nat.le_refl _) new
    refine ⟨.ref s.heap.objs.size, _, I1, rfl, ⟨_, x, rfl, I.hok.fresh (Nat.le_refl _), rfl, fun ys hy => by rw [I.tuple_inj hy hq]; exact hx⟩, ⟨⟨v, ?_⟩, hst'.1.at fun o q => (sb.2 it (Ne.symm hne)).trans q, hne⟩, fun b hb => ?_⟩
    · rw [show ((i + 1 : Nat) : Int) = (i : Int) + 1 by omega]
      exact he'
    · have hb' : b < s.heap.objs.size := by
        rcases (by simpa using hb : b = e ∨ b = it) with rfl | rfl
        · exact hel
        · exact hil
      rw [upd_ne (Nat.ne_of_lt hb')]
      exact (hf b hb).1
  done := by
    intro X hP hw hK hc i pins s σ H E I hf st hg
    subst hP hw hK
    obtain ⟨⟨old, he⟩, hit, hne⟩ := st
    obtain ⟨xs, hq, hx⟩ := hg
    obtain ⟨its, rv, p, hz⟩ := I.tuple hq
    obtain ⟨f0, f1, f2, f3, f4, f5⟩ := hf it (by simp)
    have hl := rv.length
    have pt : s.heap.IsTuple a its.toArray := p
    have hno : its.toArray[i]? = none := by
      rw [List.getElem?_toArray]
      exact List.getElem?_eq_none (by omega)
    exact wpAny_pyNext_enum_endD (drawn_out (by simp [I.ok.hd hc]) it a i its.toArray hno) he ⟨hit, pt⟩ fun h' eb => ⟨rfl, I.turned (t' := s.toks) (fun b o hb q => eb b o hb q) f0 f1 f3 f4 f5⟩
  self := fun A i s Q E st h => let ⟨⟨_, he⟩, _⟩ := st; wpAny_pyIter_enum he h
def iEnumT (K : PySem.W.Frag) (ta : TA) : TI := fun σ H R => ta σ H fun vs H1 => ∃ a xs, vs = [.ref a] ∧ SqT K H1 a xs ∧ R (Iet K a) H1
theorem pi_enumT {X : Cx} {e : Expr} {ta : TA} {p pos tpos : Pos} {elts : List Expr} {kk : Nat} (hg : Gl X "enumerate") (hm : X.mg "enumerate" = none) (ha : PA X [e] ta) (hs : starEach [e] X.env = [(false, eval e X.env)] := by rfl) :
    PI X (.Tuple elts kk tpos) (.Call (.Name "enumerate" p) [e] [] pos) (iEnumT X.K ta) := by
  refine ⟨fun pins s σ H R I h => ?_⟩
  refine Call_ (ld_blt I hg hm boot_enumerate (PyProof.Rows.callWith_type1 (thn (ha.run pos pins s σ H _ I h) fun us s1 ⟨vs, H1, I1, r1, q1⟩ => ?_) hs rfl))
  obtain ⟨a, xs, rfl, hq, q⟩ := q1
  rw [Vals.ref1 r1]
  obtain ⟨its, rv, p', hz⟩ := I1.tuple hq
  have pt : s1.heap.IsTuple a its.toArray := p'
  have hal : a < s1.heap.objs.size := by
    obtain ⟨o, ho, _⟩ := pt
    exact Heap.lt_size ho
  refine enum1_begins (begins_tuple a its.toArray) pt fun h' he hit hk => wpAny_pyIter_enum he ?_
  have I2 : Inv X pins σ H1 { s1 with heap := h' } := I1.kept (t' := s1.toks) hk
  refine ⟨s1.heap.objs.size + 1, [s1.heap.objs.size + 1, s1.heap.objs.size], _, _, H1, rfl, I2, turn_enumT a (s1.heap.objs.size + 1) s1.heap.objs.size (Nat.ne_of_gt (Nat.lt_succ_of_lt hal)) (Nat.ne_of_lt hal), ⟨⟨.none, he⟩, ⟨_, hit, rfl, rfl⟩, Nat.succ_ne_self _⟩, fun b hb => ?_, q⟩
  have hle : s1.heap.objs.size ≤ b := by
    rcases (by simpa using hb : b = s1.heap.objs.size + 1 ∨ b = s1.heap.objs.size) with z | z
    · rw [z]; exact Nat.le_add_right _ _
    · rw [z]; exact Nat.le_refl _
  exact I1.fpOk hle (I1.hok.fresh hle)
theorem enumT {X : Cx} {K : PySem.W.Frag} {elts : List Expr} {kk : Nat} {tpos p pos : Pos} {e : Expr} {ta : TA} (h : X.K = K) (hg : Gl X "enumerate") (hm : X.mg "enumerate" = none) (ha : PA X [e] ta)
    (hs : starEach [e] X.env = [(false, eval e X.env)] := by rfl) : PI X (.Tuple elts kk tpos) (.Call (.Name "enumerate" p) [e] [] pos) (iEnumT K ta) := h ▸ pi_enumT hg hm ha hs
theorem walk_enumT {K : PySem.W.Frag} {a : Addr} {xs : List V} : Walk (Iet K a) xs.length (fun H => SqT K H a xs) (YPair (fun i => some (.int (i : Nat))) (fun i => xs[i]?)) := by
  refine ⟨fun i _ hi q => ⟨xs, xs[i], q, by simp [hi]⟩, fun _ q => ⟨xs, q, Nat.le_refl _⟩, fun i H v H' _ q y => ?_⟩
  obtain ⟨T, x, h1, h2, h3, h4⟩ := y
  exact ⟨T, .int (i : Nat), x, h1, h2, h3, rfl, h4 xs q⟩
theorem ixTL {X : Cx} {K : PySem.W.Frag} (h : X.K = K) : IxR X (rIxT K) := h ▸ ix_tup
/-- numbers as ints -/
def natI (F : List Nat) : List Int := F.map fun (b : Nat) => (b : Int)
theorem natI_len (F : List Nat) : (natI F).length = F.length := List.length_map ..
theorem natI_at {F : List Nat} {i : Nat} {n : Int} (h : (natI F)[i]? = some n) : ∃ b, F[i]? = some b ∧ n = (b : Int) := by
  unfold natI at h
  rw [List.getElem?_map] at h
  cases e : F[i]? with
  | none => rw [e] at h; cases h
  | some b =>
    rw [e] at h
    exact ⟨b, rfl, (Option.some.inj h).symm⟩
theorem natI_get {F : List Nat} {i b : Nat} (h : F[i]? = some b) : (natI F)[i]? = some (b : Int) := by
  unfold natI
  rw [List.getElem?_map, h]
  rfl
theorem filt_next {α : Type} {F : List α} {g : α → Bool} {i : Nat} {b : α} (h : F[i]? = some b) : (F.take (i + 1)).filter g = (F.take i).filter g ++ (if g b = true then [b] else []) := by
  rw [List.take_add_one, h, List.filter_append]
  show _ ++ List.filter g [b] = _
  by_cases e : g b = true
  · rw [List.filter_cons, if_pos e, if_pos e]
    rfl
  · rw [List.filter_cons, if_neg e, if_neg e]
    rfl
theorem LL.put {H : Hp} {F : Addr} {us : List V} {o : HO} (e : H F = some (.lst us)) : ∀ {vs : List V} {S : List (List Int)}, LL H vs S → (∀ v ∈ vs, v ∈ us) → LL (upd H F o) vs S
  | _, _, .nil, _ => .nil
  | _, _, .cons (a := a) (r := r) h t, m => by
    refine .cons ?_ (LL.put e t fun v hv => m v (List.mem_cons_of_mem _ hv))
    rw [upd_ne fun z => ?_]
    · exact h
    · rw [z, e] at h
      have hm := m _ List.mem_cons_self
      have hr : us = r.map V.int := by
        injection h with h
        injection h
      rw [hr] at hm
      obtain ⟨x, _, q⟩ := List.mem_map.mp hm
      cases q
theorem prods01 {B : Int} : ∀ {ns ms : List Int}, (∀ n ∈ ns, 0 ≤ n ∧ n ≤ B) → (∀ m ∈ ms, 0 ≤ m ∧ m ≤ 1) → 0 ≤ (prods ns ms).sum ∧ (prods ns ms).sum ≤ B * ns.length
  | [], _, _, _ => ⟨Int.le_refl _, by show (0 : Int) ≤ B * 0; omega⟩
  | n :: ns, [], hn, _ => ⟨Int.le_refl _, by
      show (0 : Int) ≤ B * ((ns.length + 1 : Nat) : Int)
      have := hn n List.mem_cons_self
      exact Int.mul_nonneg (by omega) (by omega)⟩
  | n :: ns, m :: ms, hn, hm => by
    obtain ⟨h1, h2⟩ := prods01 (B := B) (ns := ns) (ms := ms) (fun x hx => hn x (List.mem_cons_of_mem _ hx)) (fun x hx => hm x (List.mem_cons_of_mem _ hx))
    have hn1 := hn n List.mem_cons_self
    have hm1 := hm m List.mem_cons_self
    show 0 ≤ n * m + (prods ns ms).sum ∧ n * m + (prods ns ms).sum ≤ B * ((ns.length + 1 : Nat) : Int)
    have hs : B * ((ns.length + 1 : Nat) : Int) = B * (ns.length : Int) + B := by
      rw [Int.natCast_add, Int.mul_add]
      show _ + B * 1 = _
      rw [Int.mul_one]
    rw [hs]
    rcases (show m = 0 ∨ m = 1 by omega) with rfl | rfl
    · rw [Int.mul_zero]
      omega
    · rw [Int.mul_one]
      omega
theorem light01 {ns ms : List Int} {t : Int} (hR : Rim ns) (hm : ∀ m ∈ ms, 0 ≤ m ∧ m ≤ 1) : 0 ≤ lightV ns ms t ∧ lightV ns ms t ≤ 1000000000000000000000000000000 * 40 := by
  obtain ⟨h1, h2⟩ := prods01 hR.all (rot_all (t := t) (P := fun m => 0 ≤ m ∧ m ≤ 1) hm)
  have h3 := hR.le
  refine ⟨h1, Int.le_trans h2 (Int.mul_le_mul_of_nonneg_left (by omega) (by decide))⟩
theorem ab01 {ms : List Int} (hm : ∀ m ∈ ms, 0 ≤ m ∧ m ≤ 1) : Ab 400 ms := fun m h => by
  have := hm m h
  exact Nat.lt_of_le_of_lt (m := 1) (by omega) (by decide +kernel)
theorem LL.but {t : Addr} {H H1 : Hp} (u : But t H H1) : ∀ {vs : List V} {S : List (List Int)}, LL H vs S → (∀ a, V.ref a ∈ vs → a ≠ t) → LL H1 vs S
  | _, _, .nil, _ => .nil
  | _, _, .cons h r, n => .cons (u _ _ h (n _ List.mem_cons_self)) (LL.but u r fun a ha => n a (List.mem_cons_of_mem _ ha))
theorem setOfIL {X : Cx} {K : PySem.W.Frag} {w : World} (h : X.K = K) (hw : X.w = w) (hc : X.calm = true) : CallR X (.type "set") (rSetOfI K w) := by
  subst h hw
  exact cr_setOfI hc
theorem sortedSetL {X : Cx} {w : World} (hw : X.w = w) (hc : X.calm = true) : CallR X (.builtin "sorted") (rSortedSet w) := by
  subst hw
  exact cr_sortedSet hc
end Sd

namespace Sd
open PySem PySem.Spec PyProof.Rows L2
/-! ### a method by keywords alone, len by an own __len__ -/
section
variable {X : Cx} {C : CXT} {k : Nat} {D f : Addr} {fd : FuncData} {ps ks : List Str} {sp : Sp} {E : XK} {m : Str} {apos pos : Pos} {o : Expr} {kws : List Keyword} {ta : TE} {tk : TA} {g : List Value → List Value → List Value} {gV : List V → List V → List V}
def tMethW (D : Addr) (m : Str) (sp : Sp) (gV : List V → List V → List V) (E : XK) (ta : TE) (tk : TA) : TE := fun σ H Q => ta σ H fun x H1 => ∃ a dx fs, x = .ref a ∧ H1 a = some (.ins D dx fs) ∧ fs.lookup m = none ∧
  tk σ H1 fun zs H2 => sp (gV [x] zs) H2 Q E
theorem pe_methW {pl : Sem Bool} (he : PE X o ta) (c : Cls X.K D) (hm : Meth X.K D m f) (F : FnOk X.prog X.w X.K X.mg X.base C k f fd ps sp) (hr : Room k X.A) (hb : KBinds X.K fd ps ks g gV) (hx : Passes C X E) (hkw : PK X kws tk)
    (hall : (backToKw pos (keywordEach kws X.env)).all (·.1.isSome) = true := by rfl) (hks : (backToKw pos (keywordEach kws X.env)).filterMap (·.1) = ks := by rfl)
    (hpl : ((backTo pos (starEach [] X.env)).any (·.1) || (backToKw pos (keywordEach kws X.env)).any (·.1.isNone)) = false := by rfl)
    (ht : eval (.Call (.Attribute o m apos) [] kws pos) X.env = (eval o X.env >>= fun ov => standAt apos.atName >>= fun _ => holding [ov] (getMethod ov m pl) >>= fun p =>
      callWith pos p.1 p.2 (backTo pos (starEach [] X.env)) (backToKw pos (keywordEach kws X.env))) := by rfl) :
    PE X (.Call (.Attribute o m apos) [] kws pos) (tMethW D m sp gV E ta tk) := by
  refine ⟨fun pins s σ H Q I h => ?_⟩
  refine PySem.W.methodCall_KW (pl := pl) (thn (he.run pins s σ H _ I h) fun u s1 z => ?_) ht
  obtain ⟨x, H1, I1, rx, a, dx, fs, ex, ea, l, q⟩ := z
  subst ex
  have eu : u = Value.ref a := rx
  subst eu
  refine getmeth_ok I1 ea c hm l ?_
  refine PySem.W.callWith_KW0 (first := [Value.ref a]) (h₀ := X.base) I.ok.mod.kin hm.kp hall (thn (hkw.run pos pins s1 σ H1 _ I1 q) fun ws s2 y => ?_) hpl
  obtain ⟨zs, H2, I2, rz, q2⟩ := y
  refine ⟨I2.kIn, ?_⟩
  rw [hks]
  exact run_fnk (us := [Value.ref a]) (vs := [V.ref a]) F hr hb hx I2 (.cons rfl .nil) rz q2
def rLenOwn (D : Addr) (sp : Sp) (E : XK) : List V → Hp → VK → Prop := fun xs H Q => ∃ a dx fs, xs = [.ref a] ∧ H a = some (.ins D dx fs) ∧ sp [.ref a] H (fun v H' => ∃ n : Int, v = .int n ∧ 0 ≤ n ∧ n < 2 ^ 63 ∧ Q (.int n) H') E
theorem cr_lenOwn (c : Cls X.K D) (hm : Meth X.K D "__len__" f) (F : FnOk X.prog X.w X.K X.mg X.base C k f fd ps sp) (hr : Room (k + 1) X.A) (hb : Binds X.K fd ps []) (hx : Passes C X E) : CallR X (.builtin "len") (rLenOwn D sp E) := by
  intro pins s σ H xs us Q I r h
  obtain ⟨a, dx, fs, rfl, ea, q⟩ := h
  rw [Vals.ref1 r]
  obtain ⟨mA, O, _⟩ := ins_get I.hok ea
  obtain ⟨od, J, _⟩ := O.look
  obtain ⟨m0, hF⟩ := I.fr
  refine PySem.W.len_K hF I.ok.mod.kin J hm.at_ hm.fn ?_
  have hl : ([Value.ref a] ++ []).length = ps.length := by
    have := F.len _ _ _ _ q
    exact this
  refine wpAny_call (codeAny_mono (F.run X.A.in1 X.stack s H ⟨[.ref a], []⟩ [.ref a] [.ref a] _ E hr.in1 I.env0.in1 (hb s [.ref a] I.kIn hl) (.cons rfl .nil) q) fun r s' hq => ?_)
  cases r with
  | error er => exact hx pins σ H s er s' I hq
  | ok fl =>
    cases fl with
    | ret u =>
      obtain ⟨v, H', I3, rv, n, ev, n0, n1, q3⟩ := I.after hq
      subst ev
      obtain ⟨t, eu⟩ := (show ∃ t, u = Value.int n t from rv)
      subst eu
      exact ⟨⟨n0, n1⟩, .int n, H', I3.tok _, ⟨_, rfl⟩, q3⟩
    | next => exact False.elim hq
    | brk => exact False.elim hq
    | cont => exact False.elim hq
end
/-! ### calls of live discs -/
inductive LC where
  | turn (n : Int)
  | slot (s : Nat) (l : Int)
  | flip
def sTurn : Str := "turn"
def sSlot : Str := "slot"
def sMir : Str := "mirror"
def LC.v : LC → List V
  | .turn n => [.str sTurn, .int n]
  | .slot s l => [.str sSlot, .int s, .int l]
  | .flip => [.str sMir]
def LC.d : LC → PyData
  | .turn n => .tuple [.str sTurn, .int n]
  | .slot s l => .tuple [.str sSlot, .int s, .int l]
  | .flip => .tuple [.str sMir]
abbrev LS := List Int × Int
def LC.on (st : LS) : LC → LS
  | .turn n => (st.1, (st.2 + n) % (st.1.length : Int))
  | .slot s l => (st.1.set s l, st.2)
  | .flip => (mir st.1, st.2)
def LC.ok (n : Nat) : LC → Prop
  | .turn k => k.natAbs < 10 ^ 40
  | .slot s l => s < n ∧ 0 ≤ l ∧ l ≤ 1000000000000000000000000000000
  | .flip => True
def LSok (n : Nat) (st : LS) : Prop := Rim st.1 ∧ st.1.length = n ∧ 0 ≤ st.2 ∧ st.2 < n
theorem rim_set {ns : List Int} {s : Nat} {l : Int} (h : Rim ns) (h0 : 0 ≤ l) (h1 : l ≤ 1000000000000000000000000000000) : Rim (ns.set s l) :=
  ⟨by rw [List.length_set]; exact h.pos, by rw [List.length_set]; exact h.le, fun x hx => by
    rcases List.mem_or_eq_of_mem_set hx with h2 | h2
    · exact h.all x h2
    · rw [h2]
      exact ⟨h0, h1⟩⟩
theorem LC.on_ok {n : Nat} {st : LS} (h : LSok n st) {c : LC} (hc : c.ok n) : LSok n (c.on st) := by
  obtain ⟨hR, hl, h0, h1⟩ := h
  cases c with
  | turn k =>
    have p := hR.pos
    exact ⟨hR, hl, Int.emod_nonneg _ (by show ((st.1.length : Nat) : Int) ≠ 0; omega), by
      have := Int.emod_lt_of_pos (st.2 + k) (show (0 : Int) < (st.1.length : Int) by omega)
      show (st.2 + k) % (st.1.length : Int) < n
      omega⟩
  | slot s l => exact ⟨rim_set hR hc.2.1 hc.2.2, by show (st.1.set s l).length = n; rw [List.length_set, hl], h0, h1⟩
  | flip => exact ⟨hR.mir, by show (mir st.1).length = n; rw [mir_len, hl], h0, h1⟩
theorem LC.dp {K : PySem.W.Frag} {H : Hp} {t : Addr} {c : LC} (h : H t = some (.tup c.v)) : Dp K H (.ref t) c.d := by
  cases c with
  | turn n => exact .tup (SqT.of h) (.cons (.str _) (.cons (.int _) .nil))
  | slot s l => exact .tup (SqT.of h) (.cons (.str _) (.cons (.int _) (.cons (.int _) .nil)))
  | flip => exact .tup (SqT.of h) (.cons (.str _) .nil)
theorem low_of (s : String) (h : (s.toList.all fun c => decide (c.toNat < 128)) = true) : ∀ c ∈ TL.tl (Str.ofString s), c < 128 := fun c hc => by
  rw [tl_ofString] at hc
  obtain ⟨x, hx, rfl⟩ := List.mem_map.mp hc
  exact of_decide_eq_true (List.all_eq_true.mp h x hx)
theorem dat_word {s : String} (h : (s.toList.all fun c => decide (c.toNat < 128)) = true) (hl : (Str.ofString s).length ≤ 90) : Dat 0 1001 (.str (Str.ofString s)) :=
  (dat_str (low_of s h) hl).mono (Nat.le_refl _) (by omega)
theorem LC.dat {n : Nat} {c : LC} (h : c.ok n) (hn : n ≤ 40) : Dat 1 3012 c.d := by
  have w1 : Dat 0 1001 (.str sTurn) := dat_word (s := "turn") (by decide) (by decide)
  have w2 : Dat 0 1001 (.str sSlot) := dat_word (s := "slot") (by decide) (by decide)
  have w3 : Dat 0 1001 (.str sMir) := dat_word (s := "mirror") (by decide) (by decide)
  have e30 : (10 : Nat) ^ 40 = 10000000000000000000000000000000000000000 := by decide +kernel
  cases c with
  | turn k => exact dat_tup (k := 0) (B := 1001) (n := 3) (fun d hd => by
      simp only [List.mem_cons, List.not_mem_nil, or_false] at hd
      rcases hd with rfl | rfl
      · exact w1
      · exact dat_int (k := 40) h (by decide)) (by decide) (by show 2 ≤ 3; decide)
  | slot s l => exact dat_tup (k := 0) (B := 1001) (n := 3) (fun d hd => by
      simp only [List.mem_cons, List.not_mem_nil, or_false] at hd
      obtain ⟨h1, h2, h3⟩ := h
      rcases hd with rfl | rfl | rfl
      · exact w2
      · exact dat_int (k := 40) (by rw [e30]; omega) (by decide)
      · exact dat_int (k := 40) (by rw [e30]; omega) (by decide)) (by decide) (by show 3 ≤ 3; decide)
  | flip => exact dat_tup (k := 0) (B := 1001) (n := 3) (fun d hd => by
      simp only [List.mem_cons, List.not_mem_nil, or_false] at hd
      rcases hd with rfl
      exact w3) (by decide) (by decide)
/-! ### how live discs stand: Z: what others change -/
inductive StsAt (Z : Addr → Prop) (S L : Addr) (H : Hp) : List V → List LS → Prop
  | nil : StsAt Z S L H [] []
  | cons {t o : Addr} {s : LS} {us : List V} {ss : List LS} (h : H t = some (.tup [.ref o, .int s.2])) (g : H o = some (.lst (s.1.map V.int))) (f1 : ¬ Z t) (f2 : ¬ Z o) (n1 : o ≠ S) (n2 : o ≠ L) (r : StsAt Z S L H us ss) : StsAt Z S L H (.ref t :: us) (s :: ss)
inductive ClsAt (Z : Addr → Prop) (H : Hp) : List V → List LC → Prop
  | nil : ClsAt Z H [] []
  | cons {t : Addr} {c : LC} {us : List V} {cs : List LC} (h : H t = some (.tup c.v)) (f1 : ¬ Z t) (r : ClsAt Z H us cs) : ClsAt Z H (.ref t :: us) (c :: cs)
def Lst (H : Hp) (a : Addr) : Prop := ∃ xs, H a = some (.lst xs)
theorem tup_ne {H : Hp} {t a : Addr} {xs : List V} (h : H t = some (.tup xs)) (l : Lst H a) : t ≠ a := fun e => by
  obtain ⟨ys, l⟩ := l
  rw [e, l] at h
  cases h
theorem StsAt.up {Z : Addr → Prop} {H H' : Hp} {S L : Addr} {us : List V} {ss : List LS} (h : StsAt Z S L H us ss) (hS : Lst H S) (hL : Lst H L) (k : ∀ b x, H b = some x → ¬ Z b → b ≠ S → b ≠ L → H' b = some x) : StsAt Z S L H' us ss := by
  induction h with
  | nil => exact .nil
  | cons h g f1 f2 n1 n2 _ ih => exact .cons (k _ _ h f1 (tup_ne h hS) (tup_ne h hL)) (k _ _ g f2 n1 n2) f1 f2 n1 n2 ih
theorem ClsAt.up {Z : Addr → Prop} {H H' : Hp} {S L : Addr} {us : List V} {cs : List LC} (h : ClsAt Z H us cs) (hS : Lst H S) (hL : Lst H L) (k : ∀ b x, H b = some x → ¬ Z b → b ≠ S → b ≠ L → H' b = some x) : ClsAt Z H' us cs := by
  induction h with
  | nil => exact .nil
  | cons h f1 _ ih => exact .cons (k _ _ h f1 (tup_ne h hS) (tup_ne h hL)) f1 ih
theorem StsAt.len {Z : Addr → Prop} {H : Hp} {S L : Addr} {us : List V} {ss : List LS} (h : StsAt Z S L H us ss) : us.length = ss.length := by
  induction h with
  | nil => rfl
  | cons _ _ _ _ _ _ _ ih => rw [List.length_cons, List.length_cons, ih]
theorem ClsAt.len {Z : Addr → Prop} {H : Hp} {us : List V} {cs : List LC} (h : ClsAt Z H us cs) : us.length = cs.length := by
  induction h with
  | nil => rfl
  | cons _ _ _ ih => rw [List.length_cons, List.length_cons, ih]
theorem StsAt.snoc {Z : Addr → Prop} {H : Hp} {S L t o : Addr} {s : LS} {us : List V} {ss : List LS} (h : StsAt Z S L H us ss) (e : H t = some (.tup [.ref o, .int s.2])) (g : H o = some (.lst (s.1.map V.int))) (f1 : ¬ Z t) (f2 : ¬ Z o) (n1 : o ≠ S) (n2 : o ≠ L) :
    StsAt Z S L H (us ++ [.ref t]) (ss ++ [s]) := by
  induction h with
  | nil => exact .cons e g f1 f2 n1 n2 .nil
  | cons h g f1 f2 n1 n2 _ ih => exact .cons h g f1 f2 n1 n2 ih
theorem ClsAt.snoc {Z : Addr → Prop} {H : Hp} {t : Addr} {c : LC} {us : List V} {cs : List LC} (h : ClsAt Z H us cs) (e : H t = some (.tup c.v)) (f1 : ¬ Z t) : ClsAt Z H (us ++ [.ref t]) (cs ++ [c]) := by
  induction h with
  | nil => exact .cons e f1 .nil
  | cons h f1 _ ih => exact .cons h f1 ih
theorem ClsAt.dp {K : PySem.W.Frag} {Z : Addr → Prop} {H : Hp} {us : List V} {cs : List LC} (h : ClsAt Z H us cs) : DpAll K H us (cs.map LC.d) := by
  induction h with
  | nil => exact .nil
  | cons h _ _ ih => exact .cons (LC.dp h) ih
/-- the last state -/
theorem StsAt.last {Z : Addr → Prop} {H : Hp} {S L : Addr} {s : LS} : ∀ {us : List V} {ss : List LS}, StsAt Z S L H us (ss ++ [s]) → ∃ t o, atI us (-1) = some (.ref t) ∧ H t = some (.tup [.ref o, .int s.2]) ∧ H o = some (.lst (s.1.map V.int)) ∧ ¬ Z t ∧ ¬ Z o ∧ o ≠ S ∧ o ≠ L := by
  intro us ss h
  have hl := h.len
  rw [List.length_append] at hl
  have hl : us.length = ss.length + 1 := hl
  have key : ∀ {us : List V} {ss : List LS}, StsAt Z S L H us (ss ++ [s]) → ∃ t o, us[ss.length]? = some (.ref t) ∧ H t = some (.tup [.ref o, .int s.2]) ∧ H o = some (.lst (s.1.map V.int)) ∧ ¬ Z t ∧ ¬ Z o ∧ o ≠ S ∧ o ≠ L := by
    intro us ss
    induction ss generalizing us with
    | nil =>
      intro h
      cases h with
      | cons h g f1 f2 n1 n2 r => exact ⟨_, _, rfl, h, g, f1, f2, n1, n2⟩
    | cons x ss ih =>
      intro h
      cases h with
      | cons h g f1 f2 n1 n2 r => exact ih r
  obtain ⟨t, o, e, r⟩ := key h
  refine ⟨t, o, ?_, r⟩
  have h1 : 0 < us.length := by omega
  have e2 : us = us.take ss.length ++ [.ref t] := by
    have h2 := List.take_append_drop ss.length us
    have h3 : us.drop ss.length = [.ref t] := by
      rw [List.drop_eq_getElem_cons (by omega), List.drop_of_length_le (by omega)]
      rw [List.getElem?_eq_getElem (by omega)] at e
      rw [Option.some.inj e]
    rw [h3] at h2
    exact h2.symm
  rw [e2]
  exact atI_last _ _
structure LiveAt (C : Addr) (Z : Addr → Prop) (H : Hp) (p D S L : Addr) (ns : List Int) (ss : List LS) (cs : List LC) : Prop where
  ob : ∃ dx, H p = some (.ins C dx (putF "_log" (.ref L) (putF "_states" (.ref S) (putF "_disc" (.ref D) []))))
  gD : H D = some (.lst (ns.map V.int))
  gS : ∃ us, H S = some (.lst us) ∧ StsAt Z S L H us ss
  gL : ∃ ws, H L = some (.lst ws) ∧ ClsAt Z H ws cs
  fD : ¬ Z D
  fS : ¬ Z S
  fL : ¬ Z L
  fp : ¬ Z p
  DS : D ≠ S
  DL : D ≠ L
  SL : S ≠ L
  rim : Rim ns
  sok : ∀ s ∈ ss, LSok ns.length s
  cok : ∀ c ∈ cs, c.ok ns.length
  len : ss.length = cs.length + 1
  many : cs.length ≤ 1000
  zst : ∀ z, Z z → H z ≠ none
theorem LiveAt.up {C : Addr} {Z : Addr → Prop} {H H' : Hp} {p D S L : Addr} {ns : List Int} {ss : List LS} {cs : List LC} (h : LiveAt C Z H p D S L ns ss cs) (k : ∀ b x, H b = some x → ¬ Z b → H' b = some x) (hz : ∀ z, Z z → H' z ≠ none) : LiveAt C Z H' p D S L ns ss cs := by
  obtain ⟨us, e1, r1⟩ := h.gS
  obtain ⟨ws, e2, r2⟩ := h.gL
  obtain ⟨dx, e0⟩ := h.ob
  exact { h with
    ob := ⟨dx, k _ _ e0 h.fp⟩
    gD := k _ _ h.gD h.fD
    gS := ⟨us, k _ _ e1 h.fS, r1.up ⟨_, e1⟩ ⟨_, e2⟩ fun b x e n _ _ => k b x e n⟩
    gL := ⟨ws, k _ _ e2 h.fL, r2.up ⟨_, e1⟩ ⟨_, e2⟩ fun b x e n _ _ => k b x e n⟩
    zst := hz }
theorem stay_some {H H' : Hp} {z : Addr} (n : H z ≠ none) (k : ∀ x, H z = some x → H' z = some x) : H' z ≠ none := by
  cases e : H z with
  | none => exact absurd e n
  | some x =>
    rw [k x e]
    exact fun y => nomatch y
theorem LiveAt.same {C : Addr} {Z : Addr → Prop} {H H' : Hp} {p D S L : Addr} {ns : List Int} {ss : List LS} {cs : List LC} (h : LiveAt C Z H p D S L ns ss cs) (s : Same H H') : LiveAt C Z H' p D S L ns ss cs :=
  h.up (fun b x e _ => s b x e) fun z hz => stay_some (h.zst z hz) fun x e => s _ _ e
theorem LiveAt.but {T C : Addr} {H H' : Hp} {p D S L : Addr} {ns : List Int} {ss : List LS} {cs : List LC} (h : LiveAt C (· = T) H p D S L ns ss cs) (s : But T H H') (n : H' T ≠ none) : LiveAt C (· = T) H' p D S L ns ss cs :=
  h.up (fun b x e f => s b x e f) fun z hz => hz ▸ n
theorem LiveAt.new {C : Addr} {Z : Addr → Prop} {H : Hp} {p D S L : Addr} {ns : List Int} {ss : List LS} {cs : List LC} (h : LiveAt C Z H p D S L ns ss cs) {a : Addr} (n : H a = none) : ¬ Z a := fun z => h.zst a z n
theorem lf_disc {D S L : Addr} : (putF "_log" (V.ref L) (putF "_states" (V.ref S) (putF "_disc" (V.ref D) []))).lookup ("_disc" : Str) = some (.ref D) := by
  rw [lookup_putF, if_neg (by decide +kernel), lookup_putF, if_neg (by decide +kernel), lookup_putF, if_pos rfl]
theorem lf_states {D S L : Addr} : (putF "_log" (V.ref L) (putF "_states" (V.ref S) (putF "_disc" (V.ref D) []))).lookup ("_states" : Str) = some (.ref S) := by
  rw [lookup_putF, if_neg (by decide +kernel), lookup_putF, if_pos rfl]
theorem lf_log {D S L : Addr} : (putF "_log" (V.ref L) (putF "_states" (V.ref S) (putF "_disc" (V.ref D) []))).lookup ("_log" : Str) = some (.ref L) := by
  rw [lookup_putF, if_pos rfl]
theorem lf_no {D S L : Addr} {m : Str} (h1 : m ≠ "_log") (h2 : m ≠ "_states") (h3 : m ≠ "_disc") : (putF "_log" (V.ref L) (putF "_states" (V.ref S) (putF "_disc" (V.ref D) []))).lookup m = none := by
  rw [lookup_putF, if_neg h1, lookup_putF, if_neg h2, lookup_putF, if_neg h3]
  rfl
/-- all stays but the states and the log -/
def ButLS (S L : Addr) (H H' : Hp) : Prop := ∀ b x, H b = some x → b ≠ S → b ≠ L → H' b = some x
theorem ButLS.trans {S L : Addr} {H H1 H2 : Hp} (a : ButLS S L H H1) (b : ButLS S L H1 H2) : ButLS S L H H2 := fun c o h n m => b c o (a c o h n m) n m
theorem ButLS.of {S L : Addr} {H H' : Hp} (s : Same H H') : ButLS S L H H' := fun b o h _ _ => s b o h
end Sd

namespace Sd
open PySem PySem.Spec PyProof.Rows L2
/-! ### == and != by an own __eq__, with either answer -/
section
variable {X : Cx} {C : CXT} {k : Nat} {D f : Addr} {fd : FuncData} {ps : List Str} {sp : Sp} {E : XK}
def rOwnEq (D : Addr) (sp : Sp) (E : XK) (neg : Bool) : V → V → Hp → VK → Prop := fun x y H Q => ∃ a b dx dy fs gs, x = .ref a ∧ y = .ref b ∧ H a = some (.ins D dx fs) ∧ H b = some (.ins D dy gs) ∧ sp [.ref a, .ref b] H (fun v H' => ∃ r : Bool, v = .bl r ∧ Q (.bl (if neg then !r else r)) H') E
theorem own_run {A : Around} {pins : List (Addr × Obj)} {σ : L2.St} {H : Hp} {s : Shared} {Q : Bool → Hp → Prop} {a b : Addr} {E' : Value → Shared → Prop} (G : FnOk X.prog X.w X.K X.mg X.base C k f fd ps sp) (hr : Room k A) (hA : A.frames = X.A.frames) (hb : Binds X.K fd ps [])
    (hx : ∀ e s', C X.stack H s E e s' → E' e s') (I : Inv X pins σ H s) (q : sp [.ref a, .ref b] H (fun v H' => ∃ r : Bool, v = .bl r ∧ Q r H') E) :
    wpAny (model X.prog X.w) A (call (.ref f) [.ref a, .ref b]) (fun v s' => ∃ (r : Bool) (H' : Hp), v = .bool r ∧ Inv X pins σ H' s' ∧ Q r H') E' s := by
  have e0 : Env0 X.prog X.w X.K X.mg X.base A X.stack s H := by
    have e := I.env0
    exact ⟨by rw [hA]; exact e.frames, e.mod, e.bs, e.bsz, e.funs, e.frf, e.hok, e.bare⟩
  have hl := G.len _ _ _ _ q
  have bi := hb s [.ref a, .ref b] I.kIn (by simpa using hl)
  have vv : Vals [V.ref a, V.ref b] ([Value.ref a, Value.ref b] ++ []) := .cons rfl (.cons rfl .nil)
  refine wpAny_call (codeAny_mono (G.run A X.stack s H ⟨[.ref a, .ref b], []⟩ ([.ref a, .ref b] ++ []) [.ref a, .ref b] _ E hr e0 bi vv q) fun r s' hq => ?_)
  cases r with
  | error e => exact hx e s' hq
  | ok fl =>
    cases fl with
    | ret u =>
      obtain ⟨v, H', I', rv, r, ev, q'⟩ := I.after hq
      subst ev
      have eu : u = Value.bool r := rv
      exact ⟨r, H', eu, I', q'⟩
    | next => exact False.elim hq
    | brk => exact False.elim hq
    | cont => exact False.elim hq
theorem op_eqOwn (hm : Meth X.K D "__eq__" f) (G : FnOk X.prog X.w X.K X.mg X.base C k f fd ps sp) (hr : Room k X.A) (hb : Binds X.K fd ps []) (hx : Passes C X E) : OpR X (compareOp .Eq) (rOwnEq D sp E false) := by
  intro pins s σ H x y v u Q I rx ry h
  obtain ⟨a, b, dx, dy, fs, gs, rfl, rfl, ha, hb', q⟩ := h
  cases rx
  cases ry
  obtain ⟨_, J, _⟩ := ins_get I.hok ha
  obtain ⟨_, J', _⟩ := ins_get I.hok hb'
  obtain ⟨_, J, _⟩ := J.look
  obtain ⟨_, J', _⟩ := J'.look
  obtain ⟨_, hF⟩ := I.fr
  refine PySem.W.cmp_K (op := .Eq) (tb := .ref D) hr.units0 hF I.ok.mod.kin J J'.type (by simp [PySem.W.notFirst]) hm.at_ hm.fn ?_
  refine wpAny_mono (own_run G hr rfl hb (fun e s' z => hx pins σ H s e s' I z) I q) (fun v s' z => ?_) fun _ _ z => z
  obtain ⟨r, H', rfl, I', q'⟩ := z
  exact ⟨.bl r, H', I', rfl, q'⟩
theorem op_neOwn (hm : Meth X.K D "__eq__" f) (hn : PySem.W.findIn X.K (.ref D) "__ne__" = some (some (.builtin "object.__ne__"))) (ho : PySem.W.mroIn X.K D (.type "object") = some true) (G : FnOk X.prog X.w X.K X.mg X.base C k f fd ps sp) (hr : Room (k + 1) X.A)
    (hb : Binds X.K fd ps []) (hx : Passes C X E) : OpR X (compareOp .NotEq) (rOwnEq D sp E true) := by
  intro pins s σ H x y v u Q I rx ry h
  obtain ⟨a, b, dx, dy, fs, gs, rfl, rfl, ha, hb', q⟩ := h
  cases rx
  cases ry
  obtain ⟨_, J, _⟩ := ins_get I.hok ha
  obtain ⟨_, J', _⟩ := ins_get I.hok hb'
  obtain ⟨_, J, _⟩ := J.look
  obtain ⟨_, J', _⟩ := J'.look
  have hu : X.A.in1.units < cLine := hr.in1.units0
  have body : wpAny (model X.prog X.w) X.A.in1 (Builtin.«object.__ne__» ⟨[.ref a, .ref b], []⟩) (fun fin s' => ∃ (r : Bool) (H' : Hp), fin = .done (.ret (.bool r)) ∧ Inv X pins σ H' s' ∧ Q (.bl r) H') X.xe s := by
    unfold Builtin.«object.__ne__»
    refine wpAny_bind (wpAny_pure (wpAny_bind (wpAny_cRoomFor hu ?_)))
    refine wpAny_bind (m := callSpecialIfBound? _ _ _) (PySem.W.ifBound_K I.kIn J hm.at_ hm.fn (wpAny_mono (own_run G hr.in1 rfl hb (fun e s' z => hx pins σ H s e s' I z) I q) (fun v s' z => ?_) fun _ _ z => z))
    obtain ⟨r, H', rfl, I', q'⟩ := z
    refine wpAny_bind (m := truthy _) (wpAny_truthy_bool ?_)
    exact wpAny_pure ⟨!r, H', rfl, I', q'⟩
  have cl : wpAny (model X.prog X.w) X.A (call (.builtin "object.__ne__") ([Value.ref a] ++ [.ref b])) (fun v s' => ∃ (r : Bool) (H' : Hp), v = .bool r ∧ Inv X pins σ H' s' ∧ Q (.bl r) H') X.xe s := by
    refine wpAny_call (codeAny_call_builtin PySem.F.cmp_object.ne.plain PySem.F.cmpEntry_ne (PySem.W.check_slot PySem.F.cmpKind_ne PySem.F.cmpSplit_ne (J.type.andThen (PySem.W.looks_mroIn I.kIn ho)) (PySem.F.cmpArgs_ne _ _) (wpAny_mono body (fun fin s' z => ?_) fun _ _ z => z)))
    obtain ⟨r, H', rfl, I', z⟩ := z
    exact ⟨r, H', rfl, I', z⟩
  have one : wpAny (model X.prog X.w) X.A (tryCompare (.ref a) "__ne__" (.ref b)) (fun v s' => ∃ (r : Bool) (H' : Hp), v = some (.bool r) ∧ Inv X pins σ H' s' ∧ Q (.bl r) H') X.xe s := by
    unfold tryCompare
    refine wpAny_bind (m := callSpecialIfBound? _ _ _) (NtL.csib (J.type.andThen (PySem.W.looks_findIn I.kIn hn)) (PySem.F.cmp_object.ne.bind _) (wpAny_mono cl (fun v s' z => ?_) fun _ _ z => z))
    obtain ⟨r, H', rfl, I', z⟩ := z
    exact wpAny_pure ⟨r, H', rfl, I', z⟩
  show wpAny _ _ (richCompare .NotEq (.ref a) (.ref b)) _ _ _
  unfold richCompare
  simp only [oneThing_ref]
  refine wpAny_holding (wpAny_bind (wpAny_cRoomFor hr.units0 ?_))
  rw [cmpInfo_NotEq]
  refine wpAny_bind (J.type.here (wpAny_bind (J'.type.here ?_)))
  rw [show (Value.ref D != Value.ref D) = false by simp]
  simp only [Bool.false_eq_true, if_false]
  refine wpAny_bind (wpAny_pure ?_)
  simp only [Bool.false_eq_true, if_false]
  refine wpAny_bind (wpAny_mono one (fun v s' z => ?_) fun _ _ z => z)
  obtain ⟨r, H', rfl, I', z⟩ := z
  exact wpAny_pure ⟨.bl r, H', I', rfl, z⟩
end
theorem kitOne_self (K : PySem.W.Frag) (a : Addr) : PySem.W.kitOne K (.ref a) (.ref a) = some true := if_pos (by first | exact beq_self_eq_true _ | simp)
theorem pg_lstL {X : Cx} {K : PySem.W.Frag} {es : List Expr} {j : Nat} {pos : Pos} {t : TGs} {n : Nat} (h : X.K = K) (hc : X.calm = true) (hs : PGs X es t)
    (hn : (assignEach es X.env).length = n := by rfl) (hst : (assignEach es X.env).findIdx? (·.1) = none := by rfl) : PG X (.Tuple es j pos) (gLst K n t) := h ▸ pg_lst hc hs hn hst
end Sd

namespace Sd
open PySem PySem.Spec PyProof.Rows L2
/-! ### == by an own __eq__ with any other value -/
section
variable {X : Cx} {C : CXT} {k : Nat} {D f : Addr} {fd : FuncData} {ps : List Str} {sp : Sp} {E : XK}
def rOwnEqA (K : PySem.W.Frag) (D : Addr) (sp : Sp) (E : XK) : V → V → Hp → VK → Prop := fun x y H Q => ∃ a dx fs t, x = .ref a ∧ H a = some (.ins D dx fs) ∧ TyX K H y t ∧ PySem.W.notFirst K D t = true ∧ sp [.ref a, y] H (fun v H' => ∃ r : Bool, v = .bl r ∧ Q (.bl r) H') E
theorem own_runA {A : Around} {pins : List (Addr × Obj)} {σ : L2.St} {H : Hp} {s : Shared} {Q : Bool → Hp → Prop} {a : Addr} {y : V} {u : Value} {E' : Value → Shared → Prop} (ry : RelV y u) (G : FnOk X.prog X.w X.K X.mg X.base C k f fd ps sp) (hr : Room k A) (hA : A.frames = X.A.frames) (hb : Binds X.K fd ps [])
    (hx : ∀ e s', C X.stack H s E e s' → E' e s') (I : Inv X pins σ H s) (q : sp [.ref a, y] H (fun v H' => ∃ r : Bool, v = .bl r ∧ Q r H') E) :
    wpAny (model X.prog X.w) A (call (.ref f) [.ref a, u]) (fun v s' => ∃ (r : Bool) (H' : Hp), v = .bool r ∧ Inv X pins σ H' s' ∧ Q r H') E' s := by
  have e0 : Env0 X.prog X.w X.K X.mg X.base A X.stack s H := by
    have e := I.env0
    exact ⟨by rw [hA]; exact e.frames, e.mod, e.bs, e.bsz, e.funs, e.frf, e.hok, e.bare⟩
  have hl := G.len _ _ _ _ q
  have bi := hb s [.ref a, u] I.kIn (by simpa using hl)
  have vv : Vals [V.ref a, y] ([Value.ref a, u] ++ []) := .cons rfl (.cons ry .nil)
  refine wpAny_call (codeAny_mono (G.run A X.stack s H ⟨[.ref a, u], []⟩ ([.ref a, u] ++ []) [.ref a, y] _ E hr e0 bi vv q) fun r s' hq => ?_)
  cases r with
  | error e => exact hx e s' hq
  | ok fl =>
    cases fl with
    | ret u =>
      obtain ⟨v, H', I', rv, r, ev, q'⟩ := I.after hq
      subst ev
      have eu : u = Value.bool r := rv
      exact ⟨r, H', eu, I', q'⟩
    | next => exact False.elim hq
    | brk => exact False.elim hq
    | cont => exact False.elim hq
theorem op_eqOwnA {K : PySem.W.Frag} (hK : X.K = K) (hm : Meth X.K D "__eq__" f) (G : FnOk X.prog X.w X.K X.mg X.base C k f fd ps sp) (hr : Room k X.A) (hb : Binds X.K fd ps []) (hx : Passes C X E) : OpR X (compareOp .Eq) (rOwnEqA K D sp E) := by
  subst hK
  intro pins s σ H x y v u Q I rx ry h
  obtain ⟨a, dx, fs, t, rfl, ha, ty, hn, q⟩ := h
  cases rx
  obtain ⟨P, Z, p, hx'⟩ := kit_of I ry ty
  obtain ⟨_, J, _⟩ := ins_get I.hok ha
  obtain ⟨_, J, _⟩ := J.look
  obtain ⟨_, hF⟩ := I.fr
  refine PySem.W.cmp_K (op := .Eq) (tb := t) hr.units0 hF I.ok.mod.kin J (Z.ty _ _ I.kIn p) hn hm.at_ hm.fn ?_
  refine wpAny_mono (own_runA ry G hr rfl hb (fun e s' z => hx pins σ H s e s' I z) I q) (fun v s' z => ?_) fun _ _ z => z
  obtain ⟨r, H', rfl, I', q'⟩ := z
  exact ⟨.bl r, H', I', rfl, q'⟩
end
theorem clsIn_of {K : PySem.W.Frag} {C : Addr} (e : PySem.W.makesIn K C = true) : (PySem.W.clsIn K C).isSome = true := by
  unfold PySem.W.makesIn at e
  unfold PySem.W.clsIn
  split at e
  · rename_i ho
    rw [ho]
    rfl
  · cases e
/-- a value that is no such instance -/
theorem kitOne_not {K : PySem.W.Frag} {C : Addr} {T : String} (m : PySem.W.makesIn K C = true) (ty : PySem.W.typeIn K (.ref C) = some (.type "type")) (h : PySem.W.subIn K (.type T) (.ref C) = some false) : PySem.W.kitOne K (.type T) (.ref C) = some false := by
  unfold PySem.W.kitOne PySem.W.kitCls
  rw [if_neg (by simp)]
  simp only [clsIn_of m, ty]
  exact h
end Sd

namespace Sd
open PySem PySem.Spec PyProof.Rows L2
/-! ### zip(*xs): any number of iterators -/
abbrev IsTupA (h : Heap) (T : Addr) (vs : Array Value) : Prop := h.get? T = some { cls := .type "tuple", data := .seq vs }
abbrev IsZipB (h : Heap) (z TI TO : Addr) (f0 b : Value) : Prop :=
  h.get? z = some { cls := .type "zip", dict := none, data := .fields #[f0, b, .bool false, .ref TI, .ref TO], slots := #[] }
/-- a zip that goes on: its tuple is handed out or not -/
def ZOk (h : Heap) (z TI TO : Addr) : Prop := ∃ f0 b, IsZipB h z TI TO f0 b ∧ (f0 = .none ∨ ∃ T : Nat, f0 = rawInt (T : Int))
def refsN (it : Nat → Addr) (N : Nat) : List Value := (List.range N).map fun k => .ref (it k)
structure ZipSepN (z TI TO : Addr) (N : Nat) (it : Nat → Addr) (fp : Nat → List Addr) : Prop where
  TIz : TI ≠ z
  TOz : TO ≠ z
  TITO : TI ≠ TO
  TIi : ∀ k, k < N → TI ≠ it k
  mem : ∀ k, k < N → it k ∈ fp k
  zf : ∀ k, k < N → z ∉ fp k
  Tf : ∀ k, k < N → TO ∉ fp k
  sep : ∀ k l, k < N → l < N → k ≠ l → it k ∉ fp l
section
variable {prog : Program} {w : World} {A : Around} {E : Value → Shared → Prop} {s : Shared} {z TI TO : Addr} {N n i : Nat} {it : Nat → Addr} {fp : Nat → List Addr} {P : Nat → Nat → Value → Prop} {St : Nat → Nat → Heap → Prop} {vals : Array Value}
theorem ZipSepN.zi (D : ZipSepN z TI TO N it fp) {k : Nat} (h : k < N) : z ≠ it k := fun e => D.zf k h (by rw [e]; exact D.mem k h)
theorem ZipSepN.Ti (D : ZipSepN z TI TO N it fp) {k : Nat} (h : k < N) : TO ≠ it k := fun e => D.Tf k h (by rw [e]; exact D.mem k h)
theorem updateSeq_A {T : Addr} {x : Value} {k : Nat} {Q : Unit → Shared → Prop} (hT : IsTupA s.heap T vals) (hs : vals.size ≤ sizeLine)
    (h : ∀ h', IsTupA h' T (vals.setIfInBounds k x) → Heap.SameBut T s.heap h' → Q () { s with heap := h' }) :
    wpAny (model prog w) A (updateSeq T (·.setIfInBounds k x)) Q E s := by
  refine wpAny_updateSeq (xs := vals) hT rfl (h _ ?_ (Heap.SameBut.update ..)) hs (by rw [Array.size_setIfInBounds]; exact Nat.le_succ_of_le hs)
  rw [IsTupA, Heap.get?_update_self _ hT rfl]
  simp [Obj.mapSeq]
theorem alive_any {a : Addr} {Q : Option Obj → Shared → Prop} (h : Q (s.heap.get? a) s) : wpAny (model prog w) A (loadIfAlive a) Q E s := fun _ _ _ => h
theorem same_refl (x : Addr) (h : Heap) : Heap.SameBut x h h := ⟨rfl, fun _ _ => rfl⟩
/-- behind k draws -/
structure MidN (P : Nat → Nat → Value → Prop) (St : Nat → Nat → Heap → Prop) (z TI TO : Addr) (N i : Nat) (it : Nat → Addr) (h0 : Heap) (k : Nat) (s : Shared) (g : Array GenState) (d : Drawn) (os : OsState) : Prop where
  gens : s.gens = g
  drawn : s.drawn = d
  os' : s.os = os
  zip : ∃ b, IsZipB s.heap z TI TO .ellipsis b
  to : ∃ vs : Array Value, IsTupA s.heap TO vs ∧ vs.size = N ∧ ∀ j, j < k → ∃ x, vs[j]? = some x ∧ P j i x
  done : ∀ j, j < k → St j (i + 1) s.heap
  rest : ∀ j, k ≤ j → j < N → St j i s.heap
  keep : ∀ c o, c ≠ z → c ≠ TO → (∀ j, j < N → c ≠ it j) → h0.get? c = some o → s.heap.get? c = some o
  size : s.heap.objs.size = h0.objs.size
theorem zip_free {f0 bb : Value} {hp : Heap} {g : Array GenState} {d : Drawn} {tk0 : Nat} {os : OsState} (hz : IsZipB hp z TI TO f0 bb) (hf0 : f0 = .none ∨ ∃ T : Nat, f0 = rawInt (T : Int)) :
    wpAny (model prog w) A (Builtin.SmallTypes.ownedTupleIsFree (.ref z)) (fun r s' => ∃ h' b', s' = ⟨h', g, d, tk0, os⟩ ∧ IsZipB h' z TI TO f0 b' ∧ Heap.SameBut z hp h') E ⟨hp, g, d, tk0, os⟩ := by
  unfold Builtin.SmallTypes.ownedTupleIsFree
  refine wpAny_bind (wpAny_field hz rfl (x := f0) rfl ?_)
  rcases hf0 with rfl | ⟨T, rfl⟩
  · exact wpAny_pure ⟨hp, bb, rfl, hz, same_refl z hp⟩
  · show wpAny _ _ (loadIfAlive ((T : Int).toNat) >>= _) _ _ _
    refine wpAny_bind (alive_any ?_)
    split
    · exact wpAny_pure ⟨hp, bb, rfl, hz, same_refl z hp⟩
    · refine wpAny_bind (wpAny_field hz rfl (x := bb) rfl ?_)
      split
      · refine wpAny_bind (wpAny_setField_rec hz (by simp) fun h2 hz2 hs2 => wpAny_pure ⟨h2, _, rfl, hz2, hs2⟩)
      · exact wpAny_pure ⟨hp, bb, rfl, hz, same_refl z hp⟩
theorem zipN_next_item {Q : Value → Shared → Prop} (hN : 0 < N) (S : ZipSepN z TI TO N it fp) (D : ∀ k, k < N → Draws prog w A (it k) (fp k) n (P k) (St k))
    (hz : ZOk s.heap z TI TO) (hTI : IsTupA s.heap TI (refsN it N).toArray) (hTO : IsTupA s.heap TO vals) (hv : vals.size = N) (hs : N ≤ sizeLine) (st : ∀ k, k < N → St k i s.heap) (hlt : i < n)
    (hQ : ∀ (vs : Array Value) h' tk, vs.size = N → (∀ j, j < N → ∃ x, vs[j]? = some x ∧ P j i x) → ZOk h' z TI TO → (∃ vt, IsTupA h' TO vt ∧ vt.size = N) → (∀ j, j < N → St j (i + 1) h') → IsTupA h' s.heap.objs.size vs → h'.objs.size = s.heap.objs.size + 1 →
      (∀ c o, c ≠ z → c ≠ TO → (∀ j, j < N → c ≠ it j) → s.heap.get? c = some o → h'.get? c = some o) → Q (.ref s.heap.objs.size) { s with heap := h', toks := tk }) :
    wpAny (model prog w) A (Builtin.«zip.__next__» ⟨[.ref z], []⟩) (fun fin s' => ∃ v, fin = .done (.ret v) ∧ Q v s') E s := by
  obtain ⟨hp, g, d, tk0, os⟩ := s
  obtain ⟨f0, bb, hz, hf0⟩ := hz
  show wpAny _ _ (field (.ref z) 2 >>= _) _ _ _
  refine wpAny_bind (wpAny_field hz rfl (x := .bool false) rfl ?_)
  show wpAny _ _ (field (.ref z) 3 >>= _) _ _ _
  refine wpAny_bind (wpAny_field hz rfl (x := .ref TI) rfl ?_)
  refine wpAny_bind (wpAny_seqItems hTI rfl ?_)
  have hne : (refsN it N).toArray.isEmpty = false := by
    unfold refsN
    cases N with
    | zero => omega
    | succ N => simp [List.range_succ]
  simp only [hne, Bool.false_eq_true, if_false]
  refine wpAny_bind (wpAny_mono (zip_free hz hf0) (fun r s' hr => ?_) fun _ _ q => q)
  obtain ⟨hp', b', rfl, hz', hsz'⟩ := hr
  have hlist : ∀ k, k ≤ N → ∃ rest, ((refsN it N).toArray.toList.zipIdx.drop k) = rest ∧ (k < N → rest = (.ref (it k), k) :: (refsN it N).toArray.toList.zipIdx.drop (k + 1)) := fun k hk => by
    refine ⟨_, rfl, fun h => ?_⟩
    have hl : k < (refsN it N).toArray.toList.zipIdx.length := by
      unfold refsN
      simp
      exact h
    rw [List.drop_eq_getElem_cons hl]
    congr 1
    rw [List.getElem_zipIdx]
    unfold refsN
    simp
  cases r with
  | true =>
      simp only [if_true]
      refine wpAny_bind (wpAny_rule ?_)
      refine wpAny_bind (wpAny_field hz' rfl (x := .ref TO) rfl ?_)
      refine wpAny_bind (wpAny_setField_rec hz' (by simp) fun g0 hz0 hs0 => ?_)
      replace hz0 : IsZipB g0 z TI TO .ellipsis b' := hz0
      replace hs0 : Heap.SameBut z hp g0 := ⟨(show g0.objs.size = hp'.objs.size from hs0.1).trans hsz'.1, fun c hc => (hs0.2 c hc).trans (hsz'.2 c hc)⟩
      refine wpAny_bind ?_
      refine wpAny_forIn_list _ (fun rest b s' => b.1 = none ∧ ∃ k, k ≤ N ∧ rest = (refsN it N).toArray.toList.zipIdx.drop k ∧ MidN P St z TI TO N i it hp k s' g d os) _ ?_ ?_ _ _ ?_
      · rintro ⟨x, k'⟩ rest ⟨b1, b2⟩ s1 ⟨hb, k, hk, hr, M⟩
        have hkN : k < N := by
          rcases Nat.lt_or_ge k N with q | q
          · exact q
          · rw [List.drop_of_length_le (by unfold refsN; simp; exact q)] at hr
            cases hr
        obtain ⟨_, rfl, hcons⟩ := hlist k hk
        rw [hcons hkN] at hr
        injection hr with h1 h2
        injection h1 with h1 h3
        subst h1 h3 h2
        refine wpAny_bind (wpAny_onRaise ?_)
        obtain ⟨p1, g1, d1, tk1, os1⟩ := s1
        obtain ⟨e1, e2, e3, M1, ⟨vs, hvs, hvn, hvx⟩, M3, M4, M5, M6⟩ := M
        dsimp only at e1 e2 e3
        subst e1 e2 e3
        show wpAny _ _ (Builtin.SmallTypes.nextOf (.ref (it k')) >>= _) _ _ ⟨p1, g1, d1, tk1, os1⟩
        refine wpAny_bind ((D k' hkN).item i _ _ _ hlt (M4 k' (Nat.le_refl _) hkN) fun x p2 tk2 hx sn hp2 => wpAny_pure ?_)
        replace hp2 : Heap.SameBut (it k') p1 p2 := hp2
        have hU : IsTupA p2 TO vs := hp2.extBut _ _ (S.Ti hkN) hvs
        refine wpAny_bind (wpAny_seqItems (s := ⟨p2, g1, d1, tk2, os1⟩) hU rfl ?_)
        refine wpAny_bind (updateSeq_A (s := ⟨p2, g1, d1, tk2, os1⟩) hU (by rw [hvn]; exact hs) fun p3 hT hs3 => ?_)
        replace hs3 : Heap.SameBut TO p2 p3 := hs3
        refine wpAny_bind (wpAny_letGo (wpAny_pure ?_))
        refine ⟨rfl, k' + 1, hkN, rfl, rfl, rfl, rfl, ?_, ⟨vs.setIfInBounds k' x, hT, by rw [Array.size_setIfInBounds]; exact hvn, fun j hj => ?_⟩, fun j hj => ?_, fun j hj hjN => ?_, fun c o cz cT ci e => ?_, ?_⟩
        · obtain ⟨bz, M1⟩ := M1
          exact ⟨bz, hs3.extBut _ _ S.TOz.symm (hp2.extBut _ _ (S.zi hkN) M1)⟩
        · by_cases q : j = k'
          · subst q
            exact ⟨x, by rw [Array.getElem?_setIfInBounds_self_of_lt (by omega)], hx⟩
          · obtain ⟨y, hy, py⟩ := hvx j (by omega)
            exact ⟨y, by rw [Array.getElem?_setIfInBounds_ne (Ne.symm q)]; exact hy, py⟩
        · by_cases q : j = k'
          · subst q
            exact (D j hkN).over sn hs3 (S.Tf j hkN)
          · exact (D j (by omega)).over ((D j (by omega)).over (M3 j (by omega)) hp2 (S.sep k' j hkN (by omega) (Ne.symm q))) hs3 (S.Tf j (by omega))
        · exact (D j hjN).over ((D j hjN).over (M4 j (by omega) hjN) hp2 (S.sep k' j hkN hjN (by omega))) hs3 (S.Tf j hjN)
        · exact hs3.extBut _ _ cT (hp2.extBut _ _ (ci k' hkN) (M5 c o cz cT ci e))
        · show p3.objs.size = _
          rw [hs3.1, hp2.1]
          exact M6
      · rintro ⟨b1, b2⟩ s1 ⟨hb, k, hk, hr, M⟩
        have hkN : k = N := by
          rcases Nat.lt_or_ge k N with q | q
          · obtain ⟨_, rfl, hcons⟩ := hlist k hk
            rw [hcons q] at hr
            cases hr
          · omega
        subst hkN
        dsimp only at hb
        subst hb
        obtain ⟨p1, g1, d1, tk1, os1⟩ := s1
        obtain ⟨e1, e2, e3, M1, ⟨vs, hvs, hvn, hvx⟩, M3, M4, M5, M6⟩ := M
        dsimp only at e1 e2 e3
        subst e1 e2 e3
        refine wpAny_bind (wpAny_seqItems (s := ⟨p1, g1, d1, tk1, os1⟩) hvs rfl ?_)
        refine wpAny_bind (wpAny_newTuple (hsz := by rw [Array.length_toList, hvn]; exact hs) ?_)
        obtain ⟨bz, M1⟩ := M1
        have hzlt : z < p1.objs.size := Heap.lt_size M1
        show wpAny _ _ (Builtin.SmallTypes.ownedTupleHandOut (.ref z) (.ref p1.objs.size) >>= _) _ _ ⟨p1.push { cls := .type "tuple", data := .seq vs.toList.toArray }, g1, d1, tk1, os1⟩
        rw [Array.toArray_toList]
        refine wpAny_bind ?_
        unfold Builtin.SmallTypes.ownedTupleHandOut
        have hz₆ : IsZipB (p1.push { cls := .type "tuple", data := .seq vs }) z TI TO .ellipsis bz := Heap.get?_push_of_some _ M1
        refine wpAny_bind (wpAny_setField_rec hz₆ (by simp) fun h₇ hz₇ hs₇ => ?_)
        replace hz₇ : IsZipB h₇ z TI TO (rawInt p1.objs.size) bz := hz₇
        refine wpAny_setField_rec hz₇ (by simp) fun h₈ hz₈ hs₈ => ?_
        replace hz₈ : IsZipB h₈ z TI TO (rawInt p1.objs.size) (.bool false) := hz₈
        replace hs₇ : Heap.SameBut z (p1.push { cls := .type "tuple", data := .seq vs }) h₇ := hs₇
        replace hs₈ : Heap.SameBut z h₇ h₈ := hs₈
        have up : ∀ c o, c ≠ z → p1.get? c = some o → h₈.get? c = some o := fun c o c1 e => hs₈.extBut _ _ c1 (hs₇.extBut _ _ c1 (Heap.get?_push_of_some _ e))
        have hT₈ : IsTupA h₈ p1.objs.size vs := hs₈.extBut _ _ (Nat.ne_of_gt hzlt) (hs₇.extBut _ _ (Nat.ne_of_gt hzlt) (Heap.get?_push_size _ rfl))
        have hz8 : h₈.objs.size = p1.objs.size + 1 := by rw [hs₈.1, hs₇.1, Heap.size_push]
        have hsz : p1.objs.size = hp.objs.size := M6
        rw [hsz] at hz₈ hT₈ hz8
        refine wpAny_pure ⟨_, rfl, ?_⟩
        show Q (.ref p1.objs.size) ⟨h₈, g1, d1, tk1, os1⟩
        rw [hsz]
        exact hQ vs h₈ tk1 hvn hvx ⟨_, _, hz₈, .inr ⟨_, rfl⟩⟩ ⟨vs, up _ _ S.TOz hvs, hvn⟩ (fun j hj => (D j hj).frame _ _ _ (M3 j hj) fun b hb o e => up b o (fun q => S.zf j hj (q ▸ hb)) e) hT₈ hz8 fun c o cz cT ci e => up c o cz (M5 c o cz cT ci e)
      · refine ⟨rfl, 0, Nat.zero_le _, rfl, rfl, rfl, rfl, ⟨_, hz0⟩, ⟨vals, hs0.extBut _ _ S.TOz hTO, hv, fun j hj => absurd hj (Nat.not_lt_zero _)⟩, fun j hj => absurd hj (Nat.not_lt_zero _), fun j _ hj => (D j hj).over (st j hj) hs0 (S.zf j hj), fun c o cz _ _ e => hs0.extBut _ _ cz e, hs0.1⟩
  | false =>
    simp only [Bool.false_eq_true, if_false]
    rw [List.forIn_toArray]
    have hl2 : ∀ k, k < N → (refsN it N).drop k = .ref (it k) :: (refsN it N).drop (k + 1) := fun k h => by
      have hl : k < (refsN it N).length := by
        unfold refsN
        simp
        exact h
      have e : (refsN it N)[k] = .ref (it k) := by simp only [refsN, List.getElem_map, List.getElem_range]
      rw [List.drop_eq_getElem_cons hl, e]
    refine wpAny_bind ?_
    refine wpAny_forIn_list _ (fun rest b s' => b.1 = none ∧ ∃ k, k ≤ N ∧ rest = (refsN it N).drop k ∧ b.2.size = k ∧ (∀ j, j < k → ∃ x, b.2[j]? = some x ∧ P j i x) ∧ ∃ h' tk, s' = ⟨h', g, d, tk, os⟩ ∧ IsZipB h' z TI TO f0 b' ∧ IsTupA h' TO vals ∧
      (∀ j, j < k → St j (i + 1) h') ∧ (∀ j, k ≤ j → j < N → St j i h') ∧ (∀ c o, c ≠ z → c ≠ TO → (∀ j, j < N → c ≠ it j) → hp.get? c = some o → h'.get? c = some o) ∧ h'.objs.size = hp.objs.size) _ ?_ ?_ _ _ ?_
    · rintro x rest ⟨b1, b2⟩ s1 ⟨hb, k, hk, hr, hbk, hbx, h', tk, rfl, M1, M2, M3, M4, M5, M6⟩
      have hkN : k < N := by
        rcases Nat.lt_or_ge k N with q | q
        · exact q
        · rw [List.drop_of_length_le (by unfold refsN; simp; exact q)] at hr
          cases hr
      rw [hl2 k hkN] at hr
      injection hr with h1 h2
      subst h1 h2
      dsimp only at hb hbk hbx
      subst hb hbk
      refine wpAny_bind (wpAny_holding ?_)
      show wpAny _ _ (Builtin.SmallTypes.nextOf (.ref (it b2.size)) >>= _) _ _ ⟨h', g, d, tk, os⟩
      refine wpAny_bind ((D b2.size hkN).item i _ _ _ hlt (M4 b2.size (Nat.le_refl _) hkN) fun x p2 tk2 hx sn hp2 => wpAny_pure (wpAny_pure ?_))
      replace hp2 : Heap.SameBut (it b2.size) h' p2 := hp2
      refine ⟨rfl, b2.size + 1, hkN, rfl, Array.size_push _, fun j hj => ?_, p2, tk2, rfl, hp2.extBut _ _ (S.zi hkN) M1, hp2.extBut _ _ (S.Ti hkN) M2, fun j hj => ?_, fun j hj hjN => ?_, fun c o cz cT ci e => hp2.extBut _ _ (ci b2.size hkN) (M5 c o cz cT ci e), hp2.1.trans M6⟩
      · have hj : j < b2.size + 1 := hj
        by_cases q : j = b2.size
        · rw [q]
          exact ⟨x, Array.getElem?_push_size, by rw [← q] at hx ⊢; exact hx⟩
        · have hj2 : j < b2.size := by omega
          obtain ⟨y, hy, py⟩ := hbx j hj2
          have hy : b2[j]? = some y := hy
          exact ⟨y, by show (b2.push x)[j]? = some y; rw [Array.getElem?_push_lt hj2]; rw [Array.getElem?_eq_getElem hj2] at hy; exact hy, py⟩
      · by_cases q : j = b2.size
        · rw [q]
          exact sn
        · have hj2 : j < b2.size := by
            have hj : j < b2.size + 1 := hj
            omega
          exact (D j (Nat.lt_trans hj2 hkN)).over (M3 j hj2) hp2 (S.sep b2.size j hkN (Nat.lt_trans hj2 hkN) (Ne.symm q))
      · exact (D j hjN).over (M4 j (by omega) hjN) hp2 (S.sep b2.size j hkN hjN (by omega))
    · rintro ⟨b1, b2⟩ s1 ⟨hb, k, hk, hr, hbk, hbx, h', tk, rfl, M1, M2, M3, M4, M5, M6⟩
      have hkN : k = N := by
        rcases Nat.lt_or_ge k N with q | q
        · rw [hl2 k q] at hr
          cases hr
        · omega
      subst hkN
      dsimp only at hb hbk hbx
      subst hb
      show wpAny _ _ (newTuple b2.toList >>= _) _ _ _
      refine wpAny_bind (wpAny_newTuple (hsz := by rw [Array.length_toList, hbk]; exact hs) ?_)
      refine wpAny_pure ⟨_, rfl, ?_⟩
      rw [Array.toArray_toList]
      show Q (.ref h'.objs.size) ⟨h'.push { cls := .type "tuple", data := .seq b2 }, g, d, tk, os⟩
      have up : ∀ c o, h'.get? c = some o → (h'.push { cls := .type "tuple", data := .seq b2 }).get? c = some o := fun c o e => Heap.get?_push_of_some _ e
      have hT : IsTupA (h'.push { cls := .type "tuple", data := .seq b2 }) h'.objs.size b2 := Heap.get?_push_size _ rfl
      have hz8 : (h'.push { cls := .type "tuple", data := .seq b2 }).objs.size = h'.objs.size + 1 := Heap.size_push ..
      rw [M6] at hT hz8 ⊢
      exact hQ b2 _ tk hbk hbx ⟨_, _, up _ _ M1, hf0⟩ ⟨vals, up _ _ M2, hv⟩ (fun j hj => (D j hj).frame _ _ _ (M3 j hj) fun b hb o e => up b o e) hT hz8 fun c o cz cT ci e => up c o (M5 c o cz cT ci e)
    · exact ⟨rfl, 0, Nat.zero_le _, rfl, rfl, fun j hj => absurd hj (Nat.not_lt_zero _), hp', tk0, rfl, hz', hsz'.extBut _ _ S.TOz hTO, fun j hj => absurd hj (Nat.not_lt_zero _), fun j _ hj => (D j hj).over (st j hj) hsz' (S.zf j hj), fun c o cz _ _ e => hsz'.extBut _ _ cz e, hsz'.1⟩
theorem zipN_next_end {Q : PySem.Fin → Shared → Prop} (hN : 0 < N) (S : ZipSepN z TI TO N it fp) (D : ∀ k, k < N → Draws prog w A (it k) (fp k) n (P k) (St k))
    (hz : ZOk s.heap z TI TO) (hTI : IsTupA s.heap TI (refsN it N).toArray) (st : St 0 n s.heap)
    (hE : ∀ h' tk e, (∀ c o, c ≠ z → c ≠ TO → (∀ j, j < N → c ≠ it j) → s.heap.get? c = some o → h'.get? c = some o) → (∃ o, h'.get? e = some o ∧ o.cls = .type "StopIteration") → E (.ref e) { s with heap := h', toks := tk }) :
    wpAny (model prog w) A (Builtin.«zip.__next__» ⟨[.ref z], []⟩) Q E s := by
  obtain ⟨hp, g, d, tk0, os⟩ := s
  obtain ⟨f0, bb, hz, hf0⟩ := hz
  show wpAny _ _ (field (.ref z) 2 >>= _) _ _ _
  refine wpAny_bind (wpAny_field hz rfl (x := .bool false) rfl ?_)
  show wpAny _ _ (field (.ref z) 3 >>= _) _ _ _
  refine wpAny_bind (wpAny_field hz rfl (x := .ref TI) rfl ?_)
  refine wpAny_bind (wpAny_seqItems hTI rfl ?_)
  have hne : (refsN it N).toArray.isEmpty = false := by
    unfold refsN
    cases N with
    | zero => omega
    | succ N => simp [List.range_succ]
  simp only [hne, Bool.false_eq_true, if_false]
  refine wpAny_bind (wpAny_mono (zip_free hz hf0) (fun r s' hr => ?_) fun _ _ q => q)
  obtain ⟨hp', b', rfl, hz', hsz'⟩ := hr
  cases r with
  | true =>
    simp only [if_true]
    refine wpAny_bind (wpAny_rule ?_)
    refine wpAny_bind (wpAny_field hz' rfl (x := .ref TO) rfl ?_)
    refine wpAny_bind (wpAny_setField_rec hz' (by simp) fun g0 hz0 hs0 => ?_)
    replace hz0 : IsZipB g0 z TI TO .ellipsis b' := hz0
    replace hs0 : Heap.SameBut z hp g0 := ⟨(show g0.objs.size = hp'.objs.size from hs0.1).trans hsz'.1, fun c hc => (hs0.2 c hc).trans (hsz'.2 c hc)⟩
    refine wpAny_bind ?_
    obtain ⟨rest, hcons⟩ : ∃ rest, (refsN it N).toArray.toList.zipIdx = (.ref (it 0), 0) :: rest := by
      have hl : 0 < (refsN it N).toArray.toList.zipIdx.length := by
        unfold refsN
        simp
        exact hN
      have h := List.drop_eq_getElem_cons hl
      rw [List.drop_zero] at h
      refine ⟨(refsN it N).toArray.toList.zipIdx.drop (0 + 1), h.trans ?_⟩
      congr 1
      rw [List.getElem_zipIdx]
      unfold refsN
      simp
    rw [hcons, List.forIn_cons]
    refine wpAny_bind (wpAny_bind (wpAny_onRaise ?_))
    show wpAny _ _ (Builtin.SmallTypes.nextOf (.ref (it 0)) >>= _) _ _ ⟨g0, g, d, tk0, os⟩
    refine wpAny_bind ((D 0 hN).done ⟨g0, g, d, tk0, os⟩ _ _ ((D 0 hN).over st hs0 (S.zf 0 hN)) fun q e hq he => ?_)
    replace hq : Heap.ExtBut (it 0) g0 q := hq
    obtain ⟨oe, hoe, hce⟩ := he
    replace hoe : q.get? e = some oe := hoe
    have hzq : IsZipB q z TI TO .ellipsis b' := hq _ _ (S.zi hN) hz0
    have hez : e ≠ z := fun x => by subst x; rw [hzq] at hoe; cases hoe; simp at hce
    refine wpAny_setField_rec (s := ⟨q, g, d, tk0, os⟩) hzq (by simp) fun q' _ hq' => ?_
    replace hq' : Heap.SameBut z q q' := hq'
    exact hE q' tk0 e (fun c o cz cT ci x => hq'.extBut _ _ cz (hq _ _ (ci 0 hN) (hs0.extBut _ _ cz x))) ⟨oe, hq'.extBut _ _ hez hoe, hce⟩
  | false =>
    simp only [Bool.false_eq_true, if_false]
    rw [List.forIn_toArray]
    obtain ⟨rest, hcons⟩ : ∃ rest, refsN it N = .ref (it 0) :: rest := by
      have hl : 0 < (refsN it N).length := by
        unfold refsN
        simp
        exact hN
      have h := List.drop_eq_getElem_cons hl
      rw [List.drop_zero] at h
      have e : (refsN it N)[0] = .ref (it 0) := by simp only [refsN, List.getElem_map, List.getElem_range]
      rw [e] at h
      exact ⟨_, h⟩
    rw [hcons, List.forIn_cons]
    refine wpAny_bind (wpAny_bind (wpAny_bind (wpAny_holding ?_)))
    show wpAny _ _ (Builtin.SmallTypes.nextOf (.ref (it 0)) >>= _) _ _ ⟨hp', g, d, tk0, os⟩
    refine wpAny_bind ((D 0 hN).done ⟨hp', g, d, tk0, os⟩ _ _ ((D 0 hN).over st hsz' (S.zf 0 hN)) fun q e hq he => ?_)
    replace hq : Heap.ExtBut (it 0) hp' q := hq
    exact hE q tk0 e (fun c o cz cT ci x => hq _ _ (ci 0 hN) (hsz'.extBut _ _ cz x)) he
end
section
variable {prog : Program} {w : World} {A : Around} {E : Value → Shared → Prop} {s : Shared} {z TI TO : Addr} {N n i : Nat} {it : Nat → Addr} {fp : Nat → List Addr} {P : Nat → Nat → Value → Prop} {St : Nat → Nat → Heap → Prop} {vals : Array Value}
theorem pyNext_zipN_item {Q : Option Value → Shared → Prop} (hN : 0 < N) (S : ZipSepN z TI TO N it fp) (D : ∀ k, k < N → Draws prog w A.in1 (it k) (fp k) n (P k) (St k))
    (hz : ZOk s.heap z TI TO) (hTI : IsTupA s.heap TI (refsN it N).toArray) (hTO : IsTupA s.heap TO vals) (hv : vals.size = N) (hs : N ≤ sizeLine) (st : ∀ k, k < N → St k i s.heap) (hlt : i < n)
    (hQ : ∀ (vs : Array Value) h' tk, vs.size = N → (∀ j, j < N → ∃ x, vs[j]? = some x ∧ P j i x) → ZOk h' z TI TO → (∃ vt, IsTupA h' TO vt ∧ vt.size = N) → (∀ j, j < N → St j (i + 1) h') → IsTupA h' s.heap.objs.size vs → h'.objs.size = s.heap.objs.size + 1 →
      (∀ c o, c ≠ z → c ≠ TO → (∀ j, j < N → c ≠ it j) → s.heap.get? c = some o → h'.get? c = some o) → Q (some (.ref s.heap.objs.size)) { s with heap := h', toks := tk }) :
    wpAny (model prog w) A (pyNext (.ref z)) Q E s := by
  have hT : s.TypeIs (.ref z) "zip" := let ⟨_, _, q, _⟩ := hz; ⟨_, q, rfl⟩
  unfold pyNext
  exact wpAny_bind (wpAny_attempt (wpAny_callSpecial?_slot (name := Str.ofString "__next__") hT F.slot_zip_next
    (wpAny_call_entry F.slot_zip_next hT F.entry_zip_next
      (zipN_next_item hN S D hz hTI hTO hv hs st hlt fun vs h' tk y1 y2 y3 y4 y5 y6 y7 y8 => wpAny_pure (hQ vs h' tk y1 y2 y3 y4 y5 y6 y7 y8)) (F.args_zip_next_1 _))))
theorem pyNext_zipN_end {Q : Option Value → Shared → Prop} (hN : 0 < N) (S : ZipSepN z TI TO N it fp) (D : ∀ k, k < N → Draws prog w A.in1 (it k) (fp k) n (P k) (St k))
    (hz : ZOk s.heap z TI TO) (hTI : IsTupA s.heap TI (refsN it N).toArray) (st : St 0 n s.heap)
    (hQ : ∀ h' tk, (∀ c o, c ≠ z → c ≠ TO → (∀ j, j < N → c ≠ it j) → s.heap.get? c = some o → h'.get? c = some o) → Q none { s with heap := h', toks := tk }) : wpAny (model prog w) A (pyNext (.ref z)) Q E s := by
  have hT : s.TypeIs (.ref z) "zip" := let ⟨_, _, q, _⟩ := hz; ⟨_, q, rfl⟩
  unfold pyNext
  refine wpAny_bind (wpAny_attempt (wpAny_callSpecial?_slot (name := Str.ofString "__next__") hT F.slot_zip_next
    (wpAny_call_entry F.slot_zip_next hT F.entry_zip_next (zipN_next_end hN S D hz hTI st fun h' tk e hk he => ?_) (F.args_zip_next_1 _))))
  obtain ⟨o, ho, hc⟩ := he
  refine wpAny_bind (wpAny_isInstance (T := "StopIteration") (b := true) ⟨o, ho, hc⟩ isSubtype_stop ?_)
  exact wpAny_pure (hQ _ _ hk)
theorem nextOf_zipN_item {Q : Value → Shared → Prop} (hN : 0 < N) (S : ZipSepN z TI TO N it fp) (D : ∀ k, k < N → Draws prog w A.in1 (it k) (fp k) n (P k) (St k))
    (hz : ZOk s.heap z TI TO) (hTI : IsTupA s.heap TI (refsN it N).toArray) (hTO : ∃ vt, IsTupA s.heap TO vt ∧ vt.size = N) (hs : N ≤ sizeLine) (st : ∀ k, k < N → St k i s.heap) (hlt : i < n)
    (hQ : ∀ (vs : Array Value) h' tk, vs.size = N → (∀ j, j < N → ∃ x, vs[j]? = some x ∧ P j i x) → ZOk h' z TI TO → (∃ vt, IsTupA h' TO vt ∧ vt.size = N) → (∀ j, j < N → St j (i + 1) h') → IsTupA h' s.heap.objs.size vs → h'.objs.size = s.heap.objs.size + 1 →
      (∀ c o, c ≠ z → c ≠ TO → (∀ j, j < N → c ≠ it j) → s.heap.get? c = some o → h'.get? c = some o) → Q (.ref s.heap.objs.size) { s with heap := h', toks := tk }) :
    wpAny (model prog w) A (Builtin.SmallTypes.nextOf (.ref z)) Q E s := by
  have hT : s.TypeIs (.ref z) "zip" := let ⟨_, _, q, _⟩ := hz; ⟨_, q, rfl⟩
  obtain ⟨vt, hTO, hv⟩ := hTO
  unfold Builtin.SmallTypes.nextOf
  exact wpAny_bind (wpAny_callSpecial?_slot (name := Str.ofString "__next__") hT F.slot_zip_next
    (wpAny_call_entry F.slot_zip_next hT F.entry_zip_next
      (zipN_next_item hN S D hz hTI hTO hv hs st hlt fun vs h' tk y1 y2 y3 y4 y5 y6 y7 y8 => wpAny_pure (hQ vs h' tk y1 y2 y3 y4 y5 y6 y7 y8)) (F.args_zip_next_1 _)))
theorem nextOf_zipN_end {Q : Value → Shared → Prop} (hN : 0 < N) (S : ZipSepN z TI TO N it fp) (D : ∀ k, k < N → Draws prog w A.in1 (it k) (fp k) n (P k) (St k))
    (hz : ZOk s.heap z TI TO) (hTI : IsTupA s.heap TI (refsN it N).toArray) (st : St 0 n s.heap)
    (hE : ∀ h' tk e, (∀ c o, c ≠ z → c ≠ TO → (∀ j, j < N → c ≠ it j) → s.heap.get? c = some o → h'.get? c = some o) → (∃ o, h'.get? e = some o ∧ o.cls = .type "StopIteration") → E (.ref e) { s with heap := h', toks := tk }) :
    wpAny (model prog w) A (Builtin.SmallTypes.nextOf (.ref z)) Q E s := by
  have hT : s.TypeIs (.ref z) "zip" := let ⟨_, _, q, _⟩ := hz; ⟨_, q, rfl⟩
  unfold Builtin.SmallTypes.nextOf
  exact wpAny_bind (wpAny_callSpecial?_slot (name := Str.ofString "__next__") hT F.slot_zip_next
    (wpAny_call_entry F.slot_zip_next hT F.entry_zip_next (zipN_next_end hN S D hz hTI st hE) (F.args_zip_next_1 _)))
/-- enumerate over such a zip -/
theorem enumZ_next_item {e : Addr} {c : Int} {old : Value} {Q : Value → Shared → Prop} (hN : 0 < N) (S : ZipSepN z TI TO N it fp) (D : ∀ k, k < N → Draws prog w A.in1 (it k) (fp k) n (P k) (St k))
    (he : IsEnum s.heap e z c old) (hz : ZOk s.heap z TI TO) (hTI : IsTupA s.heap TI (refsN it N).toArray) (hTO : ∃ vt, IsTupA s.heap TO vt ∧ vt.size = N) (hs : N ≤ sizeLine) (st : ∀ k, k < N → St k i s.heap) (hlt : i < n)
    (nez : e ≠ z) (neT : e ≠ TO) (nei : ∀ j, j < N → e ≠ it j) (nef : ∀ j, j < N → e ∉ fp j)
    (hQ : ∀ (vs : Array Value) h' tk, vs.size = N → (∀ j, j < N → ∃ x, vs[j]? = some x ∧ P j i x) → IsEnumOut h' e z (c + 1) (.ref s.heap.objs.size) (s.heap.objs.size + 1) → ZOk h' z TI TO → (∃ vt, IsTupA h' TO vt ∧ vt.size = N) → (∀ j, j < N → St j (i + 1) h') →
      IsTupA h' s.heap.objs.size vs → h'.get? (s.heap.objs.size + 1) = some { cls := .type "tuple", data := .seq #[.int c tk, .ref s.heap.objs.size] } → h'.objs.size = s.heap.objs.size + 2 →
      (∀ b o, b ≠ e → b ≠ z → b ≠ TO → (∀ j, j < N → b ≠ it j) → s.heap.get? b = some o → h'.get? b = some o) → Q (.ref (s.heap.objs.size + 1)) { s with heap := h', toks := tk + 1 }) :
    wpAny (model prog w) A (Builtin.«enumerate.__next__» ⟨[.ref e], []⟩) (fun fin s' => ∃ v, fin = .done (.ret v) ∧ Q v s') E s := by
  obtain ⟨hp, g, d, tk₀, os⟩ := s
  show wpAny _ _ (field (.ref e) 2 >>= _) _ _ _
  refine wpAny_bind (wpAny_field he rfl (x := .ref z) rfl ?_)
  refine wpAny_bind (nextOf_zipN_item hN S D hz hTI hTO hs st hlt fun vs h₁ tk hvn hvx hz₁ hTO₁ hst₁ hT₁ hsz₁ hk₁ => ?_)
  replace hT₁ : IsTupA h₁ hp.objs.size vs := hT₁
  replace hsz₁ : h₁.objs.size = hp.objs.size + 1 := hsz₁
  have he₁ : IsEnum h₁ e z c old := hk₁ _ _ nez neT nei he
  show wpAny _ _ (field (.ref e) 3 >>= _) _ _ ⟨h₁, g, d, tk, os⟩
  refine wpAny_bind (wpAny_field he₁ rfl (x := rawInt c) rfl ?_)
  show wpAny _ _ (field (.ref e) 4 >>= _) _ _ ⟨h₁, g, d, tk, os⟩
  refine wpAny_bind (wpAny_field he₁ rfl (x := .none) rfl ?_)
  show wpAny _ _ (mkInt c >>= _) _ _ ⟨h₁, g, d, tk, os⟩
  refine wpAny_bind (wpAny_mkInt ?_)
  show wpAny _ _ (setField (.ref e) 3 (rawInt (c + 1)) >>= _) _ _ ⟨h₁, g, d, tk + 1, os⟩
  refine wpAny_bind (wpAny_setField_rec he₁ (by simp) fun h₂ he₂ hs₂ => ?_)
  replace hs₂ : Heap.SameBut e h₁ h₂ := hs₂
  replace he₂ : IsEnum h₂ e z (c + 1) old := he₂
  show wpAny _ _ (setField (.ref e) 4 .none >>= _) _ _ ⟨h₂, g, d, tk + 1, os⟩
  refine wpAny_bind (wpAny_setField_rec he₂ (by simp) fun h₃ he₃ hs₃ => ?_)
  replace hs₃ : Heap.SameBut e h₂ h₃ := hs₃
  replace he₃ : IsEnum h₃ e z (c + 1) old := he₃
  show wpAny _ _ (newTuple [.int c tk, .ref hp.objs.size] >>= _) _ _ ⟨h₃, g, d, tk + 1, os⟩
  refine wpAny_bind (wpAny_newTuple ?_)
  have hsz : h₃.objs.size = hp.objs.size + 1 := by rw [hs₃.1, hs₂.1, hsz₁]
  have hel : e < hp.objs.size := Heap.lt_size he
  have up₃ : ∀ b o, b ≠ e → h₁.get? b = some o → (h₃.push { cls := .type "tuple", data := .seq #[.int c tk, .ref hp.objs.size] }).get? b = some o := fun b o hb q => Heap.get?_push_of_some _ (hs₃.extBut b o hb (hs₂.extBut b o hb q))
  have he₄ : IsEnum (h₃.push { cls := .type "tuple", data := .seq #[.int c tk, .ref hp.objs.size] }) e z (c + 1) old := Heap.get?_push_of_some _ he₃
  have ht₄ : (h₃.push { cls := .type "tuple", data := .seq #[.int c tk, .ref hp.objs.size] }).get? (hp.objs.size + 1) = some { cls := .type "tuple", data := .seq #[.int c tk, .ref hp.objs.size] } := by rw [← hsz]; exact Heap.get?_push_size _ rfl
  have hz₄ : (h₃.push { cls := .type "tuple", data := .seq #[.int c tk, .ref hp.objs.size] }).objs.size = hp.objs.size + 2 := by rw [Heap.size_push, hsz]
  generalize hh₄ : h₃.push { cls := .type "tuple", data := .seq #[.int c tk, .ref hp.objs.size] } = h₄ at he₄ ht₄ hz₄ up₃
  show wpAny _ _ (Builtin.SmallTypes.ownedTupleIsFree (.ref e) >>= _) _ _ ⟨h₄, g, d, tk + 1, os⟩
  refine wpAny_bind ?_
  unfold Builtin.SmallTypes.ownedTupleIsFree
  refine wpAny_bind (wpAny_field he₄ rfl (x := .none) rfl (wpAny_pure ?_))
  simp only [if_true]
  refine wpAny_bind (wpAny_rule ?_)
  refine wpAny_bind (wpAny_field he₄ rfl (x := old) rfl ?_)
  refine wpAny_bind (wpAny_setField_rec he₄ (by simp) fun h₅ he₅ hs₅ => ?_)
  replace hs₅ : Heap.SameBut e h₄ h₅ := hs₅
  replace he₅ : IsEnum h₅ e z (c + 1) (.ref hp.objs.size) := he₅
  show wpAny _ _ (Builtin.SmallTypes.ownedTupleHandOut (.ref e) (.ref h₃.objs.size) >>= _) _ _ ⟨h₅, g, d, tk + 1, os⟩
  rw [hsz]
  refine wpAny_bind ?_
  unfold Builtin.SmallTypes.ownedTupleHandOut
  refine wpAny_bind (wpAny_setField_rec he₅ (by simp) fun h₆ he₆ hs₆ => ?_)
  replace hs₆ : Heap.SameBut e h₅ h₆ := hs₆
  replace he₆ : IsEnumOut h₆ e z (c + 1) (.ref hp.objs.size) (hp.objs.size + 1) := he₆
  refine wpAny_setField_rec he₆ (by simp) fun h₇ he₇ hs₇ => ?_
  replace hs₇ : Heap.SameBut e h₆ h₇ := hs₇
  replace he₇ : IsEnumOut h₇ e z (c + 1) (.ref hp.objs.size) (hp.objs.size + 1) := he₇
  have up₇ : ∀ b o, b ≠ e → h₄.get? b = some o → h₇.get? b = some o := fun b o hb q => hs₇.extBut b o hb (hs₆.extBut b o hb (hs₅.extBut b o hb q))
  have up : ∀ b o, b ≠ e → h₁.get? b = some o → h₇.get? b = some o := fun b o hb q => up₇ b o hb (up₃ b o hb q)
  obtain ⟨f0, bb, hz1, hf0⟩ := hz₁
  obtain ⟨vt, hvt, hvn2⟩ := hTO₁
  refine wpAny_bind (wpAny_letGo (wpAny_pure ⟨_, rfl, ?_⟩))
  show Q (.ref (hp.objs.size + 1)) ⟨h₇, g, d, tk + 1, os⟩
  exact hQ vs h₇ tk hvn hvx he₇ ⟨f0, bb, up _ _ nez.symm hz1, hf0⟩ ⟨vt, up _ _ neT.symm hvt, hvn2⟩ (fun j hj => (D j hj).frame _ _ _ (hst₁ j hj) fun b hb o q => up b o (fun w => nef j hj (w ▸ hb)) q) (up _ _ (Nat.ne_of_gt hel) hT₁) (up₇ _ _ (Nat.ne_of_gt (Nat.lt_succ_of_lt hel)) ht₄) (by rw [hs₇.1, hs₆.1, hs₅.1, hz₄]) fun b o be bz bT bi q => up b o be (hk₁ b o bz bT bi q)
theorem enumZ_next_end {e : Addr} {c : Int} {old : Value} {Q : PySem.Fin → Shared → Prop} (hN : 0 < N) (S : ZipSepN z TI TO N it fp) (D : ∀ k, k < N → Draws prog w A.in1 (it k) (fp k) n (P k) (St k))
    (he : IsEnum s.heap e z c old) (hz : ZOk s.heap z TI TO) (hTI : IsTupA s.heap TI (refsN it N).toArray) (st : St 0 n s.heap)
    (hE : ∀ h' tk x, (∀ c o, c ≠ z → c ≠ TO → (∀ j, j < N → c ≠ it j) → s.heap.get? c = some o → h'.get? c = some o) → (∃ o, h'.get? x = some o ∧ o.cls = .type "StopIteration") → E (.ref x) { s with heap := h', toks := tk }) :
    wpAny (model prog w) A (Builtin.«enumerate.__next__» ⟨[.ref e], []⟩) Q E s := by
  obtain ⟨hp, g, d, tk₀, os⟩ := s
  show wpAny _ _ (field (.ref e) 2 >>= _) _ _ _
  refine wpAny_bind (wpAny_field he rfl (x := .ref z) rfl ?_)
  exact wpAny_bind (nextOf_zipN_end hN S D hz hTI st hE)
theorem pyNext_enumZ_item {e : Addr} {c : Int} {old : Value} {Q : Option Value → Shared → Prop} (hN : 0 < N) (S : ZipSepN z TI TO N it fp) (D : ∀ k, k < N → Draws prog w A.in1.in1 (it k) (fp k) n (P k) (St k))
    (he : IsEnum s.heap e z c old) (hz : ZOk s.heap z TI TO) (hTI : IsTupA s.heap TI (refsN it N).toArray) (hTO : ∃ vt, IsTupA s.heap TO vt ∧ vt.size = N) (hs : N ≤ sizeLine) (st : ∀ k, k < N → St k i s.heap) (hlt : i < n)
    (nez : e ≠ z) (neT : e ≠ TO) (nei : ∀ j, j < N → e ≠ it j) (nef : ∀ j, j < N → e ∉ fp j)
    (hQ : ∀ (vs : Array Value) h' tk, vs.size = N → (∀ j, j < N → ∃ x, vs[j]? = some x ∧ P j i x) → IsEnumOut h' e z (c + 1) (.ref s.heap.objs.size) (s.heap.objs.size + 1) → ZOk h' z TI TO → (∃ vt, IsTupA h' TO vt ∧ vt.size = N) → (∀ j, j < N → St j (i + 1) h') →
      IsTupA h' s.heap.objs.size vs → h'.get? (s.heap.objs.size + 1) = some { cls := .type "tuple", data := .seq #[.int c tk, .ref s.heap.objs.size] } → h'.objs.size = s.heap.objs.size + 2 →
      (∀ b o, b ≠ e → b ≠ z → b ≠ TO → (∀ j, j < N → b ≠ it j) → s.heap.get? b = some o → h'.get? b = some o) → Q (some (.ref (s.heap.objs.size + 1))) { s with heap := h', toks := tk + 1 }) :
    wpAny (model prog w) A (pyNext (.ref e)) Q E s := by
  have hT : s.TypeIs (.ref e) "enumerate" := ⟨_, he, rfl⟩
  unfold pyNext
  exact wpAny_bind (wpAny_attempt (wpAny_callSpecial?_slot (name := Str.ofString "__next__") hT F.slot_enumerate_next
    (wpAny_call_entry F.slot_enumerate_next hT F.entry_enumerate_next
      (enumZ_next_item hN S D he hz hTI hTO hs st hlt nez neT nei nef fun vs h' tk y1 y2 y3 y4 y5 y6 y7 y8 y9 y10 => wpAny_pure (hQ vs h' tk y1 y2 y3 y4 y5 y6 y7 y8 y9 y10)) (F.args_enumerate_next_1 _))))
theorem pyNext_enumZ_end {e : Addr} {c : Int} {old : Value} {Q : Option Value → Shared → Prop} (hN : 0 < N) (S : ZipSepN z TI TO N it fp) (D : ∀ k, k < N → Draws prog w A.in1.in1 (it k) (fp k) n (P k) (St k))
    (he : IsEnum s.heap e z c old) (hz : ZOk s.heap z TI TO) (hTI : IsTupA s.heap TI (refsN it N).toArray) (st : St 0 n s.heap)
    (hQ : ∀ h' tk, (∀ c o, c ≠ z → c ≠ TO → (∀ j, j < N → c ≠ it j) → s.heap.get? c = some o → h'.get? c = some o) → Q none { s with heap := h', toks := tk }) : wpAny (model prog w) A (pyNext (.ref e)) Q E s := by
  have hT : s.TypeIs (.ref e) "enumerate" := ⟨_, he, rfl⟩
  unfold pyNext
  refine wpAny_bind (wpAny_attempt (wpAny_callSpecial?_slot (name := Str.ofString "__next__") hT F.slot_enumerate_next
    (wpAny_call_entry F.slot_enumerate_next hT F.entry_enumerate_next (enumZ_next_end hN S D he hz hTI st fun h' tk x hk hx => ?_) (F.args_enumerate_next_1 _))))
  obtain ⟨o, ho, hc⟩ := hx
  refine wpAny_bind (wpAny_isInstance (T := "StopIteration") (b := true) ⟨o, ho, hc⟩ isSubtype_stop ?_)
  exact wpAny_pure (hQ _ _ hk)
end
/-- the iterators go on, and two new objects are laid -/
theorem turnedNew2 {X : Cx} {pins : List (Addr × Obj)} {σ : L2.St} {H : Hp} {s : Shared} {h' : Heap} {t' : Nat} {ch : List Addr} {T1 T2 : Addr} {o1 o2 : HO} (I : Inv X pins σ H s) (k : ∀ b o, b ∉ ch → s.heap.get? b = some o → h'.get? b = some o) (hf : ∀ b ∈ ch, FpOk X pins H b)
    (h1 : s.heap.objs.size ≤ T1) (h2 : s.heap.objs.size ≤ T2) (h12 : T1 ≠ T2) (new1 : ObjOk X.prog X.w (upd (upd H T1 o1) T2 o2) h' T1 o1) (new2 : ObjOk X.prog X.w (upd (upd H T1 o1) T2 o2) h' T2 o2) : Inv X pins σ (upd (upd H T1 o1) T2 o2) { s with heap := h', toks := t' } := by
  have n1 : H T1 = none := I.hok.fresh h1
  have n2 : H T2 = none := I.hok.fresh h2
  have up : ∀ {b u}, H b = some u → (upd (upd H T1 o1) T2 o2) b = some u := fun {b u} e => by rw [upd_ne (ne_of_none e n2), upd_ne (ne_of_none e n1)]; exact e
  have nit : ∀ b u, H b = some u → b ∉ ch := fun b u e z => by
    have q := (hf b z).1
    rw [q] at e; cases e
  refine I.step (g' := s.gens) (d' := s.drawn) (ch := ch) (fun b hb => ⟨(hf b hb).2.2.2.1, (hf b hb).2.1, (hf b hb).2.2.2.2.1, (hf b hb).2.2.2.2.2⟩) (fun b o _ _ hc e _ => k b o hc e) (fun b o _ _ hc e _ => ⟨o.slots, k b o hc e⟩)
    (fun b o _ e n => ?_) (fun b o hc e => ⟨o, k b o hc e⟩) (fun b xs e => up e) (fun b o u e => up e) (fun b ps e => ⟨#[], ?_⟩) (fun m hm => ?_) (fun b u e => ?_) I.bare
  · rw [upd_ne (Nat.ne_of_lt (Nat.lt_of_lt_of_le (Heap.lt_size e) h2)), upd_ne (Nat.ne_of_lt (Nat.lt_of_lt_of_le (Heap.lt_size e) h1))]; exact n
  · rw [up e]; simp
  · obtain ⟨o, es, ep, ho, r⟩ := hm
    exact ⟨o, es, ep, k _ o (fun z => (hf _ z).2.1 rfl) ho, r⟩
  · by_cases hb : b = T2
    · subst hb
      rw [upd_same] at e
      cases e
      exact new2
    · rw [upd_ne hb] at e
      by_cases hb1 : b = T1
      · subst hb1
        rw [upd_same] at e
        cases e
        exact new1
      · rw [upd_ne hb1] at e
        refine (I.hok b u e).stay (fun c v hc q => k c v ?_ q) (fun c q => up q) fun c xs q => up q
        rcases hc with z | z
        · rw [z]; exact nit b u e
        · exact nit c _ z
theorem paired_of {α β : Type} {R : α → β → Prop} : ∀ {xs : List α} {us : List β}, xs.length = us.length → (∀ (i : Nat) (x : α) (u : β), xs[i]? = some x → us[i]? = some u → R x u) → Paired R xs us
  | [], [], _, _ => .nil
  | x :: xs, u :: us, hl, h => .cons (h 0 x u rfl rfl) (paired_of (Nat.succ.inj hl) fun i y v e1 e2 => h (i + 1) y v e1 e2)
  | [], _ :: _, hl, _ => nomatch hl
  | _ :: _, [], hl, _ => nomatch hl
/-- N lists of n items, the i-th ones in a tuple, with i in a pair -/
def Iez (K : PySem.W.Frag) (N n : Nat) (a : Nat → Addr) : It :=
  ⟨fun i H => i < n ∧ ∀ k, k < N → ∃ xs, SqL K H (a k) xs ∧ xs.length = n,
   fun i H v H' => ∃ T1 T2 ys, v = .ref T2 ∧ H T1 = none ∧ H T2 = none ∧ T1 ≠ T2 ∧ H' = upd (upd H T1 (.tup ys)) T2 (.tup [.int (i : Nat), .ref T1]) ∧ ys.length = N ∧ ∀ k, k < N → ∀ xs, SqL K H (a k) xs → ys[k]? = xs[i]?,
   fun i H => i = n ∧ ∀ k, k < N → ∃ xs, SqL K H (a k) xs ∧ xs.length = n⟩
structure ZState (z TI TO e : Addr) (N : Nat) (it a : Nat → Addr) (i : Nat) (h : Heap) : Prop where
  en : ∃ old, IsEnum h e z ((i : Nat) : Int) old
  zo : ZOk h z TI TO
  ti : IsTupA h TI (refsN it N).toArray
  to : ∃ vt, IsTupA h TO vt ∧ vt.size = N
  its : ∀ k, k < N → h.IsListIter (it k) (a k) i
/-- the lists of such a zip -/
theorem lists_of {X : Cx} {pins : List (Addr × Obj)} {σ : L2.St} {H : Hp} {s : Shared} {N n : Nat} {a : Nat → Addr} (I : Inv X pins σ H s) (h : ∀ k, k < N → ∃ xs, SqL X.K H (a k) xs ∧ xs.length = n) :
    ∃ (items : Nat → Array Value) (xss : Nat → List V), ∀ k, k < N → SqL X.K H (a k) (xss k) ∧ (xss k).length = n ∧ Vals (xss k) (items k).toList ∧ s.heap.IsList (a k) (items k) ∧ (items k).size = n := by
  have h1 : ∀ k, ∃ (p : Array Value × List V), k < N → SqL X.K H (a k) p.2 ∧ p.2.length = n ∧ Vals p.2 p.1.toList ∧ s.heap.IsList (a k) p.1 ∧ p.1.size = n := fun k => by
    by_cases hk : k < N
    · obtain ⟨xs, hx, hn⟩ := h k hk
      obtain ⟨its, r, pl, hz⟩ := I.list hx
      refine ⟨(its.toArray, xs), fun _ => ⟨hx, hn, by simpa using r, pl.isList, ?_⟩⟩
      have := r.length
      simp only [List.size_toArray]
      omega
    · exact ⟨(#[], []), fun q => absurd q hk⟩
  exact ⟨fun k => (Classical.choose (h1 k)).1, fun k => (Classical.choose (h1 k)).2, fun k hk => Classical.choose_spec (h1 k) hk⟩
theorem turn_enumZ {P : Program} {w : World} {K : PySem.W.Frag} {elts : List Expr} {kk : Nat} {tpos : Pos} {z TI TO e : Addr} {N n : Nat} {it a : Nat → Addr} (hN : 0 < N) (hs : N ≤ sizeLine) (S : ZipSepN z TI TO N it fun k => [it k, a k])
    (nez : e ≠ z) (neT : e ≠ TO) (neI : e ≠ TI) (nei : ∀ j, j < N → e ≠ it j) (nea : ∀ j, j < N → e ≠ a j) (nai : ∀ j, j < N → a j ≠ it j) :
    Turn P w K (.Tuple elts kk tpos) (Iez K N n a) (e :: z :: TO :: TI :: (List.range N).map it) e (fun i h => ZState z TI TO e N it a i h) where
  mem := by simp
  obj := fun i h st b hb => by
    obtain ⟨⟨old, he⟩, ⟨f0, bb, hz, _⟩, hti, ⟨vt, hto, _⟩, hit⟩ := st
    rcases List.mem_cons.mp hb with rfl | hb
    · exact ⟨_, he, fun v q => nomatch q⟩
    · rcases List.mem_cons.mp hb with rfl | hb
      · exact ⟨_, hz, fun v q => nomatch q⟩
      · rcases List.mem_cons.mp hb with rfl | hb
        · exact ⟨_, hto, fun v q => nomatch q⟩
        · rcases List.mem_cons.mp hb with rfl | hb
          · exact ⟨_, hti, fun v q => nomatch q⟩
          · obtain ⟨k, hk, rfl⟩ := List.mem_map.mp hb
            obtain ⟨o, ho, hc, hd⟩ := hit k (List.mem_range.mp hk)
            exact ⟨o, ho, fun v q => by rw [hd] at q; cases q⟩
  keep := fun i h h' st k => by
    obtain ⟨⟨old, he⟩, ⟨f0, bb, hz, hf0⟩, hti, ⟨vt, hto, hv⟩, hit⟩ := st
    exact ⟨⟨old, k e (by simp) _ he⟩, ⟨f0, bb, k z (by simp) _ hz, hf0⟩, k TI (by simp) _ hti, ⟨vt, k TO (by simp) _ hto, hv⟩, fun j hj => (hit j hj).at fun o q => k (it j) (by simp [hj]; exact .inr (.inr (.inr (.inr ⟨j, hj, rfl⟩)))) o q⟩
  item := by
    intro X hP hw hK hc i pins s σ H E I hf st hg
    subst hP hw hK
    obtain ⟨hlt, hls⟩ := hg
    obtain ⟨items, xss, hL⟩ := lists_of I hls
    obtain ⟨⟨old, he⟩, hz, hti, hto, hit⟩ := st
    have D : ∀ k, k < N → Draws X.prog X.w X.A.in1.in1 (it k) [it k, a k] n (fun i v => (items k)[i]? = some v) (fun i h => h.IsListIter (it k) (a k) i ∧ h.IsList (a k) (items k)) := fun k hk => by
      have q := Draws.list (prog := X.prog) (w := X.w) (A := X.A.in1.in1) (by simp [I.ok.hd hc]) (it k) (a k) (nai k hk) (items k)
      rw [(hL k hk).2.2.2.2] at q
      exact q
    have hel : e < s.heap.objs.size := Heap.lt_size he
    refine pyNext_enumZ_item hN S D he hz hti hto hs (fun k hk => ⟨hit k hk, (hL k hk).2.2.2.1⟩) hlt nez neT nei (fun j hj q => ?_) fun vs h' tk hvn hvx ho hz' hto' hst' hT1 hT2 hsz hk => ?_
    · rcases List.mem_cons.mp q with q | q
      · exact nei j hj q
      · exact nea j hj (List.mem_singleton.mp q)
    refine ⟨_, rfl, wpAny_letOwnedTupleGo_enum (s := { s with heap := h', toks := tk + 1 }) ho fun h'' he' sb => ?_⟩
    have hlive : ∀ b ∈ e :: z :: TO :: TI :: (List.range N).map it, b < s.heap.objs.size := fun b hb => by
      rcases List.mem_cons.mp hb with rfl | hb
      · exact hel
      · rcases List.mem_cons.mp hb with rfl | hb
        · obtain ⟨_, _, q, _⟩ := hz
          exact Heap.lt_size q
        · rcases List.mem_cons.mp hb with rfl | hb
          · obtain ⟨_, q, _⟩ := hto
            exact Heap.lt_size q
          · rcases List.mem_cons.mp hb with rfl | hb
            · exact Heap.lt_size hti
            · obtain ⟨k, hk, rfl⟩ := List.mem_map.mp hb
              obtain ⟨o, q, _⟩ := hit k (List.mem_range.mp hk)
              exact Heap.lt_size q
    have sb2 : ∀ c, c ≠ e → h''.get? c = h'.get? c := fun c hc => sb.2 c hc
    have hT1' : IsTupA h'' s.heap.objs.size vs := (sb2 _ (Nat.ne_of_gt hel)).trans hT1
    have hT2' : h''.get? (s.heap.objs.size + 1) = some { cls := .type "tuple", data := .seq #[.int i tk, .ref s.heap.objs.size] } := (sb2 _ (Nat.ne_of_gt (Nat.lt_succ_of_lt hel))).trans hT2
    obtain ⟨ys, hys⟩ : ∃ ys : List V, ys = (List.range N).map fun k => (xss k).getD i .non := ⟨_, rfl⟩
    have hyl : ys.length = N := by rw [hys, List.length_map, List.length_range]
    have hyk : ∀ k, k < N → ys[k]? = (xss k)[i]? := fun k hk => by
      rw [hys, List.getElem?_map, List.getElem?_range hk]
      have hl : i < (xss k).length := by rw [(hL k hk).2.1]; exact hlt
      show some ((xss k).getD i .non) = _
      rw [List.getD_eq_getElem?_getD, List.getElem?_eq_getElem hl]
      rfl
    have hvals : Vals ys vs.toList := paired_of (by rw [hyl, Array.length_toList, hvn]) fun k y u e1 e2 => by
      have hkN : k < N := by
        rw [← hyl]
        exact (List.getElem?_eq_some_iff.mp e1).1
      rw [hyk k hkN] at e1
      obtain ⟨u', hu', ru⟩ := Vals.get (hL k hkN).2.2.1 e1
      obtain ⟨x, hx, hxi⟩ := hvx k hkN
      rw [Array.getElem?_toList] at e2 hu'
      rw [hx] at e2
      rw [hxi] at hu'
      rw [← Option.some.inj e2, Option.some.inj hu']
      exact ru
    have new1 : ObjOk X.prog X.w (upd (upd H s.heap.objs.size (.tup ys)) (s.heap.objs.size + 1) (.tup [.int (i : Nat), .ref s.heap.objs.size])) h'' s.heap.objs.size (.tup ys) :=
      ⟨by rw [hyl]; exact hs, vs.toList, hvals, ⟨_, hT1', rfl, _, rfl⟩⟩
    have new2 : ObjOk X.prog X.w (upd (upd H s.heap.objs.size (.tup ys)) (s.heap.objs.size + 1) (.tup [.int (i : Nat), .ref s.heap.objs.size])) h'' (s.heap.objs.size + 1) (.tup [.int (i : Nat), .ref s.heap.objs.size]) :=
      ⟨by show 2 ≤ sizeLine; decide, [.int i tk, .ref s.heap.objs.size], .cons ⟨_, rfl⟩ (.cons rfl .nil), ⟨_, hT2', rfl, _, rfl⟩⟩
    have I1 : Inv X pins σ (upd (upd H s.heap.objs.size (.tup ys)) (s.heap.objs.size + 1) (.tup [.int (i : Nat), .ref s.heap.objs.size])) { s with heap := h'', toks := tk + 1 } :=
      turnedNew2 I (ch := e :: z :: TO :: TI :: (List.range N).map it) (fun b o hb q => by
        simp only [List.mem_cons, List.mem_map, List.mem_range, not_or, not_exists, not_and] at hb
        exact (sb2 b hb.1).trans (hk b o hb.1 hb.2.1 hb.2.2.1 (fun j hj w => hb.2.2.2.2 j hj w.symm) q)) hf (Nat.le_refl _) (Nat.le_succ _) (Nat.ne_of_lt (Nat.lt_succ_self _)) new1 new2
    refine ⟨.ref (s.heap.objs.size + 1), _, I1, rfl, ⟨s.heap.objs.size, s.heap.objs.size + 1, ys, rfl, I.hok.fresh (Nat.le_refl _), I.hok.fresh (Nat.le_succ _), Nat.ne_of_lt (Nat.lt_succ_self _), rfl, hyl, fun k hk xs hx => ?_⟩, ⟨⟨.ref s.heap.objs.size, ?_⟩, ?_, ?_, ?_, fun j hj => ?_⟩, fun b hb => ?_⟩
    · rw [hyk k hk, I.list_inj (hL k hk).1 hx]
    · rw [show ((i + 1 : Nat) : Int) = (i : Int) + 1 by omega]
      exact he'
    · obtain ⟨f0, bb, q, hf0⟩ := hz'
      exact ⟨f0, bb, (sb2 _ nez.symm).trans q, hf0⟩
    · exact (sb2 _ neI.symm).trans (hk _ _ neI.symm S.TIz S.TITO S.TIi hti)
    · obtain ⟨vt, q, hv⟩ := hto'
      exact ⟨vt, (sb2 _ neT.symm).trans q, hv⟩
    · exact (hst' j hj).1.at fun o q => (sb2 _ (Ne.symm (nei j hj))).trans q
    · have hb' := hlive b hb
      rw [upd_ne (Nat.ne_of_lt (Nat.lt_succ_of_lt hb')), upd_ne (Nat.ne_of_lt hb')]
      exact (hf b hb).1
  done := by
    intro X hP hw hK hc i pins s σ H E I hf st hg
    subst hP hw hK
    obtain ⟨rfl, hls⟩ := hg
    obtain ⟨items, xss, hL⟩ := lists_of I hls
    obtain ⟨⟨old, he⟩, hz, hti, hto, hit⟩ := st
    have D : ∀ k, k < N → Draws X.prog X.w X.A.in1.in1 (it k) [it k, a k] i (fun i v => (items k)[i]? = some v) (fun i h => h.IsListIter (it k) (a k) i ∧ h.IsList (a k) (items k)) := fun k hk => by
      have q := Draws.list (prog := X.prog) (w := X.w) (A := X.A.in1.in1) (by simp [I.ok.hd hc]) (it k) (a k) (nai k hk) (items k)
      rw [(hL k hk).2.2.2.2] at q
      exact q
    refine pyNext_enumZ_end hN S D he hz hti ⟨hit 0 hN, (hL 0 hN).2.2.2.1⟩ fun h' tk hk => ⟨rfl, I.turnedL (ch := e :: z :: TO :: TI :: (List.range N).map it) (fun b o hb q => ?_) hf⟩
    simp only [List.mem_cons, List.mem_map, List.mem_range, not_or, not_exists, not_and] at hb
    exact hk b o hb.2.1 hb.2.2.1 (fun j hj q => hb.2.2.2.2 j hj q.symm) q
  self := fun A i s Q E h0 h => let ⟨_, he⟩ := ZState.en h0; wpAny_pyIter_enum he h
end Sd

namespace Sd
open PySem PySem.Spec PyProof.Rows L2
/-! ### zip(*lists) begins -/
theorem newClass_zip (xs : List Value) : Builtin.SmallTypes.newClass "zip" ⟨.type "zip" :: xs, []⟩ = pure (.type "zip", xs) := by
  have h := sub_zip
  unfold Builtin.SmallTypes.newClass
  simp only [isType, h, pure_bind, Bool.not_true, Bool.false_eq_true, if_false]
theorem newCall_zipN (x : Value) (xs : List Value) : checkBuiltinCall "zip.__new__" ⟨.type "zip" :: x :: xs, []⟩ = pure () := by
  have h2 := F.newCall_zip_2 .none .none
  unfold checkBuiltinCall at h2 ⊢
  exact h2
section
variable {prog : Program} {w : World} {A : Around} {E : Value → Shared → Prop}
def itersAt (b N : Nat) : List Value := (List.range N).map fun j => .ref (b + j)
theorem iter_loop : ∀ (l : List Addr) (acc : Array Value) (s : Shared) (Q : Array Value → Shared → Prop), (∀ a ∈ l, ∃ items, s.heap.IsList a items) →
    (∀ h', h'.objs.size = s.heap.objs.size + l.length → (∀ (j : Nat) a, l[j]? = some a → h'.get? (s.heap.objs.size + j) = some { cls := .type "list_iterator", data := .fields #[.ref a, .int 0 0] }) →
      (∀ c o, s.heap.get? c = some o → h'.get? c = some o) → Q (acc ++ (itersAt s.heap.objs.size l.length).toArray) { s with heap := h' }) →
    wpAny (model prog w) A (forIn (l.map Value.ref) acc fun x its => do
      let v ← holding its.toList (pyIter x)
      pure (ForInStep.yield (its.push v))) Q E s
  | [], acc, s, Q, hl, hQ => by
    have h := hQ s.heap rfl (fun j a e => by simp at e) fun c o e => e
    simp only [List.map_nil, List.forIn_nil]
    refine wpAny_pure ?_
    simpa [itersAt] using h
  | a :: l, acc, s, Q, hl, hQ => by
    simp only [List.map_cons, List.forIn_cons]
    obtain ⟨items, ha⟩ := hl a (by simp)
    refine wpAny_bind (wpAny_bind (wpAny_holding (wpAny_pyIter_list ha ?_)))
    refine wpAny_pure ?_
    refine iter_loop l _ _ Q (fun b hb => ?_) fun h' hz hg hk => ?_
    · obtain ⟨it, hx⟩ := hl b (by simp [hb])
      exact ⟨it, hx.at fun o e => Heap.get?_push_of_some _ e⟩
    · have z1 : (s.heap.push { cls := .type "list_iterator", data := .fields #[.ref a, .int 0 0] }).objs.size = s.heap.objs.size + 1 := by rw [Heap.size_push]
      have h := hQ h' (by rw [hz]; show (s.heap.push _).objs.size + _ = _; rw [z1, List.length_cons]; omega) (fun j b e => ?_) fun c o e => hk c o (Heap.get?_push_of_some _ e)
      · have e : (acc.push (Value.ref s.heap.objs.size)) ++ (itersAt (s.heap.push { cls := .type "list_iterator", data := .fields #[.ref a, .int 0 0] }).objs.size l.length).toArray = acc ++ (itersAt s.heap.objs.size (a :: l).length).toArray := by
          apply Array.ext'
          rw [z1, itersAt, itersAt, List.length_cons, List.range_succ_eq_map]
          simp only [List.map_cons, List.map_map, Array.toList_append, Array.toList_push, List.append_assoc, List.singleton_append, Nat.add_zero, List.cons.injEq, List.append_cancel_left_eq, true_and]
          apply List.map_congr_left
          intro x _
          show Value.ref _ = Value.ref _
          rw [show s.heap.objs.size + 1 + x = s.heap.objs.size + x.succ by omega]
        have h2 := h
        rw [← e] at h2
        exact h2
      · rcases j with _ | j
        · have e' : a = b := by simpa using e
          subst e'
          exact hk _ _ (Heap.get?_push_size _ rfl)
        · have := hg j b (by simpa using e)
          have e2 : (s.heap.push { cls := .type "list_iterator", data := .fields #[.ref a, .int 0 0] }).objs.size + j = s.heap.objs.size + (j + 1) := by rw [z1]; omega
          rw [← e2]
          exact this
theorem iterAll_lists {l : List Addr} {s : Shared} {Q : List Value → Shared → Prop} (hl : ∀ a ∈ l, ∃ items, s.heap.IsList a items)
    (hQ : ∀ h', h'.objs.size = s.heap.objs.size + l.length → (∀ (j : Nat) a, l[j]? = some a → h'.get? (s.heap.objs.size + j) = some { cls := .type "list_iterator", data := .fields #[.ref a, .int 0 0] }) →
      (∀ c o, s.heap.get? c = some o → h'.get? c = some o) → Q (itersAt s.heap.objs.size l.length) { s with heap := h' }) :
    wpAny (model prog w) A (Builtin.SmallTypes.iterAll (l.map Value.ref)) Q E s := by
  unfold Builtin.SmallTypes.iterAll
  refine wpAny_bind (iter_loop l #[] s _ hl fun h' a b c => wpAny_pure ?_)
  simpa using hQ h' a b c
abbrev itO (a : Addr) : Obj := { cls := .type "list_iterator", data := .fields #[.ref a, .int 0 0] }
theorem meets_zipN {a0 : Addr} {l : List Addr} (hsz : (a0 :: l).length ≤ sizeLine) :
    Meets (Builtin.«zip.__new__» ⟨.type "zip" :: Value.ref a0 :: l.map Value.ref, []⟩) (fun _ R s => (∀ a ∈ a0 :: l, ∃ items, s.heap.IsList a items) ∧
      ∀ h', h'.objs.size = s.heap.objs.size + (a0 :: l).length + 3 → (∀ (j : Nat) a, (a0 :: l)[j]? = some a → h'.get? (s.heap.objs.size + j) = some (itO a)) →
        IsTupA h' (s.heap.objs.size + (a0 :: l).length) (itersAt s.heap.objs.size (a0 :: l).length).toArray → (∃ vt, IsTupA h' (s.heap.objs.size + (a0 :: l).length + 1) vt ∧ vt.size = (a0 :: l).length) →
        IsZipB h' (s.heap.objs.size + (a0 :: l).length + 2) (s.heap.objs.size + (a0 :: l).length) (s.heap.objs.size + (a0 :: l).length + 1) .none (.bool false) →
        (∀ c o, s.heap.get? c = some o → h'.get? c = some o) →
        R (.ok (.ret (.ref (s.heap.objs.size + (a0 :: l).length + 2)))) { s with heap := h' }) :=
  .of_wp fun prog w A R s h => by
    obtain ⟨hl, h⟩ := h
    unfold Builtin.«zip.__new__»
    refine wpAny_bind (wpAny_of_eq (newClass_zip _) ?_)
    try dsimp only
    show wpAny _ _ (Builtin.SmallTypes.iterAll ((a0 :: l).map Value.ref) >>= _) _ _ _
    refine wpAny_bind (iterAll_lists hl fun h1 z1 g1 k1 => ?_)
    have hlen : (itersAt s.heap.objs.size (a0 :: l).length).length = (a0 :: l).length := by simp [itersAt]
    refine wpAny_bind (wpAny_newTuple ?_ (by rw [hlen]; exact hsz))
    refine wpAny_bind (wpAny_newTuple ?_ (by rw [List.length_map, hlen]; exact hsz))
    show wpAny _ _ (newObj (.type "zip") (.fields #[.none, .bool false, .bool false, .ref _, .ref _]) >>= _) _ _ _
    refine wpAny_bind (wpAny_newObj_type ?_)
    refine wpAny_pure ⟨_, rfl, ?_⟩
    have w1 := Heap.size_push h1 { cls := .type "tuple", data := .seq (itersAt s.heap.objs.size (a0 :: l).length).toArray }
    have w2 := Heap.size_push (h1.push { cls := .type "tuple", data := .seq (itersAt s.heap.objs.size (a0 :: l).length).toArray }) { cls := .type "tuple", data := .seq ((itersAt s.heap.objs.size (a0 :: l).length).map fun _ => Value.none).toArray }
    rw [w1] at w2
    have w3 : ((h1.push { cls := .type "tuple", data := .seq (itersAt s.heap.objs.size (a0 :: l).length).toArray }).push { cls := .type "tuple", data := .seq ((itersAt s.heap.objs.size (a0 :: l).length).map fun _ => Value.none).toArray }).objs.size = h1.objs.size + 2 := w2
    have h := h (((h1.push { cls := .type "tuple", data := .seq (itersAt s.heap.objs.size (a0 :: l).length).toArray }).push { cls := .type "tuple", data := .seq ((itersAt s.heap.objs.size (a0 :: l).length).map fun _ => Value.none).toArray }).push
      { cls := .type "zip", data := .fields #[.none, .bool false, .bool false, .ref h1.objs.size, .ref (h1.push { cls := .type "tuple", data := .seq (itersAt s.heap.objs.size (a0 :: l).length).toArray }).objs.size] })
      (by rw [Heap.size_push, w3, z1]) (fun j a e => Heap.get?_push_of_some _ (Heap.get?_push_of_some _ (Heap.get?_push_of_some _ (g1 j a e)))) (by rw [← z1]; exact Heap.get?_push_of_some _ (Heap.get?_push_of_some _ (Heap.get?_push_size _ rfl)))
      ⟨((itersAt s.heap.objs.size (a0 :: l).length).map fun _ => Value.none).toArray, by rw [← z1, ← w1]; exact Heap.get?_push_of_some _ (Heap.get?_push_size _ rfl), by rw [List.size_toArray, List.length_map, hlen]⟩
      (by rw [← z1, ← w3, ← w1]; exact Heap.get?_push_size _ rfl)
      (fun c o e => Heap.get?_push_of_some _ (Heap.get?_push_of_some _ (Heap.get?_push_of_some _ (k1 c o e))))
    rw [← z1, ← w3] at h
    exact h
/-- zip(*lists), one or more -/
theorem zipN_begins {l : List Addr} {s : Shared} {Q : Value → Shared → Prop} (h0 : 0 < l.length) (hsz : l.length ≤ sizeLine) (hl : ∀ a ∈ l, ∃ items, s.heap.IsList a items)
    (hQ : ∀ h', h'.objs.size = s.heap.objs.size + l.length + 3 → (∀ (j : Nat) a, l[j]? = some a → h'.get? (s.heap.objs.size + j) = some (itO a)) →
        IsTupA h' (s.heap.objs.size + l.length) (itersAt s.heap.objs.size l.length).toArray → (∃ vt, IsTupA h' (s.heap.objs.size + l.length + 1) vt ∧ vt.size = l.length) →
        IsZipB h' (s.heap.objs.size + l.length + 2) (s.heap.objs.size + l.length) (s.heap.objs.size + l.length + 1) .none (.bool false) →
        (∀ c o, s.heap.get? c = some o → h'.get? c = some o) → Q (.ref (s.heap.objs.size + l.length + 2)) { s with heap := h' }) :
    wpAny (model prog w) A (call (.type "zip") (l.map Value.ref)) Q E s := by
  cases l with
  | nil => exact absurd h0 (Nat.lt_irrefl 0)
  | cons a0 l =>
    refine callType_new F.called_zip (by decide) (by kernel_rfl) (newCall_zipN _ _) (fun obj => by kernel_rfl) F.entry_zip_new (meets_zipN hsz) ⟨hl, fun h' z g t o zz k => ?_⟩
    exact ⟨⟨_, zz, rfl⟩, hQ h' z g t o zz k⟩
end
end Sd

namespace Sd
open PySem PySem.Spec PyProof.Rows L2
/-! ### enumerate(zip(*lists)) begins -/
theorem meets_enumZ {z TI TO : Addr} {f0 b : Value} :
    Meets (Builtin.«enumerate.__new__» ⟨[.type "enumerate", .ref z], []⟩) (fun _ R s => IsZipB s.heap z TI TO f0 b ∧
      R (.ok (.ret (.ref s.heap.objs.size))) { s with heap := s.heap.push { cls := .type "enumerate", data := .fields #[.none, .bool false, .ref z, rawInt 0, .none, .none] } }) :=
  .of_wp fun prog w A R s h => by
    obtain ⟨hp, g, d, tk, os⟩ := s; obtain ⟨h1, h⟩ := h
    have hsub := sub_enumerate
    have go : ∀ {A' : Around} {E : Value → Shared → Prop} {Q : Value → Shared → Prop}, Q (.ref z) ⟨hp, g, d, tk, os⟩ → wpAny (model prog w) A' (pyIter (.ref z)) Q E ⟨hp, g, d, tk, os⟩ :=
      fun q => wpAny_pyIter_slot (s := ⟨hp, g, d, tk, os⟩) ⟨_, h1, rfl⟩ F.slot_zip_iter (wpAny_call_entry F.slot_zip_iter ⟨_, h1, rfl⟩ F.entry_zip_iter (by
        show wpAny _ _ (ret (.ref z)) _ _ _
        exact wpAny_pure ⟨_, rfl, "zip", _, ⟨_, h1, rfl⟩, F.slot_zip_next.lookup, q⟩) (F.args_zip_iter_1 _))
    wp_walk using go
    refine wpAny_stack_any fun st => wpAny_pure ?_
    split
    · rename_i c _ _ _ _ _
      cases (c == Value.type "enumerate") <;>
      · wp_walk using go
        exact ⟨_, rfl, h⟩
    · wp_walk using go
      exact ⟨_, rfl, h⟩
section
variable {P : Program} {w : World} {A : Around} {E : Value → Shared → Prop} {s : Shared}
theorem enumZ_begins {z TI TO : Addr} {f0 b : Value} {Q : Value → Shared → Prop} (hz : IsZipB s.heap z TI TO f0 b)
    (h : ∀ h', IsEnum h' s.heap.objs.size z 0 .none → (∀ b u, s.heap.get? b = some u → h'.get? b = some u) → Q (.ref s.heap.objs.size) { s with heap := h' }) :
    wpAny (model P w) A (call (.type "enumerate") [.ref z]) Q E s := by
  refine callType_new F.called_enumerate (by decide) (F.typeCall_enumerate_1 _) (F.newCall_enumerate_1 _) (fun obj => F.args_object_init_2 obj _) F.entry_enumerate_new meets_enumZ ⟨hz, ?_⟩
  have he : IsEnum (s.heap.push { cls := .type "enumerate", data := .fields #[.none, .bool false, .ref z, rawInt 0, .none, .none] }) s.heap.objs.size z 0 .none := Heap.get?_push_size s.heap rfl
  exact ⟨⟨_, he, rfl⟩, h _ he fun b u x => Heap.get?_push_of_some _ x⟩
end
section
variable {M : Model} {A : Around} {E : Value → Shared → Prop} {s : Shared} {env : Env} {pos p : Pos} {e : Expr} {T : String} {Q : Value → Shared → Prop}
/-- T(*e), T a type of the machine -/
theorem callWith_typeS (h : wpAny M A (eval e env) (fun v s₁ => PySem.W.StarOf M A E v (fun vs s₂ => wpAny M A (call (.type T) vs) Q E s₂) s₁) E s)
    (he : starEach [.Starred e p] env = [(true, eval e env)] := by rfl) :
    wpAny M A (callWith pos (.type T) [] (backTo pos (starEach [.Starred e p] env)) []) Q E s := by
  rw [he]
  unfold callWith
  refine wpAny_bind (wpAny_holding (wpAny_mono (PySem.W.ks_lone (Q := fun a s₂ => wpAny M A (call (.type T) a.pos a.kw) Q E s₂) h) (fun a s₁ h₁ => wpAny_bind (wpAny_standAt ?_)) fun _ _ x => x))
  refine wpAny_bind (wpAny_pure ?_)
  exact wpAny_bind (wpAny_mono (wpAny_operate' h₁) (fun r s₂ hr => wpAny_bind (wpAny_holding (wpAny_point (wpAny_pure hr)))) fun _ _ x => x)
end
end Sd

namespace Sd
open PySem PySem.Spec PyProof.Rows L2
theorem vals_refs : ∀ {l : List Addr} {us : List Value}, Vals (l.map V.ref) us → us = l.map Value.ref
  | [], _, .nil => rfl
  | a :: l, _, .cons (b := u) r h => by
    obtain rfl : u = Value.ref a := r
    rw [vals_refs h]
    rfl
theorem nne {a b : Nat} (h : a < b ∨ b < a) : a ≠ b := by omega
/-- a list L of lists, one or more, each of n items -/
def ListsOf (K : PySem.W.Frag) (H : Hp) (L : Addr) (as : List Addr) (n : Nat) : Prop :=
  SqL K H L (as.map V.ref) ∧ 0 < as.length ∧ ∀ a ∈ as, ∃ xs, SqL K H a xs ∧ xs.length = n
def iEnumZ (K : PySem.W.Frag) (te : TE) : TI := fun σ H R => te σ H fun x H1 => ∃ L n as, x = .ref L ∧ ListsOf K H1 L as n ∧ R (Iez K as.length n fun k => as.getD k 0) H1
theorem pi_enumZ {X : Cx} {e : Expr} {te : TE} {p p2 sp pos pos2 tpos : Pos} {elts : List Expr} {kk : Nat} (hg : Gl X "enumerate") (hm : X.mg "enumerate" = none) (hg2 : Gl X "zip") (hm2 : X.mg "zip" = none) (he : PE X e te)
    (hs : starEach [.Call (.Name "zip" p2) [.Starred e sp] [] pos2] X.env = [(false, eval (.Call (.Name "zip" p2) [.Starred e sp] [] pos2) X.env)] := by rfl) (hst : starEach [.Starred e sp] X.env = [(true, eval e X.env)] := by rfl) :
    PI X (.Tuple elts kk tpos) (.Call (.Name "enumerate" p) [.Call (.Name "zip" p2) [.Starred e sp] [] pos2] [] pos) (iEnumZ X.K te) := by
  refine ⟨fun pins s σ H R I h => ?_⟩
  refine Call_ (ld_blt I hg hm boot_enumerate (PyProof.Rows.callWith_type1 (PyProof.Rows.args_cons ?_ hs) hs rfl))
  refine Call_ (ld_blt I hg2 hm2 PyProof.Rows.boot_zip (callWith_typeS (thn (he.run pins s σ H _ I h) fun v s1 ⟨y, H1, I1, ry, L, n, as, ey, ⟨hL, h0, hls⟩, q⟩ => ?_) hst))
  subst ey
  obtain rfl : v = Value.ref L := ry
  obtain ⟨itsL, rL, _, hzL⟩ := I1.list hL
  rw [List.length_map] at hzL
  refine StX.star_lst I1 hL fun us s2 I2 rv => ?_
  rw [vals_refs rv]
  have hal : ∀ a ∈ as, ∃ items, s2.heap.IsList a items := fun a ha => by
    obtain ⟨xs, hx, _⟩ := hls a ha
    obtain ⟨its, _, pl, _⟩ := I2.list hx
    exact ⟨_, pl.isList⟩
  have hlt : ∀ k, k < as.length → @LT.lt Nat instLTNat (as.getD k 0) s2.heap.objs.size := fun k hk => by
    obtain ⟨items, o, ho, _⟩ := hal (as.getD k 0) (by rw [List.getD_eq_getElem?_getD, List.getElem?_eq_getElem hk]; exact List.getElem_mem hk)
    exact Heap.lt_size ho
  refine zipN_begins h0 hzL hal fun h' hz hits hTI hTO hzz hk => ?_
  refine PyProof.Rows.args_nil (enumZ_begins hzz fun h'' hen hk2 => ?_)
  rw [show ({ s2 with heap := h' } : Shared).heap.objs.size = s2.heap.objs.size + as.length + 3 from hz] at hen ⊢
  refine wpAny_pyIter_enum hen ?_
  have I3 : Inv X pins σ H1 { s2 with heap := h'' } := I2.kept (t' := s2.toks) fun b u x => hk2 b u (hk b u x)
  have S : ZipSepN (s2.heap.objs.size + as.length + 2) (s2.heap.objs.size + as.length) (s2.heap.objs.size + as.length + 1) as.length (fun k => s2.heap.objs.size + k) (fun k => [s2.heap.objs.size + k, as.getD k 0]) := by
    refine ⟨nne (by omega), nne (by omega), nne (by omega), fun k hk => nne (by omega), fun k hk => by simp, fun k hk => ?_, fun k hk => ?_, fun k l hk hl hne => ?_⟩
    · have := hlt k hk
      simp only [List.mem_cons, List.not_mem_nil, or_false, not_or]
      exact ⟨nne (by omega), nne (by omega)⟩
    · have := hlt k hk
      simp only [List.mem_cons, List.not_mem_nil, or_false, not_or]
      exact ⟨nne (by omega), nne (by omega)⟩
    · have := hlt l hl
      simp only [List.mem_cons, List.not_mem_nil, or_false, not_or]
      exact ⟨nne (by omega), nne (by omega)⟩
  refine ⟨s2.heap.objs.size + as.length + 3, _, _, _, H1, rfl, I3, turn_enumZ (n := n) (e := s2.heap.objs.size + as.length + 3) h0 hzL S (nne (by omega)) (nne (by omega)) (nne (by omega)) (fun j hj => nne (by omega)) (fun j hj => ?_) (fun j hj => ?_), ?_, fun b hb => ?_, q⟩
  · have := hlt j hj
    exact nne (by omega)
  · have := hlt j hj
    exact nne (by omega)
  · refine ⟨⟨.none, hen⟩, ⟨.none, .bool false, hk2 _ _ hzz, .inl rfl⟩, hk2 _ _ hTI, ?_, fun k hk' => ?_⟩
    · obtain ⟨vt, h1, h2⟩ := hTO
      exact ⟨vt, hk2 _ _ h1, h2⟩
    · exact ⟨_, hk2 _ _ (hits k _ (by rw [List.getD_eq_getElem?_getD, List.getElem?_eq_getElem hk']; rfl)), rfl, rfl⟩
  · have hle : s2.heap.objs.size ≤ b := by
      simp only [List.mem_cons, List.mem_map, List.mem_range] at hb
      rcases hb with rfl | rfl | rfl | rfl | ⟨k, hk', rfl⟩ <;> omega
    exact I2.fpOk hle (I2.hok.fresh hle)
theorem enumZ {X : Cx} {K : PySem.W.Frag} {e : Expr} {te : TE} {p p2 sp pos pos2 tpos : Pos} {elts : List Expr} {kk : Nat} (hK : X.K = K) (hg : Gl X "enumerate") (hm : X.mg "enumerate" = none) (hg2 : Gl X "zip") (hm2 : X.mg "zip" = none) (he : PE X e te)
    (hs : starEach [.Call (.Name "zip" p2) [.Starred e sp] [] pos2] X.env = [(false, eval (.Call (.Name "zip" p2) [.Starred e sp] [] pos2) X.env)] := by rfl) (hst : starEach [.Starred e sp] X.env = [(true, eval e X.env)] := by rfl) :
    PI X (.Tuple elts kk tpos) (.Call (.Name "enumerate" p) [.Call (.Name "zip" p2) [.Starred e sp] [] pos2] [] pos) (iEnumZ K te) := hK ▸ pi_enumZ hg hm hg2 hm2 he hs hst
/-- a new tuple of the i-th items, in a new pair with i -/
def YEz (K : PySem.W.Frag) (N : Nat) (a : Nat → Addr) : Nat → Hp → V → Hp → Prop := fun i H v H' =>
  ∃ T1 T2 ys, v = .ref T2 ∧ H T1 = none ∧ H T2 = none ∧ T1 ≠ T2 ∧ H' = upd (upd H T1 (.tup ys)) T2 (.tup [.int (i : Nat), .ref T1]) ∧ ys.length = N ∧ ∀ k, k < N → ∀ xs, SqL K H (a k) xs → ys[k]? = xs[i]?
theorem walk_enumZ {K : PySem.W.Frag} {N n : Nat} {a : Nat → Addr} : Walk (Iez K N n a) n (fun H => ∀ k, k < N → ∃ xs, SqL K H (a k) xs ∧ xs.length = n) (YEz K N a) :=
  ⟨fun i _ hi q => ⟨hi, q⟩, fun _ q => ⟨rfl, q⟩, fun _ _ _ _ _ _ y => y⟩
/-- the lists that were told stand as lists by number -/
theorem ListsOf.at {K : PySem.W.Frag} {H : Hp} {L : Addr} {as : List Addr} {n : Nat} (h : ListsOf K H L as n) : ∀ k, k < as.length → ∃ xs, SqL K H (as.getD k 0) xs ∧ xs.length = n := fun k hk => by
  refine h.2.2 _ ?_
  rw [List.getD_eq_getElem?_getD, List.getElem?_eq_getElem hk]
  exact List.getElem_mem hk
end Sd

namespace Sd
open PySem PySem.Spec PyProof.Rows L2
/-! ### min and max of a tuple of ints -/
theorem reads_ints {h : Heap} : ∀ {ns : List Int} {us : List Value}, Vals (ns.map V.int) us → PySem.ReadsAll h us (ns.map PyData.int) []
  | [], _, .nil => .nil
  | n :: ns, _, .cons r rs => by
    obtain ⟨t, rfl⟩ := r
    exact .cons (.int n t) (reads_ints rs)
theorem depth_ints : ∀ ns : List Int, PyData.depthAll (ns.map PyData.int) = 0
  | [] => by simp [PyData.depthAll]
  | n :: ns => by
    have := depth_ints ns
    simp [PyData.depthAll, PyData.depth, this]
theorem alikeInts (ns : List Int) : PySem.W.AlikeAll (ns.map PyData.int) := by
  refine ⟨fun x hx y hy => ?_, fun x hx => ?_⟩
  · obtain ⟨i, _, rfl⟩ := List.mem_map.mp hx
    obtain ⟨j, _, rfl⟩ := List.mem_map.mp hy
    rfl
  · obtain ⟨i, _, rfl⟩ := List.mem_map.mp hx
    exact fun e => nomatch e
theorem foldl_min (n : Int) (ns : List Int) : ns.foldl min n ∈ n :: ns ∧ ∀ y ∈ n :: ns, ns.foldl min n ≤ y := by
  induction ns generalizing n with
  | nil => exact ⟨by simp, fun y hy => by simp at hy; subst hy; exact Int.le_refl _⟩
  | cons a ns ih =>
    obtain ⟨h1, h2⟩ := ih (min n a)
    refine ⟨?_, fun y hy => ?_⟩
    · show ns.foldl min (min n a) ∈ _
      rcases List.mem_cons.mp h1 with e | e
      · rw [e]
        by_cases h : n ≤ a
        · rw [Int.min_eq_left h]; simp
        · rw [Int.min_eq_right (by omega)]; simp
      · simp [e]
    · show ns.foldl min (min n a) ≤ y
      have h3 := h2 (min n a) (by simp)
      rcases List.mem_cons.mp hy with rfl | hy
      · omega
      · rcases List.mem_cons.mp hy with rfl | hy
        · omega
        · exact h2 y (by simp [hy])
theorem foldl_max (n : Int) (ns : List Int) : ns.foldl max n ∈ n :: ns ∧ ∀ y ∈ n :: ns, y ≤ ns.foldl max n := by
  induction ns generalizing n with
  | nil => exact ⟨by simp, fun y hy => by simp at hy; subst hy; exact Int.le_refl _⟩
  | cons a ns ih =>
    obtain ⟨h1, h2⟩ := ih (max n a)
    refine ⟨?_, fun y hy => ?_⟩
    · show ns.foldl max (max n a) ∈ _
      rcases List.mem_cons.mp h1 with e | e
      · rw [e]
        by_cases h : n ≤ a
        · rw [Int.max_eq_right h]; simp
        · rw [Int.max_eq_left (by omega)]; simp
      · simp [e]
    · show y ≤ ns.foldl max (max n a)
      have h3 := h2 (max n a) (by simp)
      rcases List.mem_cons.mp hy with rfl | hy
      · omega
      · rcases List.mem_cons.mp hy with rfl | hy
        · omega
        · exact h2 y (by simp [hy])
def rMinT (K : PySem.W.Frag) : List V → Hp → VK → Prop := fun vs H Q => ∃ (a : Addr) (ns : List Int), vs = [V.ref a] ∧ SqT K H a (ns.map V.int) ∧ 0 < ns.length ∧ ∀ m, m ∈ ns → (∀ y, y ∈ ns → m ≤ y) → Q (.int m) H
def rMaxT (K : PySem.W.Frag) : List V → Hp → VK → Prop := fun vs H Q => ∃ (a : Addr) (ns : List Int), vs = [V.ref a] ∧ SqT K H a (ns.map V.int) ∧ 0 < ns.length ∧ ∀ m, m ∈ ns → (∀ y, y ∈ ns → y ≤ m) → Q (.int m) H
theorem cr_minT {X : Cx} {K : PySem.W.Frag} (hK : X.K = K) (hc : X.calm = true) {k : Nat} (hr : Room k X.A) : CallR X (.builtin "min") (rMinT K) := by
  subst hK
  intro pins s σ H vs us Q I r h
  obtain ⟨a, ns, rfl, hs, hne, q⟩ := h
  obtain ⟨its, rv, hl, _⟩ := I.tuple hs
  rw [Vals.ref1 r]
  cases ns with
  | nil => exact absurd hne (Nat.lt_irrefl 0)
  | cons n ns =>
    have hu := hr.units
    have hd := depth_ints (n :: ns)
    refine PySem.W.min_tuple_data (vs := its.toArray) (x := .int n) (xs := ns.map .int) (as := []) (I.ok.hd hc) hl (by simpa using reads_ints rv) (alikeInts (n :: ns)) ?_ fun i v h' tk bs hv hR kp => ?_
    · have e : PyData.depthAll (PyData.int n :: ns.map PyData.int) = 0 := hd
      omega
    · rw [PySem.W.minD_ints] at hR
      obtain ⟨h1, h2⟩ := foldl_min n ns
      cases hR with
      | int _ t => exact ⟨.int _, H, I.kept kp, ⟨t, rfl⟩, q _ h1 h2⟩
theorem cr_maxT {X : Cx} {K : PySem.W.Frag} (hK : X.K = K) (hc : X.calm = true) {k : Nat} (hr : Room k X.A) : CallR X (.builtin "max") (rMaxT K) := by
  subst hK
  intro pins s σ H vs us Q I r h
  obtain ⟨a, ns, rfl, hs, hne, q⟩ := h
  obtain ⟨its, rv, hl, _⟩ := I.tuple hs
  rw [Vals.ref1 r]
  cases ns with
  | nil => exact absurd hne (Nat.lt_irrefl 0)
  | cons n ns =>
    have hu := hr.units
    have hd := depth_ints (n :: ns)
    refine PySem.W.max_tuple_data (vs := its.toArray) (x := .int n) (xs := ns.map .int) (as := []) (I.ok.hd hc) hl (by simpa using reads_ints rv) (alikeInts (n :: ns)) ?_ fun i v h' tk bs hv hR kp => ?_
    · have e : PyData.depthAll (PyData.int n :: ns.map PyData.int) = 0 := hd
      omega
    · rw [PySem.W.maxD_ints] at hR
      obtain ⟨h1, h2⟩ := foldl_max n ns
      cases hR with
      | int _ t => exact ⟨.int _, H, I.kept kp, ⟨t, rfl⟩, q _ h1 h2⟩
end Sd

namespace Sd
open PySem PySem.Spec PyProof.Rows L2

/-! ### the text of a list of ints tells the list -/
def tailL : List (List Nat) → List Nat
  | [] => []
  | t :: r => 44 :: 32 :: (t ++ tailL r)
theorem tl_textFrom : ∀ (ts : List Str) (k : Nat) (acc : Str), TL.tl (textFrom (k + 1) acc ts) = TL.tl acc ++ tailL (ts.map TL.tl)
  | [], _, acc => (List.append_nil _).symm
  | t :: r, k, acc => by
    show TL.tl (textFrom (k + 1 + 1) (acc ++ ((if k + 1 > 0 then ", " else "" : String) : Str) ++ t) r) = _
    rw [tl_textFrom r (k + 1) _, if_pos (Nat.succ_pos k), TL.tl_append, TL.tl_append]
    show TL.tl acc ++ TL.tl ((", " : String) : Str) ++ TL.tl t ++ tailL (r.map TL.tl) = TL.tl acc ++ 44 :: 32 :: (TL.tl t ++ tailL (r.map TL.tl))
    rw [show TL.tl ((", " : String) : Str) = [44, 32] from tl_ofString ", "]
    simp [List.append_assoc]
def bodyL : List (List Nat) → List Nat
  | [] => []
  | t :: r => t ++ tailL r
theorem tl_listText (ts : List Str) : TL.tl (listText ts) = 91 :: (bodyL (ts.map TL.tl) ++ [93]) := by
  unfold listText
  rw [TL.tl_append, show TL.tl (("]" : String) : Str) = [93] from tl_ofString "]"]
  cases ts with
  | nil =>
    show TL.tl (("[" : String) : Str) ++ [93] = _
    rw [show TL.tl (("[" : String) : Str) = [91] from tl_ofString "["]
    rfl
  | cons t r =>
    show TL.tl (textFrom 1 ((("[" : String) : Str) ++ ((if 0 > 0 then ", " else "" : String) : Str) ++ t) r) ++ [93] = _
    rw [tl_textFrom r 0 _, if_neg (Nat.lt_irrefl 0), TL.tl_append, TL.tl_append, show TL.tl (("[" : String) : Str) = [91] from tl_ofString "[", show TL.tl (("" : String) : Str) = [] from tl_ofString ""]
    rfl
def NoStop (t : List Nat) : Prop := ∀ c ∈ t, c ≠ 44 ∧ c ≠ 93
theorem stop_cut : ∀ {t u X Y : List Nat}, NoStop t → NoStop u → (∃ x X', X = x :: X' ∧ (x = 44 ∨ x = 93)) → (∃ y Y', Y = y :: Y' ∧ (y = 44 ∨ y = 93)) → t ++ X = u ++ Y → t = u ∧ X = Y
  | [], [], _, _, _, _, _, _, e => ⟨rfl, e⟩
  | [], c :: u, X, Y, _, hu, ⟨x, X', hx, h1⟩, _, e => by
    rw [hx] at e
    have := List.cons.inj (show x :: X' = c :: (u ++ Y) from e)
    have h2 := hu c List.mem_cons_self
    omega
  | c :: t, [], X, Y, ht, _, _, ⟨y, Y', hy, h1⟩, e => by
    rw [hy] at e
    have := List.cons.inj (show c :: (t ++ X) = y :: Y' from e)
    have h2 := ht c List.mem_cons_self
    omega
  | c :: t, d :: u, X, Y, ht, hu, hX, hY, e => by
    have z := List.cons.inj (show c :: (t ++ X) = d :: (u ++ Y) from e)
    obtain ⟨a, b⟩ := stop_cut (fun x hx => ht x (List.mem_cons_of_mem _ hx)) (fun x hx => hu x (List.mem_cons_of_mem _ hx)) hX hY z.2
    exact ⟨by rw [z.1, a], b⟩
theorem tail_stop (a : List (List Nat)) : ∃ x X', tailL a ++ [93] = x :: X' ∧ (x = 44 ∨ x = 93) := by
  cases a with
  | nil => exact ⟨93, [], rfl, .inr rfl⟩
  | cons t r => exact ⟨44, _, rfl, .inl rfl⟩
theorem tail_inj : ∀ {a b : List (List Nat)}, (∀ t ∈ a, NoStop t) → (∀ t ∈ b, NoStop t) → tailL a ++ [93] = tailL b ++ [93] → a = b
  | [], [], _, _, _ => rfl
  | [], u :: v, _, _, e => by
    have := (List.cons.inj (show 93 :: [] = 44 :: _ from e)).1
    omega
  | t :: r, [], _, _, e => by
    have := (List.cons.inj (show 44 :: _ = 93 :: [] from e)).1
    omega
  | t :: r, u :: v, ha, hb, e => by
    have e2 := (List.cons.inj (List.cons.inj (show 44 :: 32 :: (t ++ tailL r ++ [93]) = 44 :: 32 :: (u ++ tailL v ++ [93]) from e)).2).2
    rw [List.append_assoc, List.append_assoc] at e2
    obtain ⟨x, y⟩ := stop_cut (ha t List.mem_cons_self) (hb u List.mem_cons_self) (tail_stop r) (tail_stop v) e2
    rw [x, tail_inj (fun z hz => ha z (List.mem_cons_of_mem _ hz)) (fun z hz => hb z (List.mem_cons_of_mem _ hz)) y]
theorem body_inj : ∀ {a b : List (List Nat)}, (∀ t ∈ a, NoStop t ∧ t ≠ []) → (∀ t ∈ b, NoStop t ∧ t ≠ []) → bodyL a ++ [93] = bodyL b ++ [93] → a = b
  | [], [], _, _, _ => rfl
  | [], u :: v, _, hb, e => by
    obtain ⟨h1, h2⟩ := hb u List.mem_cons_self
    cases u with
    | nil => exact absurd rfl h2
    | cons c u =>
      have := (List.cons.inj (show 93 :: [] = c :: _ from e)).1
      have := h1 c List.mem_cons_self
      omega
  | t :: r, [], ha, _, e => by
    obtain ⟨h1, h2⟩ := ha t List.mem_cons_self
    cases t with
    | nil => exact absurd rfl h2
    | cons c u =>
      have := (List.cons.inj (show c :: _ = 93 :: [] from e)).1
      have := h1 c List.mem_cons_self
      omega
  | t :: r, u :: v, ha, hb, e => by
    have e2 : t ++ (tailL r ++ [93]) = u ++ (tailL v ++ [93]) := by
      rw [← List.append_assoc, ← List.append_assoc]
      exact e
    obtain ⟨x, y⟩ := stop_cut (ha t List.mem_cons_self).1 (hb u List.mem_cons_self).1 (tail_stop r) (tail_stop v) e2
    rw [x, tail_inj (fun z hz => (ha z (List.mem_cons_of_mem _ hz)).1) (fun z hz => (hb z (List.mem_cons_of_mem _ hz)).1) y]
theorem intL_stop (n : Int) : NoStop (intL n) ∧ intL n ≠ [] := ⟨fun c hc => ⟨fun e => intL_free (n := n) (s := 44) (.inl (by decide)) (by decide) (e ▸ hc), fun e => intL_free (n := n) (s := 93) (.inr (by decide)) (by decide) (e ▸ hc)⟩, intL_ne n⟩
theorem intL_inj {n m : Int} (h : intL n = intL m) : n = m := by
  by_cases h1 : n < 0
  · by_cases h2 : m < 0
    · rw [intL_neg h1, intL_neg h2] at h
      have := TL.numL_inj (List.cons.inj h).2
      omega
    · rw [intL_neg h1, intL_pos (by omega)] at h
      exact absurd (h ▸ List.mem_cons_self) (TL.numL_free (.inl (by decide)))
  · by_cases h2 : m < 0
    · rw [intL_pos (by omega), intL_neg h2] at h
      exact absurd (h ▸ List.mem_cons_self) (TL.numL_free (.inl (by decide)))
    · rw [intL_pos (by omega), intL_pos (by omega)] at h
      have := TL.numL_inj h
      omega
theorem map_intL_inj : ∀ {a b : List Int}, a.map intL = b.map intL → a = b
  | [], [], _ => rfl
  | [], _ :: _, h => by simp at h
  | _ :: _, [], h => by simp at h
  | x :: a, y :: b, h => by
    have z := List.cons.inj (show intL x :: a.map intL = intL y :: b.map intL from h)
    rw [intL_inj z.1, map_intL_inj z.2]
theorem tl_dI (ns : List Int) : TL.tl (dI ns).shown = 91 :: (bodyL (ns.map intL) ++ [93]) := by
  have e : (dI ns).shown = listText (PyData.shownAll (ns.map PyData.int)) := by
    unfold dI
    simp only [PyData.shown]
  rw [e, shownAll_map, tl_listText, List.map_map, List.map_map]
  refine congrArg (fun x => 91 :: (bodyL x ++ [93])) (List.map_congr_left fun n _ => ?_)
  show TL.tl (PyData.int n).shown = intL n
  simp only [PyData.shown]
  rw [str_int]
  rfl
theorem shown_inj {a b : List Int} (h : (dI a).shown = (dI b).shown) : a = b := by
  have e := congrArg TL.tl h
  rw [tl_dI, tl_dI] at e
  refine map_intL_inj (body_inj (fun t ht => ?_) (fun t ht => ?_) (List.cons.inj e).2)
  · obtain ⟨n, _, rfl⟩ := List.mem_map.mp ht
    exact intL_stop n
  · obtain ⟨n, _, rfl⟩ := List.mem_map.mp ht
    exact intL_stop n

/-! ### how many there are -/
theorem nodup_le {α : Type} [DecidableEq α] : ∀ {L ns : List α}, L.Nodup → (∀ k ∈ L, k ∈ ns) → L.length ≤ ns.length
  | [], _, _, _ => Nat.zero_le _
  | x :: L, ns, hn, hm => by
    have hx := hm x List.mem_cons_self
    have hn2 := List.nodup_cons.mp hn
    have := nodup_le (L := L) (ns := ns.erase x) hn2.2 fun k hk => (List.mem_erase_of_ne (show k ≠ x from fun e => hn2.1 (by rw [← e]; exact hk))).mpr (hm k (List.mem_cons_of_mem _ hk))
    rw [List.length_erase_of_mem hx] at this
    have := List.length_pos_of_mem hx
    rw [List.length_cons]
    omega
theorem not_nodup {α : Type} [DecidableEq α] : ∀ {ns : List α}, ¬ ns.Nodup → ∃ ms : List α, ms.length < ns.length ∧ ∀ k ∈ ns, k ∈ ms
  | [], h => absurd List.nodup_nil h
  | x :: r, h => by
    by_cases hx : x ∈ r
    · exact ⟨r, Nat.lt_succ_self _, fun k hk => by
        rcases List.mem_cons.mp hk with e | e
        · rw [e]; exact hx
        · exact e⟩
    · have hr : ¬ r.Nodup := fun z => h (List.nodup_cons.mpr ⟨hx, z⟩)
      obtain ⟨ms, h1, h2⟩ := not_nodup hr
      refine ⟨x :: ms, Nat.succ_lt_succ h1, fun k hk => ?_⟩
      rcases List.mem_cons.mp hk with e | e
      · rw [e]; exact List.mem_cons_self
      · exact List.mem_cons_of_mem _ (h2 k e)
theorem len_iff {α : Type} [DecidableEq α] {L ns : List α} (hL : L.Nodup) (hm : ∀ k, k ∈ ns ↔ k ∈ L) : L.length = ns.length ↔ ns.Nodup := by
  constructor
  · intro e
    refine Classical.byContradiction fun h => ?_
    obtain ⟨ms, h1, h2⟩ := not_nodup h
    have := nodup_le hL fun k hk => h2 k ((hm k).mpr hk)
    omega
  · intro h
    have a := nodup_le hL fun k hk => (hm k).mpr hk
    have b := nodup_le h fun k hk => (hm k).mp hk
    omega
theorem len_lt {α : Type} [DecidableEq α] {L ns : List α} (hL : L.Nodup) (hm : ∀ k, k ∈ ns ↔ k ∈ L) (h : ¬ ns.Nodup) : L.length < ns.length := by
  have a := nodup_le hL fun k hk => (hm k).mpr hk
  have : ¬ L.length = ns.length := fun e => h ((len_iff hL hm).mp e)
  omega

/-! ### numbers for keys, in a dict -/
section
variable {κ α : Type} [DecidableEq κ]
theorem val_at {kvs : List (κ × V)} {k : κ} {v : V} (h : valV kvs k = some v) : ∃ j : Nat, kvs[j]? = some (k, v) := by
  unfold valV at h
  obtain ⟨p, h1, h2⟩ := Option.map_eq_some_iff.mp h
  have h3 : p.1 = k := of_decide_eq_true (p := p.1 = k) (List.find?_some (p := fun kv : κ × V => decide (kv.1 = k)) h1)
  obtain ⟨j, hj⟩ := List.mem_iff_getElem?.mp (List.mem_of_find?_eq_some h1)
  refine ⟨j, ?_⟩
  rw [hj, ← h2, ← h3]
structure Kn (kvs : List (κ × V)) (S : List κ) : Prop where
  pos : ∀ j : Nat, j < kvs.length → ∃ k, kvs[j]? = some (k, .int (j : Int))
  has : ∀ k ∈ S, ∃ v, valV kvs k = some v
  len : kvs.length ≤ S.length
theorem Kn.nil : Kn ([] : List (κ × V)) [] := ⟨fun j h => absurd h (Nat.not_lt_zero j), fun k h => (List.not_mem_nil h).elim, Nat.le_refl _⟩
theorem Kn.val {kvs : List (κ × V)} {S : List κ} {k : κ} {v : V} (h : Kn kvs S) (e : valV kvs k = some v) : ∃ n : Nat, v = .int (n : Int) ∧ n < kvs.length ∧ kvs[n]? = some (k, v) := by
  obtain ⟨j, hj⟩ := val_at e
  have hl := (List.getElem?_eq_some_iff.mp hj).1
  obtain ⟨k', hk⟩ := h.pos j hl
  rw [hj] at hk
  have z := Option.some.inj hk
  exact ⟨j, congrArg (·.2) z, hl, hj⟩
theorem Kn.inj {kvs : List (κ × V)} {S : List κ} {k k' : κ} {v : V} (h : Kn kvs S) (e : valV kvs k = some v) (e' : valV kvs k' = some v) : k = k' := by
  obtain ⟨n, h1, _, h3⟩ := h.val e
  obtain ⟨m, h4, _, h6⟩ := h.val e'
  rw [h1] at h4
  have := V.int.inj h4
  obtain rfl : n = m := by omega
  rw [h3] at h6
  exact congrArg (·.1) (Option.some.inj h6)
theorem Kn.old {kvs : List (κ × V)} {S : List κ} {k : κ} {v : V} (h : Kn kvs S) (e : valV kvs k = some v) : Kn kvs (S ++ [k]) := ⟨h.pos, fun k' hk => by
  rcases List.mem_append.mp hk with z | z
  · exact h.has k' z
  · rw [List.mem_singleton.mp z]
    exact ⟨v, e⟩, by rw [List.length_append]; have := h.len; omega⟩
theorem Kn.new {kvs : List (κ × V)} {S : List κ} {k : κ} (h : Kn kvs S) (e : valV kvs k = none) : Kn (kvs ++ [(k, .int (kvs.length : Int))]) (S ++ [k]) := by
  refine ⟨fun j hj => ?_, fun k' hk => ?_, by rw [List.length_append, List.length_append]; exact Nat.succ_le_succ h.len⟩
  · rw [List.length_append] at hj
    by_cases z : j < kvs.length
    · rw [List.getElem?_append_left z]
      exact h.pos j z
    · have : j = kvs.length := by
        have : ([(k, V.int (kvs.length : Int))] : List (κ × V)).length = 1 := rfl
        omega
      subst this
      rw [List.getElem?_append_right (Nat.le_refl _), Nat.sub_self]
      exact ⟨k, rfl⟩
  · rw [valV_snoc k k' _ kvs e]
    by_cases z : k' = k
    · rw [if_pos z]
      exact ⟨_, rfl⟩
    · rw [if_neg z]
      rcases List.mem_append.mp hk with y | y
      · exact h.has k' y
      · exact absurd (List.mem_singleton.mp y) z
def nOf (kvs : List (κ × V)) (k : κ) : Int := match valV kvs k with
  | some (.int n) => n
  | _ => 0
theorem Kn.of {kvs : List (κ × V)} {S : List κ} {k : κ} (h : Kn kvs S) (hk : k ∈ S) : valV kvs k = some (.int (nOf kvs k)) ∧ 0 ≤ nOf kvs k ∧ nOf kvs k < kvs.length := by
  obtain ⟨v, e⟩ := h.has k hk
  obtain ⟨n, h1, h2, _⟩ := h.val e
  have z : nOf kvs k = n := by
    unfold nOf
    rw [e, h1]
  rw [z, e, h1]
  exact ⟨rfl, by omega, by omega⟩
/-- ks number the items of xs: like ones alike, unlike ones not -/
structure Num (xs : List α) (ks : List Int) : Prop where
  len : ks.length = xs.length
  eq : ∀ i j : Nat, i < xs.length → j < xs.length → (ks[i]? = ks[j]? ↔ xs[i]? = xs[j]?)
  lo : ∀ k ∈ ks, 0 ≤ k ∧ k ≤ xs.length
theorem Kn.num {kvs : List (κ × V)} {xs : List α} {f : α → κ} (hf : ∀ a b, f a = f b → a = b) (h : Kn kvs (xs.map f)) : Num xs (xs.map fun x => nOf kvs (f x)) := by
  refine ⟨List.length_map .., fun i j hi hj => ?_, fun k hk => ?_⟩
  · rw [List.getElem?_map, List.getElem?_map, List.getElem?_eq_getElem hi, List.getElem?_eq_getElem hj]
    constructor
    · intro e
      have e : nOf kvs (f xs[i]) = nOf kvs (f xs[j]) := Option.some.inj e
      have a := h.of (List.mem_map.mpr ⟨xs[i], List.getElem_mem hi, rfl⟩)
      have b := h.of (List.mem_map.mpr ⟨xs[j], List.getElem_mem hj, rfl⟩)
      rw [e] at a
      rw [hf _ _ (h.inj a.1 b.1)]
    · intro e
      rw [Option.some.inj e]
  · obtain ⟨x, hx, rfl⟩ := List.mem_map.mp hk
    have a := h.of (List.mem_map.mpr ⟨x, hx, rfl⟩)
    have := h.len
    rw [List.length_map] at this
    omega
/-! ### how many keys -/
structure Cn (kvs : List (κ × V)) (S : List κ) : Prop where
  nd : (kvs.map (·.1)).Nodup
  mem : ∀ k, k ∈ S ↔ k ∈ kvs.map (·.1)
theorem Cn.nil : Cn ([] : List (κ × V)) [] := ⟨List.nodup_nil, fun k => Iff.rfl⟩
theorem any_mem {kvs : List (κ × V)} {k : κ} : (kvs.any fun kv => decide (kv.1 = k)) = true ↔ k ∈ kvs.map (·.1) := by
  rw [List.any_eq_true, List.mem_map]
  constructor
  · rintro ⟨p, h1, h2⟩
    exact ⟨p, h1, of_decide_eq_true h2⟩
  · rintro ⟨p, h1, h2⟩
    exact ⟨p, h1, decide_eq_true h2⟩
theorem Cn.put {kvs : List (κ × V)} {S : List κ} (h : Cn kvs S) (k : κ) (v : V) : Cn (putK kvs k v) (S ++ [k]) := by
  unfold putK
  by_cases z : (kvs.any fun kv => decide (kv.1 = k)) = true
  · rw [if_pos z]
    have e : (kvs.map fun kv => if kv.1 = k then (kv.1, v) else kv).map (·.1) = kvs.map (·.1) := by
      rw [List.map_map]
      refine List.map_congr_left fun p _ => ?_
      show (if p.1 = k then (p.1, v) else p).1 = p.1
      split <;> rfl
    refine ⟨by rw [e]; exact h.nd, fun k' => ?_⟩
    rw [e, List.mem_append, ← h.mem k']
    constructor
    · intro y
      rcases y with y | y
      · exact y
      · rw [List.mem_singleton.mp y]
        exact (h.mem k).mpr (any_mem.mp z)
    · exact .inl
  · rw [if_neg z, ]
    have hk : k ∉ kvs.map (·.1) := fun y => z (any_mem.mpr y)
    refine ⟨?_, fun k' => ?_⟩
    · rw [List.map_append, List.nodup_append]
      refine ⟨h.nd, List.nodup_cons.mpr ⟨List.not_mem_nil, List.nodup_nil⟩, fun a ha b hb e => ?_⟩
      rw [List.mem_singleton.mp hb] at e
      have e : a = k := e
      rw [e] at ha
      exact hk ha
    · rw [List.map_append, List.mem_append, List.mem_append, h.mem k']
      exact Iff.rfl
theorem Cn.all {kvs : List (κ × V)} {S : List κ} (h : Cn kvs S) : kvs.length = S.length ↔ S.Nodup := by
  have := len_iff h.nd h.mem
  rwa [List.length_map] at this
theorem Cn.less {kvs : List (κ × V)} {S : List κ} (h : Cn kvs S) (hn : ¬ S.Nodup) : kvs.length < S.length := by
  have := len_lt h.nd h.mem hn
  rwa [List.length_map] at this
theorem Cn.le {kvs : List (κ × V)} {S : List κ} (h : Cn kvs S) : kvs.length ≤ S.length := by
  have := nodup_le h.nd fun k hk => (h.mem k).mpr hk
  rwa [List.length_map] at this
end
end Sd

namespace Sd
open PySem PySem.Spec PyProof.Rows L2

/-! ### stretches of what comes again, told apart -/
structure Win (g : Int → Int) (W n : Nat) (ks : List Int) : Prop where
  len : ks.length = W
  eq : ∀ i j : Nat, i < W → j < W → (ks[i]? = ks[j]? ↔ seqG g i n = seqG g j n)
  lo : ∀ k ∈ ks, 0 ≤ k ∧ k ≤ W
section
variable {g : Int → Int} {W : Nat}
theorem Win.zero : Win g W 0 (List.replicate W 0) := by
  refine ⟨List.length_replicate, fun i j hi hj => ?_, fun k hk => ?_⟩
  · rw [List.getElem?_replicate, List.getElem?_replicate, if_pos hi, if_pos hj]
    exact ⟨fun _ => rfl, fun _ => rfl⟩
  · rw [(List.mem_replicate.mp hk).2]
    omega
theorem seqG_one (f : Int) : seqG g f 1 = [g f] := by
  show [g (f + ((0 : Nat) : Int))] = [g f]
  rw [Int.natCast_zero, Int.add_zero]
theorem Win.one {ks : List Int} (h : Num (seqG g 0 W) ks) : Win g W 1 ks := by
  have e := seqG_len g 0 W
  refine ⟨by rw [h.len, e], fun i j hi hj => ?_, fun k hk => by have := h.lo k hk; rw [e] at this; exact this⟩
  rw [h.eq i j (by rw [e]; exact hi) (by rw [e]; exact hj), seqG_at hi, seqG_at hj, seqG_one, seqG_one, Int.zero_add, Int.zero_add]
  constructor
  · intro z
    rw [Option.some.inj z]
  · intro z
    rw [(List.cons.inj z).1]
theorem modC (A : Again g W) (i n m : Nat) : seqG g (((i + n) % W : Nat) : Int) m = seqG g ((i : Int) + (n : Int)) m := by
  rw [Int.natCast_emod, Int.natCast_add]
  exact A.seqMod _ (by omega) m
/-- what is numbered when two stretches are joined -/
def pairK (W n : Nat) (ks ms : List Int) : List (Int × Int) := (List.range W).map fun t => (ks.getD t 0, ms.getD ((t + n) % W) 0)
theorem pairK_len (W n : Nat) (ks ms : List Int) : (pairK W n ks ms).length = W := by
  unfold pairK
  rw [List.length_map, List.length_range]
theorem pairK_at {W n t : Nat} {ks ms : List Int} (h : t < W) : (pairK W n ks ms)[t]? = some (ks.getD t 0, ms.getD ((t + n) % W) 0) := by
  unfold pairK
  rw [List.getElem?_map, List.getElem?_range h]
  rfl
theorem getD_iff {ks : List Int} {i j : Nat} (hi : i < ks.length) (hj : j < ks.length) : ks.getD i 0 = ks.getD j 0 ↔ ks[i]? = ks[j]? := by
  rw [List.getD_eq_getElem?_getD, List.getD_eq_getElem?_getD, List.getElem?_eq_getElem hi, List.getElem?_eq_getElem hj]
  exact ⟨fun e => congrArg some e, fun e => Option.some.inj e⟩
theorem Win.join (A : Again g W) {n m : Nat} {ks ms rs : List Int} (h : Win g W n ks) (h' : Win g W m ms) (r : Num (pairK W n ks ms) rs) : Win g W (n + m) rs := by
  have e := pairK_len W n ks ms
  have hp := A.pos
  refine ⟨by rw [r.len, e], fun i j hi hj => ?_, fun k hk => by have := r.lo k hk; rw [e] at this; exact this⟩
  rw [r.eq i j (by rw [e]; exact hi) (by rw [e]; exact hj), pairK_at hi, pairK_at hj]
  have mi := Nat.mod_lt (i + n) hp
  have mj := Nat.mod_lt (j + n) hp
  have e1 := (getD_iff (ks := ks) (i := i) (j := j) (by rw [h.len]; exact hi) (by rw [h.len]; exact hj)).trans (h.eq i j hi hj)
  have e2 := (getD_iff (ks := ms) (i := (i + n) % W) (j := (j + n) % W) (by rw [h'.len]; exact mi) (by rw [h'.len]; exact mj)).trans (h'.eq _ _ mi mj)
  rw [modC A, modC A] at e2
  have e3 : (some (ks.getD i 0, ms.getD ((i + n) % W) 0) = some (ks.getD j 0, ms.getD ((j + n) % W) 0)) ↔ ks.getD i 0 = ks.getD j 0 ∧ ms.getD ((i + n) % W) 0 = ms.getD ((j + n) % W) 0 :=
    ⟨fun z => Prod.mk.inj (Option.some.inj z), fun z => by rw [z.1, z.2]⟩
  rw [e3, e1, e2, seqG_add, seqG_add]
  exact ⟨fun z => by rw [z.1, z.2], fun z => List.append_inj z (by rw [seqG_len, seqG_len])⟩
/-- no two stretches of n alike -/
def Uq (g : Int → Int) (W n : Nat) : Prop := ∀ i j : Nat, i < W → j < W → seqG g i n = seqG g j n → i = j
theorem nodup_at {α : Type} {l : List α} : l.Nodup ↔ ∀ i j : Nat, i < l.length → j < l.length → l[i]? = l[j]? → i = j := by
  constructor
  · intro h i j hi hj e
    exact (List.getElem?_inj hi h).mp e
  · intro h
    refine List.nodup_iff_pairwise_ne.mpr (List.pairwise_iff_getElem.mpr fun i j hi hj hij e => ?_)
    have := h i j hi hj (by rw [List.getElem?_eq_getElem hi, List.getElem?_eq_getElem hj, e])
    omega
theorem Win.nodup {n : Nat} {ks : List Int} (h : Win g W n ks) : ks.Nodup ↔ Uq g W n := by
  rw [nodup_at, h.len]
  exact ⟨fun z i j hi hj e => z i j hi hj ((h.eq i j hi hj).mpr e), fun z i j hi hj e => z i j hi hj ((h.eq i j hi hj).mp e)⟩
theorem Uq.mono {n m : Nat} (h : Uq g W n) (hm : n ≤ m) : Uq g W m := fun i j hi hj e => h i j hi hj (by
  have z := congrArg (List.take n) e
  rwa [seqG_take hm, seqG_take hm] at z)
theorem Again.int (A : Again g W) (t q : Int) : g (t + q * (W : Int)) = g t := by
  by_cases h : 0 ≤ q
  · have := A.muls t q.toNat
    rwa [Int.toNat_of_nonneg h] at this
  · have := A.muls (t + q * (W : Int)) (-q).toNat
    rw [Int.toNat_of_nonneg (by omega), Int.neg_mul, Int.add_neg_cancel_right] at this
    exact this.symm
theorem per_muls {p : Nat} (h : ∀ t, g (t + (p : Int)) = g t) (t : Int) : ∀ q : Nat, g (t + ((p * q : Nat) : Int)) = g t
  | 0 => by rw [Nat.mul_zero, Int.natCast_zero, Int.add_zero]
  | q + 1 => by
    rw [Nat.mul_succ, Int.natCast_add, ← Int.add_assoc, h, per_muls h t q]
theorem per_gcd (m n : Nat) : (∀ t, g (t + (m : Int)) = g t) → (∀ t, g (t + (n : Int)) = g t) → ∀ t, g (t + ((Nat.gcd m n : Nat) : Int)) = g t := by
  induction m, n using Nat.gcd.induction with
  | H0 n => exact fun _ h => by rw [Nat.gcd_zero_left]; exact h
  | H1 m n hm ih =>
    intro h1 h2
    rw [Nat.gcd_rec]
    refine ih (fun t => ?_) h1
    have z := per_muls h1 (t + ((n % m : Nat) : Int)) (n / m)
    rw [Int.add_assoc, ← Int.natCast_add, Nat.mod_add_div, h2] at z
    exact z.symm
/-- g comes again already after s, a divisor of W below it -/
def Short (g : Int → Int) (W s : Nat) : Prop := 1 ≤ s ∧ s < W ∧ s ∣ W ∧ ∀ t, g (t + (s : Int)) = g t
theorem Short.not {s n : Nat} (h : Short g W s) : ¬ Uq g W n := fun z => by
  have e : seqG g ((0 : Nat) : Int) n = seqG g (s : Int) n := by
    unfold seqG
    refine List.map_congr_left fun i _ => ?_
    have := h.2.2.2 (i : Int)
    rw [Int.natCast_zero, Int.zero_add, Int.add_comm, this]
  have := z 0 s (by have := h.2.1; omega) h.2.1 e
  have := h.1
  omega
theorem short_of (A : Again g W) {n : Nat} (hn : W ≤ n) (h : ¬ Uq g W n) : ∃ s, Short g W s := by
  have hp := A.pos
  have key : ∀ i j : Nat, i < j → j < W → seqG g i n = seqG g j n → ∃ s, Short g W s := fun i j hij hj e => by
    have hk : ∀ k : Nat, k < n → g ((i : Int) + (k : Int)) = g ((j : Int) + (k : Int)) := fun k hk => by
      have z := congrArg (fun l => l[k]?) e
      simp only [seqG_at hk] at z
      exact Option.some.inj z
    have hd : ∀ t, g (t + ((j - i : Nat) : Int)) = g t := fun t => by
      have m0 := Int.emod_nonneg (t - i) (show (W : Int) ≠ 0 by omega)
      have m1 := Int.emod_lt_of_pos (t - i) (show 0 < (W : Int) by omega)
      have ee := Int.mul_ediv_add_emod (t - i) (W : Int)
      have z := hk ((t - i) % (W : Int)).toNat (by omega)
      rw [Int.toNat_of_nonneg m0] at z
      have a := A.int ((i : Int) + (t - i) % (W : Int)) ((t - i) / (W : Int))
      have b := A.int ((j : Int) + (t - i) % (W : Int)) ((t - i) / (W : Int))
      rw [Int.mul_comm] at a b
      rw [show (i : Int) + (t - i) % (W : Int) + (W : Int) * ((t - i) / (W : Int)) = t by omega] at a
      rw [show (j : Int) + (t - i) % (W : Int) + (W : Int) * ((t - i) / (W : Int)) = t + ((j - i : Nat) : Int) by omega] at b
      rw [b, ← z, ← a]
    refine ⟨Nat.gcd (j - i) W, Nat.gcd_pos_of_pos_left _ (by omega), ?_, Nat.gcd_dvd_right _ _, per_gcd _ _ hd A.per⟩
    have := Nat.le_of_dvd (by omega) (Nat.gcd_dvd_left (j - i) W)
    omega
  refine Classical.byContradiction fun hno => h fun i j hi hj e => ?_
  rcases Nat.lt_trichotomy i j with z | z | z
  · exact absurd (key i j z hj e) hno
  · exact z
  · exact absurd (key j i z hi e.symm) hno
theorem round_iff (A : Again g W) {s : Nat} : seqG g (s : Int) W = seqG g 0 W ↔ ∀ t, g (t + (s : Int)) = g t := by
  have hp := A.pos
  constructor
  · intro e t
    have m0 := Int.emod_nonneg t (show (W : Int) ≠ 0 by omega)
    have m1 := Int.emod_lt_of_pos t (show 0 < (W : Int) by omega)
    have ee := Int.mul_ediv_add_emod t (W : Int)
    have z := congrArg (fun l => l[(t % (W : Int)).toNat]?) e
    simp only [seqG_at (show (t % (W : Int)).toNat < W by omega)] at z
    have z := Option.some.inj z
    rw [Int.toNat_of_nonneg m0, Int.zero_add] at z
    have a := A.int (t % (W : Int)) (t / (W : Int))
    have b := A.int ((s : Int) + t % (W : Int)) (t / (W : Int))
    rw [Int.mul_comm] at a b
    rw [show t % (W : Int) + (W : Int) * (t / (W : Int)) = t by omega] at a
    rw [show (s : Int) + t % (W : Int) + (W : Int) * (t / (W : Int)) = t + (s : Int) by omega] at b
    rw [b, z, a]
  · intro h
    unfold seqG
    refine List.map_congr_left fun i _ => ?_
    rw [Int.add_comm (s : Int), h, Int.zero_add]
theorem round_cut (A : Again g W) {s : Nat} (hs : s ≤ W) : seqG g (s : Int) (W - s) ++ seqG g 0 s = seqG g (s : Int) W := by
  have e := seqG_add g (s : Int) (W - s) s
  rw [Nat.sub_add_cancel hs] at e
  rw [e]
  have z := A.seq 0 s
  rw [show (0 : Int) + (W : Int) = (s : Int) + ((W - s : Nat) : Int) by omega] at z
  rw [z]
/-- n is the least number of lights that tell each tick from each other -/
def Told (g : Int → Int) (W n : Nat) : Prop := 1 ≤ n ∧ Uq g W n ∧ (n = 1 ∨ ¬ Uq g W (n - 1))
theorem Told.le {n : Nat} (h : Told g W n) (hW : 1 ≤ W) (hu : Uq g W W) : n ≤ W := by
  rcases h.2.2 with e | e
  · omega
  · refine Classical.byContradiction fun z => e (hu.mono (by omega))
end
end Sd

namespace Sd
open PySem PySem.Spec PyProof.Rows L2

theorem at_getN {r : List Int} {i : Nat} {z : Int} (e : z = (i : Int)) (h : i < r.length) : atI (r.map V.int) z = some (.int (r.getD i 0)) := by
  subst e
  refine atI_nat ?_
  rw [List.getElem?_map, List.getD_eq_getElem?_getD, List.getElem?_eq_getElem h]
  rfl
theorem at_lastN {xs : List V} {v : V} {n : Nat} (hl : xs.length = n + 1) (h : xs[n]? = some v) : atI xs (-1) = some v := by
  unfold atI ixN
  rw [if_neg (by decide), if_pos (by omega)]
  show xs[((-1 : Int) + (xs.length : Int)).toNat]? = _
  rw [show ((-1 : Int) + (xs.length : Int)).toNat = n by omega]
  exact h
theorem Prs.onto {H : Hp} {D : Addr} {us : List V} {o : HO} (e : H D = some (.lst us)) {vs : List V} {ps : List (Int × Int)} (h : Prs H vs ps) : Prs (upd H D o) vs ps := by
  induction h with
  | nil => exact .nil
  | cons h t ih => exact .cons (by rw [upd_ne fun z => by rw [z, e] at h; cases h]; exact h) ih
theorem LL.onto {H : Hp} {D : Addr} {vs : List V} {o : HO} (e : H D = some (.lst vs)) {ws : List V} {S : List (List Int)} (h : LL H ws S) (hs : ∀ v ∈ ws, v ∈ vs) : LL (upd H D o) ws S := by
  induction h with
  | nil => exact .nil
  | cons h t ih =>
    rename_i a r vs' S'
    refine .cons ?_ (ih fun v hv => hs v (List.mem_cons_of_mem _ hv))
    rw [upd_ne fun z => ?_]
    · exact h
    · rw [z, e] at h
      have e2 := Option.some.inj h
      injection e2 with e2
      have hm := hs _ List.mem_cons_self
      rw [e2] at hm
      obtain ⟨n, _, hn⟩ := List.mem_map.mp hm
      cases hn

/-! ### a dict of either kind of keys -/
def tDNewE : TE := fun _ H Q => (∀ p, H p = none → Q (.ref p) (upd H p (.dK []))) ∨ ∀ p, H p = none → Q (.ref p) (upd H p (.dT []))
theorem pe_dnewE {X : Cx} {pos : Pos} : PE X (.Dict [] [] pos) tDNewE := ⟨fun pins s σ H Q I h => h.elim (fun h => pe_dnewK.run pins s σ H Q I h) (fun h => pe_dnewT.run pins s σ H Q I h)⟩
def rLenE : List V → Hp → VK → Prop := fun xs H Q => ∃ a : Addr, xs = [.ref a] ∧ ((∃ kvs, H a = some (.dK kvs) ∧ Q (.int kvs.length) H) ∨ ∃ kvs, H a = some (.dT kvs) ∧ Q (.int kvs.length) H)
theorem cr_lenE {X : Cx} : CallR X (.builtin "len") rLenE := by
  intro pins s σ H xs us Q I r h
  obtain ⟨a, rfl, h⟩ := h
  rcases h with ⟨kvs, e, q⟩ | ⟨kvs, e, q⟩
  · exact call_lenD pins s σ H _ us Q I r ⟨a, kvs, rfl, e, q⟩
  · exact call_len_dT pins s σ H _ us Q I r ⟨a, kvs, rfl, e, q⟩
/-- d.setdefault(y, z), the keys of either kind -/
def DSd (H : Hp) (a : Addr) (y z : V) (Q : VK) : Prop :=
  (∃ kvs k, H a = some (.dK kvs) ∧ y = kV k ∧ kvs.length < sizeLine ∧ (∀ v, valV kvs k = some v → Q v H) ∧ (valV kvs k = none → Q z (upd H a (.dK (kvs ++ [(k, z)]))))) ∨
  ∃ kvs k b, H a = some (.dT kvs) ∧ y = .ref b ∧ H b = some (.tup (k.map kV)) ∧ kvs.length < sizeLine ∧ (∀ v, valV kvs k = some v → Q v H) ∧ (valV kvs k = none → Q z (upd H a (.dT (kvs ++ [(k, z)]))))
def tDSdE (td ty tx : TE) : TE := fun σ H Q => td σ H fun x H1 => ∃ a, x = .ref a ∧ IsD H1 a ∧ ty σ H1 fun y H2 => tx σ H2 fun z H3 => DSd H3 a y z Q
section
variable {X : Cx} {o e f : Expr} {td ty tx : TE} {apos cpos : Pos}
theorem pe_dsetdE {k : Nat} (hr : Room k X.A) (ho : PE X o td) (he : PE X e ty) (hf : PE X f tx) (m : M2 X o "setdefault" apos e f cpos) : PE X (.Call (.Attribute o "setdefault" apos) [e, f] [] cpos) (tDSdE td ty tx) := by
  have hu : X.A.units + 1 < cLine := by
    have := hr.units
    omega
  refine ⟨fun pins s σ H Q I h => ?_⟩
  refine wpAny_Call_method m.base m.few m.line PySem.F.plainAttrs_dict PySem.F.slot_dict_setdefault PySem.F.type_dict_setdefault (thn (ho.run pins s σ H _ I h) fun u s1 ⟨x, H1, I1, rx, a, ex, d, q1⟩ => ?_)
  subst ex
  obtain rfl : u = Value.ref a := rx
  obtain ⟨t1, t2, _⟩ := isD_at I1 d
  refine ⟨t1, t2, ?_⟩
  rw [m.trees]
  refine Calls.callWith_builtin rfl (Calls.evalArgs_plain (Calls.spliced_cons (thn (he.run pins s1 σ H1 _ I1 q1) fun iv s2 ⟨y, H2, I2, ry, q2⟩ =>
    Calls.spliced_cons (thn (hf.run pins s2 σ H2 _ I2 q2) fun fv s3 ⟨z, H3, I3, rz, g⟩ => Calls.spliced_nil ?_))))
  rcases g with ⟨kvs, k, ea, ey, hl, q3, q4⟩ | ⟨kvs, k, b, ea, ey, eb, hl, q3, q4⟩
  · subst ey
    exact d_setd I3 ea ry rz hl (fun v hv w' s4 I4 rw' => ⟨v, _, I4, rw', q3 v hv⟩) fun hn w' s4 I4 rw' => ⟨z, _, I4, rw', by rw [putK_new z hn]; exact q4 hn⟩
  · subst ey
    cases (show iv = Value.ref b from ry)
    obtain ⟨zz, hd, xs, rel, dd⟩ := dt_of I3.hok ea
    have hz : xs.length ≤ sizeLine := by rw [← Paired.length rel]; exact zz
    refine call_setdefault_heap (hsz := hz) (tupleKind_room_in1 hu) (key_of I3.hok eb) hd dd (fun p hp => ?_) (fun hn h' dd' hs => ?_)
    · have q := rel.val k
      rw [hp] at q
      cases q0 : valV kvs k with
      | none =>
        rw [q0] at q
        exact (show False from q).elim
      | some v0 =>
        rw [q0] at q
        exact ⟨v0, _, I3.tok _, q, q3 v0 q0⟩
    · have q := rel.val k
      rw [hn] at q
      cases q0 : valV kvs k with
      | some v0 =>
        rw [q0] at q
        exact (show False from q).elim
      | none =>
        have hl2 : (putK kvs k z).length ≤ sizeLine := by
          have := length_putK kvs k z
          omega
        obtain ⟨q, es, ep, hq, h2, h3, h4, _, h5⟩ := dd'
        refine ⟨z, _, d_write (ob := .dT (putK kvs k z)) I3 (by rw [ea]; exact True.intro) hs ⟨q, hq⟩ ⟨hl2, hd, _, (rel.put k eb rz).keeps fun c ys ec => ?_, q, es, ep, hq, h2, h3, h4, h5⟩, rz, ?_⟩
        · rw [upd_ne (ne_of ec ea (fun z => nomatch z))]
          exact ec
        · rw [putK_new z q0]
          exact q4 q0
end
theorem pe_dgetR {X : Cx} {k : Nat} {o i : Expr} {td ty : TE} {pos : Pos} (hr : Room k X.A) (ho : PE X o td) (hi : PE X i ty) (hs : NoSl i) : PE X (.Subscript o i pos) (tDGet td ty) := pe_dget (by have := hr.units; omega) ho hi hs
theorem ps_dputR {X : Cx} {k : Nat} {o i value : Expr} {td ty tv : TE} {pos pos' : Pos} (hr : Room k X.A) (ho : PE X o td) (hi : PE X i ty) (hv : PE X value tv) (hs : swapsWith value (some (.Subscript o i pos')) pos.line X.env = pure false := by rfl) :
    PS X (.Assign [.Subscript o i pos'] value pos) (sDPut td ty tv) := ps_dput (by have := hr.units; omega) ho hi hv hs
/-! ### a set of a long list of ints, how many are in it -/
def rSetOfL (K : PySem.W.Frag) (w : World) : List V → Hp → VK → Prop := fun xs H Q => ∃ (l : Addr) (ns : List Int), xs = [V.ref l] ∧ SqL K H l (ns.map V.int) ∧ ns.length < 4000 ∧
  ∀ (a : Addr) (c : Nat), H a = none → c ≤ ns.length → Q (.ref a) (upd H a (SetO w a (fun j => decide (j ∈ ns)) c))
theorem cr_setOfL {X : Cx} {K : PySem.W.Frag} {w : World} (hK : X.K = K) (hw : X.w = w) (hc : X.calm = true) : CallR X (.type "set") (rSetOfL K w) := by
  subst hK hw
  intro pins s σ H xs us Q I r h
  obtain ⟨l, ns, rfl, hl, hf, q⟩ := h
  rw [Vals.ref1 r]
  obtain ⟨its, rv, pl, hz⟩ := I.list hl
  have hn : H s.heap.objs.size = none := I.hok.fresh (Nat.le_refl _)
  refine call_set_intsL (P := X.prog) (w := X.w) ns (I.ok.hd hc) pl.isList (by simpa using intsAre_of rv) (by unfold scanBound; omega) fun s₂ hI => ?_
  obtain ⟨h', tk, c, rfl, R, hcn, k⟩ := hI
  exact ⟨.ref s.heap.objs.size, upd H s.heap.objs.size (SetO X.w s.heap.objs.size (fun j => decide (j ∈ ns)) c), I.laid (t' := tk) k (Nat.le_refl _) (setO_new R), rfl, q _ c hn hcn⟩
def rLenS (w : World) : List V → Hp → VK → Prop := fun xs H Q => ∃ (a : Addr) (S : Int → Bool) (c : Nat), xs = [.ref a] ∧ H a = some (SetO w a S c) ∧ ((∃ L : List Int, L.Nodup ∧ L.length = c ∧ ∀ k, S k = true ↔ k ∈ L) → Q (.int c) H)
theorem cr_lenS {X : Cx} {w : World} (hw : X.w = w) : CallR X (.builtin "len") (rLenS w) := by
  subst hw
  intro pins s σ H xs us Q I r h
  obtain ⟨a, S, c, rfl, e, q⟩ := h
  rw [Vals.ref1 r]
  have R : SetR X.w s.heap a S c := (show ObjOk X.prog X.w H s.heap a (SetO X.w a S c) from I.hok a _ e).1
  obtain ⟨o, es, ep, t, ho, hx, hd, g, nd, hm, hb, hf, hn, _⟩ := R
  refine call_len_set ho hx hd hf (by unfold scanBound at hb; omega) ?_
  rw [hn]
  exact ⟨.int c, H, I.tok _, ⟨_, rfl⟩, q ⟨es.toList.map keyOf, nd, by rw [List.length_map, Array.length_toList]; exact hn, hm⟩⟩
end Sd

namespace Sd
open PySem PySem.Spec PyProof.Rows L2

/-! ### the longest dark stretch is not shorter than any -/
theorem maxI_ge (i j : Int) : i ≤ maxI i j ∧ j ≤ maxI i j := by
  unfold maxI
  split <;> omega
theorem runs_grow : ∀ (L : List Int) (s : Int × Int), s.1 ≤ (L.foldl runS s).1
  | [], _ => Int.le_refl _
  | x :: L, s => Int.le_trans (maxI_ge s.1 _).1 (runs_grow L (runS s x))
theorem runs_zero : ∀ (k : Nat) (s : Int × Int), ((List.replicate k 0).foldl runS s).2 = s.2 + (k : Int) ∧ (1 ≤ k → s.2 + (k : Int) ≤ ((List.replicate k 0).foldl runS s).1)
  | 0, s => ⟨by show s.2 = s.2 + ((0 : Nat) : Int); omega, fun h => absurd h (by decide)⟩
  | k + 1, s => by
    obtain ⟨h1, h2⟩ := runs_zero k (runS s 0)
    have e : (runS s 0).2 = s.2 + 1 := rfl
    have e1 : s.2 + 1 ≤ (runS s 0).1 := (maxI_ge s.1 _).2
    rw [List.replicate_succ, List.foldl_cons]
    refine ⟨by rw [h1, e]; omega, fun _ => ?_⟩
    by_cases hk : 1 ≤ k
    · have := h2 hk
      rw [e] at this
      omega
    · obtain rfl : k = 0 := by omega
      exact e1
theorem dark_le {g : Int → Int} {W : Nat} (A : Again g W) {b k : Nat} (hb : b < W) (hk : k ≤ W) (hz : ∀ j : Nat, j < k → g ((b : Int) + (j : Int)) = 0) : (k : Int) ≤ ((seqG g 0 W ++ seqG g 0 W).foldl runS (0, 0)).1 := by
  by_cases h1 : 1 ≤ k
  · have e : seqG g 0 W ++ seqG g 0 W = seqG g 0 b ++ (List.replicate k 0 ++ seqG g ((b : Int) + (k : Int)) (W + W - b - k)) := by
      have e1 := seqG_add g 0 W W
      rw [A.seq] at e1
      rw [← e1, show W + W = b + (k + (W + W - b - k)) by omega, seqG_add, seqG_add, Int.zero_add]
      refine congrArg (seqG g 0 b ++ ·) ?_
      have e2 : seqG g (b : Int) k = List.replicate k 0 := List.ext_getElem? fun j => by
        by_cases hj : j < k
        · rw [seqG_at hj, List.getElem?_replicate, if_pos hj, hz j hj]
        · rw [List.getElem?_eq_none (by rw [seqG_len]; omega), List.getElem?_eq_none (by rw [List.length_replicate]; omega)]
      rw [e2, show b + (k + (W + W - b - k)) - b - k = W + W - b - k by omega]
    rw [e, List.foldl_append, List.foldl_append]
    have a1 := (runs_ab (seqG g 0 b) 0 0 (Int.le_refl _) (Int.le_refl _)).2.2.1
    have a2 := (runs_zero k ((seqG g 0 b).foldl runS (0, 0))).2 h1
    have a3 := runs_grow (seqG g ((b : Int) + (k : Int)) (W + W - b - k)) ((List.replicate k 0).foldl runS ((seqG g 0 b).foldl runS (0, 0)))
    omega
  · have a1 := (runs_ab (seqG g 0 W ++ seqG g 0 W) 0 0 (Int.le_refl _) (Int.le_refl _)).1
    omega

/-! ### sums along the naturals -/
def sumN (n : Nat) (F : Nat → Int) : Int := ((List.range n).map F).sum
theorem sumN_zero (F : Nat → Int) : sumN 0 F = 0 := rfl
theorem sumN_succ (n : Nat) (F : Nat → Int) : sumN (n + 1) F = sumN n F + F n := by
  unfold sumN
  rw [List.range_succ, List.map_append, List.sum_append]
  show _ + (F n + 0) = _
  rw [Int.add_zero]
theorem sumN_congr {n : Nat} {F G : Nat → Int} (h : ∀ i, i < n → F i = G i) : sumN n F = sumN n G := by
  unfold sumN
  exact congrArg List.sum (List.map_congr_left fun i hi => h i (List.mem_range.mp hi))
theorem sumN_add (a : Nat) (F : Nat → Int) : ∀ b : Nat, sumN (a + b) F = sumN a F + sumN b fun i => F (a + i)
  | 0 => by rw [Nat.add_zero, sumN_zero, Int.add_zero]
  | b + 1 => by rw [← Nat.add_assoc, sumN_succ, sumN_add a F b, sumN_succ, Int.add_assoc]
theorem sumN_plus (F G : Nat → Int) : ∀ n : Nat, sumN n (fun i => F i + G i) = sumN n F + sumN n G
  | 0 => rfl
  | n + 1 => by
    rw [sumN_succ, sumN_succ, sumN_succ, sumN_plus F G n]
    omega
theorem sumN_scale (c : Int) (F : Nat → Int) : ∀ n : Nat, sumN n (fun i => c * F i) = c * sumN n F
  | 0 => (Int.mul_zero c).symm
  | n + 1 => by rw [sumN_succ, sumN_succ, sumN_scale c F n, Int.mul_add]
theorem sumN_mul (n : Nat) (F : Nat → Int) : ∀ k : Nat, sumN (k * n) F = sumN k fun q => sumN n fun i => F (q * n + i)
  | 0 => by rw [Nat.zero_mul]; rfl
  | k + 1 => by rw [Nat.succ_mul, sumN_add, sumN_mul n F k, sumN_succ]
theorem sumN_swap (F : Nat → Nat → Int) (b : Nat) : ∀ a : Nat, sumN a (fun i => sumN b fun j => F i j) = sumN b fun j => sumN a fun i => F i j
  | 0 => by
    have : ∀ b : Nat, sumN b (fun _ => (0 : Int)) = 0 := fun b => by
      induction b with
      | zero => rfl
      | succ b ih => rw [sumN_succ, ih]; rfl
    exact (this b).symm
  | a + 1 => by
    rw [sumN_succ, sumN_swap F b a, ← sumN_plus]
    exact sumN_congr fun j _ => (sumN_succ a fun i => F i j).symm
theorem sum_getD : ∀ (xs : List Int), xs.sum = sumN xs.length fun i => xs.getD i 0
  | [] => rfl
  | x :: xs => by
    rw [List.length_cons, Nat.add_comm, sumN_add, List.sum_cons, sum_getD xs]
    show x + _ = (x + 0) + sumN xs.length fun i => (x :: xs).getD (1 + i) 0
    rw [Int.add_zero]
    refine congrArg (x + ·) (sumN_congr fun i _ => ?_)
    rw [Nat.add_comm]
    rfl
theorem perm_sum {a b : List Int} (h : a.Perm b) : a.sum = b.sum := by
  induction h with
  | nil => rfl
  | cons x _ ih => rw [List.sum_cons, List.sum_cons, ih]
  | swap x y l =>
    rw [List.sum_cons, List.sum_cons, List.sum_cons, List.sum_cons]
    omega
  | trans _ _ h1 h2 => exact h1.trans h2
theorem perm_nat : ∀ {a b : List Nat}, a.Nodup → b.Nodup → (∀ x, x ∈ a ↔ x ∈ b) → a.Perm b
  | [], b, _, _, h => by
    cases b with
    | nil => exact .nil
    | cons y b => exact absurd ((h y).mpr List.mem_cons_self) (List.not_mem_nil)
  | x :: a, b, ha, hb, h => by
    have h1 := List.nodup_cons.mp ha
    have hx : x ∈ b := (h x).mp List.mem_cons_self
    refine List.Perm.trans (List.Perm.cons x (perm_nat h1.2 (hb.erase x) fun y => ?_)) (List.perm_cons_erase hx).symm
    rw [hb.mem_erase_iff]
    constructor
    · intro hy
      exact ⟨fun e => h1.1 (by rw [← e]; exact hy), (h y).mp (List.mem_cons_of_mem _ hy)⟩
    · rintro ⟨n, hy⟩
      rcases List.mem_cons.mp ((h y).mpr hy) with e | e
      · exact absurd e n
      · exact e
/-- steps of n round m come to what is alike modulo their gcd, each once -/
theorem round_mem {n m g K : Nat} (hg : g = Nat.gcd n m) (hm : m = g * K) (g0 : 0 < g) (K0 : 0 < K) (i : Nat) (h : Nat → Int) :
    (sumN K fun q => h ((i + q * n) % m)) = sumN K fun k => h (i % g + g * k) := by
  obtain ⟨n', hn⟩ : g ∣ n := hg ▸ Nat.gcd_dvd_left n m
  have m0 : 0 < m := by rw [hm]; exact Nat.mul_pos g0 K0
  have cop : Nat.Coprime K n' := by
    have z := Nat.gcd_mul_left g n' K
    rw [← hn, ← hm, ← hg] at z
    have z2 : Nat.gcd n' K = 1 := Nat.eq_of_mul_eq_mul_left g0 (by rw [Nat.mul_one]; exact z.symm)
    rw [Nat.Coprime, Nat.gcd_comm]
    exact z2
  have inj : ∀ q q' : Nat, q ≤ q' → q' < K → (i + q * n) % m = (i + q' * n) % m → q = q' := fun q q' hq hq' e => by
    have d : m ∣ (i + q' * n) - (i + q * n) := Nat.dvd_of_mod_eq_zero (Nat.sub_mod_eq_zero_of_mod_eq e.symm)
    have e2 : (i + q' * n) - (i + q * n) = g * (n' * (q' - q)) := by
      rw [Nat.add_sub_add_left, ← Nat.sub_mul, hn, Nat.mul_left_comm, Nat.mul_comm n' (q' - q)]
    rw [e2, hm] at d
    have d2 := Nat.dvd_of_mul_dvd_mul_left g0 d
    have d3 := cop.dvd_of_dvd_mul_left d2
    by_cases z : q' - q = 0
    · omega
    · have := Nat.le_of_dvd (by omega) d3
      omega
  have la : ((List.range K).map fun q => (i + q * n) % m).length = K := by rw [List.length_map, List.length_range]
  have lb : ((List.range K).map fun k => i % g + g * k).length = K := by rw [List.length_map, List.length_range]
  have at1 : ∀ q, q < K → ((List.range K).map fun q => (i + q * n) % m)[q]? = some ((i + q * n) % m) := fun q hq => by rw [List.getElem?_map, List.getElem?_range hq]; rfl
  have at2 : ∀ q, q < K → ((List.range K).map fun k => i % g + g * k)[q]? = some (i % g + g * q) := fun q hq => by rw [List.getElem?_map, List.getElem?_range hq]; rfl
  have na : ((List.range K).map fun q => (i + q * n) % m).Nodup := nodup_at.mpr fun x y hx hy e => by
    rw [la] at hx hy
    rw [at1 x hx, at1 y hy] at e
    have e := Option.some.inj e
    rcases Nat.le_total x y with z | z
    · exact inj x y z hy e
    · exact (inj y x z hx e.symm).symm
  have nb : ((List.range K).map fun k => i % g + g * k).Nodup := nodup_at.mpr fun x y hx hy e => by
    rw [lb] at hx hy
    rw [at2 x hx, at2 y hy] at e
    have e := Option.some.inj e
    exact Nat.eq_of_mul_eq_mul_left g0 (by omega)
  have sub : ∀ x ∈ ((List.range K).map fun q => (i + q * n) % m), x ∈ ((List.range K).map fun k => i % g + g * k) := fun x hx => by
    obtain ⟨q, hq, rfl⟩ := List.mem_map.mp hx
    have e1 : (i + q * n) % m % g = i % g := by
      rw [Nat.mod_mod_of_dvd _ (by rw [hm]; exact Nat.dvd_mul_right g K), hn, Nat.mul_left_comm, Nat.add_mul_mod_self_left]
    have e2 := Nat.mod_add_div ((i + q * n) % m) g
    have e3 := Nat.mod_lt (i + q * n) m0
    refine List.mem_map.mpr ⟨(i + q * n) % m / g, List.mem_range.mpr (Nat.div_lt_of_lt_mul (by rw [← hm]; exact e3)), ?_⟩
    rw [e1] at e2
    exact e2
  have sub2 : ∀ x ∈ ((List.range K).map fun k => i % g + g * k), x ∈ ((List.range K).map fun q => (i + q * n) % m) := fun x hx => Classical.byContradiction fun hno => by
    have z := nodup_le (ns := ((List.range K).map fun k => i % g + g * k).erase x) na fun k hk => (List.mem_erase_of_ne (show k ≠ x from fun e => hno (e ▸ hk))).mpr (sub k hk)
    rw [List.length_erase_of_mem hx, la, lb] at z
    omega
  have pm := (perm_nat na nb fun x => ⟨sub x, sub2 x⟩).map h
  have ps := perm_sum pm
  rw [List.map_map, List.map_map] at ps
  exact ps

/-- xs[r::c] -/
def stepV {α : Type} (xs : List α) (r c : Nat) : List α := (List.range ((xs.length - r + c - 1) / c)).filterMap fun i => xs[r + i * c]?
theorem step_count {g k r : Nat} (hr : r < g) : (g * k - r + g - 1) / g = k := by
  cases k with
  | zero =>
    rw [Nat.mul_zero, Nat.zero_sub, Nat.zero_add]
    exact Nat.div_eq_of_lt (by omega)
  | succ k =>
    have e : g * (k + 1) - r + g - 1 = g * (k + 1) + (g - 1 - r) := by
      rw [Nat.mul_succ]
      generalize g * k = gk
      omega
    rw [e, Nat.mul_add_div (by omega), Nat.div_eq_of_lt (show g - 1 - r < g by omega), Nat.add_zero]
theorem stepV_eq {ns : List Int} {r g k : Nat} (hr : r < g) (hk : ns.length = g * k) : stepV ns r g = (List.range k).map fun q => ns.getD (q * g + r) 0 := by
  unfold stepV
  rw [hk, step_count hr]
  have key : ∀ j : Nat, j ≤ k → ((List.range j).filterMap fun i => ns[r + i * g]?) = (List.range j).map fun q => ns.getD (q * g + r) 0 := by
    intro j
    induction j with
    | zero => exact fun _ => rfl
    | succ j ih =>
      intro hj
      have hlt : r + j * g < ns.length := by
        have e1 := Nat.mul_le_mul_right g (show j + 1 ≤ k from hj)
        rw [hk, Nat.mul_comm g k]
        rw [Nat.succ_mul] at e1
        omega
      rw [List.range_succ, List.filterMap_append, List.map_append, ih (by omega)]
      refine congrArg (_ ++ ·) ?_
      have e : ns[r + j * g]? = some (ns.getD (j * g + r) 0) := by
        rw [Nat.add_comm (j * g) r, List.getD_eq_getElem?_getD, List.getElem?_eq_getElem hlt]
        rfl
      rw [List.filterMap_cons, e]
      rfl
  exact key k (Nat.le_refl k)
theorem stepV_sum {ns : List Int} {r g k : Nat} (hr : r < g) (hk : ns.length = g * k) : (stepV ns r g).sum = sumN k fun q => ns.getD (q * g + r) 0 := by
  rw [stepV_eq hr hk]
  rfl
theorem ringAt_nat (ns ms : List Int) (t : Nat) : ringAt ns ms ((0 : Int) + (t : Int)) = ns.getD (t % ns.length) 0 * ms.getD (t % ms.length) 0 := by
  unfold ringAt
  rw [Int.zero_add, ← Int.natCast_emod, ← Int.natCast_emod, Int.toNat_natCast, Int.toNat_natCast]
theorem ring_total {ns ms : List Int} (h1 : 1 ≤ ns.length) (h2 : 1 ≤ ms.length) :
    (seqG (ringAt ns ms) 0 (ringW ns ms)).sum = sumN (Nat.gcd ns.length ms.length) fun r => (stepV ns r (Nat.gcd ns.length ms.length)).sum * (stepV ms r (Nat.gcd ns.length ms.length)).sum := by
  obtain ⟨g, hg⟩ : ∃ g, g = Nat.gcd ns.length ms.length := ⟨_, rfl⟩
  have g0 : 0 < g := by rw [hg]; exact Nat.gcd_pos_of_pos_left _ h1
  obtain ⟨n', hn⟩ : g ∣ ns.length := hg ▸ Nat.gcd_dvd_left _ _
  obtain ⟨K, hm⟩ : g ∣ ms.length := hg ▸ Nat.gcd_dvd_right _ _
  have K0 : 0 < K := Nat.pos_of_ne_zero fun z => by rw [z, Nat.mul_zero] at hm; omega
  have hW : ringW ns ms = K * ns.length := by
    unfold ringW Nat.lcm
    rw [← hg, hm, Nat.mul_left_comm, Nat.mul_div_cancel_left _ g0, Nat.mul_comm]
  rw [← hg]
  show sumN (ringW ns ms) (fun t => ringAt ns ms ((0 : Int) + (t : Int))) = _
  rw [hW, sumN_mul, sumN_swap]
  have e1 : ∀ i, i < ns.length → (sumN K fun q => ringAt ns ms ((0 : Int) + ((q * ns.length + i : Nat) : Int))) = ns.getD i 0 * sumN K fun k => ms.getD (i % g + g * k) 0 := fun i hi => by
    rw [← round_mem hg hm g0 K0 i (fun j => ms.getD j 0), ← sumN_scale]
    refine sumN_congr fun q _ => ?_
    rw [ringAt_nat, Nat.mul_comm q, Nat.mul_add_mod, Nat.mod_eq_of_lt hi, Nat.add_comm, Nat.mul_comm]
  have e2 := sumN_congr e1
  refine Eq.trans ?_ (e2.trans ?_)
  · exact sumN_congr fun i _ => sumN_congr fun q _ => rfl
  · have hn2 : ns.length = n' * g := by rw [hn, Nat.mul_comm]
    have e3 : (sumN ns.length fun i => ns.getD i 0 * sumN K fun k => ms.getD (i % g + g * k) 0) = sumN (n' * g) fun i => ns.getD i 0 * sumN K fun k => ms.getD (i % g + g * k) 0 := by rw [← hn2]
    rw [e3, sumN_mul, sumN_swap]
    refine sumN_congr fun r hr => ?_
    rw [stepV_sum hr hn, stepV_sum hr hm, Int.mul_comm, ← sumN_scale]
    refine sumN_congr fun q _ => ?_
    rw [Nat.mul_comm q g, Nat.mul_add_mod, Nat.mod_eq_of_lt hr, Int.mul_comm]
    refine congrArg (· * _) (sumN_congr fun k _ => ?_)
    rw [Nat.mul_comm k g, Nat.add_comm]
theorem ring_coprime {ns ms : List Int} (h1 : 1 ≤ ns.length) (h2 : 1 ≤ ms.length) (h : ringW ns ms = ns.length * ms.length) : (seqG (ringAt ns ms) 0 (ringW ns ms)).sum = ns.sum * ms.sum := by
  have e := Nat.gcd_mul_lcm ns.length ms.length
  have e1 : Nat.gcd ns.length ms.length = 1 := by
    have p : 0 < ns.length * ms.length := Nat.mul_pos h1 h2
    unfold ringW at h
    rw [h] at e
    exact Nat.eq_of_mul_eq_mul_right p (by rw [Nat.one_mul]; exact e)
  rw [ring_total h1 h2, e1]
  have one : ∀ xs : List Int, (stepV xs 0 1).sum = xs.sum := fun xs => by
    rw [stepV_sum (k := xs.length) (by decide) (Nat.one_mul _).symm, sum_getD xs]
    exact sumN_congr fun i _ => by rw [Nat.mul_one, Nat.add_zero]
  rw [sumN_succ, sumN_zero, Int.zero_add, one, one]
end Sd

namespace Sd
open PySem PySem.Spec PyProof.Rows L2

/-! ### two rings as long as each other; a ring of one -/
theorem ring_same {ns ms : List Int} (h : ns.length = ms.length) : ringW ns ms = ns.length := by
  unfold ringW
  rw [← h]
  exact Nat.lcm_self _
theorem ring_prods {ns ms : List Int} (h : ns.length = ms.length) : seqG (ringAt ns ms) 0 ns.length = prods ns ms := List.ext_getElem? fun i => by
  by_cases hi : i < ns.length
  · rw [seqG_at hi, ringAt_nat, ← h, Nat.mod_eq_of_lt hi, prods_at (at_getD hi) (at_getD (by omega))]
  · rw [List.getElem?_eq_none (by rw [seqG_len]; omega), List.getElem?_eq_none (by rw [prods_len]; omega)]
theorem ring_light {ns ms : List Int} (h1 : 1 ≤ ns.length) (h : ns.length = ms.length) (f : Nat) : (seqG (ringAt ns ms) (f : Int) ns.length).sum = (prods ns ms).sum := by
  have A := ring_again h1 (show 1 ≤ ms.length by omega)
  have e := A.round f
  rw [ring_same h] at e
  rw [e, ring_prods h]
theorem ring_three {ns : List Int} (c : Int) (h1 : 1 ≤ ns.length) : (seqG (ringAt ns [c]) 0 ns.length).sum = c * ns.sum := by
  show sumN ns.length (fun t => ringAt ns [c] ((0 : Int) + (t : Int))) = _
  rw [sum_getD ns, ← sumN_scale]
  refine sumN_congr fun i hi => ?_
  rw [ringAt_nat, Nat.mod_eq_of_lt hi, Int.mul_comm]
  show [c].getD (i % 1) 0 * _ = _
  rw [Nat.mod_one]
  rfl
theorem ring_swap (ns ms : List Int) (t : Int) : ringAt ms ns t = ringAt ns ms t := by
  unfold ringAt
  rw [Int.mul_comm]
theorem ringW_swap (ns ms : List Int) : ringW ms ns = ringW ns ms := Nat.lcm_comm _ _

/-! ### xs[r::c] -/
theorem stepV_map {α β : Type} (f : α → β) (xs : List α) (r c : Nat) : stepV (xs.map f) r c = (stepV xs r c).map f := by
  unfold stepV
  rw [List.length_map, List.map_filterMap]
  refine congrArg (fun h => List.filterMap h _) (funext fun i => ?_)
  rw [List.getElem?_map]
theorem vals_pick {xs : List V} {us : List Value} (r : Vals xs us) (p : Nat → Nat) : ∀ l : List Nat, Vals (l.filterMap fun i => xs[p i]?) (l.filterMap fun i => us[p i]?)
  | [] => .nil
  | i :: l => by
    rw [List.filterMap_cons, List.filterMap_cons]
    cases e : xs[p i]? with
    | none =>
      have : us[p i]? = none := List.getElem?_eq_none (by have := List.getElem?_eq_none_iff.mp e; have := r.length; omega)
      rw [this]
      exact vals_pick r p l
    | some x =>
      obtain ⟨u, hu, ru⟩ := Vals.get r e
      rw [hu]
      exact .cons ru (vals_pick r p l)
theorem pick_step (its : List Value) (r c : Nat) (hr : r ≤ its.length) (hc : 1 ≤ c) : slicePick its.toArray (some (r : Int)) none (some (c : Int)) = (stepV its r c).toArray := by
  unfold slicePick
  have e : sliceBounds (some (r : Int)) none (some (c : Int)) its.toArray.size = ((r : Int), (its.length : Int), (c : Int)) := by
    unfold sliceBounds
    simp only [Option.getD_some]
    rw [if_pos (show (c : Int) > 0 by omega), if_pos (show (c : Int) > 0 by omega), if_neg (show ¬ (r : Int) < 0 by omega), List.size_toArray, Int.min_eq_left (by omega), Int.max_eq_right (by omega)]
  rw [e]
  refine congrArg List.toArray ?_
  show List.filterMap (fun i => its.toArray[i]?) (sliceRange (r : Int) (its.length : Int) (c : Int)) = stepV its r c
  unfold sliceRange stepV
  rw [if_pos (show (c : Int) > 0 by omega), List.filterMap_map]
  have ec : (if (r : Int) < (its.length : Int) then ((its.length : Int) - (r : Int) + (c : Int) - 1) / (c : Int) else 0).toNat = (its.length - r + c - 1) / c := by
    by_cases z : (r : Int) < (its.length : Int)
    · rw [if_pos z, show (its.length : Int) - (r : Int) + (c : Int) - 1 = ((its.length - r + c - 1 : Nat) : Int) by omega, ← Int.natCast_ediv, Int.toNat_natCast]
    · rw [if_neg z, show its.length - r + c - 1 = c - 1 by omega, Nat.div_eq_of_lt (by omega)]
      rfl
  rw [ec]
  refine congrArg (fun h => List.filterMap h _) (funext fun i => ?_)
  show its.toArray[((r : Int) + (c : Int) * (i : Int)).toNat]? = its[r + i * c]?
  rw [show ((r : Int) + (c : Int) * (i : Int)).toNat = r + i * c by rw [← Int.natCast_mul, ← Int.natCast_add, Int.toNat_natCast, Nat.mul_comm], List.getElem?_toArray]
def tStepL (K : PySem.W.Frag) (te : TE) (tl tc : TO) : TE := fun σ H Q => te σ H fun x H1 => tl σ H1 fun l H2 => tc σ H2 fun c H3 => ∃ (a : Addr) (xs : List V) (r g : Nat), x = .ref a ∧ l = some (r : Int) ∧ c = some (g : Int) ∧ 1 ≤ g ∧ r ≤ xs.length ∧ SqL K H3 a xs ∧
  ∀ p, H3 p = none → Q (.ref p) (upd H3 p (.lst (stepV xs r g)))
theorem stepV_le {α : Type} (xs : List α) (r g : Nat) (hg : 1 ≤ g) (hr : r ≤ xs.length) : (stepV xs r g).length ≤ xs.length := by
  unfold stepV
  refine Nat.le_trans (List.length_filterMap_le _ _) ?_
  rw [List.length_range]
  have : (xs.length - r + g - 1) / g ≤ xs.length := by
    by_cases z : xs.length = 0
    · rw [z, Nat.div_eq_of_lt (by omega)]
      exact Nat.le_refl _
    · refine Nat.div_le_of_le_mul ?_
      obtain ⟨g', rfl⟩ : ∃ g', g = g' + 1 := ⟨g - 1, by omega⟩
      have e2 : g' ≤ g' * xs.length := Nat.le_mul_of_pos_right _ (by omega)
      rw [Nat.succ_mul]
      omega
  exact this
theorem pe_stepL {X : Cx} {K : PySem.W.Frag} {e el ec : Expr} {te : TE} {tl tc : TO} {p3 pos : Pos} (hK : X.K = K) (he : PE X e te) (hl : PO X (some el) tl) (hc : PO X (some ec) tc)
    (hs : ∀ a b : Value, subscripted (.Slice (some el) none (some ec) p3) false a b = operate [a, b] (getItem a b) := by intros; with_unfolding_all rfl) : PE X (.Subscript e (.Slice (some el) none (some ec) p3) pos) (tStepL K te tl tc) := by
  subst hK
  refine ⟨fun pins s σ H Q I h => ?_⟩
  refine Subscript_ (thn (he.run pins s σ H _ I h) fun v s1 ⟨x, H1, I1, r1, q1⟩ => ?_)
  refine wpAny_Slice (thn (hl.run pins s1 σ H1 _ I1 q1) fun vl s2 ⟨l, H2, I2, pl, q2⟩ => ?_)
  refine thn (po_none.run pins s2 σ H2 (fun o H3 => o = none ∧ H3 = H2) I2 ⟨rfl, rfl⟩) fun vu s3 ⟨u, H3, I3, pu, eu, e3⟩ => ?_
  subst eu e3
  refine thn (hc.run pins s3 σ H3 _ I3 q2) fun vs s4 ⟨o, H4, I4, ps, a, xs, r, g, ex, el', ec', hg, hr, hx, q⟩ => ?_
  subst ex el' ec'
  cases r1
  have I5 : Inv X pins σ H4 { s4 with heap := s4.heap.push { cls := .type "slice", data := .fields #[vl, vu, vs] } } := I4.kept (t' := s4.toks) fun b ob q => Heap.get?_push_of_some _ q
  obtain ⟨its, rv, ht, hz⟩ := I5.list hx
  have hlen := rv.length
  show wpAny (model X.prog X.w) X.A (subscriptTail e (.Slice (some el) none (some ec) p3) (.ref a) (.ref s4.heap.objs.size)) (EP X pins σ Q) X.xe { s4 with heap := s4.heap.push { cls := .type "slice", data := .fields #[vl, vu, vs] } }
  refine tail_any (ops := [.ref a, .ref s4.heap.objs.size]) ht.isList.typeIs (PySem.slot_list_getitem.lookup) ?_ (hs _ _)
  refine wpAny_getItem_list_slice ht.isList (Heap.IsSliceOf.new _ vl vu vs) pl pu ps (by intro z; injection z with z; omega) ?_ (by rw [List.size_toArray]; omega)
  rw [pick_step its r g (by omega) hg]
  refine ⟨.ref _, _, I5.laid (t' := s4.toks) (o := .lst (stepV xs r g)) (fun b ob q => Heap.get?_push_of_some _ q) (Nat.le_refl _) ?_, rfl, q _ (I5.hok.fresh (Nat.le_refl _))⟩
  have hv : Vals (stepV xs r g) (stepV its r g) := by
    unfold stepV
    rw [hlen]
    exact vals_pick rv (fun i => r + i * g) _
  exact ⟨Nat.le_trans (stepV_le xs r g hg hr) hz, _, 0, hv, Heap.get?_push_size _ rfl⟩
end Sd

namespace Sd
open PySem PySem.Spec PyProof.Rows L2
def topS (i : Nat) : Stmt := PySem.Challenge.pw_slitdiscs_k60_whole_rings_and_lights.main.body.getD i (.Pass ⟨0, 0, 0, 0⟩)
abbrev s_is_integer : Stmt := topS 10
theorem sc_is_integer : FnScope ["value"] ["value"] (defScope s_is_integer) := ⟨rfl, rfl, rfl, by decide +kernel, rfl, by decide +kernel, by decide +kernel⟩
abbrev s_has_slots : Stmt := topS 11
theorem sc_has_slots : FnScope ["value"] ["value"] (defScope s_has_slots) := ⟨rfl, rfl, rfl, by decide +kernel, rfl, by decide +kernel, by decide +kernel⟩
abbrev s_wrong_integer : Stmt := topS 12
theorem sc_wrong_integer : FnScope ["items", "index", "item"] ["items"] (defScope s_wrong_integer) := ⟨rfl, rfl, rfl, by decide +kernel, rfl, by decide +kernel, by decide +kernel⟩
abbrev s_wrong_light : Stmt := topS 13
theorem sc_wrong_light : FnScope ["items", "most", "index", "item"] ["items", "most"] (defScope s_wrong_light) := ⟨rfl, rfl, rfl, by decide +kernel, rfl, by decide +kernel, by decide +kernel⟩
abbrev s_wrong_slot : Stmt := topS 14
theorem sc_wrong_slot : FnScope ["items"] ["items"] (defScope s_wrong_slot) := ⟨rfl, rfl, rfl, by decide +kernel, rfl, by decide +kernel, by decide +kernel⟩
abbrev s_check_disc : Stmt := topS 15
theorem sc_check_disc : FnScope ["disc", "index"] ["disc"] (defScope s_check_disc) := ⟨rfl, rfl, rfl, by decide +kernel, rfl, by decide +kernel, by decide +kernel⟩
abbrev s_check_discs : Stmt := topS 16
theorem sc_check_discs : FnScope ["disc", "other"] ["disc", "other"] (defScope s_check_discs) := ⟨rfl, rfl, rfl, by decide +kernel, rfl, by decide +kernel, by decide +kernel⟩
abbrev s_check_so_many_lights : Stmt := topS 17
theorem sc_check_so_many_lights : FnScope ["lights", "least", "most", "index"] ["lights", "least", "most"] (defScope s_check_so_many_lights) := ⟨rfl, rfl, rfl, by decide +kernel, rfl, by decide +kernel, by decide +kernel⟩
abbrev s_check_turn : Stmt := topS 18
theorem sc_check_turn : FnScope ["turn"] ["turn"] (defScope s_check_turn) := ⟨rfl, rfl, rfl, by decide +kernel, rfl, by decide +kernel, by decide +kernel⟩
abbrev s_check_number : Stmt := topS 19
theorem sc_check_number : FnScope ["number"] ["number"] (defScope s_check_number) := ⟨rfl, rfl, rfl, by decide +kernel, rfl, by decide +kernel, by decide +kernel⟩
abbrev s_check_count : Stmt := topS 20
theorem sc_check_count : FnScope ["number"] ["number"] (defScope s_check_count) := ⟨rfl, rfl, rfl, by decide +kernel, rfl, by decide +kernel, by decide +kernel⟩
abbrev s_ring_light : Stmt := topS 23
theorem sc_ring_light : FnScope ["disc", "other", "tick"] ["disc", "other", "tick"] (defScope s_ring_light) := ⟨rfl, rfl, rfl, by decide +kernel, rfl, by decide +kernel, by decide +kernel⟩
abbrev s_ring_sum : Stmt := topS 24
theorem sc_ring_sum : FnScope ["disc", "other", "first", "many", "lights", "rounds", "rest"] ["disc", "other", "first", "many"] (defScope s_ring_sum) := ⟨rfl, rfl, rfl, by decide +kernel, rfl, by decide +kernel, by decide +kernel⟩
abbrev s_first_tick : Stmt := topS 25
theorem sc_first_tick : FnScope ["disc", "other", "first", "light", "later", "present"] ["disc", "other", "first", "light"] (defScope s_first_tick) := ⟨rfl, rfl, rfl, by decide +kernel, rfl, by decide +kernel, by decide +kernel⟩
abbrev s_dark_stretch : Stmt := topS 26
theorem sc_dark_stretch : FnScope ["disc", "other", "lights", "longest", "stretch", "light"] ["disc", "other"] (defScope s_dark_stretch) := ⟨rfl, rfl, rfl, by decide +kernel, rfl, by decide +kernel, by decide +kernel⟩
abbrev s_tick_of : Stmt := topS 27
theorem sc_tick_of : FnScope ["disc", "other", "lights", "whole", "rounds", "tick"] ["disc", "other", "lights"] (defScope s_tick_of) := ⟨rfl, rfl, rfl, by decide +kernel, rfl, by decide +kernel, by decide +kernel⟩
abbrev s_unlike_ticks : Stmt := topS 28
theorem sc_unlike_ticks : FnScope ["disc", "other", "lights", "doubled", "length", "kinds", "power", "longer"] ["disc", "other"] (defScope s_unlike_ticks) := ⟨rfl, rfl, rfl, by decide +kernel, rfl, by decide +kernel, by decide +kernel⟩
abbrev s_check_rings : Stmt := topS 29
theorem sc_check_rings : FnScope ["disc", "other"] ["disc", "other"] (defScope s_check_rings) := ⟨rfl, rfl, rfl, by decide +kernel, rfl, by decide +kernel, by decide +kernel⟩
abbrev s_lights_from : Stmt := topS 30
theorem sc_lights_from : FnScope ["disc", "other", "first", "ticks", "tick"] ["disc", "other", "first"] (defScope s_lights_from) := ⟨rfl, rfl, rfl, by decide +kernel, rfl, by decide +kernel, by decide +kernel⟩
abbrev s_doubled_kinds : Stmt := topS 31
theorem sc_doubled_kinds : FnScope ["lights", "doubled", "length"] ["lights"] (defScope s_doubled_kinds) := ⟨rfl, rfl, rfl, by decide +kernel, rfl, by decide +kernel, by decide +kernel⟩
abbrev s_joined_kinds : Stmt := topS 32
theorem sc_joined_kinds : FnScope ["kinds", "more", "length", "size", "tick"] ["kinds", "more", "length"] (defScope s_joined_kinds) := ⟨rfl, rfl, rfl, by decide +kernel, rfl, by decide +kernel, by decide +kernel⟩
abbrev s_numbered_kinds : Stmt := topS 33
theorem sc_numbered_kinds : FnScope ["parts", "known", "part"] ["parts"] (defScope s_numbered_kinds) := ⟨rfl, rfl, rfl, by decide +kernel, rfl, by decide +kernel, by decide +kernel⟩
abbrev s_are_unlike : Stmt := topS 34
theorem sc_are_unlike : FnScope ["kinds"] ["kinds"] (defScope s_are_unlike) := ⟨rfl, rfl, rfl, by decide +kernel, rfl, by decide +kernel, by decide +kernel⟩
abbrev s_turned_list : Stmt := topS 36
theorem sc_turned_list : FnScope ["items", "turn", "size", "slot"] ["items", "turn"] (defScope s_turned_list) := ⟨rfl, rfl, rfl, by decide +kernel, rfl, by decide +kernel, by decide +kernel⟩
abbrev s_light_between : Stmt := topS 37
theorem sc_light_between : FnScope ["disc", "row", "turn", "under", "over"] ["disc", "row", "turn"] (defScope s_light_between) := ⟨rfl, rfl, rfl, by decide +kernel, rfl, by decide +kernel, by decide +kernel⟩
abbrev s_turned_disc : Stmt := topS 39
theorem sc_turned_disc : FnScope ["disc", "turn"] ["disc", "turn"] (defScope s_turned_disc) := ⟨rfl, rfl, rfl, by decide +kernel, rfl, by decide +kernel, by decide +kernel⟩
abbrev s_light_at : Stmt := topS 41
theorem sc_light_at : FnScope ["disc", "other", "turn"] ["disc", "other", "turn"] (defScope s_light_at) := ⟨rfl, rfl, rfl, by decide +kernel, rfl, by decide +kernel, by decide +kernel⟩
abbrev s_law_tank : Stmt := topS 43
theorem sc_law_tank : FnScope ["script", "at", "cell"] ["script", "at"] (defScope s_law_tank) := ⟨rfl, rfl, rfl, by decide +kernel, rfl, by decide +kernel, by decide +kernel⟩
abbrev s_law_tap : Stmt := topS 44
theorem sc_law_tap : FnScope ["tank", "many", "drawn", "mixed"] ["tank", "many"] (defScope s_law_tap) := ⟨rfl, rfl, rfl, by decide +kernel, rfl, by decide +kernel, by decide +kernel⟩
abbrev s_law_drawn_count : Stmt := topS 45
theorem sc_law_drawn_count : FnScope ["tank", "most", "some"] ["tank", "most"] (defScope s_law_drawn_count) := ⟨rfl, rfl, rfl, by decide +kernel, rfl, by decide +kernel, by decide +kernel⟩
abbrev s_law_drawn_rim : Stmt := topS 46
theorem sc_law_drawn_rim : FnScope ["tank", "count", "kind", "wide", "rim", "slot_here", "sizes", "size"] ["tank", "count"] (defScope s_law_drawn_rim) := ⟨rfl, rfl, rfl, by decide +kernel, rfl, by decide +kernel, by decide +kernel⟩
abbrev s_law_round : Stmt := topS 48
theorem sc_law_round : FnScope ["rim", "mate", "count"] ["rim", "mate"] (defScope s_law_round) := ⟨rfl, rfl, rfl, by decide +kernel, rfl, by decide +kernel, by decide +kernel⟩
abbrev s_law_same_right : Stmt := topS 49
theorem sc_law_same_right : FnScope ["tank", "rim", "mate", "by"] ["tank", "rim"] (defScope s_law_same_right) := ⟨rfl, rfl, rfl, by decide +kernel, rfl, by decide +kernel, by decide +kernel⟩
abbrev s_law_sums_right : Stmt := topS 50
theorem sc_law_sums_right : FnScope ["tank", "rim", "mate", "whole", "begin", "count", "k", "shared", "due", "rest"] ["tank", "rim", "mate", "whole"] (defScope s_law_sums_right) := ⟨rfl, rfl, rfl, by decide +kernel, rfl, by decide +kernel, by decide +kernel⟩
abbrev s_law_told_right : Stmt := topS 51
theorem sc_law_told_right : FnScope ["tank", "rim", "mate", "whole", "begin", "dark", "is_dark", "told", "size", "length", "view", "k"] ["tank", "rim", "mate", "whole"] (defScope s_law_told_right) := ⟨rfl, rfl, rfl, by decide +kernel, rfl, by decide +kernel, by decide +kernel⟩
abbrev s_law : Stmt := topS 52
theorem sc_law : FnScope ["script", "at", "tank", "turn", "rim", "mate", "whole"] ["script"] (defScope s_law) := ⟨rfl, rfl, rfl, by decide +kernel, rfl, by decide +kernel, by decide +kernel⟩
/-- what the top has written -/
structure Txt (K : PySem.W.Frag) (mg : Str → Option Value) where
  a_is_integer : Addr
  d_is_integer : FuncData
  F_is_integer : Fun K "is_integer" "is_integer" s_is_integer a_is_integer d_is_integer
  b_is_integer : Binds K d_is_integer ["value"] []
  g_is_integer : mg "is_integer" = some (.ref a_is_integer)
  a_has_slots : Addr
  d_has_slots : FuncData
  F_has_slots : Fun K "has_slots" "has_slots" s_has_slots a_has_slots d_has_slots
  b_has_slots : Binds K d_has_slots ["value"] []
  g_has_slots : mg "has_slots" = some (.ref a_has_slots)
  a_wrong_integer : Addr
  d_wrong_integer : FuncData
  F_wrong_integer : Fun K "wrong_integer" "wrong_integer" s_wrong_integer a_wrong_integer d_wrong_integer
  b_wrong_integer : Binds K d_wrong_integer ["items"] []
  g_wrong_integer : mg "wrong_integer" = some (.ref a_wrong_integer)
  a_wrong_light : Addr
  d_wrong_light : FuncData
  F_wrong_light : Fun K "wrong_light" "wrong_light" s_wrong_light a_wrong_light d_wrong_light
  b_wrong_light : Binds K d_wrong_light ["items", "most"] []
  g_wrong_light : mg "wrong_light" = some (.ref a_wrong_light)
  a_wrong_slot : Addr
  d_wrong_slot : FuncData
  F_wrong_slot : Fun K "wrong_slot" "wrong_slot" s_wrong_slot a_wrong_slot d_wrong_slot
  b_wrong_slot : Binds K d_wrong_slot ["items"] []
  g_wrong_slot : mg "wrong_slot" = some (.ref a_wrong_slot)
  a_check_disc : Addr
  d_check_disc : FuncData
  F_check_disc : Fun K "check_disc" "check_disc" s_check_disc a_check_disc d_check_disc
  b_check_disc : Binds K d_check_disc ["disc"] []
  g_check_disc : mg "check_disc" = some (.ref a_check_disc)
  a_check_discs : Addr
  d_check_discs : FuncData
  F_check_discs : Fun K "check_discs" "check_discs" s_check_discs a_check_discs d_check_discs
  b_check_discs : Binds K d_check_discs ["disc", "other"] []
  g_check_discs : mg "check_discs" = some (.ref a_check_discs)
  a_check_so_many_lights : Addr
  d_check_so_many_lights : FuncData
  F_check_so_many_lights : Fun K "check_so_many_lights" "check_so_many_lights" s_check_so_many_lights a_check_so_many_lights d_check_so_many_lights
  b_check_so_many_lights : Binds K d_check_so_many_lights ["lights", "least", "most"] []
  g_check_so_many_lights : mg "check_so_many_lights" = some (.ref a_check_so_many_lights)
  a_check_turn : Addr
  d_check_turn : FuncData
  F_check_turn : Fun K "check_turn" "check_turn" s_check_turn a_check_turn d_check_turn
  b_check_turn : Binds K d_check_turn ["turn"] []
  g_check_turn : mg "check_turn" = some (.ref a_check_turn)
  a_check_number : Addr
  d_check_number : FuncData
  F_check_number : Fun K "check_number" "check_number" s_check_number a_check_number d_check_number
  b_check_number : Binds K d_check_number ["number"] []
  g_check_number : mg "check_number" = some (.ref a_check_number)
  a_check_count : Addr
  d_check_count : FuncData
  F_check_count : Fun K "check_count" "check_count" s_check_count a_check_count d_check_count
  b_check_count : Binds K d_check_count ["number"] []
  g_check_count : mg "check_count" = some (.ref a_check_count)
  a_ring_light : Addr
  d_ring_light : FuncData
  F_ring_light : Fun K "ring_light" "ring_light" s_ring_light a_ring_light d_ring_light
  b_ring_light : Binds K d_ring_light ["disc", "other", "tick"] []
  g_ring_light : mg "ring_light" = some (.ref a_ring_light)
  a_ring_sum : Addr
  d_ring_sum : FuncData
  F_ring_sum : Fun K "ring_sum" "ring_sum" s_ring_sum a_ring_sum d_ring_sum
  b_ring_sum : Binds K d_ring_sum ["disc", "other", "first", "many"] []
  g_ring_sum : mg "ring_sum" = some (.ref a_ring_sum)
  a_first_tick : Addr
  d_first_tick : FuncData
  F_first_tick : Fun K "first_tick" "first_tick" s_first_tick a_first_tick d_first_tick
  b_first_tick : Binds K d_first_tick ["disc", "other", "first", "light"] []
  g_first_tick : mg "first_tick" = some (.ref a_first_tick)
  a_dark_stretch : Addr
  d_dark_stretch : FuncData
  F_dark_stretch : Fun K "dark_stretch" "dark_stretch" s_dark_stretch a_dark_stretch d_dark_stretch
  b_dark_stretch : Binds K d_dark_stretch ["disc", "other"] []
  g_dark_stretch : mg "dark_stretch" = some (.ref a_dark_stretch)
  a_tick_of : Addr
  d_tick_of : FuncData
  F_tick_of : Fun K "tick_of" "tick_of" s_tick_of a_tick_of d_tick_of
  b_tick_of : Binds K d_tick_of ["disc", "other", "lights"] []
  g_tick_of : mg "tick_of" = some (.ref a_tick_of)
  a_unlike_ticks : Addr
  d_unlike_ticks : FuncData
  F_unlike_ticks : Fun K "unlike_ticks" "unlike_ticks" s_unlike_ticks a_unlike_ticks d_unlike_ticks
  b_unlike_ticks : Binds K d_unlike_ticks ["disc", "other"] []
  g_unlike_ticks : mg "unlike_ticks" = some (.ref a_unlike_ticks)
  a_check_rings : Addr
  d_check_rings : FuncData
  F_check_rings : Fun K "_check_rings" "_check_rings" s_check_rings a_check_rings d_check_rings
  b_check_rings : Binds K d_check_rings ["disc", "other"] []
  g_check_rings : mg "_check_rings" = some (.ref a_check_rings)
  a_lights_from : Addr
  d_lights_from : FuncData
  F_lights_from : Fun K "_lights_from" "_lights_from" s_lights_from a_lights_from d_lights_from
  b_lights_from : Binds K d_lights_from ["disc", "other", "first"] []
  g_lights_from : mg "_lights_from" = some (.ref a_lights_from)
  a_doubled_kinds : Addr
  d_doubled_kinds : FuncData
  F_doubled_kinds : Fun K "_doubled_kinds" "_doubled_kinds" s_doubled_kinds a_doubled_kinds d_doubled_kinds
  b_doubled_kinds : Binds K d_doubled_kinds ["lights"] []
  g_doubled_kinds : mg "_doubled_kinds" = some (.ref a_doubled_kinds)
  a_joined_kinds : Addr
  d_joined_kinds : FuncData
  F_joined_kinds : Fun K "_joined_kinds" "_joined_kinds" s_joined_kinds a_joined_kinds d_joined_kinds
  b_joined_kinds : Binds K d_joined_kinds ["kinds", "more", "length"] []
  g_joined_kinds : mg "_joined_kinds" = some (.ref a_joined_kinds)
  a_numbered_kinds : Addr
  d_numbered_kinds : FuncData
  F_numbered_kinds : Fun K "_numbered_kinds" "_numbered_kinds" s_numbered_kinds a_numbered_kinds d_numbered_kinds
  b_numbered_kinds : Binds K d_numbered_kinds ["parts"] []
  g_numbered_kinds : mg "_numbered_kinds" = some (.ref a_numbered_kinds)
  a_are_unlike : Addr
  d_are_unlike : FuncData
  F_are_unlike : Fun K "_are_unlike" "_are_unlike" s_are_unlike a_are_unlike d_are_unlike
  b_are_unlike : Binds K d_are_unlike ["kinds"] []
  g_are_unlike : mg "_are_unlike" = some (.ref a_are_unlike)
  a_turned_list : Addr
  d_turned_list : FuncData
  F_turned_list : Fun K "turned_list" "turned_list" s_turned_list a_turned_list d_turned_list
  b_turned_list : Binds K d_turned_list ["items", "turn"] []
  g_turned_list : mg "turned_list" = some (.ref a_turned_list)
  a_light_between : Addr
  d_light_between : FuncData
  F_light_between : Fun K "light_between" "light_between" s_light_between a_light_between d_light_between
  b_light_between : Binds K d_light_between ["disc", "row", "turn"] []
  g_light_between : mg "light_between" = some (.ref a_light_between)
  a_turned_disc : Addr
  d_turned_disc : FuncData
  F_turned_disc : Fun K "turned_disc" "turned_disc" s_turned_disc a_turned_disc d_turned_disc
  b_turned_disc : Binds K d_turned_disc ["disc", "turn"] []
  g_turned_disc : mg "turned_disc" = some (.ref a_turned_disc)
  a_light_at : Addr
  d_light_at : FuncData
  F_light_at : Fun K "light_at" "light_at" s_light_at a_light_at d_light_at
  b_light_at : Binds K d_light_at ["disc", "other", "turn"] []
  g_light_at : mg "light_at" = some (.ref a_light_at)
  a_law_tank : Addr
  d_law_tank : FuncData
  F_law_tank : Fun K "_law_tank" "_law_tank" s_law_tank a_law_tank d_law_tank
  b_law_tank : Binds K d_law_tank ["script", "at"] []
  g_law_tank : mg "_law_tank" = some (.ref a_law_tank)
  a_law_tap : Addr
  d_law_tap : FuncData
  F_law_tap : Fun K "_law_tap" "_law_tap" s_law_tap a_law_tap d_law_tap
  b_law_tap : Binds K d_law_tap ["tank", "many"] []
  g_law_tap : mg "_law_tap" = some (.ref a_law_tap)
  a_law_drawn_count : Addr
  d_law_drawn_count : FuncData
  F_law_drawn_count : Fun K "_law_drawn_count" "_law_drawn_count" s_law_drawn_count a_law_drawn_count d_law_drawn_count
  b_law_drawn_count : Binds K d_law_drawn_count ["tank", "most"] []
  g_law_drawn_count : mg "_law_drawn_count" = some (.ref a_law_drawn_count)
  a_law_drawn_rim : Addr
  d_law_drawn_rim : FuncData
  F_law_drawn_rim : Fun K "_law_drawn_rim" "_law_drawn_rim" s_law_drawn_rim a_law_drawn_rim d_law_drawn_rim
  b_law_drawn_rim : Binds K d_law_drawn_rim ["tank", "count"] []
  g_law_drawn_rim : mg "_law_drawn_rim" = some (.ref a_law_drawn_rim)
  a_law_round : Addr
  d_law_round : FuncData
  F_law_round : Fun K "_law_round" "_law_round" s_law_round a_law_round d_law_round
  b_law_round : Binds K d_law_round ["rim", "mate"] []
  g_law_round : mg "_law_round" = some (.ref a_law_round)
  a_law_same_right : Addr
  d_law_same_right : FuncData
  F_law_same_right : Fun K "_law_same_right" "_law_same_right" s_law_same_right a_law_same_right d_law_same_right
  b_law_same_right : Binds K d_law_same_right ["tank", "rim"] []
  g_law_same_right : mg "_law_same_right" = some (.ref a_law_same_right)
  a_law_sums_right : Addr
  d_law_sums_right : FuncData
  F_law_sums_right : Fun K "_law_sums_right" "_law_sums_right" s_law_sums_right a_law_sums_right d_law_sums_right
  b_law_sums_right : Binds K d_law_sums_right ["tank", "rim", "mate", "whole"] []
  g_law_sums_right : mg "_law_sums_right" = some (.ref a_law_sums_right)
  a_law_told_right : Addr
  d_law_told_right : FuncData
  F_law_told_right : Fun K "_law_told_right" "_law_told_right" s_law_told_right a_law_told_right d_law_told_right
  b_law_told_right : Binds K d_law_told_right ["tank", "rim", "mate", "whole"] []
  g_law_told_right : mg "_law_told_right" = some (.ref a_law_told_right)
  a_law : Addr
  d_law : FuncData
  F_law : Fun K "law" "law" s_law a_law d_law
  g_law : mg "law" = some (.ref a_law)
  t_MOST_SLOTS : Tok
  g_MOST_SLOTS : mg "MOST_SLOTS" = some (.int (40) t_MOST_SLOTS)
  t_MOST_LIGHT : Tok
  g_MOST_LIGHT : mg "MOST_LIGHT" = some (.int (1000000000000000000000000000000) t_MOST_LIGHT)
  t_MOST_RING_LIGHTS : Tok
  g_MOST_RING_LIGHTS : mg "MOST_RING_LIGHTS" = some (.int (1600) t_MOST_RING_LIGHTS)
  i_lcm : mg "lcm" = some (.builtin "math.lcm")
  n_abs : mg "abs" = none
  n_any : mg "any" = none
  n_bool : mg "bool" = none
  n_divmod : mg "divmod" = none
  n_enumerate : mg "enumerate" = none
  n_int : mg "int" = none
  n_isinstance : mg "isinstance" = none
  n_len : mg "len" = none
  n_list : mg "list" = none
  n_max : mg "max" = none
  n_min : mg "min" = none
  n_range : mg "range" = none
  n_set : mg "set" = none
  n_sum : mg "sum" = none
  n_zip : mg "zip" = none
section
variable {P : Program} {w : World} {K : PySem.W.Frag} {mg : Str → Option Value} {base : Heap}
/-! ### _law_tank, _law_tap -/
def mixA (y z : Int) : Int := (y + 350377 * z) ^ (3 : Int).toNat % 170141183460469231731687303715884105727
theorem mixA_in (y z : Int) : 0 ≤ mixA y z ∧ mixA y z < 170141183460469231731687303715884105727 := ⟨Int.emod_nonneg _ (by decide), Int.emod_lt_of_pos _ (by decide)⟩
def spTap : Sp := fun vs H Q _ => ∃ (T : Addr) (m c : Int), vs = [.ref T, .int m] ∧ 0 < m ∧ m < 2 ^ 200 ∧ Tank H T c ∧ c < 2 ^ 40 ∧
  ∀ (r : Int) (H' : Hp), 0 ≤ r → r < m → Tank H' T (c + 1) → But T H H' → Q (.int r) H'
theorem ok_law_tap (T : Txt K mg) : FnOk P w K mg base CX0 1 T.a_law_tap T.d_law_tap ["tank", "many"] spTap := by
  refine T.F_law_tap.ok sc_law_tap (fun vs H Q E h => ?_) (fun cdv A outer s H vs Q E hr h => ?_)
  · obtain ⟨_, _, _, rfl, _⟩ := h
    rfl
  · obtain ⟨t, m, c, rfl, hm0, hm, ⟨x, y, z, hT, hx, hy0, hy, hz0, hz⟩, hc, q⟩ := h
    refine ⟨_, (pss_cons (ps_if (pt_cmpR op_gt (pe_ix (ixL (K := K) rfl) (pv 0) pe_int (fun _ _ => rfl)) pe_int (nomark _)) (pss_cons (ps_set (i := 2) sc_law_tap.nd rfl (.inl rfl) (pe_op op_mod (pe_callTy call_int1 (by rfl) T.n_int (by decide +kernel) (pa_cons (pe_ix (ixL (K := K) rfl) (pv 0) pe_int (fun _ _ => rfl)) pa_nil)) (pv 1)))
      (pss_cons (ps_asg (pe_op op_fdivW (pe_ix (ixL (K := K) rfl) (pv 0) pe_int (fun _ _ => rfl)) (pv 1)) (pg_sub (pv 0) pe_int set_list))
      (pss_one (ps_ret (pv 2))))) pss_nil)
      (pss_cons (ps_asg (pe_op op_add (pe_ix (ixL (K := K) rfl) (pv 0) pe_int (fun _ _ => rfl)) pe_int) (pg_sub (pv 0) pe_int set_list))
      (pss_cons (ps_set (i := 3) sc_law_tap.nd rfl (.inl rfl) (pe_op op_mod (pe_callTy call_int1 (by rfl) T.n_int (by decide +kernel) (pa_cons (pe_op op_pow3 (pe_op op_add (pe_ix (ixL (K := K) rfl) (pv 0) pe_int (fun _ _ => rfl)) (pe_op op_mul pe_int (pe_ix (ixL (K := K) rfl) (pv 0) pe_int (fun _ _ => rfl)))) pe_int) pa_nil)) pe_int))
      (pss_cons (ps_set (i := 3) sc_law_tap.nd rfl (.inl rfl) (pe_op op_mod (pe_callTy call_int1 (by rfl) T.n_int (by decide +kernel) (pa_cons (pe_op op_pow3 (pe_op op_add (pv 3) (pe_op op_mul pe_int (pe_ix (ixL (K := K) rfl) (pv 0) pe_int (fun _ _ => rfl)))) pe_int) pa_nil)) (pe_op op_add (pe_op op_pow pe_int pe_int) pe_int)))
      (pss_one (ps_ret (pe_op op_mod (pe_callTy call_int1 (by rfl) T.n_int (by decide +kernel) (pa_cons (pe_op op_fdivW (pv 3) pe_int) pa_nil)) (pv 1)))))))), ?_⟩
    refine ⟨.ref t, rfl, t, _, 0, .int x, rfl, rfl, SqL.of hT, rfl, x, 0, rfl, rfl, _, rfl, ite2 (fun h => ?_) (fun h => ?_)⟩
    · have hx1 : 0 < x := of_decide_eq_true h
      refine ⟨.ref t, rfl, t, _, 0, .int x, rfl, rfl, SqL.of hT, rfl, .inl ⟨x, rfl, .int m, rfl, x, m, rfl, rfl, hm0, ?_⟩⟩
      refine ⟨.ref t, rfl, t, _, 0, .int x, rfl, rfl, SqL.of hT, rfl, .int m, rfl, x, m, rfl, rfl, wide_div (b := 200) hm0 (by omega) (by decide) (by decide), ?_⟩
      refine ⟨.ref t, rfl, t, _, 0, 0, rfl, rfl, hT, rfl, ?_⟩
      refine ⟨.int (x % m), rfl, q _ _ (Int.emod_nonneg _ (by omega)) (Int.emod_lt_of_pos _ hm0) ⟨x / m, y, z, upd_same, Int.ediv_nonneg hx (by omega), hy0, hy, hz0, by omega⟩ upd_but⟩
    · refine ⟨.ref t, rfl, t, _, 2, .int z, rfl, rfl, SqL.of hT, rfl, z, 1, rfl, rfl, ?_⟩
      refine ⟨.ref t, rfl, t, _, 2, 2, rfl, rfl, hT, rfl, ?_⟩
      have hT2 : (upd H t (.lst [.int x, .int y, .int (z + 1)])) t = some (.lst [.int x, .int y, .int (z + 1)]) := upd_same
      refine ⟨.ref t, rfl, t, _, 1, .int y, rfl, rfl, SqL.of hT2, rfl, .ref t, rfl, t, _, 2, .int (z + 1), rfl, rfl, SqL.of hT2, rfl, 350377, z + 1, rfl, rfl, .inl ⟨by decide, by decide⟩, ?_⟩
      refine ⟨y, 350377 * (z + 1), rfl, rfl, _, 3, rfl, rfl, ⟨rfl, by omega, by omega⟩, .inl ⟨_, rfl, _, 170141183460469231731687303715884105727, rfl, rfl, (by show (0 : Int) < 170141183460469231731687303715884105727; decide), ?_⟩⟩
      obtain ⟨g0, g1⟩ := mixA_in y (z + 1)
      refine ⟨.int (mixA y (z + 1)), rfl, .ref t, rfl, t, _, 2, .int (z + 1), rfl, rfl, SqL.of hT2, rfl, 27644437, z + 1, rfl, rfl, .inl ⟨by decide, by decide⟩, ?_⟩
      refine ⟨mixA y (z + 1), 27644437 * (z + 1), rfl, rfl, _, 3, rfl, rfl, ⟨rfl, by omega, by omega⟩, .inl ⟨_, rfl, 10, 46, rfl, rfl, ⟨by decide, by decide, by decide⟩, _, 9, rfl, rfl, _, _, rfl, rfl, (by show (0 : Int) < 10 ^ (46 : Int).toNat + 9; decide +kernel), ?_⟩⟩
      refine ⟨_, rfl, _, 524288, rfl, rfl, wide_div (b := 30) (by decide) (by decide) (by decide) (by decide), .inl ⟨_, rfl, .int m, rfl, _, m, rfl, rfl, hm0, ?_⟩⟩
      exact q _ _ (Int.emod_nonneg _ (by omega)) (Int.emod_lt_of_pos _ hm0) ⟨x, y, z + 1, upd_same, hx, hy0, hy, by omega, by omega⟩ upd_but
def spTank (K : PySem.W.Frag) : Sp := fun vs H Q _ => ∃ (a : Addr) (ns : List Int) (i : Int), vs = [.ref a, .int i] ∧ SqL K H a (ns.map V.int) ∧ 0 ≤ i ∧ i < 100 ∧
  ∀ (t : Addr) (H' : Hp), Same H H' → H t = none → Tank H' t 0 → Q (.ref t) H'
theorem ok_law_tank (T : Txt K mg) : FnOk P w K mg base CX0 1 T.a_law_tank T.d_law_tank ["script", "at"] (spTank K) := by
  refine T.F_law_tank.ok sc_law_tank (fun vs H Q E h => ?_) (fun cdv A outer s H vs Q E hr h => ?_)
  · obtain ⟨_, _, _, rfl, _⟩ := h
    rfl
  · obtain ⟨a, ns, i, rfl, hS, hi0, hi, q⟩ := h
    refine ⟨_, (pss_cons (ps_set (i := 2) sc_law_tank.nd rfl (.inl rfl) (pe_ifExp (pt_cmpR op_lt (pv 1) (pe_callB (lenL (K := K) rfl) (by rfl) T.n_len (by decide +kernel) (pa_cons (pv 0) pa_nil)) (nomark _)) (pe_ix (ixL (K := K) rfl) (pv 0) (pv 1) (fun _ _ => rfl)) pe_int))
      (pss_one (ps_ret (pe_lst (pa_cons (pe_callB (call_max2 rfl) (by rfl) T.n_max (by decide +kernel) (pa_cons pe_int (pa_cons (pe_op op_sub (pe_callB call_abs (by rfl) T.n_abs (by decide +kernel) (pa_cons (pv 2) pa_nil)) (pe_op op_pow pe_int pe_int)) pa_nil))) (pa_cons (pe_op op_add (pe_op op_mod (pe_callTy call_int1 (by rfl) T.n_int (by decide +kernel) (pa_cons (pv 2) pa_nil)) pe_int) (pe_op op_mul pe_int (pe_op op_add (pv 1) pe_int))) (pa_cons pe_int pa_nil))))))), ?_⟩
    have fin : ∀ c : Int, (fun σ H' => ∃ y2, σ = [some (.ref a), some (.int i), some y2] ∧ y2 = V.int c ∧ H' = H) [some (.ref a), some (.int i), some (V.int c)] H := fun c => ⟨_, rfl, rfl, rfl⟩
    have key : ∀ c : Int, (0 : Int) ≤ max 0 ((if c < 0 then -c else c) - 10 ^ 18) := fun c => Int.le_max_left _ _
    refine ⟨.int i, rfl, .ref a, rfl, a, _, rfl, .inl hS, i, _, rfl, rfl, _, rfl, ite2 (fun h => ?_) (fun h => ?_)⟩
    · have h1 : i < ns.length := by
        have := of_decide_eq_true h
        rw [List.length_map] at this
        exact this
      obtain ⟨c, hc, hat⟩ := at_in hi0 h1
      refine ⟨.ref a, rfl, .int i, rfl, a, _, i, .int c, rfl, rfl, hS, hat, ?_⟩
      refine ⟨.int c, rfl, c, rfl, 10, 18, rfl, rfl, ⟨by decide, by decide, by decide⟩, _, _, rfl, rfl, 0, _, rfl, ?_⟩
      refine ⟨.int c, rfl, .inl ⟨c, rfl, c, 1000000000000000003, rfl, rfl, (by show (0 : Int) < 1000000000000000003; decide), .int i, rfl, i, 1, rfl, rfl, 104729, i + 1, rfl, rfl, .inl ⟨by decide, by decide⟩, _, _, rfl, rfl, (by show 3 ≤ sizeLine; decide), fun t ht => ?_⟩⟩
      have m0 := Int.emod_nonneg c (show (1000000000000000003 : Int) ≠ 0 by decide)
      have m1 := Int.emod_lt_of_pos c (show (0 : Int) < 1000000000000000003 by decide)
      refine q t _ (new_same ht) ht ⟨_, _, 0, upd_same, ?_, by omega, by omega, by omega, by omega⟩
      split <;> omega
    · refine ⟨.int 0, rfl, 0, rfl, 10, 18, rfl, rfl, ⟨by decide, by decide, by decide⟩, _, _, rfl, rfl, 0, _, rfl, ?_⟩
      refine ⟨.int 0, rfl, .inl ⟨0, rfl, 0, 1000000000000000003, rfl, rfl, (by show (0 : Int) < 1000000000000000003; decide), .int i, rfl, i, 1, rfl, rfl, 104729, i + 1, rfl, rfl, .inl ⟨by decide, by decide⟩, _, _, rfl, rfl, (by show 3 ≤ sizeLine; decide), fun t ht => ?_⟩⟩
      refine q t _ (new_same ht) ht ⟨_, _, 0, upd_same, ?_, by omega, by omega, by omega, by omega⟩
      split <;> omega

/-! ### _law_drawn_count, _law_drawn_turn -/
def spCount : Sp := fun vs H Q _ => ∃ (T : Addr) (m c : Int), vs = [.ref T, .int m] ∧ 1 ≤ m ∧ m ≤ 40 ∧ Tank H T c ∧ 0 ≤ c ∧ c < 2 ^ 39 ∧
  ∀ (r : Int) (H' : Hp), 1 ≤ r → r ≤ m → Tank H' T (c + 3) → But T H H' → Q (.int r) H'
theorem ok_law_drawn_count (T : Txt K mg) : FnOk P w K mg base CX0 2 T.a_law_drawn_count T.d_law_drawn_count ["tank", "most"] spCount := by
  have G_law_tap := ok_law_tap (P := P) (w := w) (base := base) T
  refine T.F_law_drawn_count.ok sc_law_drawn_count (fun vs H Q E h => ?_) (fun cdv A outer s H vs Q E hr h => ?_)
  · obtain ⟨_, _, _, rfl, _⟩ := h
    rfl
  · obtain ⟨t, m, c, rfl, hm1, hm, hT, hc0, hc, q⟩ := h
    refine ⟨_, (pss_cons (ps_set (i := 2) sc_law_drawn_count.nd rfl (.inl rfl) (pe_lst (pa_cons pe_int (pa_cons (pv 1) (pa_cons pe_int (pa_cons pe_int (pa_cons pe_int (pa_cons pe_int (pa_cons pe_int (pa_cons (pe_op op_add pe_int (pe_call G_law_tap hr (by rfl) T.g_law_tap T.F_law_tap.kp T.b_law_tap .nil pass0 (pa_cons (pv 0) (pa_cons (pv 1) pa_nil)))) (pa_cons (pe_op op_add pe_int (pe_call G_law_tap hr (by rfl) T.g_law_tap T.F_law_tap.kp T.b_law_tap .nil pass0 (pa_cons (pv 0) (pa_cons (pv 1) pa_nil)))) pa_nil)))))))))))
      (pss_one (ps_ret (pe_callB (call_min2 rfl) (by rfl) T.n_min (by decide +kernel) (pa_cons (pv 1) (pa_cons (pe_ix (ixL (K := K) rfl) (pv 2) (pe_call G_law_tap hr (by rfl) T.g_law_tap T.F_law_tap.kp T.b_law_tap .nil pass0 (pa_cons (pv 0) (pa_cons pe_int pa_nil))) (fun _ _ => rfl)) pa_nil)))))), ?_⟩
    refine ⟨.int m, rfl, .ref t, rfl, .int m, rfl, t, m, c, rfl, by omega, by omega, hT, by omega, fun r1 H1 a1 b1 k1 u1 => ?_⟩
    refine ⟨1, r1, rfl, rfl, .ref t, rfl, .int m, rfl, t, m, c + 1, rfl, by omega, by omega, k1, by omega, fun r2 H2 a2 b2 k2 u2 => ?_⟩
    refine ⟨1, r2, rfl, rfl, (by show 9 ≤ sizeLine; decide), fun l hl => ?_⟩
    refine ⟨.int m, rfl, .ref l, rfl, .ref t, rfl, t, 9, c + 2, rfl, by omega, by omega, (k2.mono (by omega)).up hl, by omega, fun r3 H3 a3 b3 k3 u3 => ?_⟩
    have hl3 : H3 l = some (.lst (([1, m, 6, 7, 12, 36, 40, 1 + r1, 1 + r2] : List Int).map V.int)) := u3 _ _ upd_same (k2.ne hl)
    obtain ⟨n, hn, hat⟩ := at_in (ns := [1, m, 6, 7, 12, 36, 40, 1 + r1, 1 + r2]) a3 (by show r3 < 9; omega)
    have hn1 : 1 ≤ n := by
      have := List.mem_of_getElem? hn
      simp only [List.mem_cons, List.not_mem_nil, or_false] at this
      omega
    refine ⟨l, _, r3, .int n, rfl, rfl, SqL.of hl3, hat, m, n, rfl, ?_⟩
    have hb : But t H H3 := ((u1.trans u2).trans (But.of (new_same hl))).trans u3
    split
    · exact q _ _ hn1 (by omega) (k3.mono (by omega)) hb
    · exact q _ _ hm1 (by omega) (k3.mono (by omega)) hb

/-! ### _law_drawn_rim -/
def spRim : Sp := fun vs H Q _ => ∃ (T : Addr) (n c : Int), vs = [.ref T, .int n] ∧ 1 ≤ n ∧ n ≤ 40 ∧ Tank H T c ∧ 0 ≤ c ∧ c < 2 ^ 38 ∧
  ∀ (l : Addr) (ns : List Int) (H' : Hp), Rim ns → (ns.length : Int) = n → But T H H' → H l = none → H' l = some (.lst (ns.map V.int)) → Tank H' T (c + 60) → Q (.ref l) H'
/-- what holds between the ifs -/
def MidRim (t : Addr) (H : Hp) (n k w e : Int) : L2.St → Hp → Prop := fun σ' H' => ∃ (D : Addr) (ns : List Int) (y5 y6 y7 : Option V),
  σ' = [some (.ref t), some (.int n), some (.int k), some (.int w), some (.ref D), y5, y6, y7] ∧ Rim ns ∧ (ns.length : Int) = n ∧ H D = none ∧ H' D = some (.lst (ns.map V.int)) ∧ But t H H' ∧ Tank H' t e
theorem ok_law_drawn_rim (T : Txt K mg) : FnOk P w K mg base CX0 2 T.a_law_drawn_rim T.d_law_drawn_rim ["tank", "count"] spRim := by
  have G_law_tap := ok_law_tap (P := P) (w := w) (base := base) T
  refine T.F_law_drawn_rim.ok sc_law_drawn_rim (fun vs H Q E h => ?_) (fun cdv A outer s H vs Q E hr h => ?_)
  · obtain ⟨_, _, _, rfl, _⟩ := h
    rfl
  · obtain ⟨t, n, c, rfl, hn1, hn, hT, hc0, hc, q⟩ := h
    have e30 : (10 : Int) ^ (30 : Int).toNat = 1000000000000000000000000000000 := by decide +kernel
    refine ⟨_, (pss_cons (ps_asg (pe_tup (pa_cons (pe_call G_law_tap hr (by rfl) T.g_law_tap T.F_law_tap.kp T.b_law_tap .nil pass0 (pa_cons (pv 0) (pa_cons pe_int pa_nil))) (pa_cons (pe_ix (ixL (K := K) rfl) (pe_lst (pa_cons pe_int (pa_cons pe_int (pa_cons pe_int (pa_cons (pe_op op_add (pe_op op_pow pe_int pe_int) pe_int) pa_nil))))) (pe_call G_law_tap hr (by rfl) T.g_law_tap T.F_law_tap.kp T.b_law_tap .nil pass0 (pa_cons (pv 0) (pa_cons pe_int pa_nil))) (fun _ _ => rfl)) pa_nil))) (pg_tupL (K := K) (n := 2) rfl rfl (pgs_cons (pg_name (i := 2) sc_law_drawn_rim.nd rfl (.inr rfl)) (pgs_cons (pg_name (i := 3) sc_law_drawn_rim.nd rfl (.inr rfl)) pgs_nil))))
      (pss_cons (ps_setLc (i := 4) (own := [("slot_here", 5)]) (g := gName 5) (tt := tYes) (by rfl) sc_law_drawn_rim.nd rfl rfl (sw_true rfl rfl rfl (by decide +kernel)) (pi_range1 (by rfl) T.n_range (pa_cons (pv 1) pa_nil)) (blkOk_by (own := [("slot_here", 5)]) (N := ["tank", "count", "kind", "wide", "rim", "slot_here", "sizes", "size"]) (sc := defScope s_law_drawn_rim) (by decide +kernel))
        (fun _ _ _ _ _ => (pg_name (i := 5) sc_law_drawn_rim.nd rfl (Or.inl rfl))) (fun _ _ _ _ _ => pts_nil) (fun _ _ _ _ _ => (pe_call G_law_tap hr (by rfl) T.g_law_tap T.F_law_tap.kp T.b_law_tap .nil pass0 (pa_cons (pv 0) (pa_cons (pe_ix (ixL (K := K) rfl) (pe_lst (pa_cons pe_int (pa_cons pe_int (pa_cons (pv 3) (pa_cons (pv 3) (pa_cons (pe_op op_add (pe_op op_pow pe_int pe_int) pe_int) (pa_cons pe_int (pa_cons pe_int (pa_cons pe_int pa_nil))))))))) (pv 2) (fun _ _ => rfl)) pa_nil)))))
      (pss_mid (ps_if (pt_cmpR op_eq (pv 2) pe_int (nomark _)) (pss_cons (ps_set (i := 4) sc_law_drawn_rim.nd rfl (.inl rfl) (pe_op op_rep (pe_lst (pa_cons pe_int pa_nil)) (pv 1)))
      (pss_one (ps_asg (pe_op op_add pe_int (pe_call G_law_tap hr (by rfl) T.g_law_tap T.F_law_tap.kp T.b_law_tap .nil pass0 (pa_cons (pv 0) (pa_cons (pe_op op_sub (pv 3) pe_int) pa_nil)))) (pg_sub (pv 4) (pe_call G_law_tap hr (by rfl) T.g_law_tap T.F_law_tap.kp T.b_law_tap .nil pass0 (pa_cons (pv 0) (pa_cons (pv 1) pa_nil))) set_list)))) pss_nil)
      (pss_mid (ps_if (pt_cmpR op_eq (pv 2) pe_int (nomark _)) (pss_one (ps_set (i := 4) sc_law_drawn_rim.nd rfl (.inl rfl) (pe_op op_rep (pe_lst (pa_cons (pe_ix (ixL (K := K) rfl) (pv 4) pe_int (fun _ _ => rfl)) pa_nil)) (pv 1)))) pss_nil)
      (pss_mid (ps_if (pt_cmpR op_eq (pv 2) pe_int (nomark _)) (pss_cons (ps_setLc (i := 6) (own := [("size", 7)]) (g := gName 7) (by rfl) sc_law_drawn_rim.nd rfl rfl (sw_true rfl rfl rfl (by decide +kernel)) (pi_range2 (by rfl) T.n_range (pa_cons pe_int (pa_cons (pe_op op_add (pv 1) pe_int) pa_nil))) (blkOk_by (own := [("size", 7)]) (N := ["tank", "count", "kind", "wide", "rim", "slot_here", "sizes", "size"]) (sc := defScope s_law_drawn_rim) (by decide +kernel))
        (fun _ _ _ _ _ => (pg_name (i := 7) sc_law_drawn_rim.nd rfl (Or.inl rfl))) (fun _ _ _ _ _ => (pts_one (pt_cmpR op_eq (pe_op op_mod (pe_callTy call_int1 (by rfl) T.n_int (by decide +kernel) (pa_cons (pv 1) pa_nil)) (pv 7)) pe_int (nomark _)))) (fun _ _ _ _ _ => (pv 7)))
      (pss_cons (ps_set (i := 7) sc_law_drawn_rim.nd rfl (.inl rfl) (pe_ix (ixL (K := K) rfl) (pv 6) (pe_call G_law_tap hr (by rfl) T.g_law_tap T.F_law_tap.kp T.b_law_tap .nil pass0 (pa_cons (pv 0) (pa_cons (pe_callB (lenL (K := K) rfl) (by rfl) T.n_len (by decide +kernel) (pa_cons (pv 6) pa_nil)) pa_nil))) (fun _ _ => rfl)))
      (pss_one (ps_set (i := 4) sc_law_drawn_rim.nd rfl (.inl rfl) (pe_op op_rep (pe_slice (slL (K := K) rfl) (pv 4) po_none (po_some (pv 7))) (pe_op op_fdivW (pv 1) (pv 7))))))) pss_nil)
      (pss_one (ps_ret (pv 4)))))))), ?_⟩
    obtain ⟨oT, hoT⟩ := hT.some
    -- kind, wide
    refine ⟨.ref t, rfl, t, 8, c, rfl, by omega, by omega, hT, by omega, fun k H1 k0 k8 k1 u1 => ?_⟩
    refine ⟨10, 30, rfl, rfl, ⟨by decide, by decide, by decide⟩, _, 1, rfl, rfl, (by show 4 ≤ sizeLine; decide), fun l hl => ?_⟩
    refine ⟨.ref t, rfl, t, 4, c + 1, rfl, by omega, by omega, k1.up hl, by omega, fun r H2 r0 r4 k2 u2 => ?_⟩
    have hl2 : H2 l = some (.lst (([2, 2, 4, 10 ^ (30 : Int).toNat + 1] : List Int).map V.int)) := u2 _ _ upd_same (k1.ne hl)
    obtain ⟨w, hw, hat⟩ := at_in (ns := [2, 2, 4, 10 ^ (30 : Int).toNat + 1]) r0 (by show r < 4; omega)
    have hw1 : 2 ≤ w ∧ w ≤ 1000000000000000000000000000001 := by
      have := List.mem_of_getElem? hw
      simp only [List.mem_cons, List.not_mem_nil, or_false, e30] at this
      omega
    refine ⟨l, _, r, .int w, rfl, rfl, SqL.of hl2, hat, (by show 2 ≤ sizeLine; decide), fun p hp => ?_⟩
    refine ⟨p, _, rfl, SqT.of upd_same, rfl, _, _, rfl, _, _, rfl, rfl, ?_⟩
    have u3 : But t H (upd H2 p (.tup [.int k, .int w])) := (u1.trans ((But.of (new_same hl)).trans u2)).trans (But.of (new_same hp))
    have k3 : Tank (upd H2 p (.tup [.int k, .int w])) t (c + 2) := (k2.mono (by omega)).up hp
    generalize hH3 : upd H2 p (.tup [.int k, .int w]) = H3 at u3 k3
    -- rim = [..]
    refine ⟨.int n, rfl, n, rfl, by omega, by omega, fun D hD => ?_⟩
    have hHD : H D = none := free_but u3 hoT hD (by obtain ⟨o, e⟩ := k3.some; rw [e]; exact fun z => nomatch z)
    refine lc_range (lo := 0) (n := n.toNat) (fun i H' => But t H H' ∧ Tank H' t (c + 2 + i) ∧ ∃ ms : List Int, H' D = some (.lst (ms.map V.int)) ∧ ms.length = i ∧ ∀ m ∈ ms, 0 ≤ m ∧ m ≤ 1000000000000000000000000000000)
      ⟨u3.trans (But.of (new_same hD)), (k3.mono (by omega)).up hD, [], upd_same, rfl, fun m hm => (List.not_mem_nil hm).elim⟩ (fun i H4 hi hP => ⟨rfl, ?_⟩) (fun H4 hP => ?_)
    · obtain ⟨u4, k4, ms, hD4, hlen, hall⟩ := hP
      refine ⟨.ref t, rfl, .int w, rfl, .int w, rfl, 10, 30, rfl, rfl, ⟨by decide, by decide, by decide⟩, _, 1, rfl, rfl, (by show 8 ≤ sizeLine; decide), fun l2 hl2 => ?_⟩
      obtain ⟨m, hm, hatm⟩ := at_in (ns := [2, 2, w, w, 10 ^ (30 : Int).toNat + 1, 4, 1, 2]) k0 (by show k < 8; omega)
      have hm1 : 1 ≤ m ∧ m ≤ 1000000000000000000000000000001 := by
        have := List.mem_of_getElem? hm
        simp only [List.mem_cons, List.not_mem_nil, or_false, e30] at this
        omega
      refine ⟨.int k, rfl, l2, _, k, .int m, rfl, rfl, SqL.of upd_same, hatm, t, m, c + 2 + i, rfl, by omega, by omega, k4.up hl2, by omega, fun v H5 v0 v1 k5 u5 => ?_⟩
      have hD5 : H5 D = some (.lst (ms.map V.int)) := u5 _ _ (new_same hl2 _ _ hD4) (k3.ne hD)
      refine ⟨_, hD5, by rw [List.length_map]; exact sz40 (by omega), ?_, ?_, ms ++ [v], ?_, by rw [List.length_append]; show ms.length + 1 = i + 1; omega, fun z hz => ?_⟩
      · exact fun b o e ne => by
          rw [upd_ne (ne_of_none e hHD)]
          exact ((u4.trans (But.of (new_same hl2))).trans u5) b o e ne
      · obtain ⟨x, y, z, e, a1, a2, a3, a4, a5⟩ := k5
        exact ⟨x, y, z, by rw [upd_ne (k3.ne hD).symm]; exact e, a1, a2, a3, a4, by omega⟩
      · rw [upd_same, List.map_append]
        rfl
      · rcases List.mem_append.mp hz with h | h
        · exact hall z h
        · have e := List.mem_singleton.mp h
          subst e
          omega
    · obtain ⟨u4, k4, ms, hD4, hlen, hall⟩ := hP
      have hn2 : (ms.length : Int) = n := by omega
      have hR : Rim ms := ⟨by omega, by omega, hall⟩
      have ek : ((n.toNat : Nat) : Int) = n := by omega
      rw [ek] at k4
      -- if kind == 1
      refine ⟨MidRim t H n k w (c + 2 + n + 2), ⟨.int k, rfl, rfl, _, rfl, ite2 (fun _ => ?_) (fun _ => ?_)⟩, fun σ' H5 hM => ?_⟩
      · refine ⟨(by show 1 ≤ sizeLine; decide), fun l3 hl3 => ?_⟩
        refine ⟨.int n, rfl, l3, n, _, rfl, rfl, upd_same, by omega, by omega, (by show 1 * n.toNat ≤ sizeLine; exact sz40' (by omega)), fun p3 hp3 => ?_⟩
        have k5 : Tank (upd (upd H4 l3 (.lst [.int 0])) p3 (.lst (List.replicate n.toNat [V.int 0]).flatten)) t (c + 2 + n) := (k4.up hl3).up hp3
        have u5 : But t H (upd (upd H4 l3 (.lst [.int 0])) p3 (.lst (List.replicate n.toNat [V.int 0]).flatten)) := (u4.trans (But.of (new_same hl3))).trans (But.of (new_same hp3))
        refine ⟨.ref t, rfl, .int w, rfl, w, 1, rfl, rfl, t, w - 1, c + 2 + n, rfl, by omega, by omega, k5, by omega, fun v H6 v0 v1 k6 u6 => ?_⟩
        refine ⟨1, v, rfl, rfl, .ref p3, rfl, .ref t, rfl, .int n, rfl, t, n, c + 2 + n + 1, rfl, by omega, by omega, k6, by omega, fun j H7 j0 j1 k7 u7 => ?_⟩
        have hp7 : H7 p3 = some (.lst ((List.replicate n.toNat (0 : Int)).map V.int)) := u7 _ _ (u6 _ _ (by rw [upd_same, rep_one]) ((k4.up hl3).ne hp3)) ((k4.up hl3).ne hp3)
        have hlenr : ((List.replicate n.toNat (0 : Int)).map V.int).length = n.toNat := by rw [List.length_map, List.length_replicate]
        refine ⟨p3, _, _, j.toNat, rfl, rfl, hp7, ixN_in j0 (by rw [hlenr]; omega), ?_⟩
        have hHp : H p3 = none := free_but (u4.trans (But.of (new_same hl3))) hoT hp3 (by obtain ⟨o, e⟩ := (k4.up hl3).some; rw [e]; exact fun z => nomatch z)
        refine ⟨p3, (List.replicate n.toNat (0 : Int)).set j.toNat (1 + v), _, _, _, rfl, ⟨?_, ?_, fun z hz => ?_⟩, ?_, hHp, ?_, ?_, ?_⟩
        · rw [List.length_set, List.length_replicate]
          omega
        · rw [List.length_set, List.length_replicate]
          omega
        · rcases List.mem_or_eq_of_mem_set hz with h | h
          · rw [(List.mem_replicate.mp h).2]
            omega
          · omega
        · rw [List.length_set, List.length_replicate]
          exact ek
        · rw [upd_same, map_set]
        · exact fun b o e ne => by
            rw [upd_ne (ne_of_none e hHp)]
            exact ((u5.trans u6).trans u7) b o e ne
        · obtain ⟨x, y, z, e, a1, a2, a3, a4, a5⟩ := k7
          exact ⟨x, y, z, by rw [upd_ne ((k4.up hl3).ne hp3).symm]; exact e, a1, a2, a3, a4, by omega⟩
      · exact ⟨D, ms, _, _, _, rfl, hR, hn2, hHD, hD4, u4, k4.mono (by omega)⟩
      -- if kind == 2
      obtain ⟨D5, ns5, y5, y6, y7, rfl, hR5, hn5, hH5, hD5, u5, k5⟩ := hM
      refine ⟨MidRim t H n k w (c + 2 + n + 2), ⟨.int k, rfl, rfl, _, rfl, ite2 (fun _ => ?_) (fun _ => ?_)⟩, fun σ' H6 hM => ?_⟩
      · obtain ⟨m, hm, hat0⟩ := at_in (ns := ns5) (i := 0) (by omega) (by omega)
        have hmb := hR5.all m (List.mem_of_getElem? hm)
        refine ⟨.ref D5, rfl, D5, _, 0, .int m, rfl, rfl, SqL.of hD5, hat0, (by show 1 ≤ sizeLine; decide), fun l3 hl3 => ?_⟩
        refine ⟨.int n, rfl, l3, n, _, rfl, rfl, upd_same, by omega, by omega, (by show 1 * n.toNat ≤ sizeLine; exact sz40' (by omega)), fun p3 hp3 => ?_⟩
        have hHp : H p3 = none := free_but (u5.trans (But.of (new_same hl3))) hoT hp3 (by obtain ⟨o, e⟩ := (k5.up hl3).some; rw [e]; exact fun z => nomatch z)
        refine ⟨p3, List.replicate n.toNat m, _, _, _, rfl, ⟨?_, ?_, fun z hz => ?_⟩, ?_, hHp, by rw [upd_same, rep_one], (u5.trans (But.of (new_same hl3))).trans (But.of (new_same hp3)), (k5.up hl3).up hp3⟩
        · rw [List.length_replicate]
          omega
        · rw [List.length_replicate]
          omega
        · rw [(List.mem_replicate.mp hz).2]
          exact hmb
        · rw [List.length_replicate]
          exact ek
      · exact ⟨D5, ns5, y5, y6, y7, rfl, hR5, hn5, hH5, hD5, u5, k5⟩
      -- if kind == 3
      obtain ⟨D6, ns6, y5, y6, y7, rfl, hR6, hn6, hH6, hD6, u6, k6⟩ := hM
      refine ⟨MidRim t H n k w (c + 2 + n + 3), ⟨.int k, rfl, rfl, _, rfl, ite2 (fun _ => ?_) (fun _ => ?_)⟩, fun σ' H7 hM => ?_⟩
      · refine ⟨.int n, rfl, n, 1, rfl, rfl, 1, n + 1, rfl, ⟨by omega, by omega, by omega, by omega⟩, fun D2 hD2 => ?_⟩
        refine lc_range (lo := 1) (n := (n + 1 - 1).toNat) (fun i H' => Same H6 H' ∧ ∃ ss : List Int, H' D2 = some (.lst (ss.map V.int)) ∧ (∀ s ∈ ss, 1 ≤ s ∧ s ≤ n ∧ n % s = 0) ∧ ss.length ≤ i ∧ (0 < i → 1 ≤ ss.length))
          ⟨new_same hD2, [], upd_same, fun s hs => (List.not_mem_nil hs).elim, Nat.le_refl _, fun z => absurd z (Nat.lt_irrefl _)⟩ (fun i H7 hi hP => ⟨rfl, ?_⟩) (fun H7 hP => ?_)
        · obtain ⟨s7, ss, hD7, hss, hsl, hs0⟩ := hP
          refine ⟨.int n, rfl, .inl ⟨n, rfl, .int (1 + i), rfl, n, 1 + i, rfl, rfl, (by show (0 : Int) < _; omega), rfl, _, rfl, ite2 (fun h => ?_) (fun h => ?_)⟩⟩
          · have hz : n % (1 + (i : Int)) = 0 := V.int.inj (of_decide_eq_true h)
            refine ⟨.int (1 + i), rfl, _, hD7, by rw [List.length_map]; exact sz40 (by omega), fun b o e => ?_, ss ++ [1 + (i : Int)], ?_, fun z hzz => ?_, ?_, fun _ => ?_⟩
            · rw [upd_ne (ne_of_none e hD2)]
              exact s7 b o e
            · rw [upd_same, List.map_append]
              rfl
            · rcases List.mem_append.mp hzz with h | h
              · exact hss z h
              · have e := List.mem_singleton.mp h
                subst e
                exact ⟨by omega, by omega, hz⟩
            · rw [List.length_append]
              show ss.length + 1 ≤ i + 1
              omega
            · rw [List.length_append]
              show 1 ≤ ss.length + 1
              omega
          · refine ⟨s7, ss, hD7, hss, by omega, fun _ => ?_⟩
            rcases Nat.eq_zero_or_pos i with z | z
            · subst z
              exact absurd (decide_eq_true (by show V.int (n % (1 + ((0 : Nat) : Int))) = V.int 0; rw [show n % (1 + ((0 : Nat) : Int)) = 0 by omega])) h
            · exact hs0 z
        · obtain ⟨s7, ss, hD7, hss, hsl, hs0⟩ := hP
          have hs1 := hs0 (by omega)
          have k7 := k6.same s7
          refine ⟨.ref D2, rfl, .ref t, rfl, .ref D2, rfl, D2, _, rfl, .inl (SqL.of hD7), t, _, c + 2 + n + 2, rfl, by rw [List.length_map]; omega, by rw [List.length_map]; omega, k7, by omega, fun v H8 v0 v1 k8 u8 => ?_⟩
          rw [List.length_map] at v1
          obtain ⟨sz, hsz, hats⟩ := at_in v0 v1
          obtain ⟨z1, z2, z3⟩ := hss sz (List.mem_of_getElem? hsz)
          have hD8 : H8 D2 = some (.lst (ss.map V.int)) := u8 _ _ hD7 (k6.ne hD2)
          refine ⟨D2, _, v, .int sz, rfl, rfl, SqL.of hD8, hats, ?_⟩
          have hDt : D6 ≠ t := fun e => by
            rw [e] at hH6
            rw [hH6] at hoT
            cases hoT
          have hR8 : H8 D6 = some (.lst (ns6.map V.int)) := u8 _ _ (s7 _ _ hD6) hDt
          refine ⟨.ref D6, rfl, .int sz, rfl, sz, rfl, D6, _, rfl, SqL.of hR8, fun p3 hp3 => ?_⟩
          have hcut := cut_take ns6 sz (by omega)
          have hdv : n / sz * sz = n := Int.ediv_mul_cancel (Int.dvd_of_emod_eq_zero z3)
          have hq0 : 0 ≤ n / sz := Int.ediv_nonneg (by omega) (by omega)
          have hqn : n / sz ≤ n := Int.ediv_le_self _ (by omega)
          have htl : (ns6.take sz.toNat).length = sz.toNat := by rw [List.length_take]; omega
          have hlen2 : (n / sz).toNat * sz.toNat = n.toNat := by
            have e1 : (((n / sz).toNat * sz.toNat : Nat) : Int) = n := by
              rw [Int.natCast_mul, Int.toNat_of_nonneg hq0, Int.toNat_of_nonneg (by omega), hdv]
            omega
          refine ⟨.int n, rfl, .int sz, rfl, n, sz, rfl, rfl, wide_div (b := 200) (by omega) (by omega) (by decide) (by decide), p3, n / sz, _, rfl, rfl, upd_same, by omega, by omega, ?_, fun p4 hp4 => ?_⟩
          · rw [hcut, List.length_map, htl, Nat.mul_comm, hlen2]
            exact sz40' (by omega)
          · have hHp : H p4 = none := free_but (((u6.trans (But.of s7)).trans u8).trans (But.of (new_same hp3))) hoT hp4 (by obtain ⟨o, e⟩ := (k8.up hp3).some; rw [e]; exact fun z => nomatch z)
            refine ⟨p4, (List.replicate (n / sz).toNat (ns6.take sz.toNat)).flatten, _, _, _, rfl, ⟨?_, ?_, fun z hz => ?_⟩, ?_, hHp, by rw [upd_same, hcut, rep_map], (((u6.trans (But.of s7)).trans u8).trans (But.of (new_same hp3))).trans (But.of (new_same hp4)), ((k8.mono (by omega)).up hp3).up hp4⟩
            · rw [rep_len, htl, hlen2]
              omega
            · rw [rep_len, htl, hlen2]
              omega
            · exact hR6.all z (List.mem_of_mem_take (rep_mem hz))
            · rw [rep_len, htl, hlen2]
              exact ek
      · exact ⟨D6, ns6, y5, y6, y7, rfl, hR6, hn6, hH6, hD6, u6, k6.mono (by omega)⟩
      -- return rim
      obtain ⟨D7, ns7, y5, y6, y7, rfl, hR7, hn7, hH7, hD7, u7, k7⟩ := hM
      exact ⟨.ref D7, rfl, q D7 ns7 H7 hR7 hn7 u7 hH7 hD7 (k7.mono (by omega))⟩

/-! ### slitdiscs.checks, over rims -/
def spIsInt : Sp := fun vs H Q _ => ∃ n : Int, vs = [.int n] ∧ Q (.bl true) H
theorem ok_is_integer (T : Txt K mg) : FnOk P w K mg base CX0 1 T.a_is_integer T.d_is_integer ["value"] spIsInt := by
  refine T.F_is_integer.ok sc_is_integer (fun vs H Q E h => ?_) (fun cdv A outer s H vs Q E hr h => ?_)
  · obtain ⟨_, rfl, _⟩ := h
    rfl
  · obtain ⟨n, rfl, q⟩ := h
    refine ⟨_, (pss_one (ps_ret (pe_and (pe_callB (isiL (K := K) rfl) (by rfl) T.n_isinstance (by decide +kernel) (pa_cons (pv 0) (pa_cons (pe_bltn (v := .ty "int") (u := Value.type "int") rfl T.n_int (by decide +kernel) rfl) pa_nil))) (pe_one (pe_not (pe_callB (isiL (K := K) rfl) (by rfl) T.n_isinstance (by decide +kernel) (pa_cons (pv 0) (pa_cons (pe_bltn (v := .ty "bool") (u := Value.type "bool") rfl T.n_bool (by decide +kernel) rfl) pa_nil)))))))), ?_⟩
    refine ⟨.int n, rfl, .int n, .ty "int", _, _, true, rfl, .ty _, .base (.int n), kit_int_int, true, rfl, iteT ?_⟩
    exact ⟨.int n, rfl, .int n, .ty "bool", _, _, false, rfl, .ty _, .base (.int n), kit_int_bool, false, rfl, q⟩
def spHasSlots (K : PySem.W.Frag) : Sp := fun vs H Q _ => ∃ (a : Addr) (xs : List V), vs = [.ref a] ∧ SqL K H a xs ∧ 1 ≤ xs.length ∧ xs.length ≤ 40 ∧ Q (.bl true) H
theorem ok_has_slots (T : Txt K mg) : FnOk P w K mg base CX0 1 T.a_has_slots T.d_has_slots ["value"] (spHasSlots K) := by
  refine T.F_has_slots.ok sc_has_slots (fun vs H Q E h => ?_) (fun cdv A outer s H vs Q E hr h => ?_)
  · obtain ⟨_, _, rfl, _⟩ := h
    rfl
  · obtain ⟨a, xs, rfl, hS, h1, h40, q⟩ := h
    refine ⟨_, (pss_one (ps_ret (pe_and (pe_callB (isiL (K := K) rfl) (by rfl) T.n_isinstance (by decide +kernel) (pa_cons (pv 0) (pa_cons (pe_bltn (v := .ty "list") (u := Value.type "list") rfl T.n_list (by decide +kernel) rfl) pa_nil))) (pe_one (pe_chain op_le op_le pe_int (pe_callB (lenL (K := K) rfl) (by rfl) T.n_len (by decide +kernel) (pa_cons (pv 0) pa_nil)) (pe_glob (v := .int (40)) rfl T.g_MOST_SLOTS ⟨_, rfl⟩)))))), ?_⟩
    refine ⟨.ref a, rfl, .ref a, .ty "list", _, _, true, rfl, .ty _, tyx_list hS, kit_list_list, true, rfl, iteT ?_⟩
    refine ⟨.ref a, rfl, a, _, rfl, .inl hS, 1, _, rfl, rfl, _, rfl, ?_⟩
    rw [if_pos (decide_eq_true (by omega))]
    refine ⟨_, 40, rfl, rfl, ?_⟩
    show Q (.bl (decide ((xs.length : Int) ≤ 40))) H
    rw [decide_eq_true (show (xs.length : Int) ≤ 40 by omega)]
    exact q
def spWrongLight (K : PySem.W.Frag) : Sp := fun vs H Q _ => ∃ (a : Addr) (ns : List Int) (m : Int), vs = [.ref a, .int m] ∧ SqL K H a (ns.map V.int) ∧ (∀ n ∈ ns, 0 ≤ n ∧ n ≤ m) ∧ ∀ H', Same H H' → Q .non H'
theorem ok_wrong_light (T : Txt K mg) : FnOk P w K mg base CX0 2 T.a_wrong_light T.d_wrong_light ["items", "most"] (spWrongLight K) := by
  have G_is_integer := ok_is_integer (P := P) (w := w) (base := base) T
  refine T.F_wrong_light.ok sc_wrong_light (fun vs H Q E h => ?_) (fun cdv A outer s H vs Q E hr h => ?_)
  · obtain ⟨_, _, _, rfl, _⟩ := h
    rfl
  · obtain ⟨a, ns, m, rfl, hS, hR, q⟩ := h
    refine ⟨_, (pss_cons (ps_for PassesOwn.never rfl (enumL (K := K) rfl (by rfl) T.n_enumerate (pa_cons (pv 0) pa_nil)) (pg_tupL (K := K) (n := 2) rfl rfl (pgs_cons (pg_name (i := 2) sc_wrong_light.nd rfl (.inl rfl)) (pgs_cons (pg_name (i := 3) sc_wrong_light.nd rfl (.inl rfl)) pgs_nil))) (pss_one (ps_if (PW.pt (pw_or (pt_not (pt_val (pe_call G_is_integer hr (by rfl) T.g_is_integer T.F_is_integer.kp T.b_is_integer .nil pass0 (pa_cons (pv 3) pa_nil)))) (pw_or1 (pt_not (pt_chain op_le op_le pe_int (pv 3) (pv 1)))))) (pss_one (ps_ret (pv 2))) pss_nil)))
      (pss_one (ps_ret pe_non))), ?_⟩
    refine ⟨.ref a, rfl, a, _, rfl, hS, for_it (walk_enum (K := K) (xs := ns.map V.int)) (fun i σ H' => ∃ y1 y2 : Option V, σ = [some (.ref a), some (.int m), y1, y2] ∧ Same H H')
      ⟨none, none, rfl, Same.refl H⟩ (fun i σ H' _ ⟨_, _, _, s2⟩ => s2.seq hS) (fun i x σ H1 H2 hi hP hY => ?_) (fun σ H1 hP => ?_)⟩
    · obtain ⟨y1, y2, rfl, s1⟩ := hP
      obtain ⟨p, z1, z2, rfl, hp, rfl, e1, e2⟩ := hY
      obtain ⟨n, hn, rfl⟩ := int_at e2
      have hb := hR n (List.mem_of_getElem? hn)
      refine ⟨p, _, rfl, SqT.of upd_same, rfl, _, _, rfl, _, _, rfl, rfl, ?_⟩
      refine ⟨.int n, rfl, n, rfl, true, rfl, iteF ?_⟩
      refine ⟨.int n, rfl, 0, n, rfl, rfl, _, rfl, ?_⟩
      rw [if_pos (decide_eq_true hb.1)]
      refine ⟨.int m, rfl, n, m, rfl, rfl, _, rfl, iteNS hb.2 ?_⟩
      exact ⟨_, _, rfl, s1.trans (new_same hp)⟩
    · obtain ⟨y1, y2, rfl, s1⟩ := hP
      exact q H1 s1
def spWrongSlot (K : PySem.W.Frag) : Sp := fun vs H Q _ => ∃ (a : Addr) (ns : List Int), vs = [.ref a] ∧ SqL K H a (ns.map V.int) ∧ Rim ns ∧ ∀ H', Same H H' → Q .non H'
theorem ok_wrong_slot (T : Txt K mg) : FnOk P w K mg base CX0 3 T.a_wrong_slot T.d_wrong_slot ["items"] (spWrongSlot K) := by
  have G_wrong_light := ok_wrong_light (P := P) (w := w) (base := base) T
  refine T.F_wrong_slot.ok sc_wrong_slot (fun vs H Q E h => ?_) (fun cdv A outer s H vs Q E hr h => ?_)
  · obtain ⟨_, _, rfl, _⟩ := h
    rfl
  · obtain ⟨a, ns, rfl, hS, hR, q⟩ := h
    refine ⟨_, (pss_one (ps_ret (pe_call G_wrong_light hr (by rfl) T.g_wrong_light T.F_wrong_light.kp T.b_wrong_light .nil pass0 (pa_cons (pv 0) (pa_cons (pe_glob (v := .int (1000000000000000000000000000000)) rfl T.g_MOST_LIGHT ⟨_, rfl⟩) pa_nil))))), ?_⟩
    exact ⟨.ref a, rfl, a, ns, _, rfl, hS, hR.all, q⟩
def spCheckDisc (K : PySem.W.Frag) : Sp := spWrongSlot K
theorem ok_check_disc (T : Txt K mg) : FnOk P w K mg base CX0 4 T.a_check_disc T.d_check_disc ["disc"] (spCheckDisc K) := by
  have G_has_slots := ok_has_slots (P := P) (w := w) (base := base) T
  have G_wrong_slot := ok_wrong_slot (P := P) (w := w) (base := base) T
  refine T.F_check_disc.ok sc_check_disc (fun vs H Q E h => ?_) (fun cdv A outer s H vs Q E hr h => ?_)
  · obtain ⟨_, _, rfl, _⟩ := h
    rfl
  · obtain ⟨a, ns, rfl, hS, hR, q⟩ := h
    refine ⟨_, (pss_cons (ps_if (pt_not (pt_val (pe_call G_has_slots (hr.mono (by decide)) (by rfl) T.g_has_slots T.F_has_slots.kp T.b_has_slots .nil pass0 (pa_cons (pv 0) pa_nil)))) (pss_one ps_never) pss_nil)
      (pss_cons (ps_set (i := 1) sc_check_disc.nd rfl (.inl rfl) (pe_call G_wrong_slot hr (by rfl) T.g_wrong_slot T.F_wrong_slot.kp T.b_wrong_slot .nil pass0 (pa_cons (pv 0) pa_nil)))
      (pss_one (ps_if (pt_cmpR op_notN (pv 1) pe_non (nomark _)) (pss_one ps_never) pss_nil)))), ?_⟩
    refine ⟨.ref a, rfl, a, _, rfl, hS, by rw [List.length_map]; exact hR.pos, by rw [List.length_map]; exact hR.le, true, rfl, iteF ?_⟩
    refine ⟨.ref a, rfl, a, ns, rfl, hS, hR, fun H1 s1 => ?_⟩
    refine ⟨.non, rfl, rfl, _, rfl, iteNS rfl ?_⟩
    exact q H1 s1

def spCheckTurn : Sp := fun vs H Q _ => ∃ n : Int, vs = [.int n] ∧ Q .non H
theorem ok_check_turn (T : Txt K mg) : FnOk P w K mg base CX0 2 T.a_check_turn T.d_check_turn ["turn"] spCheckTurn := by
  have G_is_integer := ok_is_integer (P := P) (w := w) (base := base) T
  refine T.F_check_turn.ok sc_check_turn (fun vs H Q E h => ?_) (fun cdv A outer s H vs Q E hr h => ?_)
  · obtain ⟨_, rfl, _⟩ := h
    rfl
  · obtain ⟨n, rfl, q⟩ := h
    refine ⟨_, (pss_one (ps_if (pt_not (pt_val (pe_call G_is_integer hr (by rfl) T.g_is_integer T.F_is_integer.kp T.b_is_integer .nil pass0 (pa_cons (pv 0) pa_nil)))) (pss_one ps_never) pss_nil)), ?_⟩
    exact ⟨.int n, rfl, n, rfl, true, rfl, iteF q⟩

def spCheckDiscs (K : PySem.W.Frag) : Sp := fun vs H Q _ => ∃ (a b : Addr) (ns ms : List Int), vs = [.ref a, .ref b] ∧ SqL K H a (ns.map V.int) ∧ SqL K H b (ms.map V.int) ∧ Rim ns ∧ Rim ms ∧ ns.length = ms.length ∧ ∀ H', Same H H' → Q .non H'
theorem ok_check_discs (T : Txt K mg) : FnOk P w K mg base CX0 5 T.a_check_discs T.d_check_discs ["disc", "other"] (spCheckDiscs K) := by
  have G_check_disc := ok_check_disc (P := P) (w := w) (base := base) T
  refine T.F_check_discs.ok sc_check_discs (fun vs H Q E h => ?_) (fun cdv A outer s H vs Q E hr h => ?_)
  · obtain ⟨_, _, _, _, rfl, _⟩ := h
    rfl
  · obtain ⟨a, b, ns, ms, rfl, hS, hS2, hR, hR2, hl, q⟩ := h
    refine ⟨_, (pss_cons (ps_expr (pe_call G_check_disc hr (by rfl) T.g_check_disc T.F_check_disc.kp T.b_check_disc .nil pass0 (pa_cons (pv 0) pa_nil)))
      (pss_cons (ps_expr (pe_call G_check_disc hr (by rfl) T.g_check_disc T.F_check_disc.kp T.b_check_disc .nil pass0 (pa_cons (pv 1) pa_nil)))
      (pss_one (ps_if (pt_cmpR op_ne (pe_callB (lenL (K := K) rfl) (by rfl) T.n_len (by decide +kernel) (pa_cons (pv 1) pa_nil)) (pe_callB (lenL (K := K) rfl) (by rfl) T.n_len (by decide +kernel) (pa_cons (pv 0) pa_nil)) (nomark _)) (pss_one ps_never) pss_nil)))), ?_⟩
    refine ⟨.ref a, rfl, a, ns, rfl, hS, hR, fun H1 s1 => ?_⟩
    refine ⟨.ref b, rfl, b, ms, rfl, s1.seq hS2, hR2, fun H2 s2 => ?_⟩
    refine ⟨.ref b, rfl, b, _, rfl, .inl ((s1.trans s2).seq hS2), .ref a, rfl, a, _, rfl, .inl ((s1.trans s2).seq hS), rfl, _, rfl, iteNS ?_ ?_⟩
    · rw [List.length_map, List.length_map, hl]
    · exact q H2 (s1.trans s2)

theorem ok_check_number (T : Txt K mg) : FnOk P w K mg base CX0 2 T.a_check_number T.d_check_number ["number"] spCheckTurn := by
  have G_is_integer := ok_is_integer (P := P) (w := w) (base := base) T
  refine T.F_check_number.ok sc_check_number (fun vs H Q E h => ?_) (fun cdv A outer s H vs Q E hr h => ?_)
  · obtain ⟨_, rfl, _⟩ := h
    rfl
  · obtain ⟨n, rfl, q⟩ := h
    refine ⟨_, (pss_one (ps_if (pt_not (pt_val (pe_call G_is_integer hr (by rfl) T.g_is_integer T.F_is_integer.kp T.b_is_integer .nil pass0 (pa_cons (pv 0) pa_nil)))) (pss_one ps_never) pss_nil)), ?_⟩
    exact ⟨.int n, rfl, n, rfl, true, rfl, iteF q⟩

def spCheckCount : Sp := fun vs H Q _ => ∃ n : Int, vs = [.int n] ∧ 0 ≤ n ∧ Q .non H
theorem ok_check_count (T : Txt K mg) : FnOk P w K mg base CX0 3 T.a_check_count T.d_check_count ["number"] spCheckCount := by
  have G_check_number := ok_check_number (P := P) (w := w) (base := base) T
  refine T.F_check_count.ok sc_check_count (fun vs H Q E h => ?_) (fun cdv A outer s H vs Q E hr h => ?_)
  · obtain ⟨_, rfl, _⟩ := h
    rfl
  · obtain ⟨n, rfl, h0, q⟩ := h
    refine ⟨_, (pss_cons (ps_expr (pe_call G_check_number hr (by rfl) T.g_check_number T.F_check_number.kp T.b_check_number .nil pass0 (pa_cons (pv 0) pa_nil)))
      (pss_one (ps_if (pt_cmpR op_lt (pv 0) pe_int (nomark _)) (pss_one ps_never) pss_nil))), ?_⟩
    refine ⟨.int n, rfl, n, rfl, .int n, rfl, n, 0, rfl, rfl, _, rfl, ite2 (fun h => ?_) (fun h => q)⟩
    have := of_decide_eq_true h
    omega

def spWrongInteger (K : PySem.W.Frag) : Sp := fun vs H Q _ => ∃ (a : Addr) (ns : List Int), vs = [.ref a] ∧ SqL K H a (ns.map V.int) ∧ ∀ H', Same H H' → Q .non H'
theorem ok_wrong_integer (T : Txt K mg) : FnOk P w K mg base CX0 2 T.a_wrong_integer T.d_wrong_integer ["items"] (spWrongInteger K) := by
  have G_is_integer := ok_is_integer (P := P) (w := w) (base := base) T
  refine T.F_wrong_integer.ok sc_wrong_integer (fun vs H Q E h => ?_) (fun cdv A outer s H vs Q E hr h => ?_)
  · obtain ⟨_, _, rfl, _⟩ := h
    rfl
  · obtain ⟨a, ns, rfl, hS, q⟩ := h
    refine ⟨_, (pss_cons (ps_for PassesOwn.never rfl (enumL (K := K) rfl (by rfl) T.n_enumerate (pa_cons (pv 0) pa_nil)) (pg_tupL (K := K) (n := 2) rfl rfl (pgs_cons (pg_name (i := 1) sc_wrong_integer.nd rfl (.inl rfl)) (pgs_cons (pg_name (i := 2) sc_wrong_integer.nd rfl (.inl rfl)) pgs_nil))) (pss_one (ps_if (pt_not (pt_val (pe_call G_is_integer hr (by rfl) T.g_is_integer T.F_is_integer.kp T.b_is_integer .nil pass0 (pa_cons (pv 2) pa_nil)))) (pss_one (ps_ret (pv 1))) pss_nil)))
      (pss_one (ps_ret pe_non))), ?_⟩
    refine ⟨.ref a, rfl, a, _, rfl, hS, for_it (walk_enum (K := K) (xs := ns.map V.int)) (fun i σ H' => ∃ y1 y2 : Option V, σ = [some (.ref a), y1, y2] ∧ Same H H')
      ⟨none, none, rfl, Same.refl H⟩ (fun i σ H' _ ⟨_, _, _, s2⟩ => s2.seq hS) (fun i x σ H1 H2 hi hP hY => ?_) (fun σ H1 hP => ?_)⟩
    · obtain ⟨y1, y2, rfl, s1⟩ := hP
      obtain ⟨p, z1, z2, rfl, hp, rfl, e1, e2⟩ := hY
      obtain ⟨m, hm, rfl⟩ := int_at e2
      refine ⟨p, _, rfl, SqT.of upd_same, rfl, _, _, rfl, _, _, rfl, rfl, ?_⟩
      refine ⟨.int m, rfl, m, rfl, true, rfl, iteF ?_⟩
      exact ⟨_, _, rfl, s1.trans (new_same hp)⟩
    · obtain ⟨y1, y2, rfl, s1⟩ := hP
      exact q H1 s1
def spCheckSoMany (K : PySem.W.Frag) : Sp := fun vs H Q _ => ∃ (a : Addr) (ns : List Int) (lo hi : Int), vs = [.ref a, .int lo, .int hi] ∧ SqL K H a (ns.map V.int) ∧ lo ≤ (ns.length : Int) ∧ (ns.length : Int) ≤ hi ∧ ∀ H', Same H H' → Q .non H'
theorem ok_check_so_many_lights (T : Txt K mg) : FnOk P w K mg base CX0 3 T.a_check_so_many_lights T.d_check_so_many_lights ["lights", "least", "most"] (spCheckSoMany K) := by
  have G_wrong_integer := ok_wrong_integer (P := P) (w := w) (base := base) T
  refine T.F_check_so_many_lights.ok sc_check_so_many_lights (fun vs H Q E h => ?_) (fun cdv A outer s H vs Q E hr h => ?_)
  · obtain ⟨_, _, _, _, rfl, _⟩ := h
    rfl
  · obtain ⟨a, ns, lo, hi, rfl, hS, h1, h2, q⟩ := h
    refine ⟨_, (pss_cons (ps_if (PW.pt (pw_or (pt_not (pt_val (pe_callB (isiL (K := K) rfl) (by rfl) T.n_isinstance (by decide +kernel) (pa_cons (pv 0) (pa_cons (pe_bltn (v := .ty "list") (u := Value.type "list") rfl T.n_list (by decide +kernel) rfl) pa_nil))))) (pw_or1 (pt_not (pt_chain op_le op_le (pv 1) (pe_callB (lenL (K := K) rfl) (by rfl) T.n_len (by decide +kernel) (pa_cons (pv 0) pa_nil)) (pv 2)))))) (pss_one ps_never) pss_nil)
      (pss_cons (ps_set (i := 3) sc_check_so_many_lights.nd rfl (.inl rfl) (pe_call G_wrong_integer hr (by rfl) T.g_wrong_integer T.F_wrong_integer.kp T.b_wrong_integer .nil pass0 (pa_cons (pv 0) pa_nil)))
      (pss_one (ps_if (pt_cmpR op_notN (pv 3) pe_non (nomark _)) (pss_one ps_never) pss_nil)))), ?_⟩
    refine ⟨.ref a, rfl, .ref a, .ty "list", _, _, true, rfl, .ty _, tyx_list hS, kit_list_list, true, rfl, iteF ?_⟩
    refine ⟨.int lo, rfl, .ref a, rfl, a, _, rfl, .inl hS, lo, _, rfl, rfl, _, rfl, ?_⟩
    rw [List.length_map, if_pos (decide_eq_true h1)]
    refine ⟨.int hi, rfl, _, hi, rfl, rfl, _, rfl, iteNS h2 ?_⟩
    refine ⟨.ref a, rfl, a, ns, rfl, hS, fun H1 s1 => ?_⟩
    refine ⟨.non, rfl, rfl, _, rfl, iteNS rfl ?_⟩
    exact q H1 s1

/-! ### slitdiscs.rings -/
def rg (ns ms : List Int) : Int → Int := ringAt ns ms
def spCheckRings (K : PySem.W.Frag) : Sp := fun vs H Q _ => ∃ (a b : Addr) (ns ms : List Int), vs = [.ref a, .ref b] ∧ SqL K H a (ns.map V.int) ∧ SqL K H b (ms.map V.int) ∧ Rim ns ∧ Rim ms ∧ ∀ H', Same H H' → Q .non H'
theorem ok_check_rings (T : Txt K mg) : FnOk P w K mg base CX0 5 T.a_check_rings T.d_check_rings ["disc", "other"] (spCheckRings K) := by
  have G_check_disc := ok_check_disc (P := P) (w := w) (base := base) T
  refine T.F_check_rings.ok sc_check_rings (fun vs H Q E h => ?_) (fun cdv A outer s H vs Q E hr h => ?_)
  · obtain ⟨_, _, _, _, rfl, _⟩ := h
    rfl
  · obtain ⟨a, b, ns, ms, rfl, hS, hS2, hR, hR2, q⟩ := h
    refine ⟨_, (pss_cons (ps_expr (pe_call G_check_disc hr (by rfl) T.g_check_disc T.F_check_disc.kp T.b_check_disc .nil pass0 (pa_cons (pv 0) pa_nil)))
      (pss_one (ps_expr (pe_call G_check_disc hr (by rfl) T.g_check_disc T.F_check_disc.kp T.b_check_disc .nil pass0 (pa_cons (pv 1) pa_nil))))), ?_⟩
    refine ⟨.ref a, rfl, a, ns, rfl, hS, hR, fun H1 s1 => ?_⟩
    exact ⟨.ref b, rfl, b, ms, rfl, s1.seq hS2, hR2, fun H2 s2 => q H2 (s1.trans s2)⟩
/-- an item at a tick -/
theorem at_tick {ns : List Int} (h : 1 ≤ ns.length) (t : Int) : atI (ns.map V.int) (t % (ns.length : Int)) = some (.int (ns.getD ((t % (ns.length : Int)).toNat) 0)) := by
  have hm := mod_in (i := t) (show 0 < ns.length by omega)
  obtain ⟨n, hn, hat⟩ := at_in hm.1 hm.2
  rw [hat, getD_at hn]
def spRingLight (K : PySem.W.Frag) : Sp := fun vs H Q _ => ∃ (a b : Addr) (ns ms : List Int) (t : Int), vs = [.ref a, .ref b, .int t] ∧ SqL K H a (ns.map V.int) ∧ SqL K H b (ms.map V.int) ∧ Rim ns ∧ Rim ms ∧ 0 ≤ t ∧ ∀ H', Same H H' → Q (.int (ringAt ns ms t)) H'
theorem ok_ring_light (T : Txt K mg) : FnOk P w K mg base CX0 6 T.a_ring_light T.d_ring_light ["disc", "other", "tick"] (spRingLight K) := by
  have G_check_rings := ok_check_rings (P := P) (w := w) (base := base) T
  have G_check_count := ok_check_count (P := P) (w := w) (base := base) T
  refine T.F_ring_light.ok sc_ring_light (fun vs H Q E h => ?_) (fun cdv A outer s H vs Q E hr h => ?_)
  · obtain ⟨_, _, _, _, _, rfl, _⟩ := h
    rfl
  · obtain ⟨a, b, ns, ms, t, rfl, hS, hS2, hR, hR2, h0, q⟩ := h
    refine ⟨_, (pss_cons (ps_expr (pe_call G_check_rings hr (by rfl) T.g_check_rings T.F_check_rings.kp T.b_check_rings .nil pass0 (pa_cons (pv 0) (pa_cons (pv 1) pa_nil))))
      (pss_cons (ps_expr (pe_call G_check_count (hr.mono (by decide)) (by rfl) T.g_check_count T.F_check_count.kp T.b_check_count .nil pass0 (pa_cons (pv 2) pa_nil)))
      (pss_one (ps_ret (pe_op op_mulW (pe_ix (ixL (K := K) rfl) (pv 0) (pe_op op_mod (pv 2) (pe_callB (lenL (K := K) rfl) (by rfl) T.n_len (by decide +kernel) (pa_cons (pv 0) pa_nil))) (fun _ _ => rfl)) (pe_ix (ixL (K := K) rfl) (pv 1) (pe_op op_mod (pv 2) (pe_callB (lenL (K := K) rfl) (by rfl) T.n_len (by decide +kernel) (pa_cons (pv 1) pa_nil))) (fun _ _ => rfl))))))), ?_⟩
    have p1 := hR.pos
    have p2 := hR2.pos
    refine ⟨.ref a, rfl, .ref b, rfl, a, b, ns, ms, rfl, hS, hS2, hR, hR2, fun H1 s1 => ?_⟩
    refine ⟨.int t, rfl, t, rfl, h0, ?_⟩
    refine ⟨.ref a, rfl, .int t, rfl, .ref a, rfl, a, _, rfl, .inl (s1.seq hS), t, _, rfl, rfl, (by show (0 : Int) < _; rw [List.length_map]; omega), ?_⟩
    rw [List.length_map]
    refine ⟨a, _, _, _, rfl, rfl, s1.seq hS, at_tick hR.pos t, ?_⟩
    refine ⟨.ref b, rfl, .int t, rfl, .ref b, rfl, b, _, rfl, .inl (s1.seq hS2), t, _, rfl, rfl, (by show (0 : Int) < _; rw [List.length_map]; omega), ?_⟩
    rw [List.length_map]
    exact ⟨b, _, _, _, rfl, rfl, s1.seq hS2, at_tick hR2.pos t, _, _, rfl, rfl, wide_mul (hR.getD _).2 (hR2.getD _).2 (by decide) (by decide) (by decide), q H1 s1⟩
def spLightsFrom (K : PySem.W.Frag) : Sp := fun vs H Q _ => ∃ (a b : Addr) (ns ms : List Int) (f : Int), vs = [.ref a, .ref b, .int f] ∧ SqL K H a (ns.map V.int) ∧ SqL K H b (ms.map V.int) ∧ Rim ns ∧ Rim ms ∧
  ∀ (l : Addr) (H' : Hp), Same H H' → H l = none → H' l = some (.lst ((seqG (ringAt ns ms) f (ringW ns ms)).map V.int)) → Q (.ref l) H'
theorem ringW_1600 {ns ms : List Int} (h1 : Rim ns) (h2 : Rim ms) : ringW ns ms ≤ 1600 := by
  have := ringW_le (ns := ns) (ms := ms)
  have a := h1.le
  have b := h2.le
  have := Nat.mul_le_mul a b
  omega
theorem ok_lights_from (T : Txt K mg) : FnOk P w K mg base CX0 1 T.a_lights_from T.d_lights_from ["disc", "other", "first"] (spLightsFrom K) := by
  refine T.F_lights_from.ok sc_lights_from (fun vs H Q E h => ?_) (fun cdv A outer s H vs Q E hr h => ?_)
  · obtain ⟨_, _, _, _, _, rfl, _⟩ := h
    rfl
  · obtain ⟨a, b, ns, ms, f, rfl, hS, hS2, hR, hR2, q⟩ := h
    refine ⟨_, (pss_cons (ps_set (i := 3) sc_lights_from.nd rfl (.inl rfl) (pe_callBfun cr_lcm (by rfl) T.i_lcm (pa_cons (pe_callB (lenL (K := K) rfl) (by rfl) T.n_len (by decide +kernel) (pa_cons (pv 0) pa_nil)) (pa_cons (pe_callB (lenL (K := K) rfl) (by rfl) T.n_len (by decide +kernel) (pa_cons (pv 1) pa_nil)) pa_nil))))
      (pss_one (ps_ret (pe_lc (own := [("tick", 4)]) (g := gName 4) (tt := tYes) (by rfl) sc_lights_from.nd (pi_range1 (by rfl) T.n_range (pa_cons (pv 3) pa_nil)) (blkOk_by (own := [("tick", 4)]) (N := ["disc", "other", "first", "ticks", "tick"]) (sc := defScope s_lights_from) (by decide +kernel))
        (fun _ _ _ _ _ => (pg_name (i := 4) sc_lights_from.nd rfl (Or.inl rfl))) (fun _ _ _ _ _ => pts_nil) (fun _ _ _ _ _ => (pe_op op_mulW (pe_ix (ixL (K := K) rfl) (pv 0) (pe_op op_mod (pe_op op_add (pv 2) (pv 4)) (pe_callB (lenL (K := K) rfl) (by rfl) T.n_len (by decide +kernel) (pa_cons (pv 0) pa_nil))) (fun _ _ => rfl)) (pe_ix (ixL (K := K) rfl) (pv 1) (pe_op op_mod (pe_op op_add (pv 2) (pv 4)) (pe_callB (lenL (K := K) rfl) (by rfl) T.n_len (by decide +kernel) (pa_cons (pv 1) pa_nil))) (fun _ _ => rfl)))))))), ?_⟩
    have p1 := hR.pos
    have p2 := hR2.pos
    have l1 := hR.le
    have l2 := hR2.le
    have w1 := ringW_1600 hR hR2
    refine ⟨.ref a, rfl, a, _, rfl, .inl hS, .ref b, rfl, b, _, rfl, .inl hS2, ?_⟩
    rw [List.length_map, List.length_map]
    refine ⟨ns.length, ms.length, rfl, by omega, by omega, ?_⟩
    show _
    refine ⟨.int (ringW ns ms), rfl, ringW ns ms, rfl, by omega, by omega, fun D hD => lc_range (lo := 0) (n := ((ringW ns ms : Nat) : Int).toNat)
      (fun i H' => Same H H' ∧ H' D = some (.lst (((seqG (ringAt ns ms) f (ringW ns ms)).take i).map V.int))) ⟨new_same hD, upd_same⟩ (fun i H1 hi hP => ⟨rfl, ?_⟩) (fun H1 hP => ?_)⟩
    · obtain ⟨s1, hD1⟩ := hP
      rw [Int.toNat_natCast] at hi
      refine ⟨.ref a, rfl, .int f, rfl, .int (0 + i), rfl, f, 0 + i, rfl, rfl, .ref a, rfl, a, _, rfl, .inl (s1.seq hS), _, _, rfl, rfl, (by show (0 : Int) < _; rw [List.length_map]; omega), ?_⟩
      rw [List.length_map, Int.zero_add]
      refine ⟨a, _, _, _, rfl, rfl, s1.seq hS, at_tick hR.pos _, ?_⟩
      refine ⟨.ref b, rfl, .int f, rfl, .int i, rfl, f, i, rfl, rfl, .ref b, rfl, b, _, rfl, .inl (s1.seq hS2), _, _, rfl, rfl, (by show (0 : Int) < _; rw [List.length_map]; omega), ?_⟩
      rw [List.length_map]
      refine ⟨b, _, _, _, rfl, rfl, s1.seq hS2, at_tick hR2.pos _, _, _, rfl, rfl, wide_mul (hR.getD _).2 (hR2.getD _).2 (by decide) (by decide) (by decide), ?_⟩
      refine ⟨_, hD1, ?_, same_over s1 hD, ?_⟩
      · rw [List.length_map, List.length_take]
        exact sz40 (by omega)
      · rw [upd_same, take_next]
        rw [seqG_at hi]
        rfl
    · obtain ⟨s1, hD1⟩ := hP
      rw [Int.toNat_natCast, take_all (by rw [seqG_len]; exact Nat.le_refl _)] at hD1
      exact q D H1 s1 hD hD1
def spRingSum (K : PySem.W.Frag) : Sp := fun vs H Q _ => ∃ (a b : Addr) (ns ms : List Int) (f N : Int), vs = [.ref a, .ref b, .int f, .int N] ∧ SqL K H a (ns.map V.int) ∧ SqL K H b (ms.map V.int) ∧ Rim ns ∧ Rim ms ∧ 0 ≤ f ∧ 0 ≤ N ∧ N.natAbs < 2 ^ 200 ∧
  ∀ H', Same H H' → Q (.int (farG (ringAt ns ms) (ringW ns ms) f N)) H'
theorem ok_ring_sum (T : Txt K mg) : FnOk P w K mg base CX0 6 T.a_ring_sum T.d_ring_sum ["disc", "other", "first", "many"] (spRingSum K) := by
  have G_check_rings := ok_check_rings (P := P) (w := w) (base := base) T
  have G_check_count := ok_check_count (P := P) (w := w) (base := base) T
  have G_lights_from := ok_lights_from (P := P) (w := w) (base := base) T
  refine T.F_ring_sum.ok sc_ring_sum (fun vs H Q E h => ?_) (fun cdv A outer s H vs Q E hr h => ?_)
  · obtain ⟨_, _, _, _, _, _, rfl, _⟩ := h
    rfl
  · obtain ⟨a, b, ns, ms, f, N, rfl, hS, hS2, hR, hR2, hf, hN0, hN, q⟩ := h
    refine ⟨_, (pss_cons (ps_expr (pe_call G_check_rings hr (by rfl) T.g_check_rings T.F_check_rings.kp T.b_check_rings .nil pass0 (pa_cons (pv 0) (pa_cons (pv 1) pa_nil))))
      (pss_cons (ps_expr (pe_call G_check_count (hr.mono (by decide)) (by rfl) T.g_check_count T.F_check_count.kp T.b_check_count .nil pass0 (pa_cons (pv 2) pa_nil)))
      (pss_cons (ps_expr (pe_call G_check_count (hr.mono (by decide)) (by rfl) T.g_check_count T.F_check_count.kp T.b_check_count .nil pass0 (pa_cons (pv 3) pa_nil)))
      (pss_cons (ps_set (i := 4) sc_ring_sum.nd rfl (.inl rfl) (pe_call G_lights_from (hr.mono (by decide)) (by rfl) T.g_lights_from T.F_lights_from.kp T.b_lights_from .nil pass0 (pa_cons (pv 0) (pa_cons (pv 1) (pa_cons (pv 2) pa_nil)))))
      (pss_cons (ps_asg (pe_callB call_divmod (by rfl) T.n_divmod (by decide +kernel) (pa_cons (pv 3) (pa_cons (pe_callB (lenL (K := K) rfl) (by rfl) T.n_len (by decide +kernel) (pa_cons (pv 4) pa_nil)) pa_nil))) (pg_tupL (K := K) (n := 2) rfl rfl (pgs_cons (pg_name (i := 5) sc_ring_sum.nd rfl (.inl rfl)) (pgs_cons (pg_name (i := 6) sc_ring_sum.nd rfl (.inl rfl)) pgs_nil))))
      (pss_one (ps_ret (pe_op op_add (pe_op op_mulW (pv 5) (pe_callB (sumL (K := K) rfl rfl) (by rfl) T.n_sum (by decide +kernel) (pa_cons (pv 4) pa_nil))) (pe_callB (sumL (K := K) rfl rfl) (by rfl) T.n_sum (by decide +kernel) (pa_cons (pe_slice (slL (K := K) rfl) (pv 4) po_none (po_some (pv 6))) pa_nil)))))))))), ?_⟩
    have w1 := ringW_1600 hR hR2
    have w0 := ringW_pos hR.pos hR2.pos
    have hm := mod_in (i := N) w0
    have hq : 0 ≤ N / (ringW ns ms : Int) := Int.ediv_nonneg hN0 (by omega)
    have hqn : N / (ringW ns ms : Int) ≤ N := Int.ediv_le_self _ hN0
    refine ⟨.ref a, rfl, .ref b, rfl, a, b, ns, ms, rfl, hS, hS2, hR, hR2, fun H1 s1 => ?_⟩
    refine ⟨.int f, rfl, f, rfl, hf, .int N, rfl, N, rfl, hN0, ?_⟩
    refine ⟨.ref a, rfl, .ref b, rfl, .int f, rfl, a, b, ns, ms, f, rfl, s1.seq hS, s1.seq hS2, hR, hR2, fun l H2 s2 h2 e2 => ?_⟩
    refine ⟨.int N, rfl, .ref l, rfl, l, _, rfl, .inl (SqL.of e2), ?_⟩
    rw [List.length_map, seqG_len]
    refine ⟨N, ringW ns ms, rfl, ⟨by omega, by omega⟩, fun p hp => ?_⟩
    refine ⟨p, _, rfl, SqT.of upd_same, rfl, _, _, rfl, _, _, rfl, rfl, ?_⟩
    have s3 := new_same (o := .tup [.int (N / (ringW ns ms : Int)), .int (N % (ringW ns ms : Int))]) hp
    refine ⟨.int (N / (ringW ns ms : Int)), rfl, .ref l, rfl, l, _, rfl, SqL.of (s3 _ _ e2), ?_⟩
    refine ⟨_, _, rfl, rfl, wide_mul (a := 200) (b := 212) (by omega) (sum_ltk (j := 12) (ringL_ab hR hR2 f _) (by rw [seqG_len]; omega)) (by decide) (by decide) (by decide), ?_⟩
    refine ⟨.ref l, rfl, .int (N % (ringW ns ms : Int)), rfl, _, rfl, l, _, rfl, SqL.of (s3 _ _ e2), fun p2 hp2 => ?_⟩
    have s4 := new_same (o := .lst (cutV ((seqG (ringAt ns ms) f (ringW ns ms)).map V.int) none (some (N % (ringW ns ms : Int))))) hp2
    have ec : cutV ((seqG (ringAt ns ms) f (ringW ns ms)).map V.int) none (some (N % (ringW ns ms : Int))) = (seqG (ringAt ns ms) f (N % (ringW ns ms : Int)).toNat).map V.int := by
      rw [cut_take _ _ hm.1, seqG_take (by omega)]
    refine ⟨p2, seqG (ringAt ns ms) f (N % (ringW ns ms : Int)).toNat, rfl, SqL.of (by rw [upd_same, ec]), ?_⟩
    exact ⟨_, _, rfl, rfl, q _ (((s1.trans s2).trans s3).trans s4)⟩
def spFirstTick (K : PySem.W.Frag) : Sp := fun vs H Q _ => ∃ (a b : Addr) (ns ms : List Int) (f m : Int), vs = [.ref a, .ref b, .int f, .int m] ∧ SqL K H a (ns.map V.int) ∧ SqL K H b (ms.map V.int) ∧ Rim ns ∧ Rim ms ∧ 0 ≤ f ∧
  ∀ H', Same H H' → Q (firstV f (firstG (ringAt ns ms) m f (ringW ns ms))) H'
theorem ok_first_tick (T : Txt K mg) : FnOk P w K mg base CX0 6 T.a_first_tick T.d_first_tick ["disc", "other", "first", "light"] (spFirstTick K) := by
  have G_check_rings := ok_check_rings (P := P) (w := w) (base := base) T
  have G_check_count := ok_check_count (P := P) (w := w) (base := base) T
  have G_check_number := ok_check_number (P := P) (w := w) (base := base) T
  have G_lights_from := ok_lights_from (P := P) (w := w) (base := base) T
  refine T.F_first_tick.ok sc_first_tick (fun vs H Q E h => ?_) (fun cdv A outer s H vs Q E hr h => ?_)
  · obtain ⟨_, _, _, _, _, _, rfl, _⟩ := h
    rfl
  · obtain ⟨a, b, ns, ms, f, m, rfl, hS, hS2, hR, hR2, hf, q⟩ := h
    refine ⟨_, (pss_cons (ps_expr (pe_call G_check_rings hr (by rfl) T.g_check_rings T.F_check_rings.kp T.b_check_rings .nil pass0 (pa_cons (pv 0) (pa_cons (pv 1) pa_nil))))
      (pss_cons (ps_expr (pe_call G_check_count (hr.mono (by decide)) (by rfl) T.g_check_count T.F_check_count.kp T.b_check_count .nil pass0 (pa_cons (pv 2) pa_nil)))
      (pss_cons (ps_expr (pe_call G_check_number (hr.mono (by decide)) (by rfl) T.g_check_number T.F_check_number.kp T.b_check_number .nil pass0 (pa_cons (pv 3) pa_nil)))
      (pss_cons (ps_for PassesOwn.never rfl (enumL (K := K) rfl (by rfl) T.n_enumerate (pa_cons (pe_call G_lights_from (hr.mono (by decide)) (by rfl) T.g_lights_from T.F_lights_from.kp T.b_lights_from .nil pass0 (pa_cons (pv 0) (pa_cons (pv 1) (pa_cons (pv 2) pa_nil)))) pa_nil)) (pg_tupL (K := K) (n := 2) rfl rfl (pgs_cons (pg_name (i := 4) sc_first_tick.nd rfl (.inl rfl)) (pgs_cons (pg_name (i := 5) sc_first_tick.nd rfl (.inl rfl)) pgs_nil))) (pss_one (ps_if (pt_cmpR op_ge (pv 5) (pv 3) (nomark _)) (pss_one (ps_ret (pe_op op_add (pv 2) (pv 4)))) pss_nil)))
      (pss_one (ps_ret pe_non)))))), ?_⟩
    refine ⟨.ref a, rfl, .ref b, rfl, a, b, ns, ms, rfl, hS, hS2, hR, hR2, fun H1 s1 => ?_⟩
    refine ⟨.int f, rfl, f, rfl, hf, .int m, rfl, m, rfl, ?_⟩
    refine ⟨.ref a, rfl, .ref b, rfl, .int f, rfl, a, b, ns, ms, f, rfl, s1.seq hS, s1.seq hS2, hR, hR2, fun l H2 s2 h2 e2 => ?_⟩
    refine ⟨l, _, rfl, SqL.of e2, for_it (walk_enum (K := K) (xs := (seqG (ringAt ns ms) f (ringW ns ms)).map V.int))
      (fun i σ H' => ∃ y1 y2 : Option V, σ = [some (.ref a), some (.ref b), some (.int f), some (.int m), y1, y2] ∧ Same H2 H' ∧ ∀ j : Nat, j < i → ¬ m ≤ ringAt ns ms (f + (j : Int)))
      ⟨none, none, rfl, Same.refl H2, fun j hj => absurd hj (Nat.not_lt_zero j)⟩ (fun i σ H' _ ⟨_, _, _, s3, _⟩ => s3.seq (SqL.of e2)) (fun i x σ H3 H4 hi hP hY => ?_) (fun σ H3 hP => ?_)⟩
    · obtain ⟨y1, y2, rfl, s3, hno⟩ := hP
      obtain ⟨p, z1, z2, rfl, hp, rfl, e3, e4⟩ := hY
      have e3 : V.int (i : Int) = z1 := Option.some.inj e3
      subst e3
      obtain ⟨x, hx, rfl⟩ := int_at e4
      rw [List.length_map, seqG_len] at hi
      rw [seqG_at hi] at hx
      have hx := Option.some.inj hx
      have s4 := s3.trans (new_same (o := .tup [.int i, .int x]) hp)
      refine ⟨p, _, rfl, SqT.of upd_same, rfl, _, _, rfl, _, _, rfl, rfl, ?_⟩
      refine ⟨.int x, rfl, .int m, rfl, x, m, rfl, rfl, _, rfl, ite2 (fun h => ?_) (fun h => ?_)⟩
      · have hge := of_decide_eq_true h
        refine ⟨.int f, rfl, .int i, rfl, f, i, rfl, rfl, ?_⟩
        have z := q _ ((s1.trans s2).trans s4)
        rw [firstG_some.mpr ⟨hi, by rw [hx]; exact hge, hno⟩] at z
        exact z
      · refine ⟨_, _, rfl, s4, fun j hj => ?_⟩
        rcases Nat.lt_or_ge j i with z | z
        · exact hno j z
        · have : j = i := by omega
          subst this
          rw [hx]
          exact fun e => h (decide_eq_true e)
    · obtain ⟨y1, y2, rfl, s3, hno⟩ := hP
      rw [List.length_map, seqG_len] at hno
      have z := q _ ((s1.trans s2).trans s3)
      rw [firstG_none.mpr hno] at z
      exact z

def spLRound (K : PySem.W.Frag) : Sp := fun vs H Q _ => ∃ (a b : Addr) (ns ms : List Int), vs = [.ref a, .ref b] ∧ SqL K H a (ns.map V.int) ∧ SqL K H b (ms.map V.int) ∧ Rim ns ∧ Rim ms ∧ Q (.int (ringW ns ms)) H
theorem ok_law_round (T : Txt K mg) : FnOk P w K mg base CX0 1 T.a_law_round T.d_law_round ["rim", "mate"] (spLRound K) := by
  refine T.F_law_round.ok sc_law_round (fun vs H Q E h => ?_) (fun cdv A outer s H vs Q E hr h => ?_)
  · obtain ⟨_, _, _, _, rfl, _⟩ := h
    rfl
  · obtain ⟨a, b, ns, ms, rfl, hS, hS2, hR, hR2, q⟩ := h
    refine ⟨_, (pss_cons (ps_set (i := 2) sc_law_round.nd rfl (.inl rfl) pe_int)
      (pss_cons (ps_while PassesOwn.never (PW.pt (pw_or (pt_cmpR op_ne (pe_op op_mod (pe_callTy call_int1 (by rfl) T.n_int (by decide +kernel) (pa_cons (pv 2) pa_nil)) (pe_callB (lenL (K := K) rfl) (by rfl) T.n_len (by decide +kernel) (pa_cons (pv 0) pa_nil))) pe_int (nomark _)) (pw_or1 (pt_cmpR op_ne (pe_op op_mod (pe_callTy call_int1 (by rfl) T.n_int (by decide +kernel) (pa_cons (pv 2) pa_nil)) (pe_callB (lenL (K := K) rfl) (by rfl) T.n_len (by decide +kernel) (pa_cons (pv 1) pa_nil))) pe_int (nomark _))))) (pss_one (ps_set (i := 2) sc_law_round.nd rfl (.inl rfl) (pe_op op_add (pv 2) pe_int))))
      (pss_one (ps_ret (pv 2))))), ?_⟩
    have p1 := hR.pos
    have p2 := hR2.pos
    have w0 := ringW_pos p1 p2
    have d1 : ns.length ∣ ringW ns ms := Nat.dvd_lcm_left _ _
    have d2 : ms.length ∣ ringW ns ms := Nat.dvd_lcm_right _ _
    refine ⟨fun m σ H' => ∃ k : Nat, σ = [some (.ref a), some (.ref b), some (.int k)] ∧ 1 ≤ k ∧ k ≤ ringW ns ms ∧ m = ringW ns ms - k ∧ H' = H, ⟨_, 1, rfl, Nat.le_refl _, w0, rfl, rfl⟩, fun m σ H' hW => ?_⟩
    obtain ⟨k, rfl, k1, kW, rfl, rfl⟩ := hW
    have go : ¬ (ns.length ∣ k ∧ ms.length ∣ k) → ∃ N : L2.St → Hp → Prop, (∀ σ' H'', N σ' H'' → ∃ m', m' < ringW ns ms - k ∧ ∃ k' : Nat, σ' = [some (.ref a), some (.ref b), some (.int k')] ∧ 1 ≤ k' ∧ k' ≤ ringW ns ms ∧ m' = ringW ns ms - k' ∧ H'' = H') ∧ N [some (.ref a), some (.ref b), some (.int ((k : Int) + 1))] H' := fun hno => by
      have hk : k ≠ ringW ns ms := fun e => hno (by rw [e]; exact ⟨d1, d2⟩)
      exact ⟨fun σ' H'' => σ' = [some (.ref a), some (.ref b), some (.int ((k + 1 : Nat) : Int))] ∧ H'' = H', fun σ' H'' ⟨e1, e2⟩ => ⟨ringW ns ms - (k + 1), by omega, k + 1, e1, by omega, by omega, rfl, e2⟩, rfl, rfl⟩
    have dv : ∀ n : Nat, ((k : Int) % (n : Int) = 0) ↔ n ∣ k := fun n => by
      constructor
      · intro e
        exact Int.natCast_dvd_natCast.mp (Int.dvd_of_emod_eq_zero e)
      · intro d
        exact Int.emod_eq_zero_of_dvd (Int.natCast_dvd_natCast.mpr d)
    refine ⟨.int k, rfl, .inl ⟨k, rfl, .ref a, rfl, a, _, rfl, .inl hS, k, _, rfl, rfl, (by show (0 : Int) < _; rw [List.length_map]; omega), rfl, _, rfl, ?_⟩⟩
    rw [List.length_map]
    by_cases e1 : V.int ((k : Int) % (ns.length : Int)) = V.int 0
    · refine iteNS e1 ?_
      refine ⟨.int k, rfl, .inl ⟨k, rfl, .ref b, rfl, b, _, rfl, .inl hS2, k, _, rfl, rfl, (by show (0 : Int) < _; rw [List.length_map]; omega), rfl, _, rfl, ?_⟩⟩
      rw [List.length_map]
      by_cases e2 : V.int ((k : Int) % (ms.length : Int)) = V.int 0
      · refine iteNS e2 ?_
        have hk : ringW ns ms ∣ k := Nat.lcm_dvd ((dv _).mp (V.int.inj e1)) ((dv _).mp (V.int.inj e2))
        have := Nat.le_of_dvd (by omega) hk
        have ek : k = ringW ns ms := by omega
        subst ek
        exact ⟨_, rfl, q⟩
      · rw [decide_eq_false e2]
        refine iteT ?_
        obtain ⟨N, n1, n2⟩ := go (fun z => e2 (by rw [(dv _).mpr z.2]))
        exact ⟨N, n1, .int k, rfl, k, 1, rfl, rfl, n2⟩
    · rw [decide_eq_false e1]
      refine iteT ?_
      obtain ⟨N, n1, n2⟩ := go (fun z => e1 (by rw [(dv _).mpr z.1]))
      exact ⟨N, n1, .int k, rfl, k, 1, rfl, rfl, n2⟩

/-! ### dark_stretch, _law_dark -/
def spDark (K : PySem.W.Frag) : Sp := fun vs H Q _ => ∃ (a b : Addr) (ns ms : List Int), vs = [.ref a, .ref b] ∧ SqL K H a (ns.map V.int) ∧ SqL K H b (ms.map V.int) ∧ Rim ns ∧ Rim ms ∧ ∀ H', Same H H' → Q (stretchV (seqG (ringAt ns ms) 0 (ringW ns ms))) H'
theorem ok_dark_stretch (T : Txt K mg) : FnOk P w K mg base CX0 6 T.a_dark_stretch T.d_dark_stretch ["disc", "other"] (spDark K) := by
  have G_check_rings := ok_check_rings (P := P) (w := w) (base := base) T
  have G_lights_from := ok_lights_from (P := P) (w := w) (base := base) T
  refine T.F_dark_stretch.ok sc_dark_stretch (fun vs H Q E h => ?_) (fun cdv A outer s H vs Q E hr h => ?_)
  · obtain ⟨_, _, _, _, rfl, _⟩ := h
    rfl
  · obtain ⟨a, b, ns, ms, rfl, hS, hS2, hR, hR2, q⟩ := h
    refine ⟨_, (pss_cons (ps_expr (pe_call G_check_rings hr (by rfl) T.g_check_rings T.F_check_rings.kp T.b_check_rings .nil pass0 (pa_cons (pv 0) (pa_cons (pv 1) pa_nil))))
      (pss_cons (ps_set (i := 2) sc_dark_stretch.nd rfl (.inl rfl) (pe_call G_lights_from (hr.mono (by decide)) (by rfl) T.g_lights_from T.F_lights_from.kp T.b_lights_from .nil pass0 (pa_cons (pv 0) (pa_cons (pv 1) (pa_cons pe_int pa_nil)))))
      (pss_cons (ps_if (pt_not (pt_val (pe_callB (cr_anyI (K := K) rfl rfl) (by rfl) T.n_any (by decide +kernel) (pa_cons (pv 2) pa_nil)))) (pss_one (ps_ret pe_non)) pss_nil)
      (pss_cons (ps_asg2 pe_int (pg_name (i := 3) sc_dark_stretch.nd rfl (.inl rfl)) (pg_name (i := 4) sc_dark_stretch.nd rfl (.inl rfl)))
      (pss_cons (ps_for PassesOwn.never rfl (pi_listL (K := K) rfl (pe_op op_cat (pv 2) (pv 2))) (pg_name (i := 5) sc_dark_stretch.nd rfl (.inl rfl)) (pss_cons (ps_set (i := 4) sc_dark_stretch.nd rfl (.inl rfl) (pe_ifExp (pt_truth (pv 5) (fun _ => rfl)) pe_int (pe_op op_add (pv 4) pe_int)))
      (pss_one (ps_set (i := 3) sc_dark_stretch.nd rfl (.inl rfl) (pe_callB (call_max2 rfl) (by rfl) T.n_max (by decide +kernel) (pa_cons (pv 3) (pa_cons (pv 4) pa_nil)))))))
      (pss_one (ps_ret (pv 3)))))))), ?_⟩
    have w1 := ringW_1600 hR hR2
    refine ⟨.ref a, rfl, .ref b, rfl, a, b, ns, ms, rfl, hS, hS2, hR, hR2, fun H1 s1 => ?_⟩
    refine ⟨.ref a, rfl, .ref b, rfl, a, b, ns, ms, 0, rfl, s1.seq hS, s1.seq hS2, hR, hR2, fun l H2 s2 h2 e2 => ?_⟩
    have s12 := s1.trans s2
    have hLl := seqG_len (ringAt ns ms) 0 (ringW ns ms)
    generalize seqG (ringAt ns ms) 0 (ringW ns ms) = L at e2 q hLl ⊢
    refine ⟨.ref l, rfl, l, _, rfl, SqL.of e2, _, rfl, ?_⟩
    by_cases hz : (L.all fun x => decide (x = 0)) = true
    · rw [hz]
      have z := q H2 s12
      unfold stretchV at z
      rw [if_pos hz] at z
      exact iteT z
    · rw [eq_false_of_ne_true hz]
      refine iteF ?_
      refine ⟨.ref l, rfl, .ref l, rfl, l, l, _, _, rfl, rfl, e2, e2, by rw [List.length_map]; exact sz40' (by omega), fun p hp => ?_⟩
      rw [← List.map_append]
      have s3 := new_same (o := .lst ((L ++ L).map V.int)) hp
      have g3 : (upd H2 p (.lst ((L ++ L).map V.int))) p = some (.lst ((L ++ L).map V.int)) := upd_same
      generalize upd H2 p (.lst ((L ++ L).map V.int)) = H3 at s3 g3 ⊢
      refine ⟨p, rfl, ⟨_, SqL.of g3⟩, for_list (K := K) (a := p) (xs := (L ++ L).map V.int) (fun i σ H' => ∃ y5 : Option V, σ = [some (.ref a), some (.ref b), some (.ref l), some (.int (((L ++ L).take i).foldl runS (0, 0)).1), some (.int (((L ++ L).take i).foldl runS (0, 0)).2), y5] ∧ Same H3 H')
        ⟨none, rfl, Same.refl H3⟩ (fun i σ H' _ ⟨_, _, s⟩ => SqL.of (s _ _ g3)) (fun i x σ H4 hx hP => ?_) (fun σ H4 hP => ?_)⟩
      · obtain ⟨y5, rfl, s4⟩ := hP
        obtain ⟨n, hn, rfl⟩ := int_at hx
        have et : (L ++ L).take (i + 1) = (L ++ L).take i ++ [n] := by
          rw [List.take_add_one, hn]
          rfl
        have e5 : ((L ++ L).take (i + 1)).foldl runS (0, 0) = runS (((L ++ L).take i).foldl runS (0, 0)) n := by rw [et, List.foldl_append]; rfl
        generalize ((L ++ L).take i).foldl runS (0, 0) = S at e5 ⊢
        refine ⟨.int n, rfl, _, rfl, ?_⟩
        by_cases hn0 : n = 0
        · subst hn0
          refine iteF ?_
          refine ⟨.int S.2, rfl, S.2, 1, rfl, rfl, ?_⟩
          refine ⟨.int S.1, rfl, .int (S.2 + 1), rfl, S.1, S.2 + 1, rfl, ?_⟩
          refine ⟨some (.int 0), ?_, s4⟩
          rw [e5]
          rfl
        · have hb : (n != 0) = true := by
            rw [bne_iff_ne]
            exact hn0
          rw [hb]
          refine iteT ?_
          refine ⟨.int S.1, rfl, .int 0, rfl, S.1, 0, rfl, ?_⟩
          refine ⟨some (.int n), ?_, s4⟩
          rw [e5]
          unfold runS
          rw [if_neg hn0]
          rfl
      · obtain ⟨y5, rfl, s4⟩ := hP
        rw [List.length_map, List.take_of_length_le (Nat.le_refl _)]
        have z := q H4 ((s12.trans s3).trans s4)
        unfold stretchV at z
        rw [if_neg hz] at z
        exact ⟨_, rfl, z⟩

def spLTurned (K : PySem.W.Frag) : Sp := fun vs H Q _ => ∃ (a : Addr) (ns : List Int) (t : Int), vs = [.ref a, .int t] ∧ SqL K H a (ns.map V.int) ∧ 1 ≤ ns.length ∧ ns.length ≤ 1000 ∧
  ∀ (l : Addr) (H' : Hp), Same H H' → H l = none → H' l = some (.lst ((rot ns t).map V.int)) → Q (.ref l) H'
def spLMirrored (K : PySem.W.Frag) : Sp := fun vs H Q _ => ∃ (a : Addr) (ns : List Int), vs = [.ref a] ∧ SqL K H a (ns.map V.int) ∧ 1 ≤ ns.length ∧ ns.length ≤ 1000 ∧
  ∀ (l : Addr) (H' : Hp), Same H H' → H l = none → H' l = some (.lst ((mir ns).map V.int)) → Q (.ref l) H'

/-! ### slitdiscs.around -/
def spTurnedList (K : PySem.W.Frag) : Sp := spLTurned K
theorem ok_turned_list (T : Txt K mg) : FnOk P w K mg base CX0 1 T.a_turned_list T.d_turned_list ["items", "turn"] (spTurnedList K) := by
  refine T.F_turned_list.ok sc_turned_list (fun vs H Q E h => ?_) (fun cdv A outer s H vs Q E hr h => ?_)
  · obtain ⟨_, _, _, rfl, _⟩ := h
    rfl
  · obtain ⟨a, ns, t, rfl, hS, hn1, hn, q⟩ := h
    refine ⟨_, (pss_cons (ps_set (i := 2) sc_turned_list.nd rfl (.inr rfl) (pe_callB (lenL (K := K) rfl) (by rfl) T.n_len (by decide +kernel) (pa_cons (pv 0) pa_nil)))
      (pss_one (ps_ret (pe_lc (own := [("slot", 3)]) (g := gName 3) (tt := tYes) (by rfl) sc_turned_list.nd (pi_range1 (by rfl) T.n_range (pa_cons (pv 2) pa_nil)) (blkOk_by (own := [("slot", 3)]) (N := ["items", "turn", "size", "slot"]) (sc := defScope s_turned_list) (by decide +kernel))
        (fun _ _ _ _ _ => (pg_name (i := 3) sc_turned_list.nd rfl (Or.inl rfl))) (fun _ _ _ _ _ => pts_nil) (fun _ _ _ _ _ => (pe_ix (ixL (K := K) rfl) (pv 0) (pe_op op_mod (pe_op op_sub (pv 3) (pv 1)) (pv 2)) (fun _ _ => rfl))))))), ?_⟩
    refine ⟨.ref a, rfl, a, _, rfl, .inl hS, ?_⟩
    rw [List.length_map]
    refine ⟨.int ns.length, rfl, ns.length, rfl, by omega, by omega, fun D hD => lc_range (lo := 0) (n := ((ns.length : Nat) : Int).toNat)
      (fun i H' => Same H H' ∧ H' D = some (.lst (((rot ns t).take i).map V.int))) ⟨new_same hD, upd_same⟩ (fun i H1 hi hP => ⟨rfl, ?_⟩) (fun H1 hP => ?_)⟩
    · obtain ⟨s1, hD1⟩ := hP
      rw [Int.toNat_natCast] at hi
      have hm := mod_in (i := (0 + (i : Int)) - t) (show 0 < ns.length by omega)
      obtain ⟨n, hx, hat⟩ := at_in hm.1 hm.2
      refine ⟨.ref a, rfl, .int (0 + i), rfl, .int t, rfl, 0 + i, t, rfl, rfl, .int ns.length, rfl, _, _, rfl, rfl, (by show (0 : Int) < _; omega), ?_⟩
      refine ⟨a, _, _, .int n, rfl, rfl, s1.seq hS, hat, _, hD1, ?_, ?_, ?_⟩
      · rw [List.length_map, List.length_take]
        exact sz40 (by omega)
      · intro b o e
        rw [upd_ne (ne_of_none e hD)]
        exact s1 b o e
      · rw [upd_same, take_next]
        rw [rot_at hi]
        rw [show (i : Int) - t = 0 + (i : Int) - t by omega, getD_at hx]
    · obtain ⟨s1, hD1⟩ := hP
      rw [Int.toNat_natCast, take_all (by rw [rot_len]; exact Nat.le_refl _)] at hD1
      exact q D H1 s1 hD hD1

/-! ### lights -/
def spLight (K : PySem.W.Frag) : Sp := fun vs H Q _ => ∃ (a b : Addr) (ns ms : List Int) (t : Int), vs = [.ref a, .ref b, .int t] ∧ SqL K H a (ns.map V.int) ∧ SqL K H b (ms.map V.int) ∧
  ns.length = ms.length ∧ 1 ≤ ns.length ∧ ns.length ≤ 40 ∧ Ab 100 ns ∧ Ab 400 ms ∧ ∀ H', Same H H' → Q (.int (lightV ns ms t)) H'
theorem ok_light_between (T : Txt K mg) : FnOk P w K mg base CX0 2 T.a_light_between T.d_light_between ["disc", "row", "turn"] (spLight K) := by
  have G_turned_list := ok_turned_list (P := P) (w := w) (base := base) T
  refine T.F_light_between.ok sc_light_between (fun vs H Q E h => ?_) (fun cdv A outer s H vs Q E hr h => ?_)
  · obtain ⟨_, _, _, _, _, rfl, _⟩ := h
    rfl
  · obtain ⟨a, b, ns, ms, t, rfl, hS, hS2, hl, h1, h40, hA, hB, q⟩ := h
    refine ⟨_, (pss_one (ps_ret (pe_callB (sumL (K := K) rfl rfl) (by rfl) T.n_sum (by decide +kernel) (pa_cons (pe_lc (own := [("under", 3), ("over", 4)]) (tt := tYes) (by rfl) sc_light_between.nd (zipL (K := K) rfl (by rfl) T.n_zip (pa_cons (pv 0) (pa_cons (pe_call G_turned_list hr (by rfl) T.g_turned_list T.F_turned_list.kp T.b_turned_list .nil pass0 (pa_cons (pv 1) (pa_cons (pv 2) pa_nil))) pa_nil))) (blkOk_by (own := [("under", 3), ("over", 4)]) (N := ["disc", "row", "turn", "under", "over"]) (sc := defScope s_light_between) (by decide +kernel))
        (fun _ _ _ _ _ => (pg_tupL (K := K) (n := 2) rfl rfl (pgs_cons (pg_name (i := 3) sc_light_between.nd rfl (.inl rfl)) (pgs_cons (pg_name (i := 4) sc_light_between.nd rfl (.inl rfl)) pgs_nil)))) (fun _ _ _ _ _ => pts_nil) (fun _ _ _ _ _ => (pe_op op_mulW (pv 3) (pv 4)))) pa_nil)))), ?_⟩
    refine ⟨.ref a, rfl, .ref b, rfl, .int t, rfl, b, ms, t, rfl, hS2, by omega, by omega, fun l H1 s1 hl0 hl1 => ?_⟩
    refine ⟨a, l, _, _, rfl, s1.seq hS, SqL.of hl1, fun D hD => ?_⟩
    refine lc_it (walk_zip (K := K) (a := a) (b := l) (xs := ns.map V.int) (ys := (rot ms t).map V.int) (n := ns.length) (by rw [List.length_map, List.length_map, rot_len]; omega))
      (fun i H' => Same H1 H' ∧ H' D = some (.lst (((prods ns (rot ms t)).take i).map V.int))) ⟨new_same hD, upd_same⟩ (fun i H' _ hP => ⟨hP.1.seq (s1.seq hS), hP.1.seq (SqL.of hl1)⟩) (fun i x H2 H3 hi hP hY => ?_) (fun H2 hP => ?_)
    · obtain ⟨s2, hD2⟩ := hP
      obtain ⟨p, z1, z2, rfl, hp, rfl, e1, e2⟩ := hY
      obtain ⟨x, hx, rfl⟩ := int_at e1
      obtain ⟨y, hy, rfl⟩ := int_at e2
      refine ⟨p, _, rfl, SqT.of upd_same, rfl, _, _, rfl, _, _, rfl, rfl, rfl, ?_⟩
      refine ⟨.int x, rfl, .int y, rfl, x, y, rfl, rfl, wide_mul (hA.at hx) ((hB.rot t).at hy) (by decide) (by decide) (by decide), ?_⟩
      have s3 := s2.trans (new_same (o := .tup [.int x, .int y]) hp)
      refine ⟨_, (new_same hp) _ _ hD2, ?_, same_over s3 hD, ?_⟩
      · rw [List.length_map, List.length_take]
        exact sz40 (by omega)
      · rw [upd_same, take_next (prods_at hx hy)]
    · obtain ⟨s2, hD2⟩ := hP
      rw [take_all (by rw [prods_len, rot_len]; omega)] at hD2
      exact ⟨D, _, rfl, SqL.of hD2, q H2 (s1.trans s2)⟩

/-! ### slitdiscs.discs -/
def spTurnedDisc (K : PySem.W.Frag) : Sp := fun vs H Q _ => ∃ (a : Addr) (ns : List Int) (t : Int), vs = [.ref a, .int t] ∧ SqL K H a (ns.map V.int) ∧ Rim ns ∧
  ∀ (l : Addr) (H' : Hp), Same H H' → H l = none → H' l = some (.lst ((rot ns t).map V.int)) → Q (.ref l) H'
theorem ok_turned_disc (T : Txt K mg) : FnOk P w K mg base CX0 5 T.a_turned_disc T.d_turned_disc ["disc", "turn"] (spTurnedDisc K) := by
  have G_check_disc := ok_check_disc (P := P) (w := w) (base := base) T
  have G_check_turn := ok_check_turn (P := P) (w := w) (base := base) T
  have G_turned_list := ok_turned_list (P := P) (w := w) (base := base) T
  refine T.F_turned_disc.ok sc_turned_disc (fun vs H Q E h => ?_) (fun cdv A outer s H vs Q E hr h => ?_)
  · obtain ⟨_, _, _, rfl, _⟩ := h
    rfl
  · obtain ⟨a, ns, t, rfl, hS, hR, q⟩ := h
    refine ⟨_, (pss_cons (ps_expr (pe_call G_check_disc hr (by rfl) T.g_check_disc T.F_check_disc.kp T.b_check_disc .nil pass0 (pa_cons (pv 0) pa_nil)))
      (pss_cons (ps_expr (pe_call G_check_turn (hr.mono (by decide)) (by rfl) T.g_check_turn T.F_check_turn.kp T.b_check_turn .nil pass0 (pa_cons (pv 1) pa_nil)))
      (pss_one (ps_ret (pe_call G_turned_list (hr.mono (by decide)) (by rfl) T.g_turned_list T.F_turned_list.kp T.b_turned_list .nil pass0 (pa_cons (pv 0) (pa_cons (pv 1) pa_nil))))))), ?_⟩
    refine ⟨.ref a, rfl, a, ns, rfl, hS, hR, fun H1 s1 => ?_⟩
    refine ⟨.int t, rfl, t, rfl, ?_⟩
    refine ⟨.ref a, rfl, .int t, rfl, a, ns, t, rfl, s1.seq hS, hR.pos, by have := hR.le; omega, fun l H2 s2 hl hl2 => ?_⟩
    exact q l H2 (s1.trans s2) (s1.free hl) hl2
/-! ### slitdiscs.lights -/
def spLightAt (K : PySem.W.Frag) : Sp := fun vs H Q _ => ∃ (a b : Addr) (ns ms : List Int) (t : Int), vs = [.ref a, .ref b, .int t] ∧ SqL K H a (ns.map V.int) ∧ SqL K H b (ms.map V.int) ∧
  Rim ns ∧ Rim ms ∧ ns.length = ms.length ∧ ∀ H', Same H H' → Q (.int (lightV ns ms t)) H'
theorem ok_light_at (T : Txt K mg) : FnOk P w K mg base CX0 6 T.a_light_at T.d_light_at ["disc", "other", "turn"] (spLightAt K) := by
  have G_check_discs := ok_check_discs (P := P) (w := w) (base := base) T
  have G_check_turn := ok_check_turn (P := P) (w := w) (base := base) T
  have G_light_between := ok_light_between (P := P) (w := w) (base := base) T
  refine T.F_light_at.ok sc_light_at (fun vs H Q E h => ?_) (fun cdv A outer s H vs Q E hr h => ?_)
  · obtain ⟨_, _, _, _, _, rfl, _⟩ := h
    rfl
  · obtain ⟨a, b, ns, ms, t, rfl, hS, hS2, hR, hR2, hl, q⟩ := h
    refine ⟨_, (pss_cons (ps_expr (pe_call G_check_discs hr (by rfl) T.g_check_discs T.F_check_discs.kp T.b_check_discs .nil pass0 (pa_cons (pv 0) (pa_cons (pv 1) pa_nil))))
      (pss_cons (ps_expr (pe_call G_check_turn (hr.mono (by decide)) (by rfl) T.g_check_turn T.F_check_turn.kp T.b_check_turn .nil pass0 (pa_cons (pv 2) pa_nil)))
      (pss_one (ps_ret (pe_call G_light_between (hr.mono (by decide)) (by rfl) T.g_light_between T.F_light_between.kp T.b_light_between .nil pass0 (pa_cons (pv 0) (pa_cons (pv 1) (pa_cons (pv 2) pa_nil)))))))), ?_⟩
    refine ⟨.ref a, rfl, .ref b, rfl, a, b, ns, ms, rfl, hS, hS2, hR, hR2, hl, fun H1 s1 => ?_⟩
    refine ⟨.int t, rfl, t, rfl, ?_⟩
    exact ⟨.ref a, rfl, .ref b, rfl, .int t, rfl, a, b, ns, ms, t, rfl, s1.seq hS, s1.seq hS2, hl, hR.pos, hR.le, hR.ab, hR2.ab.mono (by decide), fun H2 s2 => q H2 (s1.trans s2)⟩

/-! ### numbered kinds -/
def keyP (p : Int × Int) : List Key := [.inl p.1, .inl p.2]
theorem keyP_inj {a b : Int × Int} (h : keyP a = keyP b) : a = b := by
  have z := List.cons.inj h
  have y := List.cons.inj z.2
  exact Prod.ext (Sum.inl.inj z.1) (Sum.inl.inj y.1)
def spNumI (K : PySem.W.Frag) : Sp := fun vs H Q _ => ∃ (a : Addr) (xs : List Int), vs = [.ref a] ∧ SqL K H a (xs.map V.int) ∧ xs.length ≤ 2000 ∧
  ∀ (l : Addr) (ks : List Int) (H' : Hp), Same H H' → H l = none → H' l = some (.lst (ks.map V.int)) → Num xs ks → Q (.ref l) H'
theorem ok_numbered_kindsI (T : Txt K mg) : FnOk P w K mg base CX0 1 T.a_numbered_kinds T.d_numbered_kinds ["parts"] (spNumI K) := by
  refine T.F_numbered_kinds.ok sc_numbered_kinds (fun vs H Q E h => ?_) (fun cdv A outer s H vs Q E hr h => ?_)
  · obtain ⟨_, _, rfl, _⟩ := h
    rfl
  · obtain ⟨a, xs, rfl, hS, hlen, q⟩ := h
    refine ⟨_, (pss_cons (ps_set (i := 1) sc_numbered_kinds.nd rfl (.inr rfl) pe_dnewE)
      (pss_cons (ps_for PassesOwn.never rfl (pi_listL (K := K) rfl (pv 0)) (pg_name (i := 2) sc_numbered_kinds.nd rfl (.inl rfl)) (pss_one (ps_expr (pe_dsetdE hr (pv 1) (pv 2) (pe_callB cr_lenE (by rfl) T.n_len (by decide +kernel) (pa_cons (pv 1) pa_nil)) (by exact ⟨by rfl, by rfl, by rfl, by rfl⟩)))))
      (pss_one (ps_ret (pe_lc (own := [("part", 2)]) (g := gName 2) (tt := tYes) (by rfl) sc_numbered_kinds.nd (pi_listL (K := K) rfl (pv 0)) (blkOk_by (own := [("part", 2)]) (N := ["parts", "known", "part"]) (sc := defScope s_numbered_kinds) (by decide +kernel))
        (fun _ _ _ _ _ => (pg_name (i := 2) sc_numbered_kinds.nd rfl (Or.inl rfl))) (fun _ _ _ _ _ => pts_nil) (fun _ _ _ _ _ => (pe_dgetR hr (pv 1) (pv 2) (fun _ _ => rfl)))))))), ?_⟩
    refine .inl fun D hD => ?_
    have s1 := new_same (o := .dK []) hD
    have g1 : (upd H D (.dK [])) D = some (.dK []) := upd_same
    refine ⟨.ref a, rfl, a, rfl, ⟨_, s1.seq hS⟩, for_list (K := K) (a := a) (xs := xs.map V.int)
      (fun i σ H' => ∃ (y2 : Option V) (kvs : List (Key × V)), σ = [some (.ref a), some (.ref D), y2] ∧ Same H H' ∧ H' D = some (.dK kvs) ∧ Kn kvs ((xs.take i).map (Sum.inl : Int → Key)))
      ⟨_, [], rfl, s1, g1, Kn.nil⟩ (fun i σ H' _ ⟨_, _, _, s, _⟩ => s.seq hS) (fun i x σ H2 hx hQ => ?_) (fun σ H2 hQ => ?_)⟩
    · obtain ⟨y2, kvs, rfl, s2, g2, hK⟩ := hQ
      obtain ⟨z, hz, rfl⟩ := int_at hx
      have hl := hK.len
      rw [List.length_map, List.length_take] at hl
      have tk : ((xs.take (i + 1)).map (Sum.inl : Int → Key)) = (xs.take i).map Sum.inl ++ [Sum.inl z] := by
        rw [List.take_add_one, hz, List.map_append]
        rfl
      refine ⟨.ref D, rfl, D, rfl, .inl ⟨kvs, .inl g2⟩, .int z, rfl, .ref D, rfl, D, rfl, .inl ⟨kvs, g2, .inl ⟨kvs, .inl z, g2, rfl, sz40 (by omega), fun v hv => ?_, fun hn => ?_⟩⟩⟩
      · refine ⟨_, kvs, rfl, s2, g2, ?_⟩
        rw [tk]
        exact hK.old hv
      · refine ⟨_, _, rfl, same_over s2 hD, upd_same, ?_⟩
        rw [tk]
        exact hK.new hn
    · obtain ⟨y2, kvs, rfl, s2, g2, hK⟩ := hQ
      rw [List.length_map, List.take_length] at hK
      refine ⟨.ref a, rfl, a, rfl, ⟨_, s2.seq hS⟩, fun L hL => ?_⟩
      refine lc_list (K := K) (a := a) (xs := xs.map V.int) (fun i H' => Same H2 H' ∧ H' L = some (.lst (((xs.map fun x => nOf kvs (Sum.inl x : Key)).take i).map V.int)))
        ⟨new_same hL, upd_same⟩ (fun i H' _ hP => (s2.trans hP.1).seq hS) (fun i x H3 hx hP => ⟨rfl, ?_⟩) (fun H3 hP => ?_)
      · obtain ⟨s3, g3⟩ := hP
        obtain ⟨z, hz, rfl⟩ := int_at hx
        have hi := (List.getElem?_eq_some_iff.mp hz).1
        have hv := (hK.of (List.mem_map.mpr ⟨z, List.mem_of_getElem? hz, rfl⟩)).1
        have dg := DGet.k (k := (Sum.inl z : Key)) (s3 _ _ g2)
        rw [hv] at dg
        refine ⟨.ref D, rfl, .int z, rfl, D, _, rfl, dg, _, g3, ?_, same_over s3 hL, ?_⟩
        · rw [List.length_map, List.length_take]
          exact sz40 (by omega)
        · rw [upd_same, take_next (by rw [List.getElem?_map, hz]; rfl)]
      · obtain ⟨s3, g3⟩ := hP
        rw [List.length_map, take_all (by rw [List.length_map]; exact Nat.le_refl _)] at g3
        exact q L _ H3 (s2.trans s3) (none_back s2 hL) g3 (hK.num fun a b e => Sum.inl.inj e)
def spNumT (K : PySem.W.Frag) : Sp := fun vs H Q _ => ∃ (a : Addr) (us : List V) (xs : List (Int × Int)), vs = [.ref a] ∧ SqL K H a us ∧ Prs H us xs ∧ xs.length ≤ 2000 ∧
  ∀ (l : Addr) (ks : List Int) (H' : Hp), Same H H' → H l = none → H' l = some (.lst (ks.map V.int)) → Num xs ks → Q (.ref l) H'
theorem ok_numbered_kindsT (T : Txt K mg) : FnOk P w K mg base CX0 1 T.a_numbered_kinds T.d_numbered_kinds ["parts"] (spNumT K) := by
  refine T.F_numbered_kinds.ok sc_numbered_kinds (fun vs H Q E h => ?_) (fun cdv A outer s H vs Q E hr h => ?_)
  · obtain ⟨_, _, _, rfl, _⟩ := h
    rfl
  · obtain ⟨a, us, xs, rfl, hS, hP0, hlen, q⟩ := h
    have hul := hP0.len
    refine ⟨_, (pss_cons (ps_set (i := 1) sc_numbered_kinds.nd rfl (.inr rfl) pe_dnewE)
      (pss_cons (ps_for PassesOwn.never rfl (pi_listL (K := K) rfl (pv 0)) (pg_name (i := 2) sc_numbered_kinds.nd rfl (.inl rfl)) (pss_one (ps_expr (pe_dsetdE hr (pv 1) (pv 2) (pe_callB cr_lenE (by rfl) T.n_len (by decide +kernel) (pa_cons (pv 1) pa_nil)) (by exact ⟨by rfl, by rfl, by rfl, by rfl⟩)))))
      (pss_one (ps_ret (pe_lc (own := [("part", 2)]) (g := gName 2) (tt := tYes) (by rfl) sc_numbered_kinds.nd (pi_listL (K := K) rfl (pv 0)) (blkOk_by (own := [("part", 2)]) (N := ["parts", "known", "part"]) (sc := defScope s_numbered_kinds) (by decide +kernel))
        (fun _ _ _ _ _ => (pg_name (i := 2) sc_numbered_kinds.nd rfl (Or.inl rfl))) (fun _ _ _ _ _ => pts_nil) (fun _ _ _ _ _ => (pe_dgetR hr (pv 1) (pv 2) (fun _ _ => rfl)))))))), ?_⟩
    refine .inr fun D hD => ?_
    have s1 := new_same (o := .dT []) hD
    have g1 : (upd H D (.dT [])) D = some (.dT []) := upd_same
    refine ⟨.ref a, rfl, a, rfl, ⟨_, s1.seq hS⟩, for_list (K := K) (a := a) (xs := us)
      (fun i σ H' => ∃ (y2 : Option V) (kvs : List (List Key × V)), σ = [some (.ref a), some (.ref D), y2] ∧ Same H H' ∧ H' D = some (.dT kvs) ∧ Kn kvs ((xs.take i).map keyP))
      ⟨_, [], rfl, s1, g1, Kn.nil⟩ (fun i σ H' _ ⟨_, _, _, s, _⟩ => s.seq hS) (fun i x σ H2 hx hQ => ?_) (fun σ H2 hQ => ?_)⟩
    · obtain ⟨y2, kvs, rfl, s2, g2, hK⟩ := hQ
      obtain ⟨tz, z, rfl, hz, ez⟩ := hP0.at hx
      have hl := hK.len
      rw [List.length_map, List.length_take] at hl
      have tk : ((xs.take (i + 1)).map keyP) = (xs.take i).map keyP ++ [keyP z] := by
        rw [List.take_add_one, hz, List.map_append]
        rfl
      refine ⟨.ref D, rfl, D, rfl, .inr ⟨kvs, .inl g2⟩, .ref tz, rfl, .ref D, rfl, D, rfl, .inr ⟨kvs, g2, .inr ⟨kvs, keyP z, tz, g2, rfl, s2 _ _ ez, sz40 (by omega), fun v hv => ?_, fun hn => ?_⟩⟩⟩
      · refine ⟨_, kvs, rfl, s2, g2, ?_⟩
        rw [tk]
        exact hK.old hv
      · refine ⟨_, _, rfl, same_over s2 hD, upd_same, ?_⟩
        rw [tk]
        exact hK.new hn
    · obtain ⟨y2, kvs, rfl, s2, g2, hK⟩ := hQ
      rw [hul, List.take_length] at hK
      refine ⟨.ref a, rfl, a, rfl, ⟨_, s2.seq hS⟩, fun L hL => ?_⟩
      refine lc_list (K := K) (a := a) (xs := us) (fun i H' => Same H2 H' ∧ H' L = some (.lst (((xs.map fun x => nOf kvs (keyP x)).take i).map V.int)))
        ⟨new_same hL, upd_same⟩ (fun i H' _ hP => (s2.trans hP.1).seq hS) (fun i x H3 hx hP => ⟨rfl, ?_⟩) (fun H3 hP => ?_)
      · obtain ⟨s3, g3⟩ := hP
        obtain ⟨tz, z, rfl, hz, ez⟩ := hP0.at hx
        have hi := (List.getElem?_eq_some_iff.mp hz).1
        have hv := (hK.of (List.mem_map.mpr ⟨z, List.mem_of_getElem? hz, rfl⟩)).1
        have dg := DGet.t (k := keyP z) (s3 _ _ g2) (s3 _ _ (s2 _ _ ez))
        rw [hv] at dg
        refine ⟨.ref D, rfl, .ref tz, rfl, D, _, rfl, dg, _, g3, ?_, same_over s3 hL, ?_⟩
        · rw [List.length_map, List.length_take]
          exact sz40 (by omega)
        · rw [upd_same, take_next (by rw [List.getElem?_map, hz]; rfl)]
      · obtain ⟨s3, g3⟩ := hP
        rw [hul, take_all (by rw [List.length_map]; exact Nat.le_refl _)] at g3
        exact q L _ H3 (s2.trans s3) (none_back s2 hL) g3 (hK.num fun a b e => keyP_inj e)

/-! ### kinds joined, doubled; unlike ones -/
def spJoin (K : PySem.W.Frag) : Sp := fun vs H Q _ => ∃ (a b : Addr) (ks ms : List Int) (W n : Nat), vs = [.ref a, .ref b, .int n] ∧ SqL K H a (ks.map V.int) ∧ SqL K H b (ms.map V.int) ∧ ks.length = W ∧ ms.length = W ∧ 1 ≤ W ∧ W ≤ 2000 ∧
  ∀ (l : Addr) (rs : List Int) (H' : Hp), Same H H' → H l = none → H' l = some (.lst (rs.map V.int)) → Num (pairK W n ks ms) rs → Q (.ref l) H'
theorem ok_joined_kinds (T : Txt K mg) : FnOk P w K mg base CX0 2 T.a_joined_kinds T.d_joined_kinds ["kinds", "more", "length"] (spJoin K) := by
  have G_numbered_kinds := ok_numbered_kindsT (P := P) (w := w) (base := base) T
  refine T.F_joined_kinds.ok sc_joined_kinds (fun vs H Q E h => ?_) (fun cdv A outer s H vs Q E hr h => ?_)
  · obtain ⟨_, _, _, _, _, _, rfl, _⟩ := h
    rfl
  · obtain ⟨a, b, ks, ms, W, n, rfl, hS, hS2, hk, hm, h1, h2, q⟩ := h
    refine ⟨_, (pss_cons (ps_set (i := 3) sc_joined_kinds.nd rfl (.inr rfl) (pe_callB (lenL (K := K) rfl) (by rfl) T.n_len (by decide +kernel) (pa_cons (pv 0) pa_nil)))
      (pss_one (ps_ret (pe_call G_numbered_kinds hr (by rfl) T.g_numbered_kinds T.F_numbered_kinds.kp T.b_numbered_kinds .nil pass0 (pa_cons (pe_lc (own := [("tick", 4)]) (g := gName 4) (tt := tYes) (by rfl) sc_joined_kinds.nd (pi_range1 (by rfl) T.n_range (pa_cons (pv 3) pa_nil)) (blkOk_by (own := [("tick", 4)]) (N := ["kinds", "more", "length", "size", "tick"]) (sc := defScope s_joined_kinds) (by decide +kernel))
        (fun _ _ _ _ _ => (pg_name (i := 4) sc_joined_kinds.nd rfl (Or.inl rfl))) (fun _ _ _ _ _ => pts_nil) (fun _ _ _ _ _ => (pe_tup (pa_cons (pe_ix (ixL (K := K) rfl) (pv 0) (pv 4) (fun _ _ => rfl)) (pa_cons (pe_ix (ixL (K := K) rfl) (pv 1) (pe_op op_mod (pe_op op_add (pv 4) (pv 2)) (pv 3)) (fun _ _ => rfl)) pa_nil))))) pa_nil))))), ?_⟩
    refine ⟨.ref a, rfl, a, _, rfl, .inl hS, ?_⟩
    rw [List.length_map, hk]
    refine ⟨.int W, rfl, W, rfl, by omega, by omega, fun D hD => ?_⟩
    refine lc_range (lo := 0) (n := ((W : Nat) : Int).toNat) (fun i H' => Same H H' ∧ ∃ us : List V, H' D = some (.lst us) ∧ Prs H' us ((pairK W n ks ms).take i))
      ⟨new_same hD, [], upd_same, .nil⟩ (fun i H1 hi hP => ⟨rfl, ?_⟩) (fun H1 hP => ?_)
    · obtain ⟨s1, us, g1, hP⟩ := hP
      rw [Int.toNat_natCast] at hi
      have hul := hP.len
      rw [List.length_take, pairK_len] at hul
      have e1 : (0 : Int) + (i : Int) = (i : Int) := Int.zero_add _
      have e2 : ((0 : Int) + (i : Int) + (n : Int)) % (W : Int) = (((i + n) % W : Nat) : Int) := by rw [Int.natCast_emod, Int.natCast_add, Int.zero_add]
      have hmm := Nat.mod_lt (i + n) h1
      refine ⟨.ref a, rfl, .int (0 + i), rfl, a, _, _, .int (ks.getD i 0), rfl, rfl, s1.seq hS, at_getN e1 (by omega), ?_⟩
      refine ⟨.ref b, rfl, .int (0 + i), rfl, .int n, rfl, 0 + i, n, rfl, rfl, .int W, rfl, 0 + i + n, W, rfl, rfl, (by show (0 : Int) < _; omega), b, _, _, .int (ms.getD ((i + n) % W) 0), rfl, rfl, s1.seq hS2, at_getN e2 (by omega), ?_⟩
      refine ⟨(by show 2 ≤ sizeLine; decide), fun tp htp => ?_⟩
      have s2 := new_same (o := .tup [.int (ks.getD i 0), .int (ms.getD ((i + n) % W) 0)]) htp
      refine ⟨us, s2 _ _ g1, sz40 (by omega), same_over (s1.trans s2) hD, us ++ [.ref tp], upd_same, ?_⟩
      rw [List.take_add_one, pairK_at hi]
      exact (Prs.onto (s2 _ _ g1) (hP.up s2)).snoc (by rw [upd_ne (ne_of_none g1 htp).symm]; exact upd_same)
    · obtain ⟨s1, us, g1, hP⟩ := hP
      rw [Int.toNat_natCast, List.take_of_length_le (by rw [pairK_len]; exact Nat.le_refl _)] at hP
      exact ⟨D, us, pairK W n ks ms, rfl, SqL.of g1, hP, by rw [pairK_len]; exact h2, fun l rs H2 s2 f2 g2 hN => q l rs H2 (s1.trans s2) (none_back s1 f2) g2 hN⟩
def DblOk (g : Int → Int) (W : Nat) (kss : List (List Int)) (P : Nat) : Prop := kss.length = P + 1 ∧ P ≤ 11 ∧ ∀ p : Nat, p ≤ P → ∃ ks, kss[p]? = some ks ∧ Win g W (2 ^ p) ks
def spDbl (K : PySem.W.Frag) : Sp := fun vs H Q _ => ∃ (a : Addr) (g : Int → Int) (W : Nat), vs = [.ref a] ∧ SqL K H a ((seqG g 0 W).map V.int) ∧ Again g W ∧ W ≤ 1600 ∧
  ∀ (D : Addr) (us : List V) (kss : List (List Int)) (P : Nat) (H' : Hp), Same H H' → H D = none → H' D = some (.lst us) → LL H' us kss → DblOk g W kss P → W ≤ 2 ^ P → Q (.ref D) H'
theorem ok_doubled_kinds (T : Txt K mg) : FnOk P w K mg base CX0 3 T.a_doubled_kinds T.d_doubled_kinds ["lights"] (spDbl K) := by
  have G_numbered_kinds := ok_numbered_kindsI (P := P) (w := w) (base := base) T
  have G_joined_kinds := ok_joined_kinds (P := P) (w := w) (base := base) T
  refine T.F_doubled_kinds.ok sc_doubled_kinds (fun vs H Q E h => ?_) (fun cdv A outer s H vs Q E hr h => ?_)
  · obtain ⟨_, _, _, rfl, _⟩ := h
    rfl
  · obtain ⟨a, g, W, rfl, hS, hA, hW, q⟩ := h
    refine ⟨_, (pss_cons (ps_set (i := 1) sc_doubled_kinds.nd rfl (.inl rfl) (pe_lst (pa_cons (pe_call G_numbered_kinds (hr.mono (by decide)) (by rfl) T.g_numbered_kinds T.F_numbered_kinds.kp T.b_numbered_kinds .nil pass0 (pa_cons (pv 0) pa_nil)) pa_nil)))
      (pss_cons (ps_set (i := 2) sc_doubled_kinds.nd rfl (.inl rfl) pe_int)
      (pss_cons (ps_while PassesOwn.never (pt_cmpR op_lt (pv 2) (pe_callB (lenL (K := K) rfl) (by rfl) T.n_len (by decide +kernel) (pa_cons (pv 0) pa_nil)) (nomark _)) (pss_cons (ps_expr (pe_bm PySem.F.plainAttrs_list PySem.F.slot_list_append PySem.F.type_list_append mt_append (pv 1) (pa_cons (pe_call G_joined_kinds hr (by rfl) T.g_joined_kinds T.F_joined_kinds.kp T.b_joined_kinds .nil pass0 (pa_cons (pe_ix (ixL (K := K) rfl) (pv 1) (pe_un un_neg pe_int) (fun _ _ => rfl)) (pa_cons (pe_ix (ixL (K := K) rfl) (pv 1) (pe_un un_neg pe_int) (fun _ _ => rfl)) (pa_cons (pv 2) pa_nil)))) pa_nil)))
      (pss_one (ps_aug (i := 2) sc_doubled_kinds.nd rfl (.inl rfl) (pv 2) ip_add))))
      (pss_one (ps_ret (pv 1)))))), ?_⟩
    have hp := hA.pos
    refine ⟨.ref a, rfl, a, seqG g 0 W, rfl, hS, by rw [seqG_len]; omega, fun l ks H1 s1 f1 g1 hN => ?_⟩
    refine ⟨(by show 1 ≤ sizeLine; decide), fun D hD => ?_⟩
    have s2 := s1.trans (new_same (o := .lst [.ref l]) hD)
    have gl := new_same (o := .lst [.ref l]) hD _ _ g1
    have gD : (upd H1 D (.lst [.ref l])) D = some (.lst [.ref l]) := upd_same
    have eD := none_back s1 hD
    generalize upd H1 D (.lst [.ref l]) = H2 at s2 gl gD ⊢
    refine ⟨fun m σ H' => ∃ (p : Nat) (us : List V) (kss : List (List Int)), σ = [some (.ref a), some (.ref D), some (.int ((2 ^ p : Nat) : Int))] ∧ m = 12 - p ∧ Same H H' ∧ H' D = some (.lst us) ∧ LL H' us kss ∧ DblOk g W kss p,
      ⟨12, 0, [.ref l], [ks], rfl, rfl, s2, gD, .cons gl .nil, rfl, by decide, fun p hp => ⟨ks, by rw [Nat.le_zero.mp hp]; rfl, by rw [Nat.le_zero.mp hp]; exact Win.one hN⟩⟩, fun m σ H' hW => ?_⟩
    obtain ⟨p, us, kss, rfl, rfl, s3, g3, hLL, hk, hp11, hw⟩ := hW
    have hul := hLL.len
    refine ⟨.int ((2 ^ p : Nat) : Int), rfl, .ref a, rfl, a, _, rfl, .inl (s3.seq hS), ?_⟩
    rw [List.length_map, seqG_len]
    refine ⟨((2 ^ p : Nat) : Int), W, rfl, rfl, _, rfl, ite2 (fun h => ?_) (fun h => ?_)⟩
    · have hlt : 2 ^ p < W := by
        have := of_decide_eq_true h
        omega
      have hp10 : p < 11 := by
        refine Classical.byContradiction fun z => ?_
        have := Nat.pow_le_pow_right (show 0 < 2 by decide) (show 11 ≤ p by omega)
        omega
      obtain ⟨kl, hkl, wl⟩ := hw p (Nat.le_refl p)
      obtain ⟨tl, htl, etl⟩ := hLL.get hkl
      have hat : atI us (-1) = some (.ref tl) := at_lastN (by rw [hul]; exact hk) htl
      refine ⟨fun σ' H' => ∃ (us : List V) (kss : List (List Int)), σ' = [some (.ref a), some (.ref D), some (.int ((2 ^ (p + 1) : Nat) : Int))] ∧ Same H H' ∧ H' D = some (.lst us) ∧ LL H' us kss ∧ DblOk g W kss (p + 1), fun σ' H'' ⟨us', kss', e1, e2, e3, e4, e5⟩ => ⟨12 - (p + 1), by omega, p + 1, us', kss', e1, rfl, e2, e3, e4, e5⟩, ?_⟩
      refine ⟨.ref D, rfl, .inl ⟨rfl, _, SqL.of g3⟩, .ref D, rfl, 1, rfl, D, _, _, .ref tl, rfl, rfl, SqL.of g3, hat, .ref D, rfl, 1, rfl, D, _, _, .ref tl, rfl, rfl, SqL.of g3, hat, .int ((2 ^ p : Nat) : Int), rfl, ?_⟩
      refine ⟨tl, tl, kl, kl, W, 2 ^ p, rfl, SqL.of etl, SqL.of etl, wl.len, wl.len, by omega, by omega, fun l rs H4 s4 f4 g4 hN4 => ?_⟩
      have g34 := s4 _ _ g3
      refine ⟨D, _, _, rfl, rfl, g34, sz40 (by omega), ?_⟩
      have wj := Win.join hA wl wl hN4
      have nl : D ≠ l := ne_of_none g3 f4
      have lo := LL.onto (o := .lst (us ++ [.ref l])) g34 (hLL.up s4) fun v hv => hv
      have lo := lo.snoc (a := l) (r := rs) (by rw [upd_ne nl.symm]; exact g4)
      have e2 : 2 ^ p + 2 ^ p = 2 ^ (p + 1) := by rw [Nat.pow_succ]; omega
      rw [e2] at wj
      refine ⟨.int ((2 ^ p : Nat) : Int), rfl, .int ((2 ^ p : Nat) : Int), rfl, _, _, rfl, rfl, us ++ [.ref l], kss ++ [rs], ?_, same_over (s3.trans s4) eD, upd_same, lo, ?_, by omega, fun r hr => ?_⟩
      · show [some (V.ref a), some (V.ref D), some (V.int (((2 ^ p : Nat) : Int) + ((2 ^ p : Nat) : Int)))] = _
        rw [← Int.natCast_add, e2]
      · rw [List.length_append, hk]
        rfl
      · by_cases z : r ≤ p
        · obtain ⟨kr, h1, h2⟩ := hw r z
          exact ⟨kr, by rw [List.getElem?_append_left (by omega)]; exact h1, h2⟩
        · obtain rfl : r = p + 1 := by omega
          exact ⟨rs, by rw [List.getElem?_append_right (by omega), hk, Nat.sub_self]; rfl, wj⟩
    · have hge : W ≤ 2 ^ p := by
        have : ¬ ((2 ^ p : Nat) : Int) < (W : Int) := fun z => h (decide_eq_true z)
        omega
      exact ⟨.ref D, rfl, q D us kss p H' s3 eD g3 hLL ⟨hk, hp11, hw⟩ hge⟩
def spUnl (K : PySem.W.Frag) : Sp := fun vs H Q _ => ∃ (a : Addr) (ks : List Int), vs = [.ref a] ∧ SqL K H a (ks.map V.int) ∧ ks.length ≤ 2000 ∧ ∀ H', Same H H' → Q (.bl (decide ks.Nodup)) H'
theorem ok_are_unlike (T : Txt K mg) : FnOk P w K mg base CX0 1 T.a_are_unlike T.d_are_unlike ["kinds"] (spUnl K) := by
  refine T.F_are_unlike.ok sc_are_unlike (fun vs H Q E h => ?_) (fun cdv A outer s H vs Q E hr h => ?_)
  · obtain ⟨_, _, rfl, _⟩ := h
    rfl
  · obtain ⟨a, ks, rfl, hS, hl, q⟩ := h
    refine ⟨_, (pss_one (ps_ret (pe_cmpR op_eq (pe_callB (cr_lenS rfl) (by rfl) T.n_len (by decide +kernel) (pa_cons (pe_callTy (cr_setOfL (K := K) rfl rfl rfl) (by rfl) T.n_set (by decide +kernel) (pa_cons (pv 0) pa_nil)) pa_nil)) (pe_callB (lenL (K := K) rfl) (by rfl) T.n_len (by decide +kernel) (pa_cons (pv 0) pa_nil)) (nomark _)))), ?_⟩
    refine ⟨.ref a, rfl, a, ks, rfl, hS, by omega, fun S c hn hc => ?_⟩
    have s1 := new_same (o := SetO w S (fun j => decide (j ∈ ks)) c) hn
    refine ⟨S, _, c, rfl, upd_same, fun ⟨L, hL1, hL2, hL3⟩ => ?_⟩
    refine ⟨.ref a, rfl, a, _, rfl, .inl (s1.seq hS), ?_⟩
    rw [List.length_map]
    refine ⟨rfl, ?_⟩
    have z := q _ s1
    have e : decide (V.int (c : Int) = V.int (ks.length : Int)) = decide ks.Nodup := by
      refine decide_eq_decide.mpr ?_
      rw [← len_iff hL1 fun k => ⟨fun hk => (hL3 k).mp (decide_eq_true hk), fun hk => of_decide_eq_true ((hL3 k).mpr hk)⟩, hL2]
      exact ⟨fun z => by have := V.int.inj z; omega, fun z => by rw [z]⟩
    rw [← e] at z
    exact z
def UTv (g : Int → Int) (W : Nat) (x : V) : Prop := (x = .non ∧ ¬ Uq g W W) ∨ ∃ n : Nat, x = .int (n : Int) ∧ Uq g W W ∧ Told g W n
def spUT (K : PySem.W.Frag) : Sp := fun vs H Q _ => ∃ (a b : Addr) (ns ms : List Int), vs = [.ref a, .ref b] ∧ SqL K H a (ns.map V.int) ∧ SqL K H b (ms.map V.int) ∧ Rim ns ∧ Rim ms ∧
  ∀ (x : V) (H' : Hp), UTv (ringAt ns ms) (ringW ns ms) x → Same H H' → Q x H'
theorem ok_unlike_ticks (T : Txt K mg) : FnOk P w K mg base CX0 6 T.a_unlike_ticks T.d_unlike_ticks ["disc", "other"] (spUT K) := by
  have G_check_rings := ok_check_rings (P := P) (w := w) (base := base) T
  have G_lights_from := ok_lights_from (P := P) (w := w) (base := base) T
  have G_doubled_kinds := ok_doubled_kinds (P := P) (w := w) (base := base) T
  have G_joined_kinds := ok_joined_kinds (P := P) (w := w) (base := base) T
  have G_are_unlike := ok_are_unlike (P := P) (w := w) (base := base) T
  refine T.F_unlike_ticks.ok sc_unlike_ticks (fun vs H Q E h => ?_) (fun cdv A outer s H vs Q E hr h => ?_)
  · obtain ⟨_, _, _, _, rfl, _⟩ := h
    rfl
  · obtain ⟨a, b, ns, ms, rfl, hS, hS2, hR, hR2, q⟩ := h
    refine ⟨_, (pss_cons (ps_expr (pe_call G_check_rings hr (by rfl) T.g_check_rings T.F_check_rings.kp T.b_check_rings .nil pass0 (pa_cons (pv 0) (pa_cons (pv 1) pa_nil))))
      (pss_cons (ps_set (i := 2) sc_unlike_ticks.nd rfl (.inl rfl) (pe_call G_lights_from (hr.mono (by decide)) (by rfl) T.g_lights_from T.F_lights_from.kp T.b_lights_from .nil pass0 (pa_cons (pv 0) (pa_cons (pv 1) (pa_cons pe_int pa_nil)))))
      (pss_cons (ps_set (i := 3) sc_unlike_ticks.nd rfl (.inl rfl) (pe_call G_doubled_kinds (hr.mono (by decide)) (by rfl) T.g_doubled_kinds T.F_doubled_kinds.kp T.b_doubled_kinds .nil pass0 (pa_cons (pv 2) pa_nil)))
      (pss_cons (ps_if (pt_not (pt_val (pe_call G_are_unlike (hr.mono (by decide)) (by rfl) T.g_are_unlike T.F_are_unlike.kp T.b_are_unlike .nil pass0 (pa_cons (pe_ix (ixL (K := K) rfl) (pv 3) (pe_un un_neg pe_int) (fun _ _ => rfl)) pa_nil)))) (pss_one (ps_ret pe_non)) pss_nil)
      (pss_cons (ps_par (i := 4) (j := 5) (by rfl) sc_unlike_ticks.nd rfl rfl (by decide) rfl rfl (pa_cons pe_int (pa_cons (pe_op op_rep (pe_lst (pa_cons pe_int pa_nil)) (pe_callB (lenL (K := K) rfl) (by rfl) T.n_len (by decide +kernel) (pa_cons (pv 2) pa_nil))) pa_nil)) (by rfl))
      (pss_cons (ps_for PassesOwn.never rfl (pi_range3 (by rfl) T.n_range (pa_cons (pe_op op_sub (pe_callB (lenL (K := K) rfl) (by rfl) T.n_len (by decide +kernel) (pa_cons (pv 3) pa_nil)) pe_int) (pa_cons (pe_un un_neg pe_int) (pa_cons (pe_un un_neg pe_int) pa_nil)))) (pg_name (i := 6) sc_unlike_ticks.nd rfl (.inl rfl)) (pss_cons (ps_set (i := 7) sc_unlike_ticks.nd rfl (.inl rfl) (pe_call G_joined_kinds (hr.mono (by decide)) (by rfl) T.g_joined_kinds T.F_joined_kinds.kp T.b_joined_kinds .nil pass0 (pa_cons (pv 5) (pa_cons (pe_ix (ixL (K := K) rfl) (pv 3) (pv 6) (fun _ _ => rfl)) (pa_cons (pv 4) pa_nil)))))
      (pss_one (ps_if (pt_not (pt_val (pe_call G_are_unlike (hr.mono (by decide)) (by rfl) T.g_are_unlike T.F_are_unlike.kp T.b_are_unlike .nil pass0 (pa_cons (pv 7) pa_nil)))) (pss_one (ps_par (i := 4) (j := 5) (by rfl) sc_unlike_ticks.nd rfl rfl (by decide) rfl rfl (pa_cons (pe_op op_add (pv 4) (pe_op op_shl pe_int (pv 6))) (pa_cons (pv 7) pa_nil)) (by rfl))) pss_nil))))
      (pss_one (ps_ret (pe_op op_add (pv 4) pe_int))))))))), ?_⟩
    have w1 := ringW_1600 hR hR2
    have hA := ring_again hR.pos hR2.pos
    have w0 := hA.pos
    refine ⟨.ref a, rfl, .ref b, rfl, a, b, ns, ms, rfl, hS, hS2, hR, hR2, fun H1 s1 => ?_⟩
    refine ⟨.ref a, rfl, .ref b, rfl, a, b, ns, ms, 0, rfl, s1.seq hS, s1.seq hS2, hR, hR2, fun l H2 s2 f2 e2 => ?_⟩
    generalize ringAt ns ms = g at e2 hA q
    generalize ringW ns ms = W at e2 hA q w1 w0
    refine ⟨.ref l, rfl, l, g, W, rfl, SqL.of e2, hA, w1, fun D us kss P H3 s3 f3 g3 hLL hD hW => ?_⟩
    obtain ⟨hk, hP11, hw⟩ := hD
    have hul := hLL.len
    obtain ⟨kl, hkl, wl⟩ := hw P (Nat.le_refl P)
    obtain ⟨tl, htl, etl⟩ := hLL.get hkl
    have hat : atI us (-1) = some (.ref tl) := at_lastN (by rw [hul]; exact hk) htl
    refine ⟨.ref D, rfl, 1, rfl, D, _, _, .ref tl, rfl, rfl, SqL.of g3, hat, tl, kl, rfl, SqL.of etl, by rw [wl.len]; omega, fun H4 s4 => ?_⟩
    have s14 := ((s1.trans s2).trans s3).trans s4
    by_cases hu : Uq g W (2 ^ P)
    · have hd : decide kl.Nodup = true := decide_eq_true (wl.nodup.mpr hu)
      have hWW : Uq g W W := Classical.byContradiction fun z => by
        obtain ⟨s, hs⟩ := short_of hA (Nat.le_refl W) z
        exact hs.not hu
      refine ⟨true, congrArg V.bl hd, iteF ?_⟩
      have gl4 := (s3.trans s4) _ _ e2
      refine ⟨(by show 1 ≤ sizeLine; decide), fun l0 hl0 => ?_⟩
      refine ⟨.ref l, rfl, l, _, rfl, .inl (SqL.of (new_same (o := .lst [.int 0]) hl0 _ _ gl4)), ?_⟩
      rw [List.length_map, seqG_len]
      refine ⟨l0, (W : Int), _, rfl, rfl, upd_same, by omega, by omega, (by show 1 * ((W : Nat) : Int).toNat ≤ sizeLine; exact sz40' (by omega)), fun k0 hk0 => ⟨_, _, rfl, ?_⟩⟩
      have s5 := s4.trans ((new_same (o := .lst [.int 0]) hl0).trans (new_same (o := .lst (List.replicate ((W : Nat) : Int).toNat [V.int 0]).flatten) hk0))
      have gk0 : (upd (upd H4 l0 (.lst [.int 0])) k0 (.lst (List.replicate ((W : Nat) : Int).toNat [V.int 0]).flatten)) k0 = some (.lst ((List.replicate W (0 : Int)).map V.int)) := by rw [upd_same, rep_one, Int.toNat_natCast]
      generalize upd (upd H4 l0 (.lst [.int 0])) k0 (.lst (List.replicate ((W : Nat) : Int).toNat [V.int 0]).flatten) = H5 at s5 gk0 ⊢
      have gD5 := s5 _ _ g3
      have L5 := hLL.up s5
      have s05 := ((s1.trans s2).trans s3).trans s5
      refine ⟨.ref D, rfl, D, _, rfl, .inl (SqL.of gD5), ?_⟩
      rw [hul, hk]
      have en : (((P + 1 : Nat) : Int) - 1 - (-1)).toNat = P + 1 := by omega
      refine ⟨((P + 1 : Nat) : Int), 1, rfl, rfl, 1, rfl, 1, rfl, ((P + 1 : Nat) : Int) - 1, -1, -1, _, rfl, RgC.neg (by omega) (by omega) (by decide) (by decide), ?_⟩
      refine for_rangeC (lo := ((P + 1 : Nat) : Int) - 1) (c := -1) (n := (((P + 1 : Nat) : Int) - 1 - (-1)).toNat)
        (fun i σ H' => ∃ (n : Nat) (kc : Addr) (kz : List Int) (y6 y7 : Option V), σ = [some (.ref a), some (.ref b), some (.ref l), some (.ref D), some (.int n), some (.ref kc), y6, y7] ∧ Same H5 H' ∧ H' kc = some (.lst (kz.map V.int)) ∧ Win g W n kz ∧ (n = 0 ∨ ¬ Uq g W n) ∧ Uq g W (n + 2 ^ (P + 1 - i)))
        ⟨0, k0, List.replicate W 0, _, _, rfl, Same.refl H5, gk0, Win.zero, .inl rfl, hu.mono (by rw [Nat.sub_zero, Nat.zero_add]; exact Nat.pow_le_pow_right (by decide) (Nat.le_succ P))⟩ (fun i σ H6 hi hQ => ?_) (fun σ H6 hQ => ?_)
      · obtain ⟨n, kc, kz, y6, y7, rfl, s6, gk, wz, h0, hun⟩ := hQ
        rw [en] at hi
        have ep : ((P + 1 : Nat) : Int) - 1 + (i : Int) * -1 = ((P - i : Nat) : Int) := by omega
        obtain ⟨kr, hkr, wr⟩ := hw (P - i) (Nat.sub_le _ _)
        obtain ⟨tr, htr, etr⟩ := L5.get hkr
        have hatr : atI us (((P + 1 : Nat) : Int) - 1 + (i : Int) * -1) = some (.ref tr) := by
          rw [ep]
          exact atI_nat htr
        refine ⟨.ref kc, rfl, .ref D, rfl, .int (((P + 1 : Nat) : Int) - 1 + (i : Int) * -1), rfl, D, _, _, .ref tr, rfl, rfl, SqL.of (s6 _ _ gD5), hatr, .int n, rfl, kc, tr, kz, kr, W, n, rfl, SqL.of gk, SqL.of (s6 _ _ etr), wz.len, wr.len, w0, by omega, fun l7 rs H7 s7 f7 g7 hN => ?_⟩
        have wj := Win.join hA wz wr hN
        refine ⟨.ref l7, rfl, l7, rs, rfl, SqL.of g7, by rw [wj.len]; omega, fun H8 s8 => ?_⟩
        have s68 := (s6.trans s7).trans s8
        by_cases hj : Uq g W (n + 2 ^ (P - i))
        · refine ⟨true, congrArg V.bl (decide_eq_true (wj.nodup.mpr hj)), iteF ?_⟩
          exact ⟨n, kc, kz, _, _, rfl, s68, (s7.trans s8) _ _ gk, wz, h0, by rw [show P + 1 - (i + 1) = P - i by omega]; exact hj⟩
        · refine ⟨false, congrArg V.bl (decide_eq_false fun z => hj (wj.nodup.mp z)), iteT ?_⟩
          refine ⟨.int n, rfl, .int (((P + 1 : Nat) : Int) - 1 + (i : Int) * -1), rfl, 1, _, rfl, rfl, ⟨by omega, by omega, by decide⟩, n, _, rfl, rfl, .ref l7, rfl, _, _, rfl, ?_⟩
          refine ⟨n + 2 ^ (P - i), l7, rs, some (.int (((P + 1 : Nat) : Int) - 1 + (i : Int) * -1)), some (.ref l7), ?_, s68, s8 _ _ g7, wj, .inr hj, ?_⟩
          · show [some (V.ref a), some (V.ref b), some (V.ref l), some (V.ref D), some (V.int ((n : Int) + 1 * 2 ^ (((P + 1 : Nat) : Int) - 1 + (i : Int) * -1).toNat)), some (V.ref l7), some (V.int (((P + 1 : Nat) : Int) - 1 + (i : Int) * -1)), some (V.ref l7)] = _
            rw [ep, Int.toNat_natCast, Int.one_mul, Int.natCast_add, Int.natCast_pow]
            rfl
          · rw [show P + 1 - (i + 1) = P - i by omega, Nat.add_assoc, show 2 ^ (P - i) + 2 ^ (P - i) = 2 ^ (P + 1 - i) by rw [show P + 1 - i = P - i + 1 by omega, Nat.pow_succ]; omega]
            exact hun
      · obtain ⟨n, kc, kz, y6, y7, rfl, s6, gk, wz, h0, hun⟩ := hQ
        rw [en, Nat.sub_self, Nat.pow_zero] at hun
        refine ⟨.int n, rfl, n, 1, rfl, rfl, ?_⟩
        have z := q _ H6 (.inr ⟨n + 1, rfl, hWW, by omega, hun, ?_⟩) (s05.trans s6)
        · rw [Int.natCast_add] at z
          exact z
        · rcases h0 with e | e
          · exact .inl (by omega)
          · exact .inr e
    · have hd : decide kl.Nodup = false := decide_eq_false fun z => hu (wl.nodup.mp z)
      have hWW : ¬ Uq g W W := fun z => hu (z.mono hW)
      exact ⟨false, congrArg V.bl hd, iteT (q _ H4 (.inl ⟨rfl, hWW⟩) s14)⟩

/-! ### tick_of -/
theorem shaped_dI (ns : List Int) : SeqAt.shaped (dI ns) = true := PySem.W.ke_shaped_ints ns
def tickO (g : Int → Int) (W : Nat) (vw : List Int) : Option Nat := (List.range W).find? fun (t : Nat) => decide (seqG g (t : Int) vw.length = vw)
theorem tickO_some {g : Int → Int} {W i : Nat} {vw : List Int} : tickO g W vw = some i ↔ i < W ∧ seqG g (i : Int) vw.length = vw ∧ ∀ j : Nat, j < i → ¬ seqG g (j : Int) vw.length = vw := by
  unfold tickO
  rw [List.find?_range_eq_some]
  constructor
  · rintro ⟨h1, h2, h3⟩
    exact ⟨List.mem_range.mp h2, of_decide_eq_true h1, fun j hj => of_decide_eq_false (by simpa using h3 j hj)⟩
  · rintro ⟨h1, h2, h3⟩
    exact ⟨decide_eq_true h2, List.mem_range.mpr h1, fun j hj => by simpa using h3 j hj⟩
theorem tickO_none {g : Int → Int} {W : Nat} {vw : List Int} : tickO g W vw = none ↔ ∀ j : Nat, j < W → ¬ seqG g (j : Int) vw.length = vw := by
  unfold tickO
  rw [List.find?_eq_none]
  constructor
  · intro h j hj e
    exact h j (List.mem_range.mpr hj) (decide_eq_true e)
  · intro h j hj e
    exact h j (List.mem_range.mp hj) (of_decide_eq_true e)
def optV : Option Nat → V
  | some k => .int (k : Int)
  | none => .non
theorem rep_seq {g : Int → Int} {W : Nat} (A : Again g W) : ∀ c : Nat, (List.replicate c ((seqG g 0 W).map V.int)).flatten = (seqG g 0 (c * W)).map V.int
  | 0 => by
    rw [Nat.zero_mul]
    rfl
  | c + 1 => by
    rw [List.replicate_succ, List.flatten_cons, rep_seq A c, Nat.succ_mul, Nat.add_comm, seqG_add, A.seq, List.map_append]
def spTick (K : PySem.W.Frag) : Sp := fun vs H Q _ => ∃ (a b v : Addr) (ns ms vw : List Int), vs = [.ref a, .ref b, .ref v] ∧ SqL K H a (ns.map V.int) ∧ SqL K H b (ms.map V.int) ∧ SqL K H v (vw.map V.int) ∧ Rim ns ∧ Rim ms ∧ 1 ≤ vw.length ∧ vw.length ≤ 1600 ∧
  ∀ H', Same H H' → Q (optV (tickO (ringAt ns ms) (ringW ns ms) vw)) H'
theorem ok_tick_of (T : Txt K mg) : FnOk P w K mg base CX0 6 T.a_tick_of T.d_tick_of ["disc", "other", "lights"] (spTick K) := by
  have G_check_rings := ok_check_rings (P := P) (w := w) (base := base) T
  have G_check_so_many_lights := ok_check_so_many_lights (P := P) (w := w) (base := base) T
  have G_lights_from := ok_lights_from (P := P) (w := w) (base := base) T
  refine T.F_tick_of.ok sc_tick_of (fun vs H Q E h => ?_) (fun cdv A outer s H vs Q E hr h => ?_)
  · obtain ⟨_, _, _, _, _, _, rfl, _⟩ := h
    rfl
  · obtain ⟨a, b, v, ns, ms, vw, rfl, hS, hS2, hS3, hR, hR2, v1, v2, q⟩ := h
    refine ⟨_, (pss_cons (ps_expr (pe_call G_check_rings hr (by rfl) T.g_check_rings T.F_check_rings.kp T.b_check_rings .nil pass0 (pa_cons (pv 0) (pa_cons (pv 1) pa_nil))))
      (pss_cons (ps_expr (pe_call G_check_so_many_lights (hr.mono (by decide)) (by rfl) T.g_check_so_many_lights T.F_check_so_many_lights.kp T.b_check_so_many_lights .nil pass0 (pa_cons (pv 2) (pa_cons pe_int (pa_cons (pe_glob (v := .int (1600)) rfl T.g_MOST_RING_LIGHTS ⟨_, rfl⟩) pa_nil)))))
      (pss_cons (ps_set (i := 3) sc_tick_of.nd rfl (.inl rfl) (pe_call G_lights_from (hr.mono (by decide)) (by rfl) T.g_lights_from T.F_lights_from.kp T.b_lights_from .nil pass0 (pa_cons (pv 0) (pa_cons (pv 1) (pa_cons pe_int pa_nil)))))
      (pss_cons (ps_set (i := 4) sc_tick_of.nd rfl (.inl rfl) (pe_op op_rep (pv 3) (pe_op op_add pe_int (pe_op op_fdivW (pe_callB (lenL (K := K) rfl) (by rfl) T.n_len (by decide +kernel) (pa_cons (pv 2) pa_nil)) (pe_callB (lenL (K := K) rfl) (by rfl) T.n_len (by decide +kernel) (pa_cons (pv 3) pa_nil))))))
      (pss_cons (ps_for PassesOwn.never rfl (pi_range1 (by rfl) T.n_range (pa_cons (pe_callB (lenL (K := K) rfl) (by rfl) T.n_len (by decide +kernel) (pa_cons (pv 3) pa_nil)) pa_nil)) (pg_name (i := 5) sc_tick_of.nd rfl (.inl rfl)) (pss_one (ps_if (pt_cmpR (eqD (K := K) rfl hr) (pe_slice (slL (K := K) rfl) (pv 4) (po_some (pv 5)) (po_some (pe_op op_add (pv 5) (pe_callB (lenL (K := K) rfl) (by rfl) T.n_len (by decide +kernel) (pa_cons (pv 2) pa_nil))))) (pv 2) (nomark _)) (pss_one (ps_ret (pv 5))) pss_nil)))
      (pss_one (ps_ret pe_non))))))), ?_⟩
    have w1 := ringW_1600 hR hR2
    have hA := ring_again hR.pos hR2.pos
    have w0 := hA.pos
    refine ⟨.ref a, rfl, .ref b, rfl, a, b, ns, ms, rfl, hS, hS2, hR, hR2, fun H1 s1 => ?_⟩
    refine ⟨.ref v, rfl, v, vw, 1, 1600, rfl, s1.seq hS3, by omega, by omega, fun H2 s2 => ?_⟩
    have s12 := s1.trans s2
    refine ⟨.ref a, rfl, .ref b, rfl, a, b, ns, ms, 0, rfl, s12.seq hS, s12.seq hS2, hR, hR2, fun l H3 s3 f3 e3 => ?_⟩
    generalize ringAt ns ms = g at e3 hA q
    generalize ringW ns ms = W at e3 hA q w1 w0
    have s13 := s12.trans s3
    have ec : (2 : Int) + (vw.length : Int) / (W : Int) = ((2 + vw.length / W : Nat) : Int) := by
      rw [Int.natCast_add, Int.natCast_ediv]
      rfl
    have d1 := Nat.div_mul_le_self vw.length W
    have d2 := Nat.lt_div_mul_add (a := vw.length) w0
    have d3 : (2 + vw.length / W) * W = 2 * W + vw.length / W * W := Nat.add_mul ..
    have d4 : vw.length / W ≤ vw.length := Nat.div_le_self ..
    have d5 : 2 + vw.length / W ≤ 2000 := by omega
    generalize 2 + vw.length / W = c at ec d3 d5
    refine ⟨.ref l, rfl, .ref v, rfl, v, _, rfl, .inl (s13.seq hS3), .ref l, rfl, l, _, rfl, .inl (SqL.of e3), ?_⟩
    rw [List.length_map, List.length_map, seqG_len]
    refine ⟨(vw.length : Int), (W : Int), rfl, rfl, wide_div (b := 200) (by omega) (by omega) (by decide) (by decide), 2, _, rfl, rfl, ?_⟩
    show rRep (V.ref l) (V.int (2 + (vw.length : Int) / (W : Int))) _ _
    rw [ec]
    refine ⟨l, _, _, rfl, rfl, e3, by omega, by omega, ?_, fun p hp => ?_⟩
    · rw [List.length_map, seqG_len, Int.toNat_natCast, Nat.mul_comm]
      exact sz40' (by omega)
    rw [Int.toNat_natCast, rep_seq hA]
    have s4 := s13.trans (new_same (o := .lst ((seqG g 0 (c * W)).map V.int)) hp)
    have g4 : (upd H3 p (.lst ((seqG g 0 (c * W)).map V.int))) p = some (.lst ((seqG g 0 (c * W)).map V.int)) := upd_same
    have gl4 := new_same (o := .lst ((seqG g 0 (c * W)).map V.int)) hp _ _ e3
    generalize upd H3 p (.lst ((seqG g 0 (c * W)).map V.int)) = H4 at s4 g4 gl4 ⊢
    refine ⟨.ref l, rfl, l, _, rfl, .inl (SqL.of gl4), ?_⟩
    rw [List.length_map, seqG_len]
    refine ⟨W, rfl, by omega, by omega, for_range (lo := 0) (n := ((W : Nat) : Int).toNat) (fun i σ H' => ∃ y5 : Option V, σ = [some (.ref a), some (.ref b), some (.ref v), some (.ref l), some (.ref p), y5] ∧ Same H4 H' ∧ ∀ j : Nat, j < i → ¬ seqG g (j : Int) vw.length = vw)
      ⟨_, rfl, Same.refl H4, fun j hj => absurd hj (Nat.not_lt_zero j)⟩ (fun i σ H5 hi hP => ?_) (fun σ H5 hP => ?_)⟩
    · obtain ⟨y5, rfl, s5, hno⟩ := hP
      rw [Int.toNat_natCast] at hi
      rw [show (0 : Int) + (i : Int) = (i : Int) from Int.zero_add _]
      have s45 := s4.trans s5
      refine ⟨.ref p, rfl, .int i, rfl, _, rfl, .int i, rfl, .ref v, rfl, v, _, rfl, .inl (s45.seq hS3), ?_⟩
      rw [List.length_map]
      refine ⟨i, vw.length, rfl, rfl, _, rfl, p, _, rfl, SqL.of (s5 _ _ g4), fun w1 hw1 => ?_⟩
      rw [cut_seq (by omega)]
      have s6 := s5.trans (new_same (o := .lst ((seqG g (i : Int) vw.length).map V.int)) hw1)
      refine ⟨.ref v, rfl, _, _, dp_ints (SqL.of upd_same), dp_ints ((s4.trans s6).seq hS3), shaped_dI _, shaped_dI _, _, rfl, ?_⟩
      rw [eqv_dI]
      refine ite2 (fun h => ?_) (fun h => ?_)
      · have he := of_decide_eq_true h
        refine ⟨.int i, rfl, ?_⟩
        have z := q _ (s4.trans s6)
        rw [tickO_some.mpr ⟨hi, he, hno⟩] at z
        exact z
      · refine ⟨_, rfl, s6, fun j hj => ?_⟩
        by_cases e : j < i
        · exact hno j e
        · obtain rfl : j = i := by omega
          exact fun z => h (decide_eq_true z)
    · obtain ⟨y5, rfl, s5, hno⟩ := hP
      rw [Int.toNat_natCast] at hno
      have z := q _ (s4.trans s5)
      rw [tickO_none.mpr hno] at z
      exact z

/-! ### the law: rings as long as each other -/
theorem upd_tank {H : Hp} {t o : Addr} {c : Int} {x : HO} (k : Tank H t c) (n : o ≠ t) : Tank (upd H o x) t c := by
  obtain ⟨a1, a2, a3, e, z⟩ := k
  exact ⟨a1, a2, a3, by rw [upd_ne n.symm]; exact e, z⟩
theorem far_round {ns ms : List Int} (h1 : 1 ≤ ns.length) (h2 : 1 ≤ ms.length) (f n : Nat) : farG (ringAt ns ms) (ringW ns ms) (f : Int) (n : Int) = (seqG (ringAt ns ms) (f : Int) n).sum := by
  rw [(ring_again h1 h2).far _ (by omega), Int.toNat_natCast]
theorem rim_three : Rim [3] := ⟨by decide, by decide, by decide⟩
def spSR60 : Sp := fun vs H Q _ => ∃ (t a : Addr) (ns : List Int) (c : Int), vs = [.ref t, .ref a] ∧ H a = some (.lst (ns.map V.int)) ∧ a ≠ t ∧ Rim ns ∧ Tank H t c ∧ 0 ≤ c ∧ c < 2 ^ 37 ∧ ∀ H', But t H H' → Tank H' t (c + 70) → Q (.bl true) H'
theorem ok_law_same_right (T : Txt K mg) : FnOk P w K mg base CX0 7 T.a_law_same_right T.d_law_same_right ["tank", "rim"] spSR60 := by
  have G_law_tap := ok_law_tap (P := P) (w := w) (base := base) T
  have G_law_drawn_rim := ok_law_drawn_rim (P := P) (w := w) (base := base) T
  have G_ring_sum := ok_ring_sum (P := P) (w := w) (base := base) T
  have G_light_at := ok_light_at (P := P) (w := w) (base := base) T
  have G_turned_disc := ok_turned_disc (P := P) (w := w) (base := base) T
  refine T.F_law_same_right.ok sc_law_same_right (fun vs H Q E h => ?_) (fun cdv A outer s H vs Q E hr h => ?_)
  · obtain ⟨_, _, _, _, rfl, _⟩ := h
    rfl
  · obtain ⟨t, a, ns, c, rfl, ga, na, hR, hT, hc0, hc, q⟩ := h
    refine ⟨_, (pss_cons (ps_par (i := 2) (j := 3) (by rfl) sc_law_same_right.nd rfl rfl (by decide) rfl rfl (pa_cons (pe_call G_law_drawn_rim (hr.mono (by decide)) (by rfl) T.g_law_drawn_rim T.F_law_drawn_rim.kp T.b_law_drawn_rim .nil pass0 (pa_cons (pv 0) (pa_cons (pe_callB (lenL (K := K) rfl) (by rfl) T.n_len (by decide +kernel) (pa_cons (pv 1) pa_nil)) pa_nil))) (pa_cons (pe_call G_law_tap (hr.mono (by decide)) (by rfl) T.g_law_tap T.F_law_tap.kp T.b_law_tap .nil pass0 (pa_cons (pv 0) (pa_cons (pe_op op_pow pe_int pe_int) pa_nil))) pa_nil)) (by rfl))
      (pss_cons (ps_if (pt_cmpR op_ne (pe_call G_ring_sum hr (by rfl) T.g_ring_sum T.F_ring_sum.kp T.b_ring_sum .nil pass0 (pa_cons (pv 1) (pa_cons (pv 2) (pa_cons pe_int (pa_cons (pe_callB (lenL (K := K) rfl) (by rfl) T.n_len (by decide +kernel) (pa_cons (pv 1) pa_nil)) pa_nil))))) (pe_call G_light_at hr (by rfl) T.g_light_at T.F_light_at.kp T.b_light_at .nil pass0 (pa_cons (pv 1) (pa_cons (pv 2) (pa_cons pe_int pa_nil)))) (nomark _)) (pss_one (ps_ret pe_bl)) pss_nil)
      (pss_cons (ps_if (pt_cmpR op_ne (pe_call G_ring_sum hr (by rfl) T.g_ring_sum T.F_ring_sum.kp T.b_ring_sum .nil pass0 (pa_cons (pv 1) (pa_cons (pe_call G_turned_disc (hr.mono (by decide)) (by rfl) T.g_turned_disc T.F_turned_disc.kp T.b_turned_disc .nil pass0 (pa_cons (pv 2) (pa_cons (pv 3) pa_nil))) (pa_cons pe_int (pa_cons (pe_callB (lenL (K := K) rfl) (by rfl) T.n_len (by decide +kernel) (pa_cons (pv 1) pa_nil)) pa_nil))))) (pe_call G_light_at hr (by rfl) T.g_light_at T.F_light_at.kp T.b_light_at .nil pass0 (pa_cons (pv 1) (pa_cons (pv 2) (pa_cons (pv 3) pa_nil)))) (nomark _)) (pss_one (ps_ret pe_bl)) pss_nil)
      (pss_one (ps_ret (pe_cmpR op_eq (pe_call G_ring_sum hr (by rfl) T.g_ring_sum T.F_ring_sum.kp T.b_ring_sum .nil pass0 (pa_cons (pv 1) (pa_cons (pe_lst (pa_cons pe_int pa_nil)) (pa_cons pe_int (pa_cons (pe_callB (lenL (K := K) rfl) (by rfl) T.n_len (by decide +kernel) (pa_cons (pv 1) pa_nil)) pa_nil))))) (pe_op op_mulW pe_int (pe_callB (sumL (K := K) rfl rfl) (by rfl) T.n_sum (by decide +kernel) (pa_cons (pv 1) pa_nil))) (nomark _))))))), ?_⟩
    have l1 := hR.pos
    have l40 := hR.le
    have nb : ((ns.length : Nat) : Int).natAbs < 2 ^ 200 := by rw [Int.natAbs_natCast]; exact Nat.lt_of_le_of_lt l40 (by decide +kernel)
    refine ⟨.ref t, rfl, .ref a, rfl, a, _, rfl, .inl (SqL.of ga), ?_⟩
    rw [List.length_map]
    refine ⟨t, ns.length, c, rfl, by omega, by omega, hT, by omega, by omega, fun l ms H1 hR2 hl u1 f1 g1 k1 => ?_⟩
    have nl : l ≠ t := hT.ne f1
    have hlen : ns.length = ms.length := by omega
    have l2 := hR2.pos
    refine ⟨.ref t, rfl, 10, 30, rfl, rfl, ⟨by decide, by decide, by decide⟩, t, 10 ^ (30 : Int).toNat, c + 60, rfl, by decide +kernel, by decide +kernel, k1, by omega, fun y H2 y0 y1 k2 u2 => ⟨_, _, rfl, ?_⟩⟩
    have u12 := u1.trans u2
    have ga2 := u12 _ _ ga na
    have gl2 := u2 _ _ g1 nl
    refine ⟨.ref a, rfl, .ref l, rfl, .ref a, rfl, a, _, rfl, .inl (SqL.of ga2), ?_⟩
    rw [List.length_map]
    refine ⟨a, l, ns, ms, 0, ns.length, rfl, SqL.of ga2, SqL.of gl2, hR, hR2, by decide, by omega, nb, fun H3 s3 => ?_⟩
    have ga3 := s3 _ _ ga2
    have gl3 := s3 _ _ gl2
    refine ⟨.ref a, rfl, .ref l, rfl, a, l, ns, ms, 0, rfl, SqL.of ga3, SqL.of gl3, hR, hR2, hlen, fun H4 s4 => ?_⟩
    have e1 : farG (ringAt ns ms) (ringW ns ms) 0 (ns.length : Int) = lightV ns ms 0 := by
      have := far_round l1 l2 0 ns.length
      rw [Int.natCast_zero] at this
      rw [this]
      have z := ring_light l1 hlen 0
      rw [Int.natCast_zero] at z
      rw [z]
      unfold lightV
      rw [rot_zero]
    refine ⟨rfl, _, rfl, iteNS (congrArg V.int e1) ?_⟩
    have ga4 := s4 _ _ ga3
    have gl4 := s4 _ _ gl3
    refine ⟨.ref a, rfl, .ref l, rfl, .int y, rfl, l, ms, y, rfl, SqL.of gl4, hR2, fun m H5 s5 f5 e5 => ?_⟩
    have ga5 := s5 _ _ ga4
    have gl5 := s5 _ _ gl4
    have hRr := hR2.rot y
    have hlr : ns.length = (rot ms y).length := by rw [rot_len]; exact hlen
    refine ⟨.ref a, rfl, a, _, rfl, .inl (SqL.of ga5), ?_⟩
    rw [List.length_map]
    refine ⟨a, m, ns, rot ms y, 7, ns.length, rfl, SqL.of ga5, SqL.of e5, hR, hRr, by decide, by omega, nb, fun H6 s6 => ?_⟩
    have ga6 := s6 _ _ ga5
    have gl6 := s6 _ _ gl5
    refine ⟨.ref a, rfl, .ref l, rfl, .int y, rfl, a, l, ns, ms, y, rfl, SqL.of ga6, SqL.of gl6, hR, hR2, hlen, fun H7 s7 => ?_⟩
    have e2 : farG (ringAt ns (rot ms y)) (ringW ns (rot ms y)) 7 (ns.length : Int) = lightV ns ms y := by
      have := far_round l1 hRr.pos 7 ns.length
      rw [show ((7 : Nat) : Int) = 7 from rfl] at this
      rw [this]
      exact ring_light l1 hlr 7
    refine ⟨rfl, _, rfl, iteNS (congrArg V.int e2) ?_⟩
    have ga7 := s7 _ _ ga6
    refine ⟨.ref a, rfl, (by show 1 ≤ sizeLine; decide), fun p hp => ?_⟩
    have s8 := new_same (o := .lst [.int 3]) hp
    have ga8 := s8 _ _ ga7
    have gp8 : (upd H7 p (.lst [.int 3])) p = some (.lst (([3] : List Int).map V.int)) := upd_same
    refine ⟨.ref a, rfl, a, _, rfl, .inl (SqL.of ga8), ?_⟩
    rw [List.length_map]
    refine ⟨a, p, ns, [3], 0, ns.length, rfl, SqL.of ga8, SqL.of gp8, hR, rim_three, by decide, by omega, nb, fun H9 s9 => ?_⟩
    have ga9 := s9 _ _ ga8
    refine ⟨.ref a, rfl, a, ns, rfl, SqL.of ga9, 3, _, rfl, rfl, wide_mul (a := 10) (b := 110) (by decide) (sum_ltk (k := 100) (j := 10) hR.ab (by omega)) (by decide) (by decide) (by decide), rfl, ?_⟩
    have e3 : farG (ringAt ns [3]) (ringW ns [3]) 0 (ns.length : Int) = 3 * ns.sum := by
      have := far_round l1 rim_three.pos 0 ns.length
      rw [Int.natCast_zero] at this
      rw [this]
      exact ring_three 3 l1
    have sE := ((s3.trans s4).trans (s5.trans s6)).trans ((s7.trans s8).trans s9)
    have z := q _ (u12.trans (But.of sE)) ((k2.same sE).mono (by omega))
    show Q (.bl (decide (V.int (farG (ringAt ns [3]) (ringW ns [3]) 0 (ns.length : Int)) = V.int (3 * ns.sum)))) _
    rw [decide_eq_true (congrArg V.int e3)]
    exact z

/-! ### the law: sums of lights along the rings -/
theorem ring_comm (ns ms : List Int) : ringAt ms ns = ringAt ns ms := funext fun t => ring_swap ns ms t
theorem stepV_ab {ns : List Int} {k : Nat} (h : Ab k ns) (r g : Nat) : Ab k (stepV ns r g) := fun x hx => by
  unfold stepV at hx
  obtain ⟨i, _, e⟩ := List.mem_filterMap.mp hx
  exact h x (List.mem_of_getElem? e)
theorem ring_gcd {ns ms : List Int} : ns.length * ms.length = Nat.gcd ns.length ms.length * ringW ns ms := (Nat.gcd_mul_lcm _ _).symm
def spSums60 : Sp := fun vs H Q _ => ∃ (t a b : Addr) (ns ms : List Int) (c : Int), vs = [.ref t, .ref a, .ref b, .int (ringW ns ms)] ∧ H a = some (.lst (ns.map V.int)) ∧ H b = some (.lst (ms.map V.int)) ∧ a ≠ t ∧ b ≠ t ∧ Rim ns ∧ Rim ms ∧ Tank H t c ∧ 0 ≤ c ∧ c < 2 ^ 37 ∧
  ∀ H', But t H H' → Tank H' t (c + 5) → Q (.bl true) H'
theorem ok_law_sums_right (T : Txt K mg) : FnOk P w K mg base CX0 7 T.a_law_sums_right T.d_law_sums_right ["tank", "rim", "mate", "whole"] spSums60 := by
  have G_law_tap := ok_law_tap (P := P) (w := w) (base := base) T
  have G_ring_sum := ok_ring_sum (P := P) (w := w) (base := base) T
  have G_ring_light := ok_ring_light (P := P) (w := w) (base := base) T
  refine T.F_law_sums_right.ok sc_law_sums_right (fun vs H Q E h => ?_) (fun cdv A outer s H vs Q E hr h => ?_)
  · obtain ⟨_, _, _, _, _, _, rfl, _⟩ := h
    rfl
  · obtain ⟨t, a, b, ns, ms, c, rfl, ga, gb, na, nb, hR, hR2, hT, hc0, hc, q⟩ := h
    refine ⟨_, (pss_cons (ps_asg (pe_tup (pa_cons (pe_call G_law_tap (hr.mono (by decide)) (by rfl) T.g_law_tap T.F_law_tap.kp T.b_law_tap .nil pass0 (pa_cons (pv 0) (pa_cons (pe_op op_pow pe_int pe_int) pa_nil))) (pa_cons (pe_call G_law_tap (hr.mono (by decide)) (by rfl) T.g_law_tap T.F_law_tap.kp T.b_law_tap .nil pass0 (pa_cons (pv 0) (pa_cons pe_int pa_nil))) pa_nil))) (pg_tupL (K := K) (n := 2) rfl rfl (pgs_cons (pg_name (i := 4) sc_law_sums_right.nd rfl (.inr rfl)) (pgs_cons (pg_name (i := 5) sc_law_sums_right.nd rfl (.inl rfl)) pgs_nil))))
      (pss_cons (ps_if (pt_cmpR op_ne (pe_call G_ring_sum hr (by rfl) T.g_ring_sum T.F_ring_sum.kp T.b_ring_sum .nil pass0 (pa_cons (pv 1) (pa_cons (pv 2) (pa_cons (pv 4) (pa_cons (pv 5) pa_nil))))) (pe_callB (sumL (K := K) rfl rfl) (by rfl) T.n_sum (by decide +kernel) (pa_cons (pe_lc (own := [("k", 6)]) (g := gName 6) (tt := tYes) (by rfl) sc_law_sums_right.nd (pi_range1 (by rfl) T.n_range (pa_cons (pv 5) pa_nil)) (blkOk_by (own := [("k", 6)]) (N := ["tank", "rim", "mate", "whole", "begin", "count", "k", "shared", "due", "rest"]) (sc := defScope s_law_sums_right) (by decide +kernel))
        (fun _ _ _ _ _ => (pg_name (i := 6) sc_law_sums_right.nd rfl (Or.inl rfl))) (fun _ _ _ _ _ => pts_nil) (fun _ _ _ _ _ => (pe_call G_ring_light hr (by rfl) T.g_ring_light T.F_ring_light.kp T.b_ring_light .nil pass0 (pa_cons (pv 1) (pa_cons (pv 2) (pa_cons (pe_op op_add (pv 4) (pv 6)) pa_nil)))))) pa_nil)) (nomark _)) (pss_one (ps_ret pe_bl)) pss_nil)
      (pss_mid (ps_if (PW.pt (pw_and (pt_cmpR op_eq (pv 3) (pe_op op_mul (pe_callB (lenL (K := K) rfl) (by rfl) T.n_len (by decide +kernel) (pa_cons (pv 1) pa_nil)) (pe_callB (lenL (K := K) rfl) (by rfl) T.n_len (by decide +kernel) (pa_cons (pv 2) pa_nil))) (nomark _)) (pw_and1 (pt_cmpR op_ne (pe_call G_ring_sum hr (by rfl) T.g_ring_sum T.F_ring_sum.kp T.b_ring_sum .nil pass0 (pa_cons (pv 1) (pa_cons (pv 2) (pa_cons (pv 4) (pa_cons (pv 3) pa_nil))))) (pe_op op_mulW (pe_callB (sumL (K := K) rfl rfl) (by rfl) T.n_sum (by decide +kernel) (pa_cons (pv 1) pa_nil)) (pe_callB (sumL (K := K) rfl rfl) (by rfl) T.n_sum (by decide +kernel) (pa_cons (pv 2) pa_nil))) (nomark _))))) (pss_one (ps_ret pe_bl)) pss_nil)
      (pss_cons (ps_if (pt_cmpR op_ne (pe_call G_ring_sum hr (by rfl) T.g_ring_sum T.F_ring_sum.kp T.b_ring_sum .nil pass0 (pa_cons (pv 2) (pa_cons (pv 1) (pa_cons (pv 4) (pa_cons (pv 5) pa_nil))))) (pe_call G_ring_sum hr (by rfl) T.g_ring_sum T.F_ring_sum.kp T.b_ring_sum .nil pass0 (pa_cons (pv 1) (pa_cons (pv 2) (pa_cons (pv 4) (pa_cons (pv 5) pa_nil))))) (nomark _)) (pss_one (ps_ret pe_bl)) pss_nil)
      (pss_cons (ps_if (pt_cmpR op_ne (pe_call G_ring_light hr (by rfl) T.g_ring_light T.F_ring_light.kp T.b_ring_light .nil pass0 (pa_cons (pv 1) (pa_cons (pv 2) (pa_cons (pe_op op_add (pv 4) (pv 3)) pa_nil)))) (pe_call G_ring_light hr (by rfl) T.g_ring_light T.F_ring_light.kp T.b_ring_light .nil pass0 (pa_cons (pv 2) (pa_cons (pv 1) (pa_cons (pv 4) pa_nil)))) (nomark _)) (pss_one (ps_ret pe_bl)) pss_nil)
      (pss_cons (ps_set (i := 7) sc_law_sums_right.nd rfl (.inl rfl) (pe_op op_fdivW (pe_op op_mul (pe_callB (lenL (K := K) rfl) (by rfl) T.n_len (by decide +kernel) (pa_cons (pv 1) pa_nil)) (pe_callB (lenL (K := K) rfl) (by rfl) T.n_len (by decide +kernel) (pa_cons (pv 2) pa_nil))) (pv 3)))
      (pss_cons (ps_set (i := 8) sc_law_sums_right.nd rfl (.inl rfl) pe_int)
      (pss_cons (ps_for PassesOwn.never rfl (pi_range1 (by rfl) T.n_range (pa_cons (pv 7) pa_nil)) (pg_name (i := 9) sc_law_sums_right.nd rfl (.inl rfl)) (pss_one (ps_set (i := 8) sc_law_sums_right.nd rfl (.inl rfl) (pe_op op_add (pv 8) (pe_op op_mulW (pe_callB (sumL (K := K) rfl rfl) (by rfl) T.n_sum (by decide +kernel) (pa_cons (pe_stepL (K := K) rfl (pv 1) (po_some (pv 9)) (po_some (pv 7))) pa_nil)) (pe_callB (sumL (K := K) rfl rfl) (by rfl) T.n_sum (by decide +kernel) (pa_cons (pe_stepL (K := K) rfl (pv 2) (po_some (pv 9)) (po_some (pv 7))) pa_nil)))))))
      (pss_one (ps_ret (pe_cmpR op_eq (pe_call G_ring_sum hr (by rfl) T.g_ring_sum T.F_ring_sum.kp T.b_ring_sum .nil pass0 (pa_cons (pv 1) (pa_cons (pv 2) (pa_cons pe_int (pa_cons (pv 3) pa_nil))))) (pv 8) (nomark _)))))))))))), ?_⟩
    have l1 := hR.pos
    have l2 := hR2.pos
    have m1 := hR.le
    have m2 := hR2.le
    have w1 := ringW_1600 hR hR2
    have hA := ring_again l1 l2
    have w0 := hA.pos
    refine ⟨.ref t, rfl, 10, 39, rfl, rfl, ⟨by decide, by decide, by decide⟩, t, 10 ^ (39 : Int).toNat, c, rfl, by decide +kernel, by decide +kernel, hT, by omega, fun y H1 y0 y1 k1 u1 => ?_⟩
    refine ⟨.ref t, rfl, t, 40, c + 1, rfl, by omega, by omega, k1, by omega, fun n H2 n0 n1 k2 u2 => ?_⟩
    refine ⟨(by show 2 ≤ sizeLine; decide), fun tp htp => ⟨tp, _, rfl, SqT.of upd_same, rfl, _, _, rfl, _, _, rfl, rfl, ?_⟩⟩
    obtain ⟨yn, rfl⟩ : ∃ yn : Nat, y = (yn : Int) := ⟨y.toNat, by omega⟩
    obtain ⟨nn, rfl⟩ : ∃ nn : Nat, n = (nn : Int) := ⟨n.toNat, by omega⟩
    have uP := (u1.trans u2).trans (But.of (new_same (o := .tup [.int yn, .int nn]) htp))
    have kP := k2.up (o := .tup [.int yn, .int nn]) htp
    have ga := uP _ _ ga na
    have gb := uP _ _ gb nb
    generalize upd H2 tp (.tup [.int yn, .int nn]) = H3 at uP kP ga gb ⊢
    have bn : ((nn : Nat) : Int).natAbs < 2 ^ 200 := by rw [Int.natAbs_natCast]; exact Nat.lt_trans (m := 40) (by omega) (by decide +kernel)
    have bW : ((ringW ns ms : Nat) : Int).natAbs < 2 ^ 200 := by rw [Int.natAbs_natCast]; exact Nat.lt_of_le_of_lt w1 (by decide +kernel)
    -- as many lights one by one
    refine ⟨.ref a, rfl, .ref b, rfl, .int yn, rfl, .int nn, rfl, a, b, ns, ms, yn, nn, rfl, SqL.of ga, SqL.of gb, hR, hR2, by omega, by omega, bn, fun H4 s4 => ?_⟩
    have ga4 := s4 _ _ ga
    have gb4 := s4 _ _ gb
    refine ⟨.int nn, rfl, nn, rfl, by omega, by omega, fun D hD => ?_⟩
    refine lc_range (lo := 0) (n := ((nn : Nat) : Int).toNat) (fun i H' => Same H4 H' ∧ H' D = some (.lst (((seqG (ringAt ns ms) yn nn).take i).map V.int)))
      ⟨new_same hD, upd_same⟩ (fun i H5 hi hP => ⟨rfl, ?_⟩) (fun H5 hP => ?_)
    · obtain ⟨s5, g5⟩ := hP
      rw [Int.toNat_natCast] at hi
      rw [show (0 : Int) + (i : Int) = (i : Int) from Int.zero_add _]
      refine ⟨.ref a, rfl, .ref b, rfl, .int yn, rfl, .int i, rfl, yn, i, rfl, rfl, a, b, ns, ms, yn + i, rfl, SqL.of (s5 _ _ ga4), SqL.of (s5 _ _ gb4), hR, hR2, by omega, fun H6 s6 => ?_⟩
      refine ⟨_, s6 _ _ g5, ?_, same_over (s5.trans s6) hD, ?_⟩
      · rw [List.length_map, List.length_take]
        exact sz40 (by omega)
      · rw [upd_same, take_next (seqG_at hi)]
    obtain ⟨s5, g5⟩ := hP
    rw [Int.toNat_natCast, take_all (by rw [seqG_len]; exact Nat.le_refl _)] at g5
    refine ⟨D, seqG (ringAt ns ms) yn nn, rfl, SqL.of g5, rfl, _, rfl, iteNS (congrArg V.int (far_round l1 l2 yn nn)) ?_⟩
    have s45 := s4.trans s5
    have ga5 := s45 _ _ ga
    have gb5 := s45 _ _ gb
    -- rings that share nothing
    have eW : farG (ringAt ns ms) (ringW ns ms) (yn : Int) (ringW ns ms : Int) = (seqG (ringAt ns ms) 0 (ringW ns ms)).sum := by
      rw [far_round l1 l2]
      exact hA.round yn
    refine ⟨fun σ' H' => ∃ y6 : Option V, σ' = [some (.ref t), some (.ref a), some (.ref b), some (.int (ringW ns ms)), some (.int yn), some (.int nn), y6, none, none, none] ∧ Same H5 H', ⟨.int (ringW ns ms), rfl, .ref a, rfl, a, _, rfl, .inl (SqL.of ga5), .ref b, rfl, b, _, rfl, .inl (SqL.of gb5), ?_⟩, fun σ' H6 hM => ?_⟩
    · rw [List.length_map, List.length_map]
      refine ⟨ns.length, ms.length, rfl, rfl, .inl ⟨by omega, by omega⟩, rfl, _, rfl, ite2 (fun h => ?_) (fun _ => iteF ⟨_, rfl, Same.refl H5⟩)⟩
      have hW : ringW ns ms = ns.length * ms.length := by
        have := V.int.inj (of_decide_eq_true h)
        rw [← Int.natCast_mul] at this
        omega
      refine ⟨.ref a, rfl, .ref b, rfl, .int yn, rfl, .int (ringW ns ms), rfl, a, b, ns, ms, yn, ringW ns ms, rfl, SqL.of ga5, SqL.of gb5, hR, hR2, by omega, by omega, bW, fun H6 s6 => ?_⟩
      refine ⟨.ref a, rfl, a, ns, rfl, SqL.of (s6 _ _ ga5), .ref b, rfl, b, ms, rfl, SqL.of (s6 _ _ gb5), _, _, rfl, rfl, wide_mul (a := 110) (b := 110) (sum_ltk (k := 100) (j := 10) hR.ab (by omega)) (sum_ltk (k := 100) (j := 10) hR2.ab (by omega)) (by decide) (by decide) (by decide), rfl, _, rfl, iteNS (congrArg V.int ?_) ?_⟩
      · rw [eW]
        exact ring_coprime l1 l2 hW
      · exact ⟨_, rfl, s6⟩
    obtain ⟨y6, rfl, s6⟩ := hM
    have s46 := s45.trans s6
    have ga6 := s6 _ _ ga5
    have gb6 := s6 _ _ gb5
    -- the other way round
    refine ⟨.ref b, rfl, .ref a, rfl, .int yn, rfl, .int nn, rfl, b, a, ms, ns, yn, nn, rfl, SqL.of gb6, SqL.of ga6, hR2, hR, by omega, by omega, bn, fun H7 s7 => ?_⟩
    refine ⟨.ref a, rfl, .ref b, rfl, .int yn, rfl, .int nn, rfl, a, b, ns, ms, yn, nn, rfl, SqL.of (s7 _ _ ga6), SqL.of (s7 _ _ gb6), hR, hR2, by omega, by omega, bn, fun H8 s8 => ?_⟩
    refine ⟨rfl, _, rfl, iteNS (by rw [ring_comm ns ms, ringW_swap ns ms]) ?_⟩
    have s68 := s7.trans s8
    have ga8 := s68 _ _ ga6
    have gb8 := s68 _ _ gb6
    refine ⟨.ref a, rfl, .ref b, rfl, .int yn, rfl, .int (ringW ns ms), rfl, yn, ringW ns ms, rfl, rfl, a, b, ns, ms, yn + ringW ns ms, rfl, SqL.of ga8, SqL.of gb8, hR, hR2, by omega, fun H9 s9 => ?_⟩
    refine ⟨.ref b, rfl, .ref a, rfl, .int yn, rfl, b, a, ms, ns, yn, rfl, SqL.of (s9 _ _ gb8), SqL.of (s9 _ _ ga8), hR2, hR, by omega, fun HA sA => ?_⟩
    refine ⟨rfl, _, rfl, iteNS (by rw [ring_comm ns ms, hA.per]) ?_⟩
    have s8A := s9.trans sA
    have gaA := s8A _ _ ga8
    have gbA := s8A _ _ gb8
    -- by what they share
    refine ⟨.ref a, rfl, a, _, rfl, .inl (SqL.of gaA), .ref b, rfl, b, _, rfl, .inl (SqL.of gbA), ?_⟩
    rw [List.length_map, List.length_map]
    obtain ⟨G, hG⟩ : ∃ G, G = Nat.gcd ns.length ms.length := ⟨_, rfl⟩
    have G0 : 0 < G := by rw [hG]; exact Nat.gcd_pos_of_pos_left _ l1
    have G40 : G ≤ 40 := by
      have := Nat.gcd_le_left ms.length l1
      omega
    have eG : (ns.length : Int) * (ms.length : Int) / (ringW ns ms : Int) = (G : Int) := by
      rw [← Int.natCast_mul, ring_gcd, ← hG, ← Int.natCast_ediv, Nat.mul_div_cancel _ w0]
    refine ⟨ns.length, ms.length, rfl, rfl, .inl ⟨by omega, by omega⟩, .int (ringW ns ms), rfl, _, ringW ns ms, rfl, rfl, wide_div (b := 200) (by omega) bW (by decide) (by decide), ?_⟩
    show gName 7 (V.int ((ns.length : Int) * (ms.length : Int) / (ringW ns ms : Int))) _ _ _
    rw [eG]
    refine ⟨.int G, rfl, G, rfl, by omega, by omega, for_range (lo := 0) (n := ((G : Nat) : Int).toNat) (fun i σ H' => ∃ y9 : Option V, σ = [some (.ref t), some (.ref a), some (.ref b), some (.int (ringW ns ms)), some (.int yn), some (.int nn), y6, some (.int G), some (.int (sumN i fun r => (stepV ns r G).sum * (stepV ms r G).sum)), y9] ∧ Same HA H')
      ⟨_, rfl, Same.refl HA⟩ (fun i σ HB hi hP => ?_) (fun σ HB hP => ?_)⟩
    · obtain ⟨y9, rfl, sB⟩ := hP
      rw [Int.toNat_natCast] at hi
      rw [show (0 : Int) + (i : Int) = (i : Int) from Int.zero_add _]
      have gn : G ≤ ns.length := by rw [hG]; exact Nat.gcd_le_left _ l1
      have gm : G ≤ ms.length := by rw [hG]; exact Nat.gcd_le_right _ l2
      refine ⟨.int (sumN i fun r => (stepV ns r G).sum * (stepV ms r G).sum), rfl, ?_⟩
      refine ⟨.ref a, rfl, .int i, rfl, _, rfl, .int G, rfl, _, rfl, a, ns.map V.int, i, G, rfl, rfl, rfl, G0, by rw [List.length_map]; omega, SqL.of (sB _ _ gaA), fun p hp => ?_⟩
      rw [stepV_map]
      have sp := new_same (o := .lst ((stepV ns i G).map V.int)) hp
      refine ⟨p, stepV ns i G, rfl, SqL.of upd_same, ?_⟩
      refine ⟨.ref b, rfl, .int i, rfl, _, rfl, .int G, rfl, _, rfl, b, ms.map V.int, i, G, rfl, rfl, rfl, G0, by rw [List.length_map]; omega, SqL.of (sp _ _ (sB _ _ gbA)), fun p2 hp2 => ?_⟩
      rw [stepV_map]
      have sp2 := new_same (o := .lst ((stepV ms i G).map V.int)) hp2
      have b1 := stepV_le ns i G G0 (by omega)
      have b2 := stepV_le ms i G G0 (by omega)
      refine ⟨p2, stepV ms i G, rfl, SqL.of upd_same, _, _, rfl, rfl, wide_mul (a := 110) (b := 110) (sum_ltk (k := 100) (j := 10) (stepV_ab hR.ab i G) (by omega)) (sum_ltk (k := 100) (j := 10) (stepV_ab hR2.ab i G) (by omega)) (by decide) (by decide) (by decide), _, _, rfl, rfl, ?_⟩
      exact ⟨_, by rw [sumN_succ]; rfl, (sB.trans sp).trans sp2⟩
    · obtain ⟨y9, rfl, sB⟩ := hP
      rw [Int.toNat_natCast]
      refine ⟨.ref a, rfl, .ref b, rfl, .int (ringW ns ms), rfl, a, b, ns, ms, 0, ringW ns ms, rfl, SqL.of (sB _ _ gaA), SqL.of (sB _ _ gbA), hR, hR2, by decide, by omega, bW, fun HC sC => ?_⟩
      refine ⟨.int (sumN G fun r => (stepV ns r G).sum * (stepV ms r G).sum), rfl, rfl, ?_⟩
      have eF : farG (ringAt ns ms) (ringW ns ms) 0 (ringW ns ms : Int) = sumN G fun r => (stepV ns r G).sum * (stepV ms r G).sum := by
        have := far_round l1 l2 0 (ringW ns ms)
        rw [Int.natCast_zero] at this
        rw [this, hG]
        exact ring_total l1 l2
      have sE := ((s46.trans s68).trans s8A).trans (sB.trans sC)
      have z := q _ (uP.trans (But.of sE)) ((kP.same sE).mono (by omega))
      show Q (.bl (decide (V.int (farG (ringAt ns ms) (ringW ns ms) 0 (ringW ns ms : Int)) = V.int (sumN G fun r => (stepV ns r G).sum * (stepV ms r G).sum)))) _
      rw [decide_eq_true (congrArg V.int eF)]
      exact z

/-! ### the law: what is told of the ticks -/
theorem Told.one {g : Int → Int} {W n m : Nat} (h : Told g W n) (h' : Told g W m) : n = m := by
  rcases Nat.lt_trichotomy n m with z | z | z
  · rcases h'.2.2 with e | e
    · have := h.1
      omega
    · exact absurd (h.2.1.mono (by omega)) e
  · exact z
  · rcases h.2.2 with e | e
    · have := h'.1
      omega
    · exact absurd (h'.2.1.mono (by omega)) e
theorem sum_nn : ∀ {L : List Int}, (∀ x ∈ L, 0 ≤ x) → 0 ≤ L.sum ∧ (L.sum = 0 ↔ (L.all fun x => decide (x = 0)) = true)
  | [], _ => ⟨Int.le_refl _, fun _ => rfl, fun _ => rfl⟩
  | x :: L, h => by
    obtain ⟨h1, h2⟩ := sum_nn fun y hy => h y (List.mem_cons_of_mem _ hy)
    have h0 := h x List.mem_cons_self
    rw [List.sum_cons, List.all_cons, Bool.and_eq_true, decide_eq_true_eq, ← h2]
    omega
theorem dark_all {g : Int → Int} {W : Nat} : ((seqG g 0 W).all fun x => decide (x = 0)) = true ↔ ∀ j : Nat, j < W → g (j : Int) = 0 := by
  rw [List.all_eq_true]
  constructor
  · intro h j hj
    have := h (g (0 + (j : Int))) (List.mem_of_getElem? (seqG_at hj))
    rw [Int.zero_add] at this
    exact of_decide_eq_true this
  · intro h x hx
    obtain ⟨j, hj, rfl⟩ := seqG_mem hx
    rw [Int.zero_add]
    exact decide_eq_true (h j hj)
def optV60 : Option Nat → V := optV
theorem tick_self {g : Int → Int} {W y n : Nat} (hy : y < W) : ∃ k, tickO g W (seqG g (y : Int) n) = some k ∧ k ≤ y ∧ seqG g (k : Int) n = seqG g (y : Int) n := by
  cases e : tickO g W (seqG g (y : Int) n) with
  | none =>
    have := tickO_none.mp e y hy
    rw [seqG_len] at this
    exact absurd rfl this
  | some k =>
    obtain ⟨h1, h2, h3⟩ := tickO_some.mp e
    rw [seqG_len] at h2
    refine ⟨k, rfl, ?_, h2⟩
    refine Classical.byContradiction fun z => h3 y (by omega) ?_
    rw [seqG_len]
theorem tick_uq {g : Int → Int} {W y n : Nat} (hy : y < W) (hu : Uq g W n) : tickO g W (seqG g (y : Int) n) = some y := by
  obtain ⟨k, h1, h2, h3⟩ := tick_self (g := g) (n := n) hy
  rw [h1, hu k y (by omega) hy h3]
def spTold60 : Sp := fun vs H Q _ => ∃ (t a b : Addr) (ns ms : List Int) (c : Int), vs = [.ref t, .ref a, .ref b, .int (ringW ns ms)] ∧ H a = some (.lst (ns.map V.int)) ∧ H b = some (.lst (ms.map V.int)) ∧ a ≠ t ∧ b ≠ t ∧ Rim ns ∧ Rim ms ∧ Tank H t c ∧ 0 ≤ c ∧ c < 2 ^ 37 ∧
  ∀ H', But t H H' → Tank H' t (c + 5) → Q (.bl true) H'
theorem ok_law_told_right (T : Txt K mg) : FnOk P w K mg base CX0 7 T.a_law_told_right T.d_law_told_right ["tank", "rim", "mate", "whole"] spTold60 := by
  have G_law_tap := ok_law_tap (P := P) (w := w) (base := base) T
  have G_dark_stretch := ok_dark_stretch (P := P) (w := w) (base := base) T
  have G_ring_sum := ok_ring_sum (P := P) (w := w) (base := base) T
  have G_ring_light := ok_ring_light (P := P) (w := w) (base := base) T
  have G_first_tick := ok_first_tick (P := P) (w := w) (base := base) T
  have G_unlike_ticks := ok_unlike_ticks (P := P) (w := w) (base := base) T
  have G_tick_of := ok_tick_of (P := P) (w := w) (base := base) T
  refine T.F_law_told_right.ok sc_law_told_right (fun vs H Q E h => ?_) (fun cdv A outer s H vs Q E hr h => ?_)
  · obtain ⟨_, _, _, _, _, _, rfl, _⟩ := h
    rfl
  · obtain ⟨t, a, b, ns, ms, c, rfl, ga, gb, na, nb, hR, hR2, hT, hc0, hc, q⟩ := h
    refine ⟨_, (pss_cons (ps_asg (pe_tup (pa_cons (pe_call G_law_tap (hr.mono (by decide)) (by rfl) T.g_law_tap T.F_law_tap.kp T.b_law_tap .nil pass0 (pa_cons (pv 0) (pa_cons (pv 3) pa_nil))) (pa_cons (pe_call G_dark_stretch hr (by rfl) T.g_dark_stretch T.F_dark_stretch.kp T.b_dark_stretch .nil pass0 (pa_cons (pv 1) (pa_cons (pv 2) pa_nil))) pa_nil))) (pg_tupL (K := K) (n := 2) rfl rfl (pgs_cons (pg_name (i := 4) sc_law_told_right.nd rfl (.inr rfl)) (pgs_cons (pg_name (i := 5) sc_law_told_right.nd rfl (.inl rfl)) pgs_nil))))
      (pss_cons (ps_set (i := 6) sc_law_told_right.nd rfl (.inl rfl) (pe_cmpR op_isN (pv 5) pe_non (nomark _)))
      (pss_cons (ps_if (PW.pt (pw_or (pt_cmpR op_ne (pv 6) (pe_cmpR op_eq (pe_call G_ring_sum hr (by rfl) T.g_ring_sum T.F_ring_sum.kp T.b_ring_sum .nil pass0 (pa_cons (pv 1) (pa_cons (pv 2) (pa_cons pe_int (pa_cons (pv 3) pa_nil))))) pe_int (nomark _)) (nomark _)) (pw_or1 (pt_cmpR op_ne (pv 6) (pe_cmpR op_isN (pe_call G_first_tick hr (by rfl) T.g_first_tick T.F_first_tick.kp T.b_first_tick .nil pass0 (pa_cons (pv 1) (pa_cons (pv 2) (pa_cons pe_int (pa_cons pe_int pa_nil))))) pe_non (nomark _)) (nomark _))))) (pss_one (ps_ret pe_bl)) pss_nil)
      (pss_mid (ps_if (pt_cmpR op_notN (pv 5) pe_non (nomark _)) (pss_cons (ps_set (i := 7) sc_law_told_right.nd rfl (.inr rfl) (pe_call G_first_tick hr (by rfl) T.g_first_tick T.F_first_tick.kp T.b_first_tick .nil pass0 (pa_cons (pv 1) (pa_cons (pv 2) (pa_cons (pv 4) (pa_cons pe_int pa_nil))))))
      (pss_one (ps_if (PW.pt (pw_or (pt_not (pt_chain op_le op_le (pv 4) (pv 7) (pe_op op_add (pv 4) (pv 5)))) (pw_or1 (pt_cmpR op_eq (pe_call G_ring_light hr (by rfl) T.g_ring_light T.F_ring_light.kp T.b_ring_light .nil pass0 (pa_cons (pv 1) (pa_cons (pv 2) (pa_cons (pv 7) pa_nil)))) pe_int (nomark _))))) (pss_one (ps_ret pe_bl)) pss_nil))) pss_nil)
      (pss_cons (ps_par (i := 8) (j := 9) (by rfl) sc_law_told_right.nd rfl rfl (by decide) rfl rfl (pa_cons (pe_op op_add pe_int (pe_call G_law_tap (hr.mono (by decide)) (by rfl) T.g_law_tap T.F_law_tap.kp T.b_law_tap .nil pass0 (pa_cons (pv 0) (pa_cons pe_int pa_nil)))) (pa_cons (pe_call G_unlike_ticks hr (by rfl) T.g_unlike_ticks T.F_unlike_ticks.kp T.b_unlike_ticks .nil pass0 (pa_cons (pv 1) (pa_cons (pv 2) pa_nil))) pa_nil)) (by rfl))
      (pss_cons (ps_setLc (i := 10) (own := [("k", 11)]) (g := gName 11) (tt := tYes) (by rfl) sc_law_told_right.nd rfl rfl (sw_true rfl rfl rfl (by decide +kernel)) (pi_range1 (by rfl) T.n_range (pa_cons (pv 8) pa_nil)) (blkOk_by (own := [("k", 11)]) (N := ["tank", "rim", "mate", "whole", "begin", "dark", "is_dark", "told", "size", "length", "view", "k"]) (sc := defScope s_law_told_right) (by decide +kernel))
        (fun _ _ _ _ _ => (pg_name (i := 11) sc_law_told_right.nd rfl (Or.inl rfl))) (fun _ _ _ _ _ => pts_nil) (fun _ _ _ _ _ => (pe_call G_ring_light hr (by rfl) T.g_ring_light T.F_ring_light.kp T.b_ring_light .nil pass0 (pa_cons (pv 1) (pa_cons (pv 2) (pa_cons (pe_op op_add (pv 4) (pv 11)) pa_nil))))))
      (pss_cons (ps_set (i := 7) sc_law_told_right.nd rfl (.inr rfl) (pe_call G_tick_of hr (by rfl) T.g_tick_of T.F_tick_of.kp T.b_tick_of .nil pass0 (pa_cons (pv 1) (pa_cons (pv 2) (pa_cons (pv 10) pa_nil)))))
      (pss_cons (ps_if (PW.pt (pw_or (pt_cmpR op_isN (pv 7) pe_non (nomark _)) (pw_or (pt_not (pt_chain op_le op_le pe_int (pv 7) (pv 4))) (pw_or1 (pt_cmpR (neD (K := K) rfl hr) (pe_lc (own := [("k", 11)]) (g := gName 11) (tt := tYes) (by rfl) sc_law_told_right.nd (pi_range1 (by rfl) T.n_range (pa_cons (pv 8) pa_nil)) (blkOk_by (own := [("k", 11)]) (N := ["tank", "rim", "mate", "whole", "begin", "dark", "is_dark", "told", "size", "length", "view", "k"]) (sc := defScope s_law_told_right) (by decide +kernel))
        (fun _ _ _ _ _ => (pg_name (i := 11) sc_law_told_right.nd rfl (Or.inl rfl))) (fun _ _ _ _ _ => pts_nil) (fun _ _ _ _ _ => (pe_call G_ring_light hr (by rfl) T.g_ring_light T.F_ring_light.kp T.b_ring_light .nil pass0 (pa_cons (pv 1) (pa_cons (pv 2) (pa_cons (pe_op op_add (pv 7) (pv 11)) pa_nil)))))) (pv 10) (nomark _)))))) (pss_one (ps_ret pe_bl)) pss_nil)
      (pss_cons (ps_if (pt_cmpR op_isN (pv 9) pe_non (nomark _)) (pss_one (ps_ret pe_bl)) pss_nil)
      (pss_cons (ps_setLc (i := 10) (own := [("k", 11)]) (g := gName 11) (tt := tYes) (by rfl) sc_law_told_right.nd rfl rfl (sw_true rfl rfl rfl (by decide +kernel)) (pi_range1 (by rfl) T.n_range (pa_cons (pv 9) pa_nil)) (blkOk_by (own := [("k", 11)]) (N := ["tank", "rim", "mate", "whole", "begin", "dark", "is_dark", "told", "size", "length", "view", "k"]) (sc := defScope s_law_told_right) (by decide +kernel))
        (fun _ _ _ _ _ => (pg_name (i := 11) sc_law_told_right.nd rfl (Or.inl rfl))) (fun _ _ _ _ _ => pts_nil) (fun _ _ _ _ _ => (pe_call G_ring_light hr (by rfl) T.g_ring_light T.F_ring_light.kp T.b_ring_light .nil pass0 (pa_cons (pv 1) (pa_cons (pv 2) (pa_cons (pe_op op_add (pv 4) (pv 11)) pa_nil))))))
      (pss_mid (ps_if (PW.pt (pw_and (pt_cmpR op_le (pv 9) (pv 8) (nomark _)) (pw_and1 (pt_cmpR op_ne (pv 7) (pv 4) (nomark _))))) (pss_one (ps_ret pe_bl)) pss_nil)
      (pss_one (ps_ret (pe_cmpR op_eq (pe_call G_tick_of hr (by rfl) T.g_tick_of T.F_tick_of.kp T.b_tick_of .nil pass0 (pa_cons (pv 1) (pa_cons (pv 2) (pa_cons (pv 10) pa_nil)))) (pv 4) (nomark _))))))))))))))), ?_⟩
    have l1 := hR.pos
    have l2 := hR2.pos
    have w1 := ringW_1600 hR hR2
    have hA := ring_again l1 l2
    have w0 := hA.pos
    have hnn : ∀ t, 0 ≤ ringAt ns ms t := fun t => (ringAt_lt hR hR2 t).1
    have hLn : ∀ x ∈ seqG (ringAt ns ms) 0 (ringW ns ms), 0 ≤ x := fun x hx => by
      obtain ⟨j, _, rfl⟩ := seqG_mem hx
      exact hnn _
    have bW : ((ringW ns ms : Nat) : Int).natAbs < 2 ^ 200 := by rw [Int.natAbs_natCast]; exact Nat.lt_of_le_of_lt w1 (by decide +kernel)
    refine ⟨.ref t, rfl, .int (ringW ns ms), rfl, t, ringW ns ms, c, rfl, by omega, by omega, hT, by omega, fun y H1 y0 y1 k1 u1 => ?_⟩
    obtain ⟨yn, rfl⟩ : ∃ yn : Nat, y = (yn : Int) := ⟨y.toNat, by omega⟩
    have hy : yn < ringW ns ms := by omega
    have ga1 := u1 _ _ ga na
    have gb1 := u1 _ _ gb nb
    refine ⟨.ref a, rfl, .ref b, rfl, a, b, ns, ms, rfl, SqL.of ga1, SqL.of gb1, hR, hR2, fun H2 s2 => ?_⟩
    refine ⟨(by show 2 ≤ sizeLine; decide), fun tp htp => ⟨tp, _, rfl, SqT.of upd_same, rfl, _, _, rfl, _, _, rfl, rfl, ?_⟩⟩
    obtain ⟨dv, hdv⟩ : ∃ dv, dv = stretchV (seqG (ringAt ns ms) 0 (ringW ns ms)) := ⟨_, rfl⟩
    rw [← hdv]
    have s3 := s2.trans (new_same (o := .tup [.int yn, dv]) htp)
    generalize upd H2 tp (.tup [.int yn, dv]) = H3 at s3 ⊢
    have ga3 := s3 _ _ ga1
    have gb3 := s3 _ _ gb1
    -- is it dark?
    obtain ⟨db, hdb⟩ : ∃ db : Bool, db = ((seqG (ringAt ns ms) 0 (ringW ns ms)).all fun x => decide (x = 0)) := ⟨_, rfl⟩
    have hdn : decide (dv = V.non) = db := by
      rw [hdv]
      unfold stretchV
      rw [← hdb]
      cases db <;> rfl
    refine ⟨dv, rfl, rfl, ?_⟩
    rw [hdn]
    refine ⟨.bl db, rfl, .ref a, rfl, .ref b, rfl, .int (ringW ns ms), rfl, a, b, ns, ms, 0, ringW ns ms, rfl, SqL.of ga3, SqL.of gb3, hR, hR2, by decide, by omega, bW, fun H4 s4 => ?_⟩
    have e0 : farG (ringAt ns ms) (ringW ns ms) 0 (ringW ns ms : Int) = (seqG (ringAt ns ms) 0 (ringW ns ms)).sum := by
      rw [hA.far 0 (by omega), Int.toNat_natCast]
    have e1 : V.bl db = V.bl (decide (V.int (farG (ringAt ns ms) (ringW ns ms) 0 (ringW ns ms : Int)) = V.int 0)) := by
      rw [e0]
      refine congrArg V.bl ?_
      have z := (sum_nn hLn).2
      rw [← hdb] at z
      cases db with
      | true => exact (decide_eq_true (congrArg V.int (z.mpr rfl))).symm
      | false => exact (decide_eq_false fun y => Bool.false_ne_true (z.mp (V.int.inj y))).symm
    refine ⟨rfl, rfl, _, rfl, iteNS e1 ?_⟩
    have ga4 := s4 _ _ ga3
    have gb4 := s4 _ _ gb3
    refine ⟨.bl db, rfl, .ref a, rfl, .ref b, rfl, a, b, ns, ms, 0, 1, rfl, SqL.of ga4, SqL.of gb4, hR, hR2, by decide, fun H5 s5 => ?_⟩
    have e2 : V.bl db = V.bl (decide (firstV 0 (firstG (ringAt ns ms) 1 0 (ringW ns ms)) = V.non)) := by
      refine congrArg V.bl ?_
      have z := dark_all (g := ringAt ns ms) (W := ringW ns ms)
      rw [← hdb] at z
      cases e : firstG (ringAt ns ms) 1 0 (ringW ns ms) with
      | none =>
        have hn := firstG_none.mp e
        rw [z.mpr fun j hj => by
          have := hn j hj
          have := hnn (j : Int)
          rw [Int.zero_add] at *
          omega]
        exact (decide_eq_true rfl).symm
      | some k =>
        obtain ⟨h1, h2, _⟩ := firstG_some.mp e
        have : db = false := by
          cases hd : db with
          | false => rfl
          | true =>
            have := z.mp hd k h1
            rw [Int.zero_add, this] at h2
            exact absurd h2 (by decide)
        rw [this]
        exact (decide_eq_false fun y => nomatch y).symm
    refine ⟨rfl, rfl, _, rfl, iteNS e2 ?_⟩
    have ga5 := s5 _ _ ga4
    have gb5 := s5 _ _ gb4
    have u5 := u1.trans (But.of ((s3.trans s4).trans s5))
    have k5 := k1.same ((s3.trans s4).trans s5)
    refine ⟨fun σ' H' => ∃ y7 : Option V, σ' = [some (.ref t), some (.ref a), some (.ref b), some (.int (ringW ns ms)), some (.int yn), some dv, some (.bl db), y7, none, none, none, none] ∧ Same H5 H', ⟨dv, rfl, rfl, _, rfl, ?_⟩, fun σ' H6 hM => ?_⟩
    · rw [hdn]
      have hda := dark_all (g := ringAt ns ms) (W := ringW ns ms)
      rw [← hdb] at hda
      have hMv : db = false → dv = .int ((seqG (ringAt ns ms) 0 (ringW ns ms) ++ seqG (ringAt ns ms) 0 (ringW ns ms)).foldl runS (0, 0)).1 := fun e => by
        rw [hdv]
        unfold stretchV
        rw [← hdb, e]
        rfl
      cases db with
      | true => exact ite2 (fun h => absurd h (by decide)) (fun _ => ⟨_, rfl, Same.refl H5⟩)
      | false =>
        refine ite2 (fun _ => ?_) (fun h => absurd rfl h)
        have hM := hMv rfl
        obtain ⟨j, hj, ej⟩ : ∃ j : Nat, j < ringW ns ms ∧ ringAt ns ms (j : Int) ≠ 0 := Classical.byContradiction fun z => Bool.false_ne_true (hda.mpr fun j hj => Classical.byContradiction fun y => z ⟨j, hj, y⟩)
        obtain ⟨i, hi, ei⟩ := hA.comes (f := (yn : Int)) (by omega) hj
        obtain ⟨k, hk⟩ : ∃ k, firstG (ringAt ns ms) 1 (yn : Int) (ringW ns ms) = some k := by
          cases e : firstG (ringAt ns ms) 1 (yn : Int) (ringW ns ms) with
          | some k => exact ⟨k, rfl⟩
          | none =>
            have z := firstG_none.mp e i hi
            have := hnn (j : Int)
            rw [ei] at z
            omega
        obtain ⟨k1', k2', k3'⟩ := firstG_some.mp hk
        have hkM := dark_le hA (b := yn) (k := k) hy (by omega) fun r hr => by
          have := k3' r hr
          have := hnn ((yn : Int) + (r : Int))
          omega
        refine ⟨.ref a, rfl, .ref b, rfl, .int yn, rfl, a, b, ns, ms, yn, 1, rfl, SqL.of ga5, SqL.of gb5, hR, hR2, by omega, fun H6 s6 => ?_⟩
        rw [hk]
        show gName 7 (V.int ((yn : Int) + (k : Int))) _ _ _
        generalize ((seqG (ringAt ns ms) 0 (ringW ns ms) ++ seqG (ringAt ns ms) 0 (ringW ns ms)).foldl runS (0, 0)).1 = Mx at hM hkM
        refine ⟨.int yn, rfl, .int (yn + k), rfl, yn, yn + k, rfl, rfl, _, rfl, ?_⟩
        rw [if_pos (decide_eq_true (show (yn : Int) ≤ (yn : Int) + (k : Int) by omega))]
        refine ⟨.int yn, rfl, dv, rfl, yn, Mx, rfl, hM, yn + k, yn + Mx, rfl, rfl, _, rfl, iteNS (by omega) ?_⟩
        refine ⟨.ref a, rfl, .ref b, rfl, .int (yn + k), rfl, a, b, ns, ms, yn + k, rfl, SqL.of (s6 _ _ ga5), SqL.of (s6 _ _ gb5), hR, hR2, by omega, fun H7 s7 => ?_⟩
        refine ⟨rfl, _, rfl, ite2 (fun h => absurd (V.int.inj (of_decide_eq_true h)) (by omega)) (fun _ => ?_)⟩
        exact ⟨_, rfl, s6.trans s7⟩
    obtain ⟨y7, rfl, s6⟩ := hM
    have ga6 := s6 _ _ ga5
    have gb6 := s6 _ _ gb5
    have u6 := u5.trans (But.of s6)
    have k6 := k5.same s6
    clear e1 e2 e0 hdn hdv hdb
    refine ⟨.ref t, rfl, t, 30, c + 1, rfl, by omega, by omega, k6, by omega, fun z H7 z0 z1 k7 u7 => ?_⟩
    obtain ⟨zn, rfl⟩ : ∃ zn : Nat, z = (zn : Int) := ⟨z.toNat, by omega⟩
    have ga7 := u7 _ _ ga6 na
    have gb7 := u7 _ _ gb6 nb
    refine ⟨1, zn, rfl, rfl, .ref a, rfl, .ref b, rfl, a, b, ns, ms, rfl, SqL.of ga7, SqL.of gb7, hR, hR2, fun x H8 hx s8 => ⟨_, _, rfl, ?_⟩⟩
    have ga8 := s8 _ _ ga7
    have gb8 := s8 _ _ gb7
    have u8 := (u6.trans u7).trans (But.of s8)
    have k8 := k7.same s8
    have en : (1 + (zn : Int)).toNat = 1 + zn := by omega
    -- the view
    refine ⟨.int (1 + zn), rfl, _, rfl, by omega, by omega, fun D hD => ?_⟩
    refine lc_range (lo := 0) (n := (1 + (zn : Int)).toNat) (fun i H' => Same H8 H' ∧ H' D = some (.lst (((seqG (ringAt ns ms) yn (1 + zn)).take i).map V.int)))
      ⟨new_same hD, upd_same⟩ (fun i H9 hi hP => ⟨rfl, ?_⟩) (fun H9 hP => ?_)
    · obtain ⟨s9, g9⟩ := hP
      rw [en] at hi
      rw [show (0 : Int) + (i : Int) = (i : Int) from Int.zero_add _]
      refine ⟨.ref a, rfl, .ref b, rfl, .int yn, rfl, .int i, rfl, yn, i, rfl, rfl, a, b, ns, ms, yn + i, rfl, SqL.of (s9 _ _ ga8), SqL.of (s9 _ _ gb8), hR, hR2, by omega, fun HA sA => ?_⟩
      refine ⟨_, sA _ _ g9, ?_, same_over (s9.trans sA) hD, ?_⟩
      · rw [List.length_map, List.length_take]
        exact sz40 (by omega)
      · rw [upd_same, take_next (seqG_at hi)]
    obtain ⟨s9, g9⟩ := hP
    rw [en, take_all (by rw [seqG_len]; exact Nat.le_refl _)] at g9
    have ga9 := s9 _ _ ga8
    have gb9 := s9 _ _ gb8
    obtain ⟨k, hk, hky, hkw⟩ := tick_self (g := ringAt ns ms) (n := 1 + zn) hy
    refine ⟨.ref a, rfl, .ref b, rfl, .ref D, rfl, a, b, D, ns, ms, seqG (ringAt ns ms) yn (1 + zn), rfl, SqL.of ga9, SqL.of gb9, SqL.of g9, hR, hR2, by rw [seqG_len]; omega, by rw [seqG_len]; omega, fun HB sB => ?_⟩
    rw [hk]
    show gName 7 (V.int (k : Int)) _ _ _
    have gaB := sB _ _ ga9
    have gbB := sB _ _ gb9
    have gDB := sB _ _ g9
    refine ⟨.int k, rfl, rfl, _, rfl, ite2 (fun h => absurd h (by simp)) (fun _ => ?_)⟩
    refine ⟨.int k, rfl, 0, k, rfl, rfl, _, rfl, ?_⟩
    rw [if_pos (decide_eq_true (show (0 : Int) ≤ (k : Int) by omega))]
    refine ⟨.int yn, rfl, k, yn, rfl, rfl, _, rfl, iteNS (by omega) ?_⟩
    refine ⟨.int (1 + zn), rfl, _, rfl, by omega, by omega, fun D2 hD2 => ?_⟩
    refine lc_range (lo := 0) (n := (1 + (zn : Int)).toNat) (fun i H' => Same HB H' ∧ H' D2 = some (.lst (((seqG (ringAt ns ms) k (1 + zn)).take i).map V.int)))
      ⟨new_same hD2, upd_same⟩ (fun i HC hi hP => ⟨rfl, ?_⟩) (fun HC hP => ?_)
    · obtain ⟨sC, gC⟩ := hP
      rw [en] at hi
      rw [show (0 : Int) + (i : Int) = (i : Int) from Int.zero_add _]
      refine ⟨.ref a, rfl, .ref b, rfl, .int k, rfl, .int i, rfl, k, i, rfl, rfl, a, b, ns, ms, k + i, rfl, SqL.of (sC _ _ gaB), SqL.of (sC _ _ gbB), hR, hR2, by omega, fun HD sD => ?_⟩
      refine ⟨_, sD _ _ gC, ?_, same_over (sC.trans sD) hD2, ?_⟩
      · rw [List.length_map, List.length_take]
        exact sz40 (by omega)
      · rw [upd_same, take_next (seqG_at hi)]
    obtain ⟨sC, gC⟩ := hP
    rw [en, take_all (by rw [seqG_len]; exact Nat.le_refl _)] at gC
    have gaC := sC _ _ gaB
    have gbC := sC _ _ gbB
    refine ⟨.ref D, rfl, _, _, dp_ints (SqL.of gC), dp_ints (SqL.of (sC _ _ gDB)), shaped_dI _, shaped_dI _, _, rfl, ?_⟩
    rw [eqv_dI, decide_eq_true hkw]
    refine ite2 (fun h => absurd h (by decide)) (fun _ => ?_)
    have s8C := (s9.trans sB).trans sC
    have uC := u8.trans (But.of s8C)
    have kC := k8.same s8C
    refine ⟨x, rfl, rfl, _, rfl, ?_⟩
    rcases hx with ⟨rfl, _⟩ | ⟨n, rfl, hu, hT2⟩
    · exact ite2 (fun _ => q _ uC (kC.mono (by omega))) (fun h => absurd rfl h)
    refine ite2 (fun h => absurd h (by simp)) (fun _ => ?_)
    have nW := hT2.le w0 hu
    have n1 := hT2.1
    -- as many lights as tell
    refine ⟨.int n, rfl, n, rfl, by omega, by omega, fun D3 hD3 => ?_⟩
    refine lc_range (lo := 0) (n := ((n : Nat) : Int).toNat) (fun i H' => Same HC H' ∧ H' D3 = some (.lst (((seqG (ringAt ns ms) yn n).take i).map V.int)))
      ⟨new_same hD3, upd_same⟩ (fun i HD hi hP => ⟨rfl, ?_⟩) (fun HD hP => ?_)
    · obtain ⟨sD, gD⟩ := hP
      rw [Int.toNat_natCast] at hi
      rw [show (0 : Int) + (i : Int) = (i : Int) from Int.zero_add _]
      refine ⟨.ref a, rfl, .ref b, rfl, .int yn, rfl, .int i, rfl, yn, i, rfl, rfl, a, b, ns, ms, yn + i, rfl, SqL.of (sD _ _ gaC), SqL.of (sD _ _ gbC), hR, hR2, by omega, fun HE sE => ?_⟩
      refine ⟨_, sE _ _ gD, ?_, same_over (sD.trans sE) hD3, ?_⟩
      · rw [List.length_map, List.length_take]
        exact sz40 (by omega)
      · rw [upd_same, take_next (seqG_at hi)]
    obtain ⟨sD, gD⟩ := hP
    rw [Int.toNat_natCast, take_all (by rw [seqG_len]; exact Nat.le_refl _)] at gD
    refine ⟨fun σ' H' => ∃ y11 : Option V, σ' = [some (.ref t), some (.ref a), some (.ref b), some (.int (ringW ns ms)), some (.int yn), some dv, some (.bl db), some (.int k), some (.int (1 + zn)), some (.int n), some (.ref D3), y11] ∧ H' = HD, ⟨.int n, rfl, .int (1 + zn), rfl, n, 1 + zn, rfl, rfl, _, rfl, ite2 (fun h => ?_) (fun _ => iteF ⟨_, rfl, rfl⟩)⟩, fun σ' HF hM => ?_⟩
    · have hle := of_decide_eq_true h
      have e := (hT2.2.1.mono (show n ≤ 1 + zn by omega)) k yn (by omega) hy hkw
      refine ⟨.int k, rfl, .int yn, rfl, rfl, _, rfl, iteNS (by rw [e]) ⟨_, rfl, rfl⟩⟩
    obtain ⟨y11, rfl, rfl⟩ := hM
    refine ⟨.ref a, rfl, .ref b, rfl, .ref D3, rfl, a, b, D3, ns, ms, seqG (ringAt ns ms) yn n, rfl, SqL.of (sD _ _ gaC), SqL.of (sD _ _ gbC), SqL.of gD, hR, hR2, by rw [seqG_len]; omega, by rw [seqG_len]; omega, fun HG sG => ?_⟩
    rw [tick_uq hy hT2.2.1]
    refine ⟨.int yn, rfl, rfl, ?_⟩
    have z := q _ (uC.trans (But.of (sD.trans sG))) ((kC.same (sD.trans sG)).mono (by omega))
    show Q (.bl (decide (V.int (yn : Int) = V.int (yn : Int)))) _
    rw [decide_eq_true rfl]
    exact z

def spLaw (K : PySem.W.Frag) : Sp := fun vs H Q _ => ∃ (a : Addr) (ns : List Int), vs = [.ref a] ∧ SqL K H a (ns.map V.int) ∧ ns.length ≤ 63 ∧ ∀ H', Q (.bl true) H'

theorem ok_law (T : Txt K mg) : FnG P w K mg base CX0 8 T.a_law T.d_law ["script"] (spLaw K) := by
  have G_law_tank := ok_law_tank (P := P) (w := w) (base := base) T
  have G_law_drawn_count := ok_law_drawn_count (P := P) (w := w) (base := base) T
  have G_law_drawn_rim := ok_law_drawn_rim (P := P) (w := w) (base := base) T
  have G_law_round := ok_law_round (P := P) (w := w) (base := base) T
  have G_law_same_right := ok_law_same_right (P := P) (w := w) (base := base) T
  have G_law_sums_right := ok_law_sums_right (P := P) (w := w) (base := base) T
  have G_law_told_right := ok_law_told_right (P := P) (w := w) (base := base) T
  refine okG T.F_law sc_law (fun vs H Q E h => ?_) (fun cdv A outer s H vs Q E hg hr h => ?_)
  · obtain ⟨_, _, rfl, _⟩ := h
    rfl
  · obtain ⟨a, ns, rfl, hS, hlen, q⟩ := h
    refine ⟨_, (pss_cons (ps_for PassesOwn.never rfl (pi_range1 (by rfl) T.n_range (pa_cons (pe_callB (call_max2 rfl) (by rfl) T.n_max (by decide +kernel) (pa_cons pe_int (pa_cons (pe_callB (call_min2 rfl) (by rfl) T.n_min (by decide +kernel) (pa_cons pe_int (pa_cons (pe_callB (lenL (K := K) rfl) (by rfl) T.n_len (by decide +kernel) (pa_cons (pv 0) pa_nil)) pa_nil))) pa_nil))) pa_nil)) (pg_name (i := 1) sc_law.nd rfl (.inl rfl)) (pss_cons (ps_set (i := 2) sc_law.nd rfl (.inl rfl) (pe_call G_law_tank (hr.mono (by decide)) (by rfl) T.g_law_tank T.F_law_tank.kp T.b_law_tank .nil pass0 (pa_cons (pv 0) (pa_cons (pv 1) pa_nil))))
      (pss_one (ps_for PassesOwn.never rfl (pi_range1 (by rfl) T.n_range (pa_cons pe_int pa_nil)) (pg_name (i := 3) sc_law.nd rfl (.inl rfl)) (pss_cons (ps_set (i := 4) sc_law.nd rfl (.inl rfl) (pe_call G_law_drawn_rim (hr.mono (by decide)) (by rfl) T.g_law_drawn_rim T.F_law_drawn_rim.kp T.b_law_drawn_rim .nil pass0 (pa_cons (pv 2) (pa_cons (pe_call G_law_drawn_count (hr.mono (by decide)) (by rfl) T.g_law_drawn_count T.F_law_drawn_count.kp T.b_law_drawn_count .nil pass0 (pa_cons (pv 2) (pa_cons (pe_ix (ixL (K := K) rfl) (pe_lst (pa_cons (pe_ifExp (pt_cmpR op_eq (pv 1) pe_int (nomark _)) pe_int pe_int) (pa_cons pe_int (pa_cons pe_int (pa_cons pe_int pa_nil))))) (pv 3) (fun _ _ => rfl)) pa_nil))) pa_nil))))
      (pss_cons (ps_set (i := 5) sc_law.nd rfl (.inl rfl) (pe_call G_law_drawn_rim (hr.mono (by decide)) (by rfl) T.g_law_drawn_rim T.F_law_drawn_rim.kp T.b_law_drawn_rim .nil pass0 (pa_cons (pv 2) (pa_cons (pe_call G_law_drawn_count (hr.mono (by decide)) (by rfl) T.g_law_drawn_count T.F_law_drawn_count.kp T.b_law_drawn_count .nil pass0 (pa_cons (pv 2) (pa_cons (pe_ix (ixL (K := K) rfl) (pe_lst (pa_cons pe_int (pa_cons pe_int (pa_cons pe_int (pa_cons pe_int pa_nil))))) (pv 3) (fun _ _ => rfl)) pa_nil))) pa_nil))))
      (pss_cons (ps_set (i := 6) sc_law.nd rfl (.inl rfl) (pe_call G_law_round (hr.mono (by decide)) (by rfl) T.g_law_round T.F_law_round.kp T.b_law_round .nil pass0 (pa_cons (pv 4) (pa_cons (pv 5) pa_nil))))
      (pss_cons (ps_if (PW.pt (pw_or (pt_not (pt_val (pe_call G_law_same_right hr (by rfl) T.g_law_same_right T.F_law_same_right.kp T.b_law_same_right .nil pass0 (pa_cons (pv 2) (pa_cons (pv 4) pa_nil))))) (pw_or1 (pt_not (pt_val (pe_call G_law_sums_right hr (by rfl) T.g_law_sums_right T.F_law_sums_right.kp T.b_law_sums_right .nil pass0 (pa_cons (pv 2) (pa_cons (pv 4) (pa_cons (pv 5) (pa_cons (pv 6) pa_nil)))))))))) (pss_one (ps_ret pe_bl)) pss_nil)
      (pss_one (ps_if (pt_not (pt_val (pe_call G_law_told_right hr (by rfl) T.g_law_told_right T.F_law_told_right.kp T.b_law_told_right .nil pass0 (pa_cons (pv 2) (pa_cons (pv 4) (pa_cons (pv 5) (pa_cons (pv 6) pa_nil))))))) (pss_one (ps_ret pe_bl)) pss_nil))))))))))
      (pss_one (ps_ret pe_bl))), ?_⟩
    refine ⟨.ref a, rfl, a, _, rfl, .inl hS, 3, _, rfl, 1, _, rfl, _, rfl, ?_, ?_, for_range (lo := 0)
      (fun i σ H' => ∃ y1 y2 y3 y4 y5 y6 : Option V, σ = [some (.ref a), y1, y2, y3, y4, y5, y6] ∧ Same H H' ∧ i ≤ 3) ⟨none, none, none, none, none, none, rfl, Same.refl H, by omega⟩ (fun i σ H1 hi hP => ?_) (fun σ H1 hP => ?_)⟩
    · split <;> split <;> omega
    · split <;> split <;> omega
    · obtain ⟨y1, y2, y3, y4, y5, y6, rfl, s1, _⟩ := hP
      have hi3 : i < 3 := by
        revert hi
        split <;> split <;> omega
      refine ⟨.ref a, rfl, .int (0 + i), rfl, a, ns, 0 + i, rfl, s1.seq hS, by omega, by omega, fun t H2 s2 ht k2 => ?_⟩
      have same0 : ∀ {H' : Hp}, But t H2 H' → Same H H' := fun {H'} u b o e => u _ _ (s2 _ _ (s1 _ _ e)) (fun z => by
        have e1 := s1 _ _ e
        rw [z, ht] at e1
        cases e1)
      refine ⟨4, rfl, by decide, by decide, for_range (lo := 0) (n := (4 : Int).toNat) (fun j σ H' => ∃ z3 z4 z5 z6 : Option V, σ = [some (.ref a), some (.int (0 + i)), some (.ref t), z3, z4, z5, z6] ∧ But t H2 H' ∧ Tank H' t (1000 * j))
        ⟨_, _, _, _, rfl, But.refl t H2, k2.mono (by omega)⟩ (fun j σ H3 hj hP => ?_) (fun σ H3 hP => ?_)⟩
      · obtain ⟨z3, z4, z5, z6, rfl, u3, k3⟩ := hP
        have hj4 : j < 4 := hj
        have key : ∀ QQ : VK, (∀ m : Int, 1 ≤ m → m ≤ 40 → QQ (.int m) H3) → (if decide (V.int (0 + (i : Int)) = V.int 0) = true then tC (V.int 40) [some (.ref a), some (.int (0 + i)), some (.ref t), some (.int (0 + j)), z4, z5, z6] H3 QQ else tC (V.int 12) [some (.ref a), some (.int (0 + i)), some (.ref t), some (.int (0 + j)), z4, z5, z6] H3 QQ) :=
          fun QQ hQ => ite2 (fun _ => hQ 40 (by decide) (by decide)) (fun _ => hQ 12 (by decide) (by decide))
        refine ⟨.ref t, rfl, .ref t, rfl, .int (0 + i), rfl, rfl, _, rfl, key _ fun m0 m1 m2 => ?_⟩
        refine ⟨(by show 4 ≤ sizeLine; decide), fun l hl => ?_⟩
        obtain ⟨m, hm, hat⟩ := at_in (ns := [m0, 12, 9, 6]) (i := 0 + (j : Int)) (by omega) (by show _ < ((4 : Nat) : Int); omega)
        have hm1 : 1 ≤ m ∧ m ≤ 40 := by
          have := List.mem_of_getElem? hm
          simp only [List.mem_cons, List.not_mem_nil, or_false] at this
          omega
        refine ⟨.int (0 + j), rfl, l, _, _, .int m, rfl, rfl, SqL.of upd_same, hat, ?_⟩
        refine ⟨t, m, 1000 * j, rfl, hm1.1, hm1.2, k3.up hl, by omega, by omega, fun r H4 r1 r2 k4 u4 => ?_⟩
        refine ⟨t, r, 1000 * j + 3, rfl, r1, by omega, k4, by omega, by omega, fun l1 n1 H5 hR1 hl1 u5 f5 e5 k5 => ?_⟩
        have nl1 : l1 ≠ t := k4.ne f5
        refine ⟨.ref t, rfl, .ref t, rfl, (by show 4 ≤ sizeLine; decide), fun l' hl' => ?_⟩
        obtain ⟨m', hm', hat'⟩ := at_in (ns := [20, 9, 12, 7]) (i := 0 + (j : Int)) (by omega) (by show _ < ((4 : Nat) : Int); omega)
        have hm1' : 1 ≤ m' ∧ m' ≤ 40 := by
          have := List.mem_of_getElem? hm'
          simp only [List.mem_cons, List.not_mem_nil, or_false] at this
          omega
        refine ⟨.int (0 + j), rfl, l', _, _, .int m', rfl, rfl, SqL.of upd_same, hat', ?_⟩
        refine ⟨t, m', 1000 * j + 3 + 60, rfl, hm1'.1, hm1'.2, k5.up hl', by omega, by omega, fun r' H6 r1' r2' k6 u6 => ?_⟩
        refine ⟨t, r', 1000 * j + 3 + 60 + 3, rfl, r1', by omega, k6, by omega, by omega, fun l2 n2 H7 hR2 hl2 u7 f7 e7 k7 => ?_⟩
        have nl2 : l2 ≠ t := k6.ne f7
        have u57 := ((But.of (T := t) (new_same (o := .lst [.int 20, .int 9, .int 12, .int 7]) hl')).trans u6).trans u7
        have g17 := u57 _ _ e5 nl1
        have u27 := (((u3.trans (But.of (new_same (o := .lst [.int m0, .int 12, .int 9, .int 6]) hl))).trans u4).trans u5).trans u57
        refine ⟨.ref l1, rfl, .ref l2, rfl, l1, l2, n1, n2, rfl, SqL.of g17, SqL.of e7, hR1, hR2, ?_⟩
        refine ⟨.ref t, rfl, .ref l1, rfl, t, l1, n1, 1000 * j + 3 + 60 + 3 + 60, rfl, g17, nl1, hR1, k7, by omega, by omega, fun H8 u8 k8 => ⟨true, rfl, iteF ?_⟩⟩
        have g18 := u8 _ _ g17 nl1
        have g28 := u8 _ _ e7 nl2
        refine ⟨.ref t, rfl, .ref l1, rfl, .ref l2, rfl, .int (ringW n1 n2), rfl, t, l1, l2, n1, n2, 1000 * j + 3 + 60 + 3 + 60 + 70, rfl, g18, g28, nl1, nl2, hR1, hR2, k8, by omega, by omega, fun H9 u9 k9 => ⟨true, rfl, iteF ?_⟩⟩
        have g19 := u9 _ _ g18 nl1
        have g29 := u9 _ _ g28 nl2
        refine ⟨.ref t, rfl, .ref l1, rfl, .ref l2, rfl, .int (ringW n1 n2), rfl, t, l1, l2, n1, n2, 1000 * j + 3 + 60 + 3 + 60 + 70 + 5, rfl, g19, g29, nl1, nl2, hR1, hR2, k9, by omega, by omega, fun HA uA kA => ⟨true, rfl, iteF ?_⟩⟩
        exact ⟨_, _, _, _, rfl, ((u27.trans u8).trans u9).trans uA, kA.mono (by omega)⟩
      · obtain ⟨z3, z4, z5, z6, rfl, u3, k3⟩ := hP
        exact ⟨_, _, _, _, _, _, rfl, same0 u3, by omega⟩
    · obtain ⟨y1, y2, y3, y4, y5, y6, rfl, s1, _⟩ := hP
      exact q _

end
/-! ### what the top has written, and the end -/
theorem all_mk {l : PySem.W.OpenLaw} {w : World} {K : PySem.W.Frag} {h : Heap} {mg : Str → Option Value} {fa : Addr} (X : K.In h) (G : h.Ns mainGlobals mg) (hfa : mg "law" = some (.ref fa))
    {f0 : Addr} {od0 an0 : Option Addr} {sl0 : Array (Option Value)} {oc0 kV0 dc0 pm0 cd0 ct0 : Value}
    (a0 : PySem.W.nsIn K mainGlobals "is_integer" = some (some (.ref f0))) (l0 : K.lookup f0 = some ⟨oc0, od0, .func (PySem.W.fnOf "is_integer" "is_integer" (defArgs s_is_integer) (defBody s_is_integer) (defScope s_is_integer) .none kV0 dc0 pm0 an0 cd0 ct0), sl0⟩) (c0 : PySem.W.codeIn K cd0 "is_integer" = true) (k0 : PySem.W.keepIn K (.ref f0) = true)
    {f1 : Addr} {od1 an1 : Option Addr} {sl1 : Array (Option Value)} {oc1 kV1 dc1 pm1 cd1 ct1 : Value}
    (a1 : PySem.W.nsIn K mainGlobals "has_slots" = some (some (.ref f1))) (l1 : K.lookup f1 = some ⟨oc1, od1, .func (PySem.W.fnOf "has_slots" "has_slots" (defArgs s_has_slots) (defBody s_has_slots) (defScope s_has_slots) .none kV1 dc1 pm1 an1 cd1 ct1), sl1⟩) (c1 : PySem.W.codeIn K cd1 "has_slots" = true) (k1 : PySem.W.keepIn K (.ref f1) = true)
    {f2 : Addr} {od2 an2 : Option Addr} {sl2 : Array (Option Value)} {oc2 kV2 dc2 pm2 cd2 ct2 : Value}
    (a2 : PySem.W.nsIn K mainGlobals "wrong_integer" = some (some (.ref f2))) (l2 : K.lookup f2 = some ⟨oc2, od2, .func (PySem.W.fnOf "wrong_integer" "wrong_integer" (defArgs s_wrong_integer) (defBody s_wrong_integer) (defScope s_wrong_integer) .none kV2 dc2 pm2 an2 cd2 ct2), sl2⟩) (c2 : PySem.W.codeIn K cd2 "wrong_integer" = true) (k2 : PySem.W.keepIn K (.ref f2) = true)
    {f3 : Addr} {od3 an3 : Option Addr} {sl3 : Array (Option Value)} {oc3 kV3 dc3 pm3 cd3 ct3 : Value}
    (a3 : PySem.W.nsIn K mainGlobals "wrong_light" = some (some (.ref f3))) (l3 : K.lookup f3 = some ⟨oc3, od3, .func (PySem.W.fnOf "wrong_light" "wrong_light" (defArgs s_wrong_light) (defBody s_wrong_light) (defScope s_wrong_light) .none kV3 dc3 pm3 an3 cd3 ct3), sl3⟩) (c3 : PySem.W.codeIn K cd3 "wrong_light" = true) (k3 : PySem.W.keepIn K (.ref f3) = true)
    {f4 : Addr} {od4 an4 : Option Addr} {sl4 : Array (Option Value)} {oc4 kV4 dc4 pm4 cd4 ct4 : Value}
    (a4 : PySem.W.nsIn K mainGlobals "wrong_slot" = some (some (.ref f4))) (l4 : K.lookup f4 = some ⟨oc4, od4, .func (PySem.W.fnOf "wrong_slot" "wrong_slot" (defArgs s_wrong_slot) (defBody s_wrong_slot) (defScope s_wrong_slot) .none kV4 dc4 pm4 an4 cd4 ct4), sl4⟩) (c4 : PySem.W.codeIn K cd4 "wrong_slot" = true) (k4 : PySem.W.keepIn K (.ref f4) = true)
    {f5 : Addr} {od5 an5 : Option Addr} {sl5 : Array (Option Value)} {oc5 kV5 dc5 pm5 cd5 ct5 : Value}
    (a5 : PySem.W.nsIn K mainGlobals "check_disc" = some (some (.ref f5))) (l5 : K.lookup f5 = some ⟨oc5, od5, .func (PySem.W.fnOf "check_disc" "check_disc" (defArgs s_check_disc) (defBody s_check_disc) (defScope s_check_disc) .none kV5 dc5 pm5 an5 cd5 ct5), sl5⟩) (c5 : PySem.W.codeIn K cd5 "check_disc" = true) (k5 : PySem.W.keepIn K (.ref f5) = true)
    {f6 : Addr} {od6 an6 : Option Addr} {sl6 : Array (Option Value)} {oc6 kV6 dc6 pm6 cd6 ct6 : Value}
    (a6 : PySem.W.nsIn K mainGlobals "check_discs" = some (some (.ref f6))) (l6 : K.lookup f6 = some ⟨oc6, od6, .func (PySem.W.fnOf "check_discs" "check_discs" (defArgs s_check_discs) (defBody s_check_discs) (defScope s_check_discs) .none kV6 dc6 pm6 an6 cd6 ct6), sl6⟩) (c6 : PySem.W.codeIn K cd6 "check_discs" = true) (k6 : PySem.W.keepIn K (.ref f6) = true)
    {f7 : Addr} {od7 an7 : Option Addr} {sl7 : Array (Option Value)} {oc7 kV7 dc7 pm7 cd7 ct7 : Value}
    (a7 : PySem.W.nsIn K mainGlobals "check_so_many_lights" = some (some (.ref f7))) (l7 : K.lookup f7 = some ⟨oc7, od7, .func (PySem.W.fnOf "check_so_many_lights" "check_so_many_lights" (defArgs s_check_so_many_lights) (defBody s_check_so_many_lights) (defScope s_check_so_many_lights) .none kV7 dc7 pm7 an7 cd7 ct7), sl7⟩) (c7 : PySem.W.codeIn K cd7 "check_so_many_lights" = true) (k7 : PySem.W.keepIn K (.ref f7) = true)
    {f8 : Addr} {od8 an8 : Option Addr} {sl8 : Array (Option Value)} {oc8 kV8 dc8 pm8 cd8 ct8 : Value}
    (a8 : PySem.W.nsIn K mainGlobals "check_turn" = some (some (.ref f8))) (l8 : K.lookup f8 = some ⟨oc8, od8, .func (PySem.W.fnOf "check_turn" "check_turn" (defArgs s_check_turn) (defBody s_check_turn) (defScope s_check_turn) .none kV8 dc8 pm8 an8 cd8 ct8), sl8⟩) (c8 : PySem.W.codeIn K cd8 "check_turn" = true) (k8 : PySem.W.keepIn K (.ref f8) = true)
    {f9 : Addr} {od9 an9 : Option Addr} {sl9 : Array (Option Value)} {oc9 kV9 dc9 pm9 cd9 ct9 : Value}
    (a9 : PySem.W.nsIn K mainGlobals "check_number" = some (some (.ref f9))) (l9 : K.lookup f9 = some ⟨oc9, od9, .func (PySem.W.fnOf "check_number" "check_number" (defArgs s_check_number) (defBody s_check_number) (defScope s_check_number) .none kV9 dc9 pm9 an9 cd9 ct9), sl9⟩) (c9 : PySem.W.codeIn K cd9 "check_number" = true) (k9 : PySem.W.keepIn K (.ref f9) = true)
    {f10 : Addr} {od10 an10 : Option Addr} {sl10 : Array (Option Value)} {oc10 kV10 dc10 pm10 cd10 ct10 : Value}
    (a10 : PySem.W.nsIn K mainGlobals "check_count" = some (some (.ref f10))) (l10 : K.lookup f10 = some ⟨oc10, od10, .func (PySem.W.fnOf "check_count" "check_count" (defArgs s_check_count) (defBody s_check_count) (defScope s_check_count) .none kV10 dc10 pm10 an10 cd10 ct10), sl10⟩) (c10 : PySem.W.codeIn K cd10 "check_count" = true) (k10 : PySem.W.keepIn K (.ref f10) = true)
    {f11 : Addr} {od11 an11 : Option Addr} {sl11 : Array (Option Value)} {oc11 kV11 dc11 pm11 cd11 ct11 : Value}
    (a11 : PySem.W.nsIn K mainGlobals "ring_light" = some (some (.ref f11))) (l11 : K.lookup f11 = some ⟨oc11, od11, .func (PySem.W.fnOf "ring_light" "ring_light" (defArgs s_ring_light) (defBody s_ring_light) (defScope s_ring_light) .none kV11 dc11 pm11 an11 cd11 ct11), sl11⟩) (c11 : PySem.W.codeIn K cd11 "ring_light" = true) (k11 : PySem.W.keepIn K (.ref f11) = true)
    {f12 : Addr} {od12 an12 : Option Addr} {sl12 : Array (Option Value)} {oc12 kV12 dc12 pm12 cd12 ct12 : Value}
    (a12 : PySem.W.nsIn K mainGlobals "ring_sum" = some (some (.ref f12))) (l12 : K.lookup f12 = some ⟨oc12, od12, .func (PySem.W.fnOf "ring_sum" "ring_sum" (defArgs s_ring_sum) (defBody s_ring_sum) (defScope s_ring_sum) .none kV12 dc12 pm12 an12 cd12 ct12), sl12⟩) (c12 : PySem.W.codeIn K cd12 "ring_sum" = true) (k12 : PySem.W.keepIn K (.ref f12) = true)
    {f13 : Addr} {od13 an13 : Option Addr} {sl13 : Array (Option Value)} {oc13 kV13 dc13 pm13 cd13 ct13 : Value}
    (a13 : PySem.W.nsIn K mainGlobals "first_tick" = some (some (.ref f13))) (l13 : K.lookup f13 = some ⟨oc13, od13, .func (PySem.W.fnOf "first_tick" "first_tick" (defArgs s_first_tick) (defBody s_first_tick) (defScope s_first_tick) .none kV13 dc13 pm13 an13 cd13 ct13), sl13⟩) (c13 : PySem.W.codeIn K cd13 "first_tick" = true) (k13 : PySem.W.keepIn K (.ref f13) = true)
    {f14 : Addr} {od14 an14 : Option Addr} {sl14 : Array (Option Value)} {oc14 kV14 dc14 pm14 cd14 ct14 : Value}
    (a14 : PySem.W.nsIn K mainGlobals "dark_stretch" = some (some (.ref f14))) (l14 : K.lookup f14 = some ⟨oc14, od14, .func (PySem.W.fnOf "dark_stretch" "dark_stretch" (defArgs s_dark_stretch) (defBody s_dark_stretch) (defScope s_dark_stretch) .none kV14 dc14 pm14 an14 cd14 ct14), sl14⟩) (c14 : PySem.W.codeIn K cd14 "dark_stretch" = true) (k14 : PySem.W.keepIn K (.ref f14) = true)
    {f15 : Addr} {od15 an15 : Option Addr} {sl15 : Array (Option Value)} {oc15 kV15 dc15 pm15 cd15 ct15 : Value}
    (a15 : PySem.W.nsIn K mainGlobals "tick_of" = some (some (.ref f15))) (l15 : K.lookup f15 = some ⟨oc15, od15, .func (PySem.W.fnOf "tick_of" "tick_of" (defArgs s_tick_of) (defBody s_tick_of) (defScope s_tick_of) .none kV15 dc15 pm15 an15 cd15 ct15), sl15⟩) (c15 : PySem.W.codeIn K cd15 "tick_of" = true) (k15 : PySem.W.keepIn K (.ref f15) = true)
    {f16 : Addr} {od16 an16 : Option Addr} {sl16 : Array (Option Value)} {oc16 kV16 dc16 pm16 cd16 ct16 : Value}
    (a16 : PySem.W.nsIn K mainGlobals "unlike_ticks" = some (some (.ref f16))) (l16 : K.lookup f16 = some ⟨oc16, od16, .func (PySem.W.fnOf "unlike_ticks" "unlike_ticks" (defArgs s_unlike_ticks) (defBody s_unlike_ticks) (defScope s_unlike_ticks) .none kV16 dc16 pm16 an16 cd16 ct16), sl16⟩) (c16 : PySem.W.codeIn K cd16 "unlike_ticks" = true) (k16 : PySem.W.keepIn K (.ref f16) = true)
    {f17 : Addr} {od17 an17 : Option Addr} {sl17 : Array (Option Value)} {oc17 kV17 dc17 pm17 cd17 ct17 : Value}
    (a17 : PySem.W.nsIn K mainGlobals "_check_rings" = some (some (.ref f17))) (l17 : K.lookup f17 = some ⟨oc17, od17, .func (PySem.W.fnOf "_check_rings" "_check_rings" (defArgs s_check_rings) (defBody s_check_rings) (defScope s_check_rings) .none kV17 dc17 pm17 an17 cd17 ct17), sl17⟩) (c17 : PySem.W.codeIn K cd17 "_check_rings" = true) (k17 : PySem.W.keepIn K (.ref f17) = true)
    {f18 : Addr} {od18 an18 : Option Addr} {sl18 : Array (Option Value)} {oc18 kV18 dc18 pm18 cd18 ct18 : Value}
    (a18 : PySem.W.nsIn K mainGlobals "_lights_from" = some (some (.ref f18))) (l18 : K.lookup f18 = some ⟨oc18, od18, .func (PySem.W.fnOf "_lights_from" "_lights_from" (defArgs s_lights_from) (defBody s_lights_from) (defScope s_lights_from) .none kV18 dc18 pm18 an18 cd18 ct18), sl18⟩) (c18 : PySem.W.codeIn K cd18 "_lights_from" = true) (k18 : PySem.W.keepIn K (.ref f18) = true)
    {f19 : Addr} {od19 an19 : Option Addr} {sl19 : Array (Option Value)} {oc19 kV19 dc19 pm19 cd19 ct19 : Value}
    (a19 : PySem.W.nsIn K mainGlobals "_doubled_kinds" = some (some (.ref f19))) (l19 : K.lookup f19 = some ⟨oc19, od19, .func (PySem.W.fnOf "_doubled_kinds" "_doubled_kinds" (defArgs s_doubled_kinds) (defBody s_doubled_kinds) (defScope s_doubled_kinds) .none kV19 dc19 pm19 an19 cd19 ct19), sl19⟩) (c19 : PySem.W.codeIn K cd19 "_doubled_kinds" = true) (k19 : PySem.W.keepIn K (.ref f19) = true)
    {f20 : Addr} {od20 an20 : Option Addr} {sl20 : Array (Option Value)} {oc20 kV20 dc20 pm20 cd20 ct20 : Value}
    (a20 : PySem.W.nsIn K mainGlobals "_joined_kinds" = some (some (.ref f20))) (l20 : K.lookup f20 = some ⟨oc20, od20, .func (PySem.W.fnOf "_joined_kinds" "_joined_kinds" (defArgs s_joined_kinds) (defBody s_joined_kinds) (defScope s_joined_kinds) .none kV20 dc20 pm20 an20 cd20 ct20), sl20⟩) (c20 : PySem.W.codeIn K cd20 "_joined_kinds" = true) (k20 : PySem.W.keepIn K (.ref f20) = true)
    {f21 : Addr} {od21 an21 : Option Addr} {sl21 : Array (Option Value)} {oc21 kV21 dc21 pm21 cd21 ct21 : Value}
    (a21 : PySem.W.nsIn K mainGlobals "_numbered_kinds" = some (some (.ref f21))) (l21 : K.lookup f21 = some ⟨oc21, od21, .func (PySem.W.fnOf "_numbered_kinds" "_numbered_kinds" (defArgs s_numbered_kinds) (defBody s_numbered_kinds) (defScope s_numbered_kinds) .none kV21 dc21 pm21 an21 cd21 ct21), sl21⟩) (c21 : PySem.W.codeIn K cd21 "_numbered_kinds" = true) (k21 : PySem.W.keepIn K (.ref f21) = true)
    {f22 : Addr} {od22 an22 : Option Addr} {sl22 : Array (Option Value)} {oc22 kV22 dc22 pm22 cd22 ct22 : Value}
    (a22 : PySem.W.nsIn K mainGlobals "_are_unlike" = some (some (.ref f22))) (l22 : K.lookup f22 = some ⟨oc22, od22, .func (PySem.W.fnOf "_are_unlike" "_are_unlike" (defArgs s_are_unlike) (defBody s_are_unlike) (defScope s_are_unlike) .none kV22 dc22 pm22 an22 cd22 ct22), sl22⟩) (c22 : PySem.W.codeIn K cd22 "_are_unlike" = true) (k22 : PySem.W.keepIn K (.ref f22) = true)
    {f23 : Addr} {od23 an23 : Option Addr} {sl23 : Array (Option Value)} {oc23 kV23 dc23 pm23 cd23 ct23 : Value}
    (a23 : PySem.W.nsIn K mainGlobals "turned_list" = some (some (.ref f23))) (l23 : K.lookup f23 = some ⟨oc23, od23, .func (PySem.W.fnOf "turned_list" "turned_list" (defArgs s_turned_list) (defBody s_turned_list) (defScope s_turned_list) .none kV23 dc23 pm23 an23 cd23 ct23), sl23⟩) (c23 : PySem.W.codeIn K cd23 "turned_list" = true) (k23 : PySem.W.keepIn K (.ref f23) = true)
    {f24 : Addr} {od24 an24 : Option Addr} {sl24 : Array (Option Value)} {oc24 kV24 dc24 pm24 cd24 ct24 : Value}
    (a24 : PySem.W.nsIn K mainGlobals "light_between" = some (some (.ref f24))) (l24 : K.lookup f24 = some ⟨oc24, od24, .func (PySem.W.fnOf "light_between" "light_between" (defArgs s_light_between) (defBody s_light_between) (defScope s_light_between) .none kV24 dc24 pm24 an24 cd24 ct24), sl24⟩) (c24 : PySem.W.codeIn K cd24 "light_between" = true) (k24 : PySem.W.keepIn K (.ref f24) = true)
    {f25 : Addr} {od25 an25 : Option Addr} {sl25 : Array (Option Value)} {oc25 kV25 dc25 pm25 cd25 ct25 : Value}
    (a25 : PySem.W.nsIn K mainGlobals "turned_disc" = some (some (.ref f25))) (l25 : K.lookup f25 = some ⟨oc25, od25, .func (PySem.W.fnOf "turned_disc" "turned_disc" (defArgs s_turned_disc) (defBody s_turned_disc) (defScope s_turned_disc) .none kV25 dc25 pm25 an25 cd25 ct25), sl25⟩) (c25 : PySem.W.codeIn K cd25 "turned_disc" = true) (k25 : PySem.W.keepIn K (.ref f25) = true)
    {f26 : Addr} {od26 an26 : Option Addr} {sl26 : Array (Option Value)} {oc26 kV26 dc26 pm26 cd26 ct26 : Value}
    (a26 : PySem.W.nsIn K mainGlobals "light_at" = some (some (.ref f26))) (l26 : K.lookup f26 = some ⟨oc26, od26, .func (PySem.W.fnOf "light_at" "light_at" (defArgs s_light_at) (defBody s_light_at) (defScope s_light_at) .none kV26 dc26 pm26 an26 cd26 ct26), sl26⟩) (c26 : PySem.W.codeIn K cd26 "light_at" = true) (k26 : PySem.W.keepIn K (.ref f26) = true)
    {f27 : Addr} {od27 an27 : Option Addr} {sl27 : Array (Option Value)} {oc27 kV27 dc27 pm27 cd27 ct27 : Value}
    (a27 : PySem.W.nsIn K mainGlobals "_law_tank" = some (some (.ref f27))) (l27 : K.lookup f27 = some ⟨oc27, od27, .func (PySem.W.fnOf "_law_tank" "_law_tank" (defArgs s_law_tank) (defBody s_law_tank) (defScope s_law_tank) .none kV27 dc27 pm27 an27 cd27 ct27), sl27⟩) (c27 : PySem.W.codeIn K cd27 "_law_tank" = true) (k27 : PySem.W.keepIn K (.ref f27) = true)
    {f28 : Addr} {od28 an28 : Option Addr} {sl28 : Array (Option Value)} {oc28 kV28 dc28 pm28 cd28 ct28 : Value}
    (a28 : PySem.W.nsIn K mainGlobals "_law_tap" = some (some (.ref f28))) (l28 : K.lookup f28 = some ⟨oc28, od28, .func (PySem.W.fnOf "_law_tap" "_law_tap" (defArgs s_law_tap) (defBody s_law_tap) (defScope s_law_tap) .none kV28 dc28 pm28 an28 cd28 ct28), sl28⟩) (c28 : PySem.W.codeIn K cd28 "_law_tap" = true) (k28 : PySem.W.keepIn K (.ref f28) = true)
    {f29 : Addr} {od29 an29 : Option Addr} {sl29 : Array (Option Value)} {oc29 kV29 dc29 pm29 cd29 ct29 : Value}
    (a29 : PySem.W.nsIn K mainGlobals "_law_drawn_count" = some (some (.ref f29))) (l29 : K.lookup f29 = some ⟨oc29, od29, .func (PySem.W.fnOf "_law_drawn_count" "_law_drawn_count" (defArgs s_law_drawn_count) (defBody s_law_drawn_count) (defScope s_law_drawn_count) .none kV29 dc29 pm29 an29 cd29 ct29), sl29⟩) (c29 : PySem.W.codeIn K cd29 "_law_drawn_count" = true) (k29 : PySem.W.keepIn K (.ref f29) = true)
    {f30 : Addr} {od30 an30 : Option Addr} {sl30 : Array (Option Value)} {oc30 kV30 dc30 pm30 cd30 ct30 : Value}
    (a30 : PySem.W.nsIn K mainGlobals "_law_drawn_rim" = some (some (.ref f30))) (l30 : K.lookup f30 = some ⟨oc30, od30, .func (PySem.W.fnOf "_law_drawn_rim" "_law_drawn_rim" (defArgs s_law_drawn_rim) (defBody s_law_drawn_rim) (defScope s_law_drawn_rim) .none kV30 dc30 pm30 an30 cd30 ct30), sl30⟩) (c30 : PySem.W.codeIn K cd30 "_law_drawn_rim" = true) (k30 : PySem.W.keepIn K (.ref f30) = true)
    {f31 : Addr} {od31 an31 : Option Addr} {sl31 : Array (Option Value)} {oc31 kV31 dc31 pm31 cd31 ct31 : Value}
    (a31 : PySem.W.nsIn K mainGlobals "_law_round" = some (some (.ref f31))) (l31 : K.lookup f31 = some ⟨oc31, od31, .func (PySem.W.fnOf "_law_round" "_law_round" (defArgs s_law_round) (defBody s_law_round) (defScope s_law_round) .none kV31 dc31 pm31 an31 cd31 ct31), sl31⟩) (c31 : PySem.W.codeIn K cd31 "_law_round" = true) (k31 : PySem.W.keepIn K (.ref f31) = true)
    {f32 : Addr} {od32 an32 : Option Addr} {sl32 : Array (Option Value)} {oc32 kV32 dc32 pm32 cd32 ct32 : Value}
    (a32 : PySem.W.nsIn K mainGlobals "_law_same_right" = some (some (.ref f32))) (l32 : K.lookup f32 = some ⟨oc32, od32, .func (PySem.W.fnOf "_law_same_right" "_law_same_right" (defArgs s_law_same_right) (defBody s_law_same_right) (defScope s_law_same_right) .none kV32 dc32 pm32 an32 cd32 ct32), sl32⟩) (c32 : PySem.W.codeIn K cd32 "_law_same_right" = true) (k32 : PySem.W.keepIn K (.ref f32) = true)
    {f33 : Addr} {od33 an33 : Option Addr} {sl33 : Array (Option Value)} {oc33 kV33 dc33 pm33 cd33 ct33 : Value}
    (a33 : PySem.W.nsIn K mainGlobals "_law_sums_right" = some (some (.ref f33))) (l33 : K.lookup f33 = some ⟨oc33, od33, .func (PySem.W.fnOf "_law_sums_right" "_law_sums_right" (defArgs s_law_sums_right) (defBody s_law_sums_right) (defScope s_law_sums_right) .none kV33 dc33 pm33 an33 cd33 ct33), sl33⟩) (c33 : PySem.W.codeIn K cd33 "_law_sums_right" = true) (k33 : PySem.W.keepIn K (.ref f33) = true)
    {f34 : Addr} {od34 an34 : Option Addr} {sl34 : Array (Option Value)} {oc34 kV34 dc34 pm34 cd34 ct34 : Value}
    (a34 : PySem.W.nsIn K mainGlobals "_law_told_right" = some (some (.ref f34))) (l34 : K.lookup f34 = some ⟨oc34, od34, .func (PySem.W.fnOf "_law_told_right" "_law_told_right" (defArgs s_law_told_right) (defBody s_law_told_right) (defScope s_law_told_right) .none kV34 dc34 pm34 an34 cd34 ct34), sl34⟩) (c34 : PySem.W.codeIn K cd34 "_law_told_right" = true) (k34 : PySem.W.keepIn K (.ref f34) = true)
    {f35 : Addr} {od35 an35 : Option Addr} {sl35 : Array (Option Value)} {oc35 kV35 dc35 pm35 cd35 ct35 : Value}
    (a35 : PySem.W.nsIn K mainGlobals "law" = some (some (.ref f35))) (l35 : K.lookup f35 = some ⟨oc35, od35, .func (PySem.W.fnOf "law" "law" (defArgs s_law) (defBody s_law) (defScope s_law) .none kV35 dc35 pm35 an35 cd35 ct35), sl35⟩) (c35 : PySem.W.codeIn K cd35 "law" = true) (k35 : PySem.W.keepIn K (.ref f35) = true)
    {t_MOST_SLOTS : Tok} (m_MOST_SLOTS : PySem.W.nsIn K mainGlobals "MOST_SLOTS" = some (some (.int (40) t_MOST_SLOTS)))
    {t_MOST_LIGHT : Tok} (m_MOST_LIGHT : PySem.W.nsIn K mainGlobals "MOST_LIGHT" = some (some (.int (1000000000000000000000000000000) t_MOST_LIGHT)))
    {t_MOST_RING_LIGHTS : Tok} (m_MOST_RING_LIGHTS : PySem.W.nsIn K mainGlobals "MOST_RING_LIGHTS" = some (some (.int (1600) t_MOST_RING_LIGHTS)))
    (i_lcm : PySem.W.nsIn K mainGlobals "lcm" = some (some (.builtin "math.lcm")))
    (z_abs : PySem.W.nsIn K mainGlobals "abs" = some none)
    (z_any : PySem.W.nsIn K mainGlobals "any" = some none)
    (z_bool : PySem.W.nsIn K mainGlobals "bool" = some none)
    (z_divmod : PySem.W.nsIn K mainGlobals "divmod" = some none)
    (z_enumerate : PySem.W.nsIn K mainGlobals "enumerate" = some none)
    (z_int : PySem.W.nsIn K mainGlobals "int" = some none)
    (z_isinstance : PySem.W.nsIn K mainGlobals "isinstance" = some none)
    (z_len : PySem.W.nsIn K mainGlobals "len" = some none)
    (z_list : PySem.W.nsIn K mainGlobals "list" = some none)
    (z_max : PySem.W.nsIn K mainGlobals "max" = some none)
    (z_min : PySem.W.nsIn K mainGlobals "min" = some none)
    (z_range : PySem.W.nsIn K mainGlobals "range" = some none)
    (z_set : PySem.W.nsIn K mainGlobals "set" = some none)
    (z_sum : PySem.W.nsIn K mainGlobals "sum" = some none)
    (z_zip : PySem.W.nsIn K mainGlobals "zip" = some none)
    : ∃ fd : FuncData, (∀ (s : Shared) (u : Value), BindsTo s fd ⟨[u], []⟩ [("script", u)]) ∧ ∀ base : Heap, K.In base → base.Ns mainGlobals mg → FnG l.prog w K mg base CX0 8 fa fd ["script"] (spLaw K) := by
  have e := hfa.symm.trans (PySem.W.mg_of X G a35)
  cases e
  have F0 := fun_mk (st := s_is_integer) l0 c0 k0
  have b0 := F0.binds (ps := ["value"]) fun _ _ _ _ _ _ us hl => match us, hl with | [_], _ => rfl
  have F1 := fun_mk (st := s_has_slots) l1 c1 k1
  have b1 := F1.binds (ps := ["value"]) fun _ _ _ _ _ _ us hl => match us, hl with | [_], _ => rfl
  have F2 := fun_mk (st := s_wrong_integer) l2 c2 k2
  have b2 := F2.binds (ps := ["items"]) fun _ _ _ _ _ _ us hl => match us, hl with | [_], _ => rfl
  have F3 := fun_mk (st := s_wrong_light) l3 c3 k3
  have b3 := F3.binds (ps := ["items", "most"]) fun _ _ _ _ _ _ us hl => match us, hl with | [_, _], _ => rfl
  have F4 := fun_mk (st := s_wrong_slot) l4 c4 k4
  have b4 := F4.binds (ps := ["items"]) fun _ _ _ _ _ _ us hl => match us, hl with | [_], _ => rfl
  have F5 := fun_mk (st := s_check_disc) l5 c5 k5
  have b5 := F5.binds (ps := ["disc"]) fun _ _ _ _ _ _ us hl => match us, hl with | [_], _ => rfl
  have F6 := fun_mk (st := s_check_discs) l6 c6 k6
  have b6 := F6.binds (ps := ["disc", "other"]) fun _ _ _ _ _ _ us hl => match us, hl with | [_, _], _ => rfl
  have F7 := fun_mk (st := s_check_so_many_lights) l7 c7 k7
  have b7 := F7.binds (ps := ["lights", "least", "most"]) fun _ _ _ _ _ _ us hl => match us, hl with | [_, _, _], _ => rfl
  have F8 := fun_mk (st := s_check_turn) l8 c8 k8
  have b8 := F8.binds (ps := ["turn"]) fun _ _ _ _ _ _ us hl => match us, hl with | [_], _ => rfl
  have F9 := fun_mk (st := s_check_number) l9 c9 k9
  have b9 := F9.binds (ps := ["number"]) fun _ _ _ _ _ _ us hl => match us, hl with | [_], _ => rfl
  have F10 := fun_mk (st := s_check_count) l10 c10 k10
  have b10 := F10.binds (ps := ["number"]) fun _ _ _ _ _ _ us hl => match us, hl with | [_], _ => rfl
  have F11 := fun_mk (st := s_ring_light) l11 c11 k11
  have b11 := F11.binds (ps := ["disc", "other", "tick"]) fun _ _ _ _ _ _ us hl => match us, hl with | [_, _, _], _ => rfl
  have F12 := fun_mk (st := s_ring_sum) l12 c12 k12
  have b12 := F12.binds (ps := ["disc", "other", "first", "many"]) fun _ _ _ _ _ _ us hl => match us, hl with | [_, _, _, _], _ => rfl
  have F13 := fun_mk (st := s_first_tick) l13 c13 k13
  have b13 := F13.binds (ps := ["disc", "other", "first", "light"]) fun _ _ _ _ _ _ us hl => match us, hl with | [_, _, _, _], _ => rfl
  have F14 := fun_mk (st := s_dark_stretch) l14 c14 k14
  have b14 := F14.binds (ps := ["disc", "other"]) fun _ _ _ _ _ _ us hl => match us, hl with | [_, _], _ => rfl
  have F15 := fun_mk (st := s_tick_of) l15 c15 k15
  have b15 := F15.binds (ps := ["disc", "other", "lights"]) fun _ _ _ _ _ _ us hl => match us, hl with | [_, _, _], _ => rfl
  have F16 := fun_mk (st := s_unlike_ticks) l16 c16 k16
  have b16 := F16.binds (ps := ["disc", "other"]) fun _ _ _ _ _ _ us hl => match us, hl with | [_, _], _ => rfl
  have F17 := fun_mk (st := s_check_rings) l17 c17 k17
  have b17 := F17.binds (ps := ["disc", "other"]) fun _ _ _ _ _ _ us hl => match us, hl with | [_, _], _ => rfl
  have F18 := fun_mk (st := s_lights_from) l18 c18 k18
  have b18 := F18.binds (ps := ["disc", "other", "first"]) fun _ _ _ _ _ _ us hl => match us, hl with | [_, _, _], _ => rfl
  have F19 := fun_mk (st := s_doubled_kinds) l19 c19 k19
  have b19 := F19.binds (ps := ["lights"]) fun _ _ _ _ _ _ us hl => match us, hl with | [_], _ => rfl
  have F20 := fun_mk (st := s_joined_kinds) l20 c20 k20
  have b20 := F20.binds (ps := ["kinds", "more", "length"]) fun _ _ _ _ _ _ us hl => match us, hl with | [_, _, _], _ => rfl
  have F21 := fun_mk (st := s_numbered_kinds) l21 c21 k21
  have b21 := F21.binds (ps := ["parts"]) fun _ _ _ _ _ _ us hl => match us, hl with | [_], _ => rfl
  have F22 := fun_mk (st := s_are_unlike) l22 c22 k22
  have b22 := F22.binds (ps := ["kinds"]) fun _ _ _ _ _ _ us hl => match us, hl with | [_], _ => rfl
  have F23 := fun_mk (st := s_turned_list) l23 c23 k23
  have b23 := F23.binds (ps := ["items", "turn"]) fun _ _ _ _ _ _ us hl => match us, hl with | [_, _], _ => rfl
  have F24 := fun_mk (st := s_light_between) l24 c24 k24
  have b24 := F24.binds (ps := ["disc", "row", "turn"]) fun _ _ _ _ _ _ us hl => match us, hl with | [_, _, _], _ => rfl
  have F25 := fun_mk (st := s_turned_disc) l25 c25 k25
  have b25 := F25.binds (ps := ["disc", "turn"]) fun _ _ _ _ _ _ us hl => match us, hl with | [_, _], _ => rfl
  have F26 := fun_mk (st := s_light_at) l26 c26 k26
  have b26 := F26.binds (ps := ["disc", "other", "turn"]) fun _ _ _ _ _ _ us hl => match us, hl with | [_, _, _], _ => rfl
  have F27 := fun_mk (st := s_law_tank) l27 c27 k27
  have b27 := F27.binds (ps := ["script", "at"]) fun _ _ _ _ _ _ us hl => match us, hl with | [_, _], _ => rfl
  have F28 := fun_mk (st := s_law_tap) l28 c28 k28
  have b28 := F28.binds (ps := ["tank", "many"]) fun _ _ _ _ _ _ us hl => match us, hl with | [_, _], _ => rfl
  have F29 := fun_mk (st := s_law_drawn_count) l29 c29 k29
  have b29 := F29.binds (ps := ["tank", "most"]) fun _ _ _ _ _ _ us hl => match us, hl with | [_, _], _ => rfl
  have F30 := fun_mk (st := s_law_drawn_rim) l30 c30 k30
  have b30 := F30.binds (ps := ["tank", "count"]) fun _ _ _ _ _ _ us hl => match us, hl with | [_, _], _ => rfl
  have F31 := fun_mk (st := s_law_round) l31 c31 k31
  have b31 := F31.binds (ps := ["rim", "mate"]) fun _ _ _ _ _ _ us hl => match us, hl with | [_, _], _ => rfl
  have F32 := fun_mk (st := s_law_same_right) l32 c32 k32
  have b32 := F32.binds (ps := ["tank", "rim"]) fun _ _ _ _ _ _ us hl => match us, hl with | [_, _], _ => rfl
  have F33 := fun_mk (st := s_law_sums_right) l33 c33 k33
  have b33 := F33.binds (ps := ["tank", "rim", "mate", "whole"]) fun _ _ _ _ _ _ us hl => match us, hl with | [_, _, _, _], _ => rfl
  have F34 := fun_mk (st := s_law_told_right) l34 c34 k34
  have b34 := F34.binds (ps := ["tank", "rim", "mate", "whole"]) fun _ _ _ _ _ _ us hl => match us, hl with | [_, _, _, _], _ => rfl
  have F35 := fun_mk (st := s_law) l35 c35 k35
  exact ⟨_, fun s v => .of_eq rfl, fun base _ _ => ok_law ⟨f0, _, F0, b0, PySem.W.mg_of X G a0, f1, _, F1, b1, PySem.W.mg_of X G a1, f2, _, F2, b2, PySem.W.mg_of X G a2, f3, _, F3, b3, PySem.W.mg_of X G a3, f4, _, F4, b4, PySem.W.mg_of X G a4, f5, _, F5, b5, PySem.W.mg_of X G a5, f6, _, F6, b6, PySem.W.mg_of X G a6, f7, _, F7, b7, PySem.W.mg_of X G a7, f8, _, F8, b8, PySem.W.mg_of X G a8, f9, _, F9, b9, PySem.W.mg_of X G a9, f10, _, F10, b10, PySem.W.mg_of X G a10, f11, _, F11, b11, PySem.W.mg_of X G a11, f12, _, F12, b12, PySem.W.mg_of X G a12, f13, _, F13, b13, PySem.W.mg_of X G a13, f14, _, F14, b14, PySem.W.mg_of X G a14, f15, _, F15, b15, PySem.W.mg_of X G a15, f16, _, F16, b16, PySem.W.mg_of X G a16, f17, _, F17, b17, PySem.W.mg_of X G a17, f18, _, F18, b18, PySem.W.mg_of X G a18, f19, _, F19, b19, PySem.W.mg_of X G a19, f20, _, F20, b20, PySem.W.mg_of X G a20, f21, _, F21, b21, PySem.W.mg_of X G a21, f22, _, F22, b22, PySem.W.mg_of X G a22, f23, _, F23, b23, PySem.W.mg_of X G a23, f24, _, F24, b24, PySem.W.mg_of X G a24, f25, _, F25, b25, PySem.W.mg_of X G a25, f26, _, F26, b26, PySem.W.mg_of X G a26, f27, _, F27, b27, PySem.W.mg_of X G a27, f28, _, F28, b28, PySem.W.mg_of X G a28, f29, _, F29, b29, PySem.W.mg_of X G a29, f30, _, F30, b30, PySem.W.mg_of X G a30, f31, _, F31, b31, PySem.W.mg_of X G a31, f32, _, F32, b32, PySem.W.mg_of X G a32, f33, _, F33, b33, PySem.W.mg_of X G a33, f34, _, F34, b34, PySem.W.mg_of X G a34, fa, _, F35, PySem.W.mg_of X G a35, t_MOST_SLOTS, PySem.W.mg_of X G m_MOST_SLOTS, t_MOST_LIGHT, PySem.W.mg_of X G m_MOST_LIGHT, t_MOST_RING_LIGHTS, PySem.W.mg_of X G m_MOST_RING_LIGHTS, PySem.W.mg_of X G i_lcm, PySem.W.mg_none_of X G z_abs, PySem.W.mg_none_of X G z_any, PySem.W.mg_none_of X G z_bool, PySem.W.mg_none_of X G z_divmod, PySem.W.mg_none_of X G z_enumerate, PySem.W.mg_none_of X G z_int, PySem.W.mg_none_of X G z_isinstance, PySem.W.mg_none_of X G z_len, PySem.W.mg_none_of X G z_list, PySem.W.mg_none_of X G z_max, PySem.W.mg_none_of X G z_min, PySem.W.mg_none_of X G z_range, PySem.W.mg_none_of X G z_set, PySem.W.mg_none_of X G z_sum, PySem.W.mg_none_of X G z_zip⟩⟩
end Sd
open PySem PySem.W PyProof.Rows
set_option maxRecDepth 100000 in
set_option maxHeartbeats 0 in
theorem PySem.Challenge.cw_slitdiscs_k60_whole_rings_and_lights_holds : PySem.Challenge.rw_slitdiscs_k60_whole_rings_and_lights.Holds := by
  w_on; o_law; k_head; (case hw => w_witness2)
  k_fill
  refine Sd.gwalk (l := PySem.Challenge.rw_slitdiscs_k60_whole_rings_and_lights) (n := 63) (k := 8) (x := "script") (sp := Sd.spLaw) rfl (by decide) rfl ⟨rfl, by decide, by decide⟩ (fun w h Y => PySem.W.kIn_of Y) ?F (fun _ _ a ns hl hS => ⟨a, ns, rfl, hS, hl, fun _ => rfl⟩)
  case F =>
    intro w mg fa h KX G hmg
    refine' Sd.all_mk KX G hmg ?a0 ?l0 ?c0 ?k0 ?a1 ?l1 ?c1 ?k1 ?a2 ?l2 ?c2 ?k2 ?a3 ?l3 ?c3 ?k3 ?a4 ?l4 ?c4 ?k4 ?a5 ?l5 ?c5 ?k5 ?a6 ?l6 ?c6 ?k6 ?a7 ?l7 ?c7 ?k7 ?a8 ?l8 ?c8 ?k8 ?a9 ?l9 ?c9 ?k9 ?a10 ?l10 ?c10 ?k10 ?a11 ?l11 ?c11 ?k11 ?a12 ?l12 ?c12 ?k12 ?a13 ?l13 ?c13 ?k13 ?a14 ?l14 ?c14 ?k14 ?a15 ?l15 ?c15 ?k15 ?a16 ?l16 ?c16 ?k16 ?a17 ?l17 ?c17 ?k17 ?a18 ?l18 ?c18 ?k18 ?a19 ?l19 ?c19 ?k19 ?a20 ?l20 ?c20 ?k20 ?a21 ?l21 ?c21 ?k21 ?a22 ?l22 ?c22 ?k22 ?a23 ?l23 ?c23 ?k23 ?a24 ?l24 ?c24 ?k24 ?a25 ?l25 ?c25 ?k25 ?a26 ?l26 ?c26 ?k26 ?a27 ?l27 ?c27 ?k27 ?a28 ?l28 ?c28 ?k28 ?a29 ?l29 ?c29 ?k29 ?a30 ?l30 ?c30 ?k30 ?a31 ?l31 ?c31 ?k31 ?a32 ?l32 ?c32 ?k32 ?a33 ?l33 ?c33 ?k33 ?a34 ?l34 ?c34 ?k34 ?a35 ?l35 ?c35 ?k35 ?m_MOST_SLOTS ?m_MOST_LIGHT ?m_MOST_RING_LIGHTS ?i_lcm ?z_abs ?z_any ?z_bool ?z_divmod ?z_enumerate ?z_int ?z_isinstance ?z_len ?z_list ?z_max ?z_min ?z_range ?z_set ?z_sum ?z_zip
    (case a0 => k_is)
    (case l0 => k_is)
    (case c0 => k_is)
    (case k0 => k_is)
    (case a1 => k_is)
    (case l1 => k_is)
    (case c1 => k_is)
    (case k1 => k_is)
    (case a2 => k_is)
    (case l2 => k_is)
    (case c2 => k_is)
    (case k2 => k_is)
    (case a3 => k_is)
    (case l3 => k_is)
    (case c3 => k_is)
    (case k3 => k_is)
    (case a4 => k_is)
    (case l4 => k_is)
    (case c4 => k_is)
    (case k4 => k_is)
    (case a5 => k_is)
    (case l5 => k_is)
    (case c5 => k_is)
    (case k5 => k_is)
    (case a6 => k_is)
    (case l6 => k_is)
    (case c6 => k_is)
    (case k6 => k_is)
    (case a7 => k_is)
    (case l7 => k_is)
    (case c7 => k_is)
    (case k7 => k_is)
    (case a8 => k_is)
    (case l8 => k_is)
    (case c8 => k_is)
    (case k8 => k_is)
    (case a9 => k_is)
    (case l9 => k_is)
    (case c9 => k_is)
    (case k9 => k_is)
    (case a10 => k_is)
    (case l10 => k_is)
    (case c10 => k_is)
    (case k10 => k_is)
    (case a11 => k_is)
    (case l11 => k_is)
    (case c11 => k_is)
    (case k11 => k_is)
    (case a12 => k_is)
    (case l12 => k_is)
    (case c12 => k_is)
    (case k12 => k_is)
    (case a13 => k_is)
    (case l13 => k_is)
    (case c13 => k_is)
    (case k13 => k_is)
    (case a14 => k_is)
    (case l14 => k_is)
    (case c14 => k_is)
    (case k14 => k_is)
    (case a15 => k_is)
    (case l15 => k_is)
    (case c15 => k_is)
    (case k15 => k_is)
    (case a16 => k_is)
    (case l16 => k_is)
    (case c16 => k_is)
    (case k16 => k_is)
    (case a17 => k_is)
    (case l17 => k_is)
    (case c17 => k_is)
    (case k17 => k_is)
    (case a18 => k_is)
    (case l18 => k_is)
    (case c18 => k_is)
    (case k18 => k_is)
    (case a19 => k_is)
    (case l19 => k_is)
    (case c19 => k_is)
    (case k19 => k_is)
    (case a20 => k_is)
    (case l20 => k_is)
    (case c20 => k_is)
    (case k20 => k_is)
    (case a21 => k_is)
    (case l21 => k_is)
    (case c21 => k_is)
    (case k21 => k_is)
    (case a22 => k_is)
    (case l22 => k_is)
    (case c22 => k_is)
    (case k22 => k_is)
    (case a23 => k_is)
    (case l23 => k_is)
    (case c23 => k_is)
    (case k23 => k_is)
    (case a24 => k_is)
    (case l24 => k_is)
    (case c24 => k_is)
    (case k24 => k_is)
    (case a25 => k_is)
    (case l25 => k_is)
    (case c25 => k_is)
    (case k25 => k_is)
    (case a26 => k_is)
    (case l26 => k_is)
    (case c26 => k_is)
    (case k26 => k_is)
    (case a27 => k_is)
    (case l27 => k_is)
    (case c27 => k_is)
    (case k27 => k_is)
    (case a28 => k_is)
    (case l28 => k_is)
    (case c28 => k_is)
    (case k28 => k_is)
    (case a29 => k_is)
    (case l29 => k_is)
    (case c29 => k_is)
    (case k29 => k_is)
    (case a30 => k_is)
    (case l30 => k_is)
    (case c30 => k_is)
    (case k30 => k_is)
    (case a31 => k_is)
    (case l31 => k_is)
    (case c31 => k_is)
    (case k31 => k_is)
    (case a32 => k_is)
    (case l32 => k_is)
    (case c32 => k_is)
    (case k32 => k_is)
    (case a33 => k_is)
    (case l33 => k_is)
    (case c33 => k_is)
    (case k33 => k_is)
    (case a34 => k_is)
    (case l34 => k_is)
    (case c34 => k_is)
    (case k34 => k_is)
    (case a35 => k_is)
    (case l35 => k_is)
    (case c35 => k_is)
    (case k35 => k_is)
    (case m_MOST_SLOTS => k_is)
    (case m_MOST_LIGHT => k_is)
    (case m_MOST_RING_LIGHTS => k_is)
    (case i_lcm => k_is)
    (case z_abs => k_is)
    (case z_any => k_is)
    (case z_bool => k_is)
    (case z_divmod => k_is)
    (case z_enumerate => k_is)
    (case z_int => k_is)
    (case z_isinstance => k_is)
    (case z_len => k_is)
    (case z_list => k_is)
    (case z_max => k_is)
    (case z_min => k_is)
    (case z_range => k_is)
    (case z_set => k_is)
    (case z_sum => k_is)
    (case z_zip => k_is)
