import PyProof.Rows.All
import Wide.All
import OpenK.AllK
import Wide.FinOn
import HandS.Comp
import HandS.Ends
import HandS.Iter
import HandS.Words
import HandS.WordsList
import HandS.Walk
import HandS.IsInst
import HandS.Wide
import PyProof.ReprRoads
import PyProof.ReprLen
import KE.DataMinMax
import HandS.Deep
import HandS.Conv
import PySem.Challenge.RW_slitdiscs_k22_own_lights
set_option Elab.async false
set_option linter.all false
set_option maxRecDepth 100000
set_option maxHeartbeats 4000000
/-! Own layer over HandS: defs that run where no repr is under way (FnG), repr of data, powers of great ints, calls by keywords alone. -/
namespace Sd
open PySem PySem.Spec PyProof.Rows L2

/-! ### a def called where no repr is under way -/
structure FnG (P : Program) (w : World) (K : PySem.W.Frag) (mg : Str → Option Value) (base : Heap) (C : CXT) (k : Nat) (f : Addr) (fd : FuncData) (ps : List Str) (sp : Sp) : Prop where
  cnt : ∀ {vs H Q E}, sp vs H Q E → vs.length = ps.length
  go : ∀ (A : Around) (out : List Env) (s : Shared) (H : Hp) (ar : Args) (us : List Value) (vs : List V) (Q : VK) (E : XK), A.guards = some [] → Room k A →
    Env0 P w K mg base A out s H → BindsTo s fd ar (ps.zip us) → Vals vs us → sp vs H Q E →
    codeAny (model P w) A (.call (.ref f) ar) (CR C out P w H s Q E) s

section
variable {P : Program} {w : World} {K : PySem.W.Frag} {mg : Str → Option Value} {base : Heap} {C : CXT}
theorem gfn_of {k : Nat} {f : Addr} {nm ql : Str} {pms : Arguments} {bd : List Stmt} {sc : Scope} {v1 v2 v3 v4 cd v5 oc : Value} {an od : Option Addr}
    {osl : Array (Option Value)} {N ps : List Str} {sp : Sp}
    (lk : K.lookup f = some ⟨oc, od, .func (PySem.W.fnOf nm ql pms bd sc v1 v2 v3 v4 an cd v5), osl⟩)
    (hc : PySem.W.codeIn K cd ql = true) (S : FnScope N ps sc)
    (len : ∀ vs H Q E, sp vs H Q E → vs.length = ps.length)
    (hb : ∀ (A : Around) (out : List Env) (s : Shared) (H : Hp) (vs : List V) (Q : VK) (E : XK), A.guards = some [] →
      Room k (A.deeper (envOfC ql sc s.heap.objs.size f cd)) → sp vs H Q E →
      ∃ t, PSs (cxOf C P w K mg base N ql sc f cd A out s H E) bd t ∧ t { nx := fun _ H' => Q .non H', rt := Q } (start N vs) H) :
    FnG P w K mg base C (k + 1) f (PySem.W.fnOf nm ql pms bd sc v1 v2 v3 v4 an cd v5) ps sp := by
  refine ⟨fun h => len _ _ _ _ h, fun A out s H ar us vs Q E hg hr e0 hbd r hsp => ?_⟩
  have n1 := len _ _ _ _ hsp
  have kx : K.In s.heap := e0.mod.kin.keeps fun b o e => (e0.bs b o e).1
  have li : s.heap.NoLimit := e0.mod.nolimit.keeps fun b o e => (e0.bs b o e).1
  refine codeAny_call_function hr.depth (kx _ _ lk) rfl S.co S.gen rfl (PySem.W.codeRec_of kx hc) (hbd _ _ _ _ ?_)
  refine wpAny_newFunctionEnv_cells S.kind (fun ⟨n, v⟩ hy => ?_) fun env he s1 x => ?_
  · rcases S.par n (List.of_mem_zip hy).1 with q | q
    · exact .inl q
    · exact .inr ⟨q, PySem.W.cellsFrom_some _ _ _ (.inl q)⟩
  subst he
  refine ⟨li.keeps x.toInCall.keep, codeAny_func ?_⟩
  obtain ⟨t, ht, hq⟩ := hb A out s H vs Q E hg (hr.deeper _) hsp
  have I0 := inv_start (CX := C) (E := E) S hr.hd e0 n1 r x
  refine wpAny_mono (ht.run [] s1 (start N vs) H _ I0 hq) (fun fl s' hs => ?_) fun e s' hs => hs
  cases fl with
  | next =>
    obtain ⟨σ', H', J, q⟩ := hs
    exact ⟨.non, H', J.os, J.bare, J.base, J.hok, rfl, q⟩
  | ret u =>
    obtain ⟨v, σ', H', J, rv, q⟩ := hs
    exact ⟨v, H', J.os, J.bare, J.base, J.hok, rv, q⟩
  | brk => exact hs.elim fun _ ⟨_, _, q⟩ => False.elim q
  | cont => exact hs.elim fun _ ⟨_, _, q⟩ => False.elim q

/-- as Fun.ok, where no repr is under way -/
theorem okG {x ql : Str} {st : Stmt} {f : Addr} {fd : FuncData} {N ps : List Str} {k : Nat} {sp : Sp} (F : Fun K x ql st f fd) (S : FnScope N ps (defScope st))
    (len : ∀ vs H Q E, sp vs H Q E → vs.length = ps.length)
    (hb : ∀ (cd : Value) (A : Around) (out : List Env) (s : Shared) (H : Hp) (vs : List V) (Q : VK) (E : XK), A.guards = some [] →
      Room k (A.deeper (envOfC ql (defScope st) s.heap.objs.size f cd)) → sp vs H Q E →
      ∃ t, PSs (cxOf CX0 P w K mg base N ql (defScope st) f cd A out s H E).nox (defBody st) t ∧ t { nx := fun _ H' => Q .non H', rt := Q } (start N vs) H) :
    FnG P w K mg base CX0 (k + 1) f fd ps sp := by
  obtain ⟨oc, od, v2, v3, v4, an, cd, v5, osl, rfl, lk, hc⟩ := F.ex
  refine gfn_of lk hc S len fun A out s H vs Q E hg hr hsp => ?_
  obtain ⟨t, h, q⟩ := hb cd A out s H vs Q E hg hr hsp
  exact ⟨t, h.nox, q⟩
end

section
variable {X : Cx} {C : CXT} {k : Nat} {f : Addr} {fd : FuncData} {ps ks : List Str} {sp : Sp} {dvs : List V} {ds : List Value} {E : XK} {x : Str} {p pos : Pos} {e : Expr} {es : List Expr} {kws : List Keyword} {t tk : TA}
theorem endG {pins : List (Addr × Obj)} {σ : L2.St} {H : Hp} {s s' : Shared} {Q : VK} {r : Result} (hx : Passes C X E) (I : Inv X pins σ H s) (h : CR C X.stack X.prog X.w H s Q E r s') :
    (match r with | .ok (.ret u) => EP X pins σ Q u s' | .ok _ => False | .error e => X.xe e s') := by
  cases r with
  | error e => exact hx pins σ H s e s' I h
  | ok fl =>
    cases fl with
    | ret u => exact I.after h
    | next => exact h
    | brk => exact h
    | cont => exact h
theorem goG {pins : List (Addr × Obj)} {σ : L2.St} {H : Hp} {s : Shared} {Q : VK} {us : List Value} {vs : List V} (F : FnG X.prog X.w X.K X.mg X.base C k f fd ps sp) (hA : X.A.guards = some []) (hr : Room k X.A)
    (hb : Binds X.K fd ps ds) (hd : Vals dvs ds) (hx : Passes C X E) (I : Inv X pins σ H s) (r : Vals vs us) (h : sp (vs ++ dvs) H Q E) :
    wpAny (model X.prog X.w) X.A (call (.ref f) us) (EP X pins σ Q) X.xe s := by
  have r2 := r.append hd
  have n2 : (us ++ ds).length = ps.length := r2.length.symm.trans (F.cnt h)
  refine wpAny_call (codeAny_mono (F.go X.A X.stack s H ⟨us, []⟩ _ _ Q E hA hr I.env0 (hb s us I.kIn n2) r2 h) fun r s' hq => ?_)
  have z := endG hx I hq
  cases r with
  | error e => exact z
  | ok fl => cases fl <;> exact z
/-- f(e, ..) where no repr is under way -/
theorem pe_callG (F : FnG X.prog X.w X.K X.mg X.base C k f fd ps sp) (hA : X.A.guards = some []) (hr : Room k X.A) (hg : Gl X x) (hm : X.mg x = some (.ref f)) (hk : PySem.W.keepIn X.K (.ref f) = true)
    (hb : Binds X.K fd ps ds) (hd : Vals dvs ds) (hx : Passes C X E) (ha : PA X (e :: es) t) (hdb : (x == ("__debug__" : Str)) = false := by decide)
    (he : starEach (e :: es) X.env = (false, eval e X.env) :: starEach es X.env := by rfl) (hpl : (backTo pos (starEach es X.env)).any (·.1) = false := by rfl) :
    PE X (.Call (.Name x p) (e :: es) [] pos) (tCall sp dvs E t) := by
  refine ⟨fun pins s σ H Q I h => wpAny_Call_Name_kw (ld_glob I hg hm ?_ hdb)⟩
  refine PySem.W.callWith_K (h₀ := X.base) I.ok.mod.kin hk (thn (ha.run pos pins s σ H _ I h) fun us s1 z => ?_) he hpl
  obtain ⟨vs, H1, I1, r, q⟩ := z
  exact ⟨I1.kIn, goG F hA hr hb hd hx I1 r q⟩
/-- f(k = v, ..): keywords alone -/
def tCallW (sp : Sp) (gV : List V → List V) (E : XK) (tk : TA) : TE := fun σ H Q => tk σ H fun zs H2 => sp (gV zs) H2 Q E
variable {g : List Value → List Value → List Value} {gV : List V → List V → List V}
theorem pe_callW (F : FnOk X.prog X.w X.K X.mg X.base C k f fd ps sp) (hr : Room k X.A) (hg : Gl X x) (hm : X.mg x = some (.ref f)) (hk : PySem.W.keepIn X.K (.ref f) = true) (hb : KBinds X.K fd ps ks g gV) (hx : Passes C X E)
    (hkw : PK X kws tk) (hall : (backToKw pos (keywordEach kws X.env)).all (·.1.isSome) = true := by rfl) (hks : (backToKw pos (keywordEach kws X.env)).filterMap (·.1) = ks := by rfl)
    (hdb : (x == ("__debug__" : Str)) = false := by decide)
    (hpl : ((backTo pos (starEach [] X.env)).any (·.1) || (backToKw pos (keywordEach kws X.env)).any (·.1.isNone)) = false := by rfl) :
    PE X (.Call (.Name x p) [] kws pos) (tCallW sp (gV []) E tk) := by
  refine ⟨fun pins s σ H Q I h => wpAny_Call_Name_kw (ld_glob I hg hm ?_ hdb)⟩
  refine PySem.W.callWith_KW0 (h₀ := X.base) I.ok.mod.kin hk hall (thn (hkw.run pos pins s σ H _ I h) fun ws s2 z => ?_) hpl
  obtain ⟨zs, H2, I2, rz, q2⟩ := z
  refine ⟨I2.kIn, ?_⟩
  rw [hks]
  exact run_fnk F hr hb hx I2 .nil rz q2
end

/-! ### the law's call -/
theorem glaw {P : Program} {w : World} {K : PySem.W.Frag} {mg mb : Str → Option Value} {k : Nat} {fa a : Addr} {fd : FuncData} {x : Str} {sp : Sp} {s1 : Shared} {vs : List Value} {ns : List Int}
    (kx : K.In s1.heap) (hn : s1.heap.Ns mainGlobals mg) (hb : s1.heap.Ns builtinsNs mb) (hbb : ∀ x : Str, x ≠ "__name__" → mb x = bootBuiltins x) (hlim : s1.heap.NoLimit) (hgs : s1.gens = #[])
    (ha : s1.heap.get? a = some { cls := .type "list", data := .seq vs.toArray }) (hi : IntsAre vs ns) (hl : ns.length ≤ sizeLine) (hr : Room k callerA)
    (F : ∀ base : Heap, K.In base → base.Ns mainGlobals mg → FnG P w K mg base CX0 k fa fd [x] sp) (hbind : ∀ (s : Shared) (u : Value), BindsTo s fd ⟨[u], []⟩ [(x, u)])
    (hsp : ∀ H : Hp, SqL K H a (ns.map V.int) → sp [.ref a] H (fun v _ => v = .bl true) E0) :
    codeAny (model P w) callerA (.call (.ref fa) ⟨[.ref a], []⟩) (fun r s' => r = .ok (.ret (.bool true)) ∧ OldK s1.heap s'.heap ∧ s'.os = s1.os ∧ AllBare s'.gens) s1 := by
  have rv := vals_ints hi
  have nv := hi.length
  -- the abstract heap: the script, locked, unless the module itself holds it
  have main : ∀ H : Hp, (∀ b, H b = none ∨ (b = a ∧ H b = some (.frz { cls := .type "list", data := .seq vs.toArray } (.lst (ns.map V.int))))) → (H a ≠ none → K.lookup a = none) →
      SqL K H a (ns.map V.int) → HOk P w H s1.heap →
      codeAny (model P w) callerA (.call (.ref fa) ⟨[.ref a], []⟩) (fun r s' => r = .ok (.ret (.bool true)) ∧ OldK s1.heap s'.heap ∧ s'.os = s1.os ∧ AllBare s'.gens) s1 := by
    intro H hO hK hS hok
    have out : ∀ {b : Addr} {o : Obj}, s1.heap.get? b = some o → (b = a → H b = none) → (hidT s1.heap H).get? b = some o := fun {b o} e n => hidT_get e (by
      rcases hO b with z | ⟨z, _⟩
      · exact z
      · exact n z)
    have dct : ∀ {b : Addr} {m : Str → Option Value}, s1.heap.Ns b m → (hidT s1.heap H).Ns b m := fun {b m} ⟨o, es, ep, e, d, r⟩ => ⟨o, es, ep, out e (fun z => by
      subst z
      rw [ha] at e
      cases e
      cases (show Data.seq vs.toArray _ = Data.dict es ep from d)), d, r⟩
    have kb : K.In (hidT s1.heap H) := fun b o e => out (kx b o e) fun z => by
      subst z
      cases q : H b with
      | none => rfl
      | some u =>
        rw [hK (by rw [q]; exact fun z => nomatch z)] at e
        cases e
    have md : Mod K mg (hidT s1.heap H) := ⟨kb, dct hn, ⟨mb, dct hb, hbb⟩, let ⟨mc, h1, h2⟩ := hlim; ⟨mc, dct h1, h2⟩⟩
    have en : Env0 P w K mg (hidT s1.heap H) callerA [] s1 H := ⟨rfl, md, fun b o e => of_hidT e, Nat.le_of_eq (hidT_size _ _), trivial, fun b z => (List.not_mem_nil z).elim, hok, .of_eq hgs⟩
    refine codeAny_mono ((F _ kb (dct hn)).go callerA [] s1 H ⟨[.ref a], []⟩ [.ref a] [.ref a] _ _ rfl hr en (hbind s1 (.ref a)) (.cons rfl .nil) (hsp H hS)) fun r s' h => ?_
    cases r with
    | error e => exact False.elim h
    | ok fl =>
      cases fl with
      | next => exact False.elim h
      | brk => exact False.elim h
      | cont => exact False.elim h
      | ret u =>
        obtain ⟨v, H', os, br, un, ok', r', q⟩ := h
        cases (show v = .bl true from q)
        cases (show u = Value.bool true from r')
        refine ⟨rfl, OldK.of_keep fun b o e => ?_, os, br⟩
        rcases hO b with z | ⟨_, z⟩
        · exact un.keep b o e z (fun z => (List.not_mem_nil z).elim) (fun z => (List.not_mem_nil z).elim)
        · have e1 := (hok b _ z).1
          have e2 := (ok' b _ (un.frzs b _ _ z)).1
          rw [e] at e1
          cases e1
          exact e2
  cases hk : K.lookup a with
  | some o =>
    have e := kx a o hk
    rw [ha] at e
    cases e
    refine main (fun _ => none) (fun _ => .inl rfl) (fun z => absurd rfl z) (.inr ⟨_, vs.toArray, _, hk, rfl, rfl, rfl, ?_, ?_⟩) fun b u z => nomatch (show (none : Option HO) = some u from z)
    · rw [List.size_toArray, nv]
      exact hl
    · simpa using rv
  | none =>
    refine main (fun b => if b = a then some (.frz { cls := .type "list", data := .seq vs.toArray } (.lst (ns.map V.int))) else none) (fun b => ?_) (fun _ => hk) (.inl (.inr ⟨{ cls := .type "list", data := .seq vs.toArray }, if_pos rfl⟩)) (fun b u z => ?_)
    · by_cases q : b = a
      · exact .inr ⟨q, if_pos q⟩
      · exact .inl (if_neg q)
    · by_cases q : b = a
      · have z2 := (if_pos q).symm.trans z
        cases z2
        subst q
        exact ⟨ha, by rw [List.length_map]; exact hl, vs, _, rv, ha⟩
      · have z2 := (if_neg q).symm.trans z
        cases z2
theorem gwalk {l : PySem.W.OpenLaw} {n k : Nat} {q : Program} {lo : List Str} {XP : (Str → Option Value) → Heap → Prop} {YP : World → Heap → Prop} {d : DefRec} {K : Params → PySem.W.Frag} {sp : PySem.W.Frag → Sp} {x : Str}
    (hn : l.most = some n) (hn2 : n ≤ sizeLine) (hdf : d.params.defaults = []) (hr : Room k callerA) (hY : ∀ (w : World) (h : Heap), YP w h → (K w.params).In h)
    (F : ∀ (w : World) (mg : Str → Option Value) (fa : Addr) (h : Heap), (K w.params).In h → h.Ns mainGlobals mg → mg d.name = some (.ref fa) →
      ∃ fd : FuncData, (∀ (s : Shared) (u : Value), BindsTo s fd ⟨[u], []⟩ [(x, u)]) ∧
        ∀ base : Heap, (K w.params).In base → base.Ns mainGlobals mg → FnG l.prog w (K w.params) mg base CX0 k fa fd [x] (sp (K w.params)))
    (hsp : ∀ (K : PySem.W.Frag) (H : Hp) (a : Addr) (ns : List Int), ns.length ≤ n → SqL K H a (ns.map V.int) → sp K [.ref a] H (fun v _ => v = .bl true) E0) :
    PySem.W.WalkO q lo XP YP l.row.toRowW d [] (fun f vs => PySem.call f vs) := by
  refine Att.attach_call hn hdf fun w s₀ s₁ mg mb fa o pm cd doc a vs ns G Y ho hd hcd hmg hobj hints hlen hg => ?_
  have kx := hY w _ Y
  obtain ⟨fd, hb, hF⟩ := F w mg fa _ kx G.T.g hmg
  exact glaw kx G.T.g G.T.b G.T.builtins G.T.nolimit hg hobj hints (Nat.le_trans hlen hn2) hr hF hb fun H hS => hsp (K w.params) H a ns hlen hS

/-! ### repr of data -/
def rRepr (K : PySem.W.Frag) : List V → Hp → VK → Prop := fun xs H Q => ∃ (a : Addr) (d : PyData), xs = [.ref a] ∧ Dp K H (.ref a) d ∧ d.showable = true ∧ d.hasDict = false ∧ d.depth ≤ 32 ∧ d.shown.length ≤ sizeLine ∧ Q (.str d.shown) H
theorem call_repr {X : Cx} (hA : X.A.guards = some []) {k : Nat} (hr : Room k X.A) : CallR X (.builtin "repr") (rRepr X.K) := by
  intro pins s σ H xs us Q I r h
  obtain ⟨a, d, rfl, hd, h1, h2, h3, h4, q⟩ := h
  cases r with
  | cons r1 r2 =>
    cases r2
    cases r1
    obtain ⟨as, rd⟩ := Dp.reads I d _ _ hd rfl
    have hu := hr.units
    refine repr_of_reads' rd h1 (fun z => by rw [h2] at z; cases z) hA (by omega) (fun _ _ e => e) (fun h' u tk kp => ?_) h4
    exact ⟨.str d.shown, H, I.kept (t' := tk) kp, ⟨u, rfl⟩, q⟩

/-- repr of any data -/
def rReprV (K : PySem.W.Frag) : List V → Hp → VK → Prop := fun xs H Q => ∃ (x : V) (d : PyData), xs = [x] ∧ Dp K H x d ∧ d.showable = true ∧ d.hasDict = false ∧ d.depth ≤ 32 ∧ d.shown.length ≤ sizeLine ∧ Q (.str d.shown) H
theorem reprV {X : Cx} {K : PySem.W.Frag} (hK : X.K = K) (hA : X.A.guards = some []) {k : Nat} (hr : Room k X.A) : CallR X (.builtin "repr") (rReprV K) := by
  subst hK
  intro pins s σ H xs us Q I r h
  obtain ⟨x, d, rfl, hd, h1, h2, h3, h4, q⟩ := h
  have ref : ∀ a : Addr, x = .ref a → wpAny (model X.prog X.w) X.A (call (.builtin "repr") us) (EP X pins σ Q) X.xe s := fun a e => by
    subst e
    exact call_repr hA hr pins s σ H _ us Q I r ⟨a, d, rfl, hd, h1, h2, h3, h4, q⟩
  cases hd with
  | lst _ _ => exact ref _ rfl
  | tup _ _ => exact ref _ rfl
  | non =>
    cases r with
    | cons r1 r2 =>
      cases r2
      cases r1
      exact PySem.P.repr_of_none ⟨.str (PyData.shown .none), H, I.tok _, ⟨_, rfl⟩, q⟩
  | bl b =>
    cases r with
    | cons r1 r2 =>
      cases r2
      cases r1
      cases b with
      | true => exact PySem.P.repr_of_bool ⟨.str (PyData.shown (.bool true)), H, I.tok _, ⟨_, rfl⟩, q⟩
      | false => exact PySem.P.repr_of_bool ⟨.str (PyData.shown (.bool false)), H, I.tok _, ⟨_, rfl⟩, q⟩
  | int i =>
    cases r with
    | cons r1 r2 =>
      cases r2
      obtain ⟨t, rfl⟩ := r1
      have z : i.natAbs.log2 < 1920 := by
        simp only [PyData.showable] at h1
        exact of_decide_eq_true h1
      exact PySem.P.repr_of_int z ⟨.str (PyData.shown (.int i)), H, I.tok _, ⟨_, rfl⟩, q⟩
  | str y =>
    cases r with
    | cons r1 r2 =>
      cases r2
      obtain ⟨t, rfl⟩ := r1
      exact PySem.P.repr_of_str ⟨.str (PyData.shown (.str y)), H, I.tok _, ⟨_, rfl⟩, q⟩ h4

/-! ### a statement, then the rest by a word between them -/
def tMid (t u : TS) : TS := fun D σ H => ∃ M : L2.St → Hp → Prop, t { D with nx := M } σ H ∧ ∀ σ' H', M σ' H' → u D σ' H'
theorem pss_mid {X : Cx} {st : Stmt} {rs : List Stmt} {t u : TS} (h1 : PS X st t) (h2 : PSs X rs u) : PSs X (st :: rs) (tMid t u) :=
  ⟨fun pins s σ H D I ⟨M, hm, hu⟩ => wpAny_execs_cons (thn (h1.run pins s σ H { D with nx := M } I hm) fun f s1 q => by
    cases f with
    | next => exact q.elim fun σ' ⟨H', I', z⟩ => h2.run pins s1 σ' H' D I' (hu σ' H' z)
    | ret v => exact q
    | brk => exact q
    | cont => exact q)⟩

/-! ### rules with the written part named (for blocks of comprehensions) -/
theorem ixL {X : Cx} {K : PySem.W.Frag} (h : X.K = K) : IxR X (rIxL K) := h ▸ ix_list
theorem slL {X : Cx} {K : PySem.W.Frag} (h : X.K = K) : SlR X (rSlL K) := h ▸ sl_list
def rLenL (K : PySem.W.Frag) : List V → Hp → VK → Prop := fun xs H Q => ∃ (p : Addr) (ys : List V), xs = [.ref p] ∧ (SqL K H p ys ∨ SqT K H p ys) ∧ Q (.int ys.length) H
theorem lenL {X : Cx} {K : PySem.W.Frag} (h : X.K = K) : CallR X (.builtin "len") (rLenL K) := h ▸ call_len_seq
theorem sumL {X : Cx} {K : PySem.W.Frag} (h : X.K = K) (hc : X.calm = true) : CallR X (.builtin "sum") (rSum K) := h ▸ cr_sum hc
theorem maxL {X : Cx} {K : PySem.W.Frag} (h : X.K = K) (hc : X.calm = true) : CallR X (.builtin "max") (rMax K) := h ▸ cr_max hc
theorem minL {X : Cx} {K : PySem.W.Frag} (h : X.K = K) (hc : X.calm = true) : CallR X (.builtin "min") (rMin K) := h ▸ cr_min hc
theorem isiL {X : Cx} {K : PySem.W.Frag} (h : X.K = K) : CallR X (.builtin "isinstance") (rIsi K) := h ▸ call_isi
theorem reprL {X : Cx} {K : PySem.W.Frag} (h : X.K = K) (hA : X.A.guards = some []) {k : Nat} (hr : Room k X.A) : CallR X (.builtin "repr") (rRepr K) := h ▸ call_repr hA hr
theorem pg_tupL {X : Cx} {K : PySem.W.Frag} {es : List Expr} {j : Nat} {pos : Pos} {t : TGs} {n : Nat} (h : X.K = K) (hc : X.calm = true) (hs : PGs X es t)
    (hn : (assignEach es X.env).length = n := by rfl) (hst : (assignEach es X.env).findIdx? (·.1) = none := by rfl) : PG X (.Tuple es j pos) (gTup K n t) := h ▸ pg_tup hc hs hn hst
theorem enumL {X : Cx} {K : PySem.W.Frag} {elts : List Expr} {kk : Nat} {tpos p pos : Pos} {e : Expr} {ta : TA} (h : X.K = K) (hg : Gl X "enumerate") (hm : X.mg "enumerate" = none) (ha : PA X [e] ta)
    (hs : starEach [e] X.env = [(false, eval e X.env)] := by rfl) : PI X (.Tuple elts kk tpos) (.Call (.Name "enumerate" p) [e] [] pos) (iEnum K ta) := h ▸ pi_enum hg hm ha hs
theorem zipL {X : Cx} {K : PySem.W.Frag} {elts : List Expr} {kk : Nat} {tpos p pos : Pos} {e e2 : Expr} {ta : TA} (h : X.K = K) (hg : Gl X "zip") (hm : X.mg "zip" = none) (ha : PA X [e, e2] ta)
    (hs : starEach [e, e2] X.env = (false, eval e X.env) :: starEach [e2] X.env := by rfl) (hpl : (backTo pos (starEach [e2] X.env)).any (·.1) = false := by rfl) :
    PI X (.Tuple elts kk tpos) (.Call (.Name "zip" p) [e, e2] [] pos) (iZip K ta) := h ▸ pi_zip hg hm ha hs hpl
theorem pi_tupL {X : Cx} {K : PySem.W.Frag} {tg l : Expr} {tl : TE} (h : X.K = K) (hl : PE X l tl) : PI X tg l (iTup K tl) := h ▸ pi_tup hl
theorem pi_listL {X : Cx} {K : PySem.W.Frag} {tg l : Expr} {tl : TE} (h : X.K = K) (hl : PE X l tl) : PI X tg l (iList K tl) := h ▸ pi_list hl
def rListL (K : PySem.W.Frag) : List V → Hp → VK → Prop := fun xs H Q => ∃ (p : Addr) (ys : List V), xs = [.ref p] ∧ (SqL K H p ys ∨ SqT K H p ys) ∧ ∀ l, H l = none → Q (.ref l) (upd H l (.lst ys))
theorem listL {X : Cx} {K : PySem.W.Frag} (h : X.K = K) : CallR X (.type "list") (rListL K) := h ▸ call_list_of
theorem eqD {X : Cx} {K : PySem.W.Frag} (h : X.K = K) {k : Nat} (hr : Room k X.A) : OpR X (compareOp .Eq) (rEqD K) := h ▸ op_eqD hr.units
theorem neD {X : Cx} {K : PySem.W.Frag} (h : X.K = K) {k : Nat} (hr : Room k X.A) : OpR X (compareOp .NotEq) (rNeD K) := h ▸ op_neD hr.units

/-! ### a power of a great int, the exponent small -/
def CPow3 (i j : Int) : Prop := j = 3 ∧ 0 ≤ i ∧ i.natAbs < 2 ^ 200
theorem op_pow3 {X : Cx} : OpR X (binaryOp .Pow) (rI CPow3 fun i j => .int (i ^ j.toNat)) := opI fun i j t u s Q E hc q => by
  obtain ⟨rfl, h0, h1⟩ := hc
  by_cases e : (i == 0 || i == 1) = true
  · refine PySem.AutoIntOps.pow_1 (by decide) (by decide) e ?_
    have e2 : i ^ (3 : Int).toNat = i := by
      rcases (Bool.or_eq_true _ _).mp e with z | z
      · rw [eq_of_beq z]; rfl
      · rw [eq_of_beq z]; rfl
    rw [e2] at q
    exact q
  · refine PySem.AutoIntOps.pow_4 (by decide) (by decide) e ?_ ?_ q
    · intro z
      have := eq_of_beq z
      omega
    · intro z
      unfold Builtin.Int.intTooBig at z
      have z3 := of_decide_eq_true z
      have b : Builtin.Int.intBits i ≤ 201 := by
        unfold Builtin.Int.intBits
        have y := PySem.Flt.log2_lt_of (show 0 < 200 by decide) h1
        split <;> omega
      have e : bitsLine = 134217728 := by decide
      rw [e] at z3
      omega
end Sd

namespace Sd
open PySem PySem.Spec PyProof.Rows L2

/-! ### heaps -/
/-- all but T is as it was -/
def But (T : Addr) (H H' : Hp) : Prop := ∀ b o, H b = some o → b ≠ T → H' b = some o
theorem But.refl (T : Addr) (H : Hp) : But T H H := fun _ _ h _ => h
theorem But.trans {T : Addr} {H H1 H2 : Hp} (a : But T H H1) (b : But T H1 H2) : But T H H2 := fun c o h n => b c o (a c o h n) n
theorem But.of {T : Addr} {H H' : Hp} (s : Same H H') : But T H H' := fun b o h _ => s b o h
theorem But.lst {T : Addr} {H H' : Hp} {a : Addr} {o : HO} (s : But T H H') (h : H a = some o) (n : a ≠ T) : H' a = some o := s a o h n
theorem new_same {H : Hp} {p : Addr} {o : HO} (h : H p = none) : Same H (upd H p o) := fun b x e => by
  rw [upd_ne (ne_of_none e h)]
  exact e
theorem upd_but {H : Hp} {T : Addr} {o : HO} : But T H (upd H T o) := fun b x e n => by
  rw [upd_ne n]
  exact e
theorem free_but {T : Addr} {H H' : Hp} {p : Addr} {o : HO} (s : But T H H') (hT : H T = some o) (h : H' p = none) (hT' : H' T ≠ none) : H p = none := by
  cases q : H p with
  | none => rfl
  | some u =>
    by_cases e : p = T
    · subst e
      exact absurd h hT'
    · rw [s p u q e] at h
      cases h
/-- the law's tank -/
def Tank (H : Hp) (T : Addr) (c : Int) : Prop := ∃ x y z : Int, H T = some (.lst [.int x, .int y, .int z]) ∧ 0 ≤ x ∧ 0 ≤ y ∧ y < 2 ^ 100 ∧ 0 ≤ z ∧ z ≤ c
theorem Tank.some {H : Hp} {T : Addr} {c : Int} (h : Tank H T c) : ∃ o, H T = some o := let ⟨_, _, _, e, _⟩ := h; ⟨_, e⟩
theorem Tank.same {H H' : Hp} {T : Addr} {c : Int} (h : Tank H T c) (s : Same H H') : Tank H' T c := let ⟨x, y, z, e, r⟩ := h; ⟨x, y, z, s _ _ e, r⟩
theorem Tank.ne {H : Hp} {T p : Addr} {c : Int} (h : Tank H T c) (n : H p = none) : p ≠ T := fun e => by
  obtain ⟨o, q⟩ := h.some
  rw [e, q] at n
  cases n
theorem Tank.up {H : Hp} {T p : Addr} {c : Int} {o : HO} (h : Tank H T c) (n : H p = none) : Tank (upd H p o) T c := h.same (new_same n)
theorem Tank.mono {H : Hp} {T : Addr} {c d : Int} (h : Tank H T c) (l : c ≤ d) : Tank H T d := let ⟨x, y, z, e, a, b, r, f, g⟩ := h; ⟨x, y, z, e, a, b, r, f, by omega⟩

/-! ### lists of ints -/
theorem tyx_list {K : PySem.W.Frag} {H : Hp} {a : Addr} {xs : List V} (h : SqL K H a xs) : TyX K H (.ref a) (.type "list") := by
  rcases h with (h | ⟨o, h⟩) | ⟨o, its, n, hk, hc, _⟩
  · exact .base (.lst h)
  · exact .base (.frz h)
  · exact .kList hk hc
theorem kit_int_int {K : PySem.W.Frag} : PySem.W.kitOne K (.type "int") (.type "int") = some true := kit_ty (by decide +kernel)
theorem kit_int_bool {K : PySem.W.Frag} : PySem.W.kitOne K (.type "int") (.type "bool") = some false := kit_ty (by decide +kernel)
theorem kit_list_list {K : PySem.W.Frag} : PySem.W.kitOne K (.type "list") (.type "list") = some true := kit_ty (by decide +kernel)
/-- a rim: from 1 to 40 numbers from 0 to 10 ** 30 -/
structure Rim (ns : List Int) : Prop where
  pos : 1 ≤ ns.length
  le : ns.length ≤ 40
  all : ∀ n ∈ ns, 0 ≤ n ∧ n ≤ 1000000000000000000000000000000
theorem sz40 {n : Nat} (h : n ≤ 100000) : n < sizeLine := Nat.lt_of_le_of_lt h (by decide)
theorem sz40' {n : Nat} (h : n ≤ 100000) : n ≤ sizeLine := Nat.le_of_lt (sz40 h)
theorem int_at {ns : List Int} {i : Nat} {x : V} (h : (ns.map V.int)[i]? = some x) : ∃ n, ns[i]? = some n ∧ x = .int n := by
  rw [List.getElem?_map] at h
  cases e : ns[i]? with
  | none =>
    rw [e] at h
    cases h
  | some n =>
    rw [e] at h
    exact ⟨n, rfl, (Option.some.inj h).symm⟩
theorem at_int {ns : List Int} {i : Nat} {n : Int} (h : ns[i]? = some n) : (ns.map V.int)[i]? = some (.int n) := by
  rw [List.getElem?_map, h]
  rfl
/-- xs[i] at an int that lies within -/
theorem at_in {ns : List Int} {i : Int} (h0 : 0 ≤ i) (h1 : i < ns.length) : ∃ n, ns[i.toNat]? = some n ∧ atI (ns.map V.int) i = some (.int n) := by
  have h2 : i.toNat < ns.length := by omega
  obtain ⟨j, rfl⟩ : ∃ j : Nat, i = (j : Int) := ⟨i.toNat, by omega⟩
  have h3 : j < ns.length := by omega
  exact ⟨ns[j], List.getElem?_eq_getElem h3, atI_nat (at_int (List.getElem?_eq_getElem h3))⟩
theorem ixN_in {n : Nat} {i : Int} (h0 : 0 ≤ i) (h1 : i < n) : ixN n i = some i.toNat := by
  unfold ixN
  rw [if_pos h0, if_pos h1]

/-! ### turning, mirroring -/
/-- what stands at slot j behind a turn by t -/
def rot (ns : List Int) (t : Int) : List Int := (List.range ns.length).map fun (j : Nat) => ns.getD ((((j : Int) - t) % (ns.length : Int)).toNat) 0
def mir (ns : List Int) : List Int := (List.range ns.length).map fun (j : Nat) => ns.getD (((-(j : Int)) % (ns.length : Int)).toNat) 0
theorem rot_len (ns : List Int) (t : Int) : (rot ns t).length = ns.length := by
  unfold rot
  rw [List.length_map, List.length_range]
theorem mir_len (ns : List Int) : (mir ns).length = ns.length := by
  unfold mir
  rw [List.length_map, List.length_range]
theorem rot_at {ns : List Int} {t : Int} {j : Nat} (h : j < ns.length) : (rot ns t)[j]? = some (ns.getD ((((j : Int) - t) % (ns.length : Int)).toNat) 0) := by
  unfold rot
  rw [List.getElem?_map, List.getElem?_range h]
  rfl
theorem mir_at {ns : List Int} {j : Nat} (h : j < ns.length) : (mir ns)[j]? = some (ns.getD (((-(j : Int)) % (ns.length : Int)).toNat) 0) := by
  unfold mir
  rw [List.getElem?_map, List.getElem?_range h]
  rfl
theorem mod_in {i : Int} {n : Nat} (h : 0 < n) : 0 ≤ i % (n : Int) ∧ i % (n : Int) < n := ⟨Int.emod_nonneg _ (by omega), Int.emod_lt_of_pos _ (by omega)⟩
theorem getD_at {ns : List Int} {j : Nat} {n : Int} (h : ns[j]? = some n) : ns.getD j 0 = n := by
  rw [List.getD_eq_getElem?_getD, h]
  rfl
theorem at_getD {ns : List Int} {j : Nat} (h : j < ns.length) : ns[j]? = some (ns.getD j 0) := by
  rw [List.getD_eq_getElem?_getD, List.getElem?_eq_getElem h]
  rfl
theorem rot_all {ns : List Int} {t : Int} {P : Int → Prop} (h : ∀ n ∈ ns, P n) : ∀ n ∈ rot ns t, P n := fun n hn => by
  unfold rot at hn
  obtain ⟨j, hj, rfl⟩ := List.mem_map.mp hn
  have hj := List.mem_range.mp hj
  have hm := mod_in (i := (j : Int) - t) (show 0 < ns.length by omega)
  exact h _ (List.mem_of_getElem? (at_getD (show (((j : Int) - t) % (ns.length : Int)).toNat < ns.length by omega)))
theorem mir_all {ns : List Int} {P : Int → Prop} (h : ∀ n ∈ ns, P n) : ∀ n ∈ mir ns, P n := fun n hn => by
  unfold mir at hn
  obtain ⟨j, hj, rfl⟩ := List.mem_map.mp hn
  have hj := List.mem_range.mp hj
  have hm := mod_in (i := -(j : Int)) (show 0 < ns.length by omega)
  exact h _ (List.mem_of_getElem? (at_getD (show ((-(j : Int)) % (ns.length : Int)).toNat < ns.length by omega)))
theorem Rim.rot {ns : List Int} (h : Rim ns) (t : Int) : Rim (rot ns t) := ⟨by rw [rot_len]; exact h.pos, by rw [rot_len]; exact h.le, rot_all h.all⟩
theorem Rim.mir {ns : List Int} (h : Rim ns) : Rim (mir ns) := ⟨by rw [mir_len]; exact h.pos, by rw [mir_len]; exact h.le, mir_all h.all⟩
/-- filling slot by slot: found[(i + t) % n] = ns[i] for i below k leaves rot where it was filled -/
theorem rot_back {ns : List Int} {t : Int} {i : Nat} (hi : i < ns.length) : (rot ns t)[((((i : Int) + t) % (ns.length : Int)).toNat)]? = ns[i]? := by
  have hm := mod_in (i := (i : Int) + t) (show 0 < ns.length by omega)
  rw [rot_at (by omega), at_getD hi]
  have e : ((((((i : Int) + t) % (ns.length : Int)).toNat : Nat) : Int) - t) % (ns.length : Int) = (i : Int) := by
    rw [Int.toNat_of_nonneg hm.1, Int.emod_sub_emod]
    rw [show (i : Int) + t - t = (i : Int) by omega]
    exact Int.emod_eq_of_lt (by omega) (by omega)
  rw [e, Int.toNat_natCast]
theorem mir_back {ns : List Int} {i : Nat} (hi : i < ns.length) : (mir ns)[((((0 : Int) - (i : Int)) % (ns.length : Int)).toNat)]? = ns[i]? := by
  have hm := mod_in (i := (0 : Int) - (i : Int)) (show 0 < ns.length by omega)
  rw [mir_at (by omega), at_getD hi]
  have e : (-((((((0 : Int) - (i : Int)) % (ns.length : Int)).toNat : Nat) : Int))) % (ns.length : Int) = (i : Int) := by
    rw [Int.toNat_of_nonneg hm.1]
    rw [show -(((0 : Int) - (i : Int)) % (ns.length : Int)) = 0 - ((0 : Int) - (i : Int)) % (ns.length : Int) by omega, Int.sub_emod_emod]
    rw [show (0 : Int) - (0 - (i : Int)) = (i : Int) by omega]
    exact Int.emod_eq_of_lt (by omega) (by omega)
  rw [e, Int.toNat_natCast]
/-- filled at the places f 0, f 1 .. f (k - 1) as res is -/
def Filled (f : Nat → Nat) (res ms : List Int) (k : Nat) : Prop := ms.length = res.length ∧ ∀ p, (∃ j, j < k ∧ f j = p) → ms[p]? = res[p]?
theorem Filled.step {f : Nat → Nat} {res ms : List Int} {k : Nat} {v : Int} (h : Filled f res ms k) (e : res[f k]? = some v) : Filled f res (ms.set (f k) v) (k + 1) := by
  refine ⟨by rw [List.length_set]; exact h.1, fun p ⟨j, hj, hp⟩ => ?_⟩
  have hk : f k < ms.length := by
    rw [h.1]
    exact (List.getElem?_eq_some_iff.mp e).1
  by_cases q : f k = p
  · subst q
    rw [List.getElem?_set_self hk, e]
  · rw [List.getElem?_set_ne q]
    refine h.2 p ⟨j, ?_, hp⟩
    rcases Nat.lt_or_ge j k with z | z
    · exact z
    · have : j = k := by omega
      subst this
      exact absurd hp q
theorem Filled.done {f : Nat → Nat} {res ms : List Int} {n : Nat} (h : Filled f res ms n) (on : ∀ p, p < res.length → ∃ j, j < n ∧ f j = p) : ms = res := by
  refine List.ext_getElem? fun p => ?_
  by_cases q : p < res.length
  · exact h.2 p (on p q)
  · rw [List.getElem?_eq_none (by rw [h.1]; omega), List.getElem?_eq_none (by omega)]
theorem rot_on {ns : List Int} {t : Int} {p : Nat} (hp : p < ns.length) : ∃ j, j < ns.length ∧ (((j : Int) + t) % (ns.length : Int)).toNat = p := by
  have hm := mod_in (i := (p : Int) - t) (show 0 < ns.length by omega)
  refine ⟨(((p : Int) - t) % (ns.length : Int)).toNat, by omega, ?_⟩
  have e : ((((((p : Int) - t) % (ns.length : Int)).toNat : Nat) : Int) + t) % (ns.length : Int) = (p : Int) := by
    rw [Int.toNat_of_nonneg hm.1, Int.emod_add_emod]
    rw [show (p : Int) - t + t = (p : Int) by omega]
    exact Int.emod_eq_of_lt (by omega) (by omega)
  rw [e, Int.toNat_natCast]
theorem mir_on {ns : List Int} {p : Nat} (hp : p < ns.length) : ∃ j, j < ns.length ∧ (((0 : Int) - (j : Int)) % (ns.length : Int)).toNat = p := by
  have hm := mod_in (i := (0 : Int) - (p : Int)) (show 0 < ns.length by omega)
  refine ⟨(((0 : Int) - (p : Int)) % (ns.length : Int)).toNat, by omega, ?_⟩
  have e : ((0 : Int) - (((((0 : Int) - (p : Int)) % (ns.length : Int)).toNat : Nat) : Int)) % (ns.length : Int) = (p : Int) := by
    rw [Int.toNat_of_nonneg hm.1, Int.sub_emod_emod]
    rw [show (0 : Int) - (0 - (p : Int)) = (p : Int) by omega]
    exact Int.emod_eq_of_lt (by omega) (by omega)
  rw [e, Int.toNat_natCast]
theorem map_set {ns : List Int} {j : Nat} {v : Int} : (ns.map V.int).set j (.int v) = (ns.set j v).map V.int := by
  rw [List.map_set]
theorem take_next {l : List Int} {i : Nat} {v : Int} (h : l[i]? = some v) : (l.take i).map V.int ++ [.int v] = (l.take (i + 1)).map V.int := by
  rw [List.take_add_one, h, List.map_append]
  rfl
theorem take_all {l : List Int} {n : Nat} (h : l.length ≤ n) : l.take n = l := List.take_of_length_le h
theorem rep_one (v : Int) : ∀ k : Nat, (List.replicate k [V.int v]).flatten = (List.replicate k v).map V.int
  | 0 => rfl
  | k + 1 => by
    rw [List.replicate_succ, List.replicate_succ, List.flatten_cons, List.map_cons, rep_one v k]
    rfl
theorem rep_map (ns : List Int) : ∀ k : Nat, (List.replicate k (ns.map V.int)).flatten = ((List.replicate k ns).flatten).map V.int
  | 0 => rfl
  | k + 1 => by
    rw [List.replicate_succ, List.replicate_succ, List.flatten_cons, List.flatten_cons, List.map_append, rep_map ns k]
theorem rep_len (ns : List Int) : ∀ k : Nat, ((List.replicate k ns).flatten).length = k * ns.length
  | 0 => by simp
  | k + 1 => by
    rw [List.replicate_succ, List.flatten_cons, List.length_append, rep_len ns k, Nat.succ_mul, Nat.add_comm]
theorem rep_mem {ns : List Int} {k : Nat} {x : Int} (h : x ∈ (List.replicate k ns).flatten) : x ∈ ns := by
  obtain ⟨l, hl, hx⟩ := List.mem_flatten.mp h
  rw [(List.mem_replicate.mp hl).2] at hx
  exact hx
theorem cut_take (ns : List Int) (s : Int) (h0 : 0 ≤ s) : cutV (ns.map V.int) none (some s) = (ns.take s.toNat).map V.int := by
  obtain ⟨k, rfl⟩ : ∃ k : Nat, s = (k : Int) := ⟨s.toNat, by omega⟩
  unfold cutV
  rw [HT.sIx_none, HT.sIx_nat, Int.toNat_natCast, List.drop_zero, Nat.sub_zero, List.map_take]
  rcases Nat.le_total k (ns.map V.int).length with z | z
  · rw [Nat.min_eq_left z]
  · rw [Nat.min_eq_right z, List.take_of_length_le (Nat.le_refl _), List.take_of_length_le z]

/-! ### data: lists of ints, for repr and == -/
def dI (ns : List Int) : PyData := .list (ns.map PyData.int)
theorem dpAll_ints {K : PySem.W.Frag} {H : Hp} : ∀ ns : List Int, DpAll K H (ns.map V.int) (ns.map PyData.int)
  | [] => .nil
  | n :: ns => .cons (.int n) (dpAll_ints ns)
theorem dp_ints {K : PySem.W.Frag} {H : Hp} {a : Addr} {ns : List Int} (h : SqL K H a (ns.map V.int)) : Dp K H (.ref a) (dI ns) := .lst h (dpAll_ints ns)
/-- what repr and == ask of data -/
structure RP (d : PyData) : Prop where
  sh : d.showable = true
  nd : d.hasDict = false
  cl : d.canLay0 = true
  dp : d.depth ≤ 32
theorem RP.shaped {d : PyData} (h : RP d) : SeqAt.shaped d = true := by
  have := h.dp
  exact Bool.and_eq_true_iff.mpr ⟨h.cl, decide_eq_true (by omega)⟩
theorem RP.refl {d : PyData} (h : RP d) : PyData.eqv d d = true := SeqAt.eqv_refl d h.cl
theorem rp_int {i : Int} (h : i.natAbs < 2 ^ 1000) : RP (.int i) := ⟨by simp only [PyData.showable]; exact decide_eq_true (Nat.lt_trans (PySem.Flt.log2_lt_of (by decide) h) (by decide)), by simp only [PyData.hasDict], by simp only [PyData.canLay0], by simp only [PyData.depth]; omega⟩
/-- all of a list: depth one less -/
structure RPs (k : Nat) (ds : List PyData) : Prop where
  sh : PyData.showableAll ds = true
  nd : PyData.hasDictAll ds = false
  cl : PyData.canLayAll0 ds = true
  dp : PyData.depthAll ds ≤ k
theorem RPs.nil {k : Nat} : RPs k [] := ⟨by simp only [PyData.showableAll], by simp only [PyData.hasDictAll], by simp only [PyData.canLayAll0], by simp only [PyData.depthAll]; omega⟩
theorem RPs.cons {k : Nat} {d : PyData} {ds : List PyData} (h : RP d) (hk : d.depth ≤ k) (hs : RPs k ds) : RPs k (d :: ds) := by
  refine ⟨?_, ?_, ?_, ?_⟩
  · simp only [PyData.showableAll, h.sh, hs.sh, Bool.and_self]
  · simp only [PyData.hasDictAll, h.nd, hs.nd, Bool.or_self]
  · simp only [PyData.canLayAll0, h.cl, hs.cl, Bool.and_self]
  · simp only [PyData.depthAll]
    have := hs.dp
    omega
theorem RPs.list {k : Nat} {ds : List PyData} (h : RPs k ds) (hk : k ≤ 31) : RP (.list ds) ∧ (PyData.list ds).depth ≤ k + 1 := by
  have hd : (PyData.list ds).depth ≤ k + 1 := by
    simp only [PyData.depth]
    have := h.dp
    omega
  refine ⟨⟨?_, ?_, ?_, by omega⟩, hd⟩
  · simp only [PyData.showable, h.sh]
  · simp only [PyData.hasDict, h.nd]
  · simp only [PyData.canLay0, h.cl]
theorem rps_ints : ∀ {ns : List Int}, (∀ n ∈ ns, n.natAbs < 2 ^ 1000) → RPs 0 (ns.map PyData.int)
  | [], _ => RPs.nil
  | n :: ns, h => RPs.cons (rp_int (h n List.mem_cons_self)) (by simp only [PyData.depth]; omega) (rps_ints fun x hx => h x (List.mem_cons_of_mem _ hx))
theorem rp_ints {ns : List Int} (h : ∀ n ∈ ns, n.natAbs < 2 ^ 1000) : RP (dI ns) := ((rps_ints h).list (by omega)).1
theorem dp_ints_depth {ns : List Int} (h : ∀ n ∈ ns, n.natAbs < 2 ^ 1000) : (dI ns).depth ≤ 1 := ((rps_ints h).list (by omega)).2
theorem sum_bound {B : Nat} : ∀ {l : List Nat}, (∀ x ∈ l, x ≤ B) → l.sum ≤ B * l.length
  | [], _ => Nat.zero_le _
  | x :: l, h => by
    have h1 := h x List.mem_cons_self
    have h2 := sum_bound (B := B) (l := l) fun y hy => h y (List.mem_cons_of_mem _ hy)
    rw [List.sum_cons, List.length_cons, Nat.mul_succ]
    omega
theorem shownAll_map (ds : List PyData) : PyData.shownAll ds = ds.map PyData.shown := by
  induction ds with
  | nil => rfl
  | cons d ds ih =>
    simp only [PyData.shownAll, List.map_cons, ih]
/-- how long a list's text is at most, by its items' -/
theorem shown_list {B : Nat} {ds : List PyData} (h : ∀ d ∈ ds, d.shown.length ≤ B) : (PyData.list ds).shown.length ≤ (B + 2) * ds.length + 3 := by
  simp only [PyData.shown]
  have h1 := listText_len_le (PyData.shownAll ds)
  have h2 : ((PyData.shownAll ds).map (·.length)).sum ≤ B * ds.length := by
    rw [shownAll_map, List.map_map]
    have := sum_bound (B := B) (l := ds.map ((fun x => x.length) ∘ PyData.shown)) fun x hx => by
      obtain ⟨d, hd, rfl⟩ := List.mem_map.mp hx
      exact h d hd
    rw [List.length_map] at this
    exact this
  have h3 : (PyData.shownAll ds).length = ds.length := by rw [shownAll_map, List.length_map]
  rw [h3] at h1
  rw [Nat.add_mul]
  omega
theorem shown_int {i : Int} (h : i.natAbs < 2 ^ 1000) : (PyData.int i).shown.length ≤ 1001 := by
  simp only [PyData.shown]
  rw [PySem.ofString_length]
  exact int_text_length_le (by decide) (PySem.Flt.log2_lt_of (by decide) h)
theorem shown_ints {ns : List Int} (h : ∀ n ∈ ns, n.natAbs < 2 ^ 1000) : (dI ns).shown.length ≤ 1003 * ns.length + 3 := by
  have := shown_list (B := 1001) (ds := ns.map PyData.int) fun d hd => by
    obtain ⟨n, hn, rfl⟩ := List.mem_map.mp hd
    exact shown_int (h n hn)
  rw [List.length_map] at this
  exact this
theorem small_abs {n : Int} (h0 : 0 ≤ n) (h1 : n ≤ 1000000000000000000000000000000) : n.natAbs < 2 ^ 1000 := Nat.lt_of_le_of_lt (m := 1000000000000000000000000000000) (by omega) (by decide +kernel)
theorem Rim.abs {ns : List Int} (h : Rim ns) : ∀ n ∈ ns, n.natAbs < 2 ^ 1000 := fun n hn => small_abs (h.all n hn).1 (h.all n hn).2
theorem Rim.rp {ns : List Int} (h : Rim ns) : RP (dI ns) := rp_ints h.abs
theorem Rim.fits {ns : List Int} (h : Rim ns) : (dI ns).shown.length ≤ sizeLine := by
  have := shown_ints h.abs
  have := h.le
  exact sz40' (by omega)
/-- an object that was not there is written -/
theorem same_over {H H4 : Hp} {l : Addr} {o : HO} (s : Same H H4) (n : H l = none) : Same H (upd H4 l o) := fun b x e => by
  rw [upd_ne (ne_of_none e n)]
  exact s b x e
/-- turned back -/
theorem rot_rot {ns : List Int} {t : Int} : rot (rot ns t) (0 - t) = ns := by
  refine List.ext_getElem? fun j => ?_
  by_cases h : j < ns.length
  · rw [rot_at (by rw [rot_len]; exact h), rot_len]
    have hm := mod_in (i := (j : Int) - (0 - t)) (show 0 < ns.length by omega)
    have e := rot_back (t := t) h
    rw [show (j : Int) - (0 - t) = (j : Int) + t by omega]
    rw [show (j : Int) - (0 - t) = (j : Int) + t by omega] at hm
    rw [← e, ← at_getD (by rw [rot_len]; omega)]
  · rw [List.getElem?_eq_none (by rw [rot_len, rot_len]; omega), List.getElem?_eq_none (by omega)]
theorem mir_mir {ns : List Int} : mir (mir ns) = ns := by
  refine List.ext_getElem? fun j => ?_
  by_cases h : j < ns.length
  · rw [mir_at (by rw [mir_len]; exact h), mir_len]
    have hm := mod_in (i := (0 : Int) - (j : Int)) (show 0 < ns.length by omega)
    have e := mir_back h
    rw [show -(j : Int) = (0 : Int) - (j : Int) by omega]
    rw [← e, ← at_getD (by rw [mir_len]; omega)]
  · rw [List.getElem?_eq_none (by rw [mir_len, mir_len]; omega), List.getElem?_eq_none (by omega)]
end Sd

namespace Sd
open PySem PySem.Spec PyProof.Rows L2

/-! ### lights -/
def Ab (k : Nat) (ns : List Int) : Prop := ∀ n ∈ ns, n.natAbs < 2 ^ k
theorem pow_up {a b : Nat} (h : a ≤ b) : (2 : Nat) ^ a ≤ 2 ^ b := Nat.pow_le_pow_right (by decide) h
theorem Ab.mono {k j : Nat} {ns : List Int} (h : Ab k ns) (l : k ≤ j) : Ab j ns := fun n hn => Nat.lt_of_lt_of_le (h n hn) (pow_up l)
theorem Rim.ab {ns : List Int} (h : Rim ns) : Ab 100 ns := fun n hn => by
  have := h.all n hn
  exact Nat.lt_of_le_of_lt (m := 1000000000000000000000000000000) (by omega) (by decide +kernel)
theorem Ab.rot {k : Nat} {ns : List Int} (h : Ab k ns) (t : Int) : Ab k (rot ns t) := rot_all h
theorem Ab.at {k : Nat} {ns : List Int} (h : Ab k ns) {i : Nat} {n : Int} (e : ns[i]? = some n) : n.natAbs < 2 ^ k := h n (List.mem_of_getElem? e)
def prods (ns ms : List Int) : List Int := List.zipWith (· * ·) ns ms
theorem prods_len (ns ms : List Int) : (prods ns ms).length = min ns.length ms.length := List.length_zipWith
theorem prods_at {ns ms : List Int} {i : Nat} {x y : Int} (h1 : ns[i]? = some x) (h2 : ms[i]? = some y) : (prods ns ms)[i]? = some (x * y) := by
  unfold prods
  rw [List.getElem?_zipWith, h1, h2]
theorem prods_ab {a b : Nat} : ∀ {ns ms : List Int}, Ab a ns → Ab b ms → Ab (a + b) (prods ns ms)
  | [], _, _, _ => fun n hn => by
    simp only [prods, List.zipWith_nil_left] at hn
    exact (List.not_mem_nil hn).elim
  | _ :: _, [], _, _ => fun n hn => by
    simp only [prods, List.zipWith_nil_right] at hn
    exact (List.not_mem_nil hn).elim
  | x :: ns, y :: ms, h1, h2 => fun n hn => by
    have hn : n ∈ x * y :: prods ns ms := hn
    rcases List.mem_cons.mp hn with e | e
    · subst e
      exact wide_lt (h1 x List.mem_cons_self) (h2 y List.mem_cons_self)
    · exact prods_ab (fun z hz => h1 z (List.mem_cons_of_mem _ hz)) (fun z hz => h2 z (List.mem_cons_of_mem _ hz)) n e
theorem sum_ab {k : Nat} : ∀ {ns : List Int}, Ab k ns → ns.sum.natAbs ≤ ns.length * 2 ^ k
  | [], _ => Nat.zero_le _
  | x :: ns, h => by
    have h1 := h x List.mem_cons_self
    have h2 := sum_ab (k := k) (ns := ns) fun z hz => h z (List.mem_cons_of_mem _ hz)
    rw [List.sum_cons, List.length_cons, Nat.succ_mul]
    have := Int.natAbs_add_le x ns.sum
    omega
theorem sum_lt {k : Nat} {ns : List Int} (h : Ab k ns) (hl : ns.length < 1024) : ns.sum.natAbs < 2 ^ (k + 10) := by
  have h1 := sum_ab h
  rw [Nat.pow_add]
  refine Nat.lt_of_le_of_lt h1 ?_
  rw [Nat.mul_comm]
  exact Nat.mul_lt_mul_of_pos_left hl (Nat.two_pow_pos k)
/-- the light at a turn -/
def lightV (ns ms : List Int) (t : Int) : Int := (prods ns (rot ms t)).sum
def lightsV (ns ms : List Int) : List Int := (List.range ns.length).map fun (i : Nat) => lightV ns ms (i : Int)
theorem lightsV_len (ns ms : List Int) : (lightsV ns ms).length = ns.length := by
  unfold lightsV
  rw [List.length_map, List.length_range]
theorem lightsV_at {ns ms : List Int} {i : Nat} (h : i < ns.length) : (lightsV ns ms)[i]? = some (lightV ns ms (i : Int)) := by
  unfold lightsV
  rw [List.getElem?_map, List.getElem?_range h]
  rfl
theorem lightV_lt {a b : Nat} {ns ms : List Int} (h1 : Ab a ns) (h2 : Ab b ms) (hl : ns.length < 1024) (t : Int) : (lightV ns ms t).natAbs < 2 ^ (a + b + 10) := by
  refine sum_lt (prods_ab h1 (h2.rot t)) ?_
  rw [prods_len]
  omega
theorem lightsV_ab {a b : Nat} {ns ms : List Int} (h1 : Ab a ns) (h2 : Ab b ms) (hl : ns.length < 1024) : Ab (a + b + 10) (lightsV ns ms) := fun n hn => by
  unfold lightsV at hn
  obtain ⟨i, _, rfl⟩ := List.mem_map.mp hn
  exact lightV_lt h1 h2 hl i
theorem rot_mod (ms : List Int) (t : Int) : rot ms (t % (ms.length : Int)) = rot ms t := by
  unfold rot
  refine List.map_congr_left fun j _ => ?_
  rw [Int.sub_emod_emod]
theorem lightV_mod {ns ms : List Int} (t : Int) : lightV ns ms (t % (ms.length : Int)) = lightV ns ms t := by
  unfold lightV
  rw [rot_mod]
/-- lights[t % n], whatever the turn -/
theorem lights_any {ns ms : List Int} (t : Int) (hl : ns.length = ms.length) (h1 : 1 ≤ ns.length) : atI ((lightsV ns ms).map V.int) (t % (ns.length : Int)) = some (.int (lightV ns ms t)) := by
  have hm := mod_in (i := t) (show 0 < ns.length by omega)
  obtain ⟨n, hn, hat⟩ := at_in (ns := lightsV ns ms) hm.1 (by rw [lightsV_len]; exact hm.2)
  rw [lightsV_at (by omega), Int.toNat_of_nonneg hm.1, hl, lightV_mod] at hn
  rw [hat, ← Option.some.inj hn]
/-! ### the greatest, the places of some -/
theorem max_ex : ∀ {ns : List Int}, 1 ≤ ns.length → ∃ m, m ∈ ns ∧ ∀ y ∈ ns, y ≤ m
  | [], h => absurd h (by decide)
  | [x], _ => ⟨x, List.mem_cons_self, fun y hy => by rw [List.mem_singleton.mp hy]; exact Int.le_refl _⟩
  | x :: z :: ns, _ => by
    obtain ⟨m, hm, hg⟩ := max_ex (ns := z :: ns) (by simp)
    by_cases h : x ≤ m
    · refine ⟨m, List.mem_cons_of_mem _ hm, fun y hy => ?_⟩
      rcases List.mem_cons.mp hy with e | e
      · rw [e]
        exact h
      · exact hg y e
    · refine ⟨x, List.mem_cons_self, fun y hy => ?_⟩
      rcases List.mem_cons.mp hy with e | e
      · rw [e]
        exact Int.le_refl _
      · have := hg y e
        omega
theorem max_one {ns : List Int} {m m' : Int} (h1 : m ∈ ns) (h2 : ∀ y ∈ ns, y ≤ m) (h3 : m' ∈ ns) (h4 : ∀ y ∈ ns, y ≤ m') : m = m' := Int.le_antisymm (h4 _ h1) (h2 _ h3)
/-- the places below k of the items for which p holds -/
def places (p : Int → Bool) (ns : List Int) (k : Nat) : List Int := ((List.range k).filter fun i => p (ns.getD i 0)).map fun (i : Nat) => (i : Int)
theorem places_len (p : Int → Bool) (ns : List Int) (k : Nat) : (places p ns k).length ≤ k := by
  unfold places
  rw [List.length_map]
  refine Nat.le_trans (List.length_filter_le _ _) ?_
  rw [List.length_range]
  exact Nat.le_refl _
theorem places_yes {p : Int → Bool} {ns : List Int} {k : Nat} {n : Int} (h : ns[k]? = some n) (hp : p n = true) : places p ns (k + 1) = places p ns k ++ [(k : Int)] := by
  unfold places
  rw [List.range_succ, List.filter_append, List.map_append]
  have : ([k].filter fun i => p (ns.getD i 0)) = [k] := by
    rw [List.filter_cons, getD_at h, if_pos hp]
    rfl
  rw [this]
  rfl
theorem places_no {p : Int → Bool} {ns : List Int} {k : Nat} {n : Int} (h : ns[k]? = some n) (hp : ¬ p n = true) : places p ns (k + 1) = places p ns k := by
  unfold places
  rw [List.range_succ, List.filter_append, List.map_append]
  have : ([k].filter fun i => p (ns.getD i 0)) = [] := by
    rw [List.filter_cons, getD_at h, if_neg hp]
    rfl
  rw [this]
  simp
theorem places_ab (p : Int → Bool) (ns : List Int) {k : Nat} (h : k < 1000) : Ab 100 (places p ns k) := fun n hn => by
  unfold places at hn
  obtain ⟨i, hi, rfl⟩ := List.mem_map.mp hn
  have := List.mem_range.mp (List.mem_filter.mp hi).1
  exact Nat.lt_of_lt_of_le (m := 1000) (by omega) (by decide)
theorem Ab.rp {k : Nat} {ns : List Int} (h : Ab k ns) (hk : k ≤ 1000) : RP (dI ns) := rp_ints (h.mono hk)
theorem Ab.fits {k : Nat} {ns : List Int} (h : Ab k ns) (hk : k ≤ 1000) (hl : ns.length ≤ 2000) : (dI ns).shown.length ≤ 2100000 := by
  have := shown_ints (h.mono hk)
  omega
theorem fit_le {n : Nat} (h : n ≤ 16000000) : n ≤ sizeLine := Nat.le_trans h (by decide)
/-- some lists of ints, in a list -/
def dL (ls : List (List Int)) : PyData := .list (ls.map dI)
theorem rps_lists {k : Nat} (hk : k ≤ 1000) : ∀ {ls : List (List Int)}, (∀ l ∈ ls, Ab k l) → RPs 1 (ls.map dI)
  | [], _ => RPs.nil
  | l :: ls, h => RPs.cons ((h l List.mem_cons_self).rp hk) (dp_ints_depth ((h l List.mem_cons_self).mono hk)) (rps_lists hk fun x hx => h x (List.mem_cons_of_mem _ hx))
theorem rp_lists {k : Nat} (hk : k ≤ 1000) {ls : List (List Int)} (h : ∀ l ∈ ls, Ab k l) : RP (dL ls) := ((rps_lists hk h).list (by omega)).1
theorem fits_lists {k : Nat} (hk : k ≤ 1000) {ls : List (List Int)} (h : ∀ l ∈ ls, Ab k l) (hl : ∀ l ∈ ls, l.length ≤ 1000) (hn : ls.length ≤ 7) : (dL ls).shown.length ≤ sizeLine := by
  have h1 := shown_list (B := 2100000) (ds := ls.map dI) fun d hd => by
    obtain ⟨l, hm, rfl⟩ := List.mem_map.mp hd
    exact (h l hm).fits hk (by have := hl l hm; omega)
  rw [List.length_map] at h1
  refine fit_le (Nat.le_trans h1 ?_)
  omega
theorem all2 {P : List Int → Prop} {a b : List Int} (h1 : P a) (h2 : P b) : ∀ l ∈ [a, b], P l := fun l hl => by
  simp only [List.mem_cons, List.not_mem_nil, or_false] at hl
  rcases hl with rfl | rfl <;> assumption
theorem all3 {P : List Int → Prop} {a b c : List Int} (h1 : P a) (h2 : P b) (h3 : P c) : ∀ l ∈ [a, b, c], P l := fun l hl => by
  simp only [List.mem_cons, List.not_mem_nil, or_false] at hl
  rcases hl with rfl | rfl | rfl <;> assumption
end Sd

namespace Sd
open PySem PySem.Spec PyProof.Rows L2

/-! ### by steps -/
def stepsV (ns ms : List Int) (f st : Int) (k : Nat) : List Int := (List.range k).map fun (i : Nat) => lightV ns ms (f + st * (i : Int))
theorem stepsV_len (ns ms : List Int) (f st : Int) (k : Nat) : (stepsV ns ms f st k).length = k := by
  unfold stepsV
  rw [List.length_map, List.length_range]
theorem stepsV_at {ns ms : List Int} {f st : Int} {k i : Nat} (h : i < k) : (stepsV ns ms f st k)[i]? = some (lightV ns ms (f + st * (i : Int))) := by
  unfold stepsV
  rw [List.getElem?_map, List.getElem?_range h]
  rfl
/-- the first of them, None if there is none -/
def headV : List Int → V
  | [] => .non
  | x :: _ => .int x
def headD : List Int → PyData
  | [] => .none
  | x :: _ => .int x
theorem places_more (p : Int → Bool) (ns : List Int) (i : Nat) : ∀ d : Nat, ∃ r, places p ns (i + d) = places p ns i ++ r
  | 0 => ⟨[], by simp⟩
  | d + 1 => by
    obtain ⟨r, e⟩ := places_more p ns i d
    refine ⟨r ++ ([i + d].filter fun j => p (ns.getD j 0)).map fun (j : Nat) => (j : Int), ?_⟩
    rw [← List.append_assoc, ← e]
    unfold places
    rw [show i + (d + 1) = (i + d) + 1 from rfl, List.range_succ, List.filter_append, List.map_append]
theorem places_head {p : Int → Bool} {ns : List Int} {i k : Nat} {x : Int} (hx : ns[i]? = some x) (hp : p x = true) (hno : places p ns i = []) (hk : i < k) : headV (places p ns k) = .int i := by
  obtain ⟨r, e⟩ := places_more p ns (i + 1) (k - (i + 1))
  rw [show i + 1 + (k - (i + 1)) = k by omega, places_yes hx hp, hno] at e
  rw [e]
  rfl
theorem places_none {p : Int → Bool} {ns : List Int} {k : Nat} : places p ns k = [] ↔ ∀ i, i < k → ¬ p (ns.getD i 0) = true := by
  unfold places
  rw [List.map_eq_nil_iff, List.filter_eq_nil_iff]
  exact ⟨fun h i hi => h i (List.mem_range.mpr hi), fun h i hi => h i (List.mem_range.mp hi)⟩
theorem places_congr {p : Int → Bool} {ns ms : List Int} {k : Nat} (h : ∀ i, i < k → ns.getD i 0 = ms.getD i 0) : places p ns k = places p ms k := by
  unfold places
  refine congrArg _ (List.filter_congr fun i hi => ?_)
  rw [h i (List.mem_range.mp hi)]
theorem stepsV_getD {ns ms : List Int} {f st : Int} {k i : Nat} (h : i < k) : (stepsV ns ms f st k).getD i 0 = lightV ns ms (f + st * (i : Int)) := getD_at (stepsV_at h)
/-- twice around tells nothing more -/
theorem twice {p : Int → Bool} {ns ms : List Int} {f st : Int} (hl : ns.length = ms.length) : headV (places p (stepsV ns ms f st (2 * ns.length)) (2 * ns.length)) = headV (places p (stepsV ns ms f st ns.length) ns.length) := by
  have e1 : places p (stepsV ns ms f st (2 * ns.length)) ns.length = places p (stepsV ns ms f st ns.length) ns.length :=
    places_congr fun i hi => by rw [stepsV_getD (by omega), stepsV_getD hi]
  obtain ⟨r, e2⟩ := places_more p (stepsV ns ms f st (2 * ns.length)) ns.length ns.length
  rw [show ns.length + ns.length = 2 * ns.length by omega, e1] at e2
  cases e3 : places p (stepsV ns ms f st ns.length) ns.length with
  | cons x xs =>
    rw [e2, e3]
    rfl
  | nil =>
    have h0 := places_none.mp e3
    have h1 : places p (stepsV ns ms f st (2 * ns.length)) (2 * ns.length) = [] := places_none.mpr fun i hi => by
      by_cases hn : i < ns.length
      · have := h0 i hn
        rw [stepsV_getD hn] at this
        rw [stepsV_getD hi]
        exact this
      · have := h0 (i - ns.length) (by omega)
        rw [stepsV_getD (by omega)] at this
        rw [stepsV_getD hi]
        have e4 : lightV ns ms (f + st * (i : Int)) = lightV ns ms (f + st * ((i - ns.length : Nat) : Int)) := by
          rw [← lightV_mod (f + st * (i : Int)), ← lightV_mod (f + st * ((i - ns.length : Nat) : Int)), ← hl]
          have e5 : f + st * (i : Int) = (f + st * ((i - ns.length : Nat) : Int)) + (ns.length : Int) * st := by
            have e6 : (i : Int) = ((i - ns.length : Nat) : Int) + (ns.length : Int) := by omega
            rw [e6, Int.mul_add, Int.mul_comm (ns.length : Int) st]
            have e7 : ((((i - ns.length : Nat) : Int) + (ns.length : Int)) : Int) = (i : Int) := e6.symm
            omega
          rw [e5, Int.add_mul_emod_self_left]
        rw [e4]
        exact this
    rw [h1]
theorem dp_head {K : PySem.W.Frag} {H : Hp} : ∀ l : List Int, Dp K H (headV l) (headD l)
  | [] => .non
  | x :: _ => .int x
theorem rp_head : ∀ {l : List Int}, Ab 100 l → RP (headD l)
  | [], _ => ⟨rfl, rfl, rfl, by decide⟩
  | x :: _, h => rp_int (Nat.lt_of_lt_of_le (h x List.mem_cons_self) (pow_up (by decide)))
theorem fits_head : ∀ {l : List Int}, Ab 100 l → (headD l).shown.length ≤ sizeLine
  | [], _ => by decide +kernel
  | x :: _, h => fit_le (Nat.le_trans (shown_int (Nat.lt_of_lt_of_le (h x List.mem_cons_self) (pow_up (by decide)))) (by decide))
end Sd

namespace Sd
open PySem PySem.Spec PyProof.Rows L2

/-! ### lists of ints by their order -/
def LtI (a b : List Int) : Bool := PySem.W.dataLt (dI a) (dI b)
theorem ltI_irr (a : List Int) : LtI a a = false := lex_irrefl _
theorem ltI_trans {a b c : List Int} (h : LtI a b = true) (k : LtI b c = true) : LtI a c = true := lex_trans _ _ _ h k
theorem toks_int (x : Int) : PySem.W.keyToks (.int x) = [.inl x] := by rw [PySem.W.keyToks]
theorem toks_inj : ∀ {a b : List Int}, PySem.W.keyToksAll (a.map PyData.int) = PySem.W.keyToksAll (b.map PyData.int) → a = b
  | [], [], _ => rfl
  | [], y :: b, h => by
    rw [List.map_nil, List.map_cons, PySem.W.toks_all_cons, PySem.W.keyToksAll] at h
    have := (List.cons.inj h).1
    cases this
  | x :: a, [], h => by
    rw [List.map_nil, List.map_cons, PySem.W.toks_all_cons, PySem.W.keyToksAll] at h
    have := (List.cons.inj h).1
    cases this
  | x :: a, y :: b, h => by
    rw [List.map_cons, List.map_cons, PySem.W.toks_all_cons, PySem.W.toks_all_cons, toks_int, toks_int] at h
    have h2 := (List.cons.inj h).2
    have h3 := (List.cons.inj h2).1
    have h4 := (List.cons.inj h2).2
    cases h3
    rw [toks_inj h4]
theorem ltI_total {a b : List Int} (h : LtI a b = false) (k : LtI b a = false) : a = b := by
  have e := lex_total _ _ h k
  unfold dI at e
  rw [PySem.W.keyToks, PySem.W.keyToks] at e
  exact toks_inj e
/-- the least of some lists -/
def LeastI (S : List (List Int)) (m : List Int) : Prop := m ∈ S ∧ ∀ y ∈ S, LtI y m = false
theorem least_one {S : List (List Int)} {m m' : List Int} (h : LeastI S m) (k : LeastI S m') : m = m' := ltI_total (k.2 _ h.1) (h.2 _ k.1)
theorem least_set {S S' : List (List Int)} {m : List Int} (h : LeastI S m) (e : ∀ x, x ∈ S ↔ x ∈ S') : LeastI S' m := ⟨(e _).mp h.1, fun y hy => h.2 y ((e _).mpr hy)⟩
theorem least_le {S : List (List Int)} {m y : List Int} (h : LeastI S m) (hy : y ∈ S) : m = y ∨ LtI m y = true := by
  cases q : LtI m y with
  | true => exact .inr rfl
  | false => exact .inl (ltI_total q (h.2 _ hy))
theorem least_app {S S' : List (List Int)} {a b : List Int} (h : LeastI S a) (k : LeastI S' b) : LeastI (S ++ S') (if LtI b a then b else a) := by
  cases q : LtI b a with
  | true =>
    refine ⟨List.mem_append_right _ k.1, fun y hy => ?_⟩
    rcases List.mem_append.mp hy with hy | hy
    · cases z : LtI y b with
      | false => exact z
      | true =>
        have := ltI_trans z q
        rw [h.2 _ hy] at this
        cases this
    · exact k.2 _ hy
  | false =>
    refine ⟨List.mem_append_left _ h.1, fun y hy => ?_⟩
    rcases List.mem_append.mp hy with hy | hy
    · exact h.2 _ hy
    · cases z : LtI y a with
      | false => exact z
      | true =>
        exfalso
        rcases least_le k hy with e | e
        · rw [e, z] at q
          cases q
        · rw [ltI_trans e z] at q
          cases q
theorem minD_least (x : List Int) (xs : List (List Int)) : ∃ m, PySem.W.minD (dI x) (xs.map dI) = dI m ∧ LeastI (x :: xs) m := by
  have key : ∀ (xs done : List (List Int)) (x : List Int), LeastI done x → ∃ m, PySem.W.minD (dI x) (xs.map dI) = dI m ∧ LeastI (done ++ xs) m := by
    intro xs
    induction xs with
    | nil =>
      intro done x h
      exact ⟨x, rfl, by rw [List.append_nil]; exact h⟩
    | cons y r ih =>
      intro done x h
      have h2 : LeastI (done ++ [y]) (if LtI y x then y else x) := least_app h ⟨List.mem_singleton.mpr rfl, fun z hz => by rw [List.mem_singleton.mp hz]; exact ltI_irr _⟩
      obtain ⟨m, e, hm⟩ := ih _ _ h2
      refine ⟨m, ?_, by rw [List.append_assoc] at hm; exact hm⟩
      rw [← e]
      unfold PySem.W.minD
      rw [List.map_cons, List.foldl_cons]
      have e2 : (if PySem.W.dataLt (dI y) (dI x) then dI y else dI x) = dI (if LtI y x then y else x) := by
        show (if LtI y x = true then dI y else dI x) = dI (if LtI y x then y else x)
        cases LtI y x <;> rfl
      rw [e2]
  exact key xs [x] x ⟨List.mem_singleton.mpr rfl, fun z hz => by rw [List.mem_singleton.mp hz]; exact ltI_irr _⟩

theorem dI_inj {a b : List Int} (h : dI a = dI b) : a = b := by
  unfold dI at h
  have h2 := PyData.list.inj h
  have : ∀ {a b : List Int}, a.map PyData.int = b.map PyData.int → a = b := by
    intro a
    induction a with
    | nil => intro b h; cases b with
      | nil => rfl
      | cons _ _ => cases h
    | cons x a ih => intro b h; cases b with
      | nil => cases h
      | cons y b =>
        rw [List.map_cons, List.map_cons] at h
        have := PyData.int.inj (List.cons.inj h).1
        rw [this, ih (List.cons.inj h).2]
  exact this h2
theorem alike_ints : ∀ a b : List Int, PySem.W.alikeAll (a.map PyData.int) (b.map PyData.int) = true
  | [], _ => by rw [List.map_nil, PySem.W.alikeAll]
  | _ :: _, [] => by rw [List.map_nil, List.map_cons, PySem.W.alikeAll]
  | x :: a, y :: b => by
    rw [List.map_cons, List.map_cons, PySem.W.alikeAll, alike_ints a b, PySem.W.alike]
    rfl
theorem alike_dI (a b : List Int) : PySem.W.alike (dI a) (dI b) = true := by
  unfold dI
  rw [PySem.W.alike]
  exact alike_ints a b
theorem alikeAll_dI (S : List (List Int)) : PySem.W.AlikeAll (S.map dI) := by
  refine ⟨fun x hx y hy => ?_, fun x hx e => ?_⟩
  · obtain ⟨a, _, rfl⟩ := List.mem_map.mp hx
    obtain ⟨b, _, rfl⟩ := List.mem_map.mp hy
    exact alike_dI a b
  · obtain ⟨a, _, rfl⟩ := List.mem_map.mp hx
    unfold dI at e
    cases e
theorem depthAll_ints : ∀ a : List Int, PyData.depthAll (a.map PyData.int) = 0
  | [] => rfl
  | x :: a => by
    show max (PyData.depth (.int x)) (PyData.depthAll (a.map PyData.int)) = 0
    rw [depthAll_ints a]
    simp only [PyData.depth, Nat.max_self]
theorem depth_dI (a : List Int) : (dI a).depth ≤ 1 := by
  unfold dI
  simp only [PyData.depth]
  rw [depthAll_ints]
  exact Nat.le_refl _
theorem depthAll_dI : ∀ S : List (List Int), PyData.depthAll (S.map dI) ≤ 1
  | [] => by show (0 : Nat) ≤ 1; omega
  | a :: S => by
    show max (dI a).depth (PyData.depthAll (S.map dI)) ≤ 1
    have h1 := depth_dI a
    have h2 := depthAll_dI S
    omega

theorem readsAll_kp {h h' : Heap} (k : ∀ c o, h.get? c = some o → h'.get? c = some o) : ∀ {us : List Value} {ds : List PyData} {as : List Addr}, PySem.ReadsAll h us ds as → PySem.ReadsAll h' us ds as
  | _, _, _, .nil => .nil
  | _, _, _, .cons r rs => .cons (PySem.W.reads_keeps k r) (readsAll_kp k rs)
theorem readsAll_ix {h : Heap} : ∀ {us : List Value} {ds : List PyData} {as : List Addr} {i : Nat} {u : Value}, PySem.ReadsAll h us ds as → us[i]? = some u → ∃ d bs, ds[i]? = some d ∧ PySem.Reads h u d bs
  | _, _, _, _, _, .nil, e => by simp at e
  | _, _, _, 0, _, .cons r _, e => by
    have e := Option.some.inj (show some _ = some _ from e)
    subst e
    exact ⟨_, _, rfl, r⟩
  | _, _, _, i + 1, _, .cons _ rs, e => by
    obtain ⟨d, bs, h1, h2⟩ := readsAll_ix (i := i) rs (by simpa using e)
    exact ⟨d, bs, by simpa using h1, h2⟩
theorem vals_ix : ∀ {vs : List V} {us : List Value} {i : Nat} {u : Value}, Vals vs us → us[i]? = some u → ∃ v, vs[i]? = some v ∧ RelV v u
  | _, _, _, _, .nil, e => by simp at e
  | _, _, 0, _, .cons r _, e => by
    have e := Option.some.inj (show some _ = some _ from e)
    subst e
    exact ⟨_, rfl, r⟩
  | _, _, i + 1, _, .cons _ rs, e => by
    obtain ⟨d, h1, h2⟩ := vals_ix (i := i) rs (by simpa using e)
    exact ⟨d, by simpa using h1, h2⟩

/-! ### min(S), S a list of lists of ints -/
def rMinI (K : PySem.W.Frag) : List V → Hp → VK → Prop := fun vs H Q => ∃ (a : Addr) (xs : List V) (S : List (List Int)), vs = [V.ref a] ∧ SqL K H a xs ∧ DpAll K H xs (S.map dI) ∧ 0 < S.length ∧
  ∀ (i : Nat) (v : V) (m : List Int), xs[i]? = some v → S[i]? = some m → LeastI S m → Q v H
theorem cr_minI {X : Cx} {K : PySem.W.Frag} (hK : X.K = K) (hc : X.calm = true) {k : Nat} (hr : Room k X.A) : CallR X (.builtin "min") (rMinI K) := by
  subst hK
  intro pins s σ H vs us Q I r h
  obtain ⟨a, xs, S, rfl, hs, hd, hne, q⟩ := h
  obtain ⟨its, rv, hl, _⟩ := I.list hs
  rw [Vals.ref1 r]
  obtain ⟨as, hR⟩ := Dp.readsAll I _ _ _ hd rv
  cases S with
  | nil => exact absurd hne (Nat.lt_irrefl 0)
  | cons x S =>
    have hu := hr.units
    have hd1 := depthAll_dI (x :: S)
    refine PySem.W.min_list_data (x := dI x) (xs := S.map dI) (as := as) (I.ok.hd hc) hl.isList hR (alikeAll_dI (x :: S)) ?_ fun i v h' tk bs hv hR' kp => ?_
    · have e : PyData.depthAll (dI x :: S.map dI) ≤ 1 := hd1
      omega
    · obtain ⟨m, em, hm⟩ := minD_least x S
      have hv' : its[i]? = some v := by simpa using hv
      obtain ⟨d, cs, hd2, hR2⟩ := readsAll_ix hR hv'
      obtain ⟨y, hy, ry⟩ := vals_ix rv hv'
      obtain ⟨n, hn, e⟩ : ∃ n, (x :: S)[i]? = some n ∧ d = dI n := by
        rw [List.getElem?_map] at hd2
        cases z : (x :: S)[i]? with
        | none =>
          rw [z] at hd2
          cases hd2
        | some n =>
          rw [z] at hd2
          exact ⟨n, rfl, (Option.some.inj hd2).symm⟩
      subst e
      rw [em] at hR'
      have e2 := PySem.W.alike_unique _ _ v _ _ (alike_dI n m) (PySem.W.reads_keeps kp hR2) hR'
      have e3 := dI_inj e2
      subst e3
      exact ⟨y, H, I.kept kp, ry, q i y n hy hn hm⟩
/-! ### min(a, b) of two values, compared where a heap stands -/
section
variable {prog : Program} {w : World} {A : Around} {E : Value → Shared → Prop} {s : Shared}
theorem min_pair {a b : Value} {x y : PyData} {as : List Addr} {Q : Value → Shared → Prop} (hh : A.handled = none) (hR : PySem.ReadsAll s.heap [a, b] [x, y] as) (ha : PySem.W.AlikeAll [x, y]) (hu : A.units + 1 + PyData.depthAll [x, y] < cLine)
    (h : ∀ h' tk, (∀ c o, s.heap.get? c = some o → h'.get? c = some o) → Q (if PySem.W.dataLt y x then b else a) { s with heap := h', toks := tk }) : wpAny (model prog w) A (call (.builtin "min") [a, b]) Q E s := by
  have nm : (toString "min" ++ toString ".loop" : String) = "min.loop" := by decide
  have hT : (s.heap.push { cls := .type "tuple", data := .seq #[a, b] }).IsTuple s.heap.objs.size #[a, b] := ⟨_, Heap.get?_push_size _ rfl, rfl, 0, rfl⟩
  have kp0 : ∀ c o, s.heap.get? c = some o → (s.heap.push { cls := .type "tuple", data := .seq #[a, b] }).get? c = some o := fun c o e => Heap.get?_push_of_some _ e
  have hR2 : PySem.ReadsAll (s.heap.push { cls := .type "tuple", data := .seq #[a, b] }) (#[a, b] : Array Value).toList [x, y] as := readsAll_kp kp0 hR
  refine call_function_tree F.kind_min F.plain_min F.entry_min (F.args_min2 _ _) ?_
  show wpAny _ A.in1 (Builtin.Builtins.bindParams _ _ _ _ >>= _) _ _ s
  refine wpAny_bind (wpAny_of_eq (show Builtin.Builtins.bindParams "min" ["key", "default"] 0 ⟨[], []⟩ = pure [none, none] from rfl) (show wpAny _ A.in1 (newTuple [a, b] >>= _) _ _ s from wpAny_bind (wpAny_newObj_type (wpAny_bind ?_))))
  refine PySem.W.iter_tupleW (A := A.in1) (s := { s with heap := s.heap.push { cls := .type "tuple", data := .seq #[a, b] } }) hh hT fun s₂ e W st hfp hw hk => ?_
  have hS : s₂.heap.objs.size ∉ _ := fun hm => Nat.lt_irrefl _ (hfp _ hm)
  refine wpAny_bind (wpAny_newObj_type ?_)
  rw [nm]
  refine wpAny_pure ⟨plainId_quiet F.plain_min_loop _, codeAny_min_loop_firstH W (s.heap.push { cls := .type "tuple", data := .seq #[a, b] }) hw (fun i j => PySem.W.dataLt ([x, y].getD i .none) ([x, y].getD j .none)) ?_ s₂.heap.objs.size hS (fresh_in hk) _ (show 0 < 2 by decide) (fun c o e => Heap.get?_push_of_some _ (hk c o e)) (W.frame 0 s₂ _ s₂.toks st (Nat.le_refl _) fun c _ o e => Heap.get?_push_of_some _ e) (Heap.get?_push_size _ rfl) fun v s' hP hm => ?_⟩
  · exact PySem.W.cmpIn_lt (A := A.in1) (s := { s with heap := s.heap.push { cls := .type "tuple", data := .seq #[a, b] } }) hR2 ha hu
  · obtain ⟨h', tk, rfl, hk'⟩ := PySem.W.moved_old e rfl (Moved.drop_new (tk := s₂.toks) hm (Nat.le_refl _))
    have q := h h' tk fun c o e => hk' c o (kp0 c o e)
    have ev : v = if PySem.W.dataLt y x then b else a := by
      cases z : PySem.W.dataLt y x with
      | true =>
        have e1 : argBest (fun i j => PySem.W.dataLt ([x, y].getD i .none) ([x, y].getD j .none)) 1 = 1 := if_pos z
        rw [show (#[a, b] : Array Value).size - 1 = 1 from rfl, e1] at hP
        exact (Option.some.inj hP).symm
      | false =>
        have e1 : argBest (fun i j => PySem.W.dataLt ([x, y].getD i .none) ([x, y].getD j .none)) 1 = 0 := if_neg (fun c => by
          have c : PySem.W.dataLt y x = true := c
          rw [z] at c
          cases c)
        rw [show (#[a, b] : Array Value).size - 1 = 1 from rfl, e1] at hP
        exact (Option.some.inj hP).symm
    rw [ev]
    exact q
end
/-- min(a, b) of two lists of ints -/
def rMin2 (K : PySem.W.Frag) : List V → Hp → VK → Prop := fun vs H Q => ∃ (x y : V) (a b : List Int), vs = [x, y] ∧ Dp K H x (dI a) ∧ Dp K H y (dI b) ∧ Q (if LtI b a then y else x) H
theorem cr_min2 {X : Cx} {K : PySem.W.Frag} (hK : X.K = K) (hc : X.calm = true) {k : Nat} (hr : Room k X.A) : CallR X (.builtin "min") (rMin2 K) := by
  subst hK
  intro pins s σ H vs us Q I r h
  obtain ⟨x, y, a, b, rfl, hx, hy, q⟩ := h
  obtain ⟨as, hR⟩ := Dp.readsAll I _ _ _ (.cons hx (.cons hy .nil)) r
  cases r with
  | cons r1 r2 =>
    cases r2 with
    | cons r2 r3 =>
      cases r3
      have hu := hr.units
      have hd1 := depthAll_dI [a, b]
      refine min_pair (I.ok.hd hc) hR (alikeAll_dI [a, b]) ?_ fun h' tk kp => ?_
      · have e : PyData.depthAll [dI a, dI b] ≤ 1 := hd1
        omega
      · have q : Q (if PySem.W.dataLt (dI b) (dI a) then y else x) H := q
        cases z : PySem.W.dataLt (dI b) (dI a) with
        | true =>
          rw [z] at q
          exact ⟨y, H, I.kept kp, r2, q⟩
        | false =>
          rw [z] at q
          exact ⟨x, H, I.kept kp, r1, q⟩
end Sd

namespace Sd
open PySem PySem.Spec PyProof.Rows L2

/-! ### turns, and all that are like -/
theorem ext_getD {a b : List Int} (hl : a.length = b.length) (h : ∀ j, j < a.length → a.getD j 0 = b.getD j 0) : a = b := by
  refine List.ext_getElem? fun j => ?_
  by_cases q : j < a.length
  · rw [at_getD q, at_getD (by omega), h j q]
  · rw [List.getElem?_eq_none (by omega), List.getElem?_eq_none (by omega)]
theorem rot_get {ns : List Int} {t : Int} {j : Nat} (h : j < ns.length) : (rot ns t).getD j 0 = ns.getD ((((j : Int) - t) % (ns.length : Int)).toNat) 0 := getD_at (rot_at h)
theorem mir_get {ns : List Int} {j : Nat} (h : j < ns.length) : (mir ns).getD j 0 = ns.getD (((-(j : Int)) % (ns.length : Int)).toNat) 0 := getD_at (mir_at h)
theorem rot_add (ns : List Int) (s t : Int) : rot (rot ns s) t = rot ns (s + t) := by
  refine ext_getD (by simp only [rot_len]) fun j hj => ?_
  simp only [rot_len] at hj
  have hm := mod_in (i := (j : Int) - t) (show 0 < ns.length by omega)
  rw [rot_get (by rw [rot_len]; exact hj), rot_len, rot_get (by omega), rot_get hj]
  rw [Int.toNat_of_nonneg hm.1, Int.emod_sub_emod]
  rw [show (j : Int) - t - s = (j : Int) - (s + t) by omega]
theorem rot_zero (ns : List Int) : rot ns 0 = ns := by
  refine ext_getD (rot_len _ _) fun j hj => ?_
  rw [rot_len] at hj
  rw [rot_get hj, Int.sub_zero, Int.emod_eq_of_lt (by omega) (by omega), Int.toNat_natCast]
theorem rot_full (ns : List Int) : rot ns (ns.length : Int) = ns := by
  rw [← rot_mod, Int.emod_self, rot_zero]
theorem mir_rot (ns : List Int) (t : Int) : mir (rot ns t) = rot (mir ns) (-t) := by
  refine ext_getD (by simp only [rot_len, mir_len]) fun j hj => ?_
  simp only [rot_len, mir_len] at hj
  have hm := mod_in (i := -(j : Int)) (show 0 < ns.length by omega)
  have hm2 := mod_in (i := (j : Int) - -t) (show 0 < ns.length by omega)
  rw [mir_get (by rw [rot_len]; exact hj), rot_len, rot_get (by omega), rot_get (by rw [mir_len]; exact hj), mir_len, mir_get (by omega)]
  rw [Int.toNat_of_nonneg hm.1, Int.toNat_of_nonneg hm2.1, Int.emod_sub_emod]
  have e : (-(((j : Int) - -t) % (ns.length : Int))) % (ns.length : Int) = (-((j : Int) - -t)) % (ns.length : Int) := by
    rw [← Int.zero_sub, ← Int.zero_sub ((j : Int) - -t), Int.sub_emod_emod]
  rw [e, show -((j : Int) - -t) = -(j : Int) - t by omega]
def turnsL (ns : List Int) : List (List Int) := (List.range ns.length).map fun (t : Nat) => rot ns (t : Int)
def bothL (ns : List Int) : List (List Int) := turnsL ns ++ turnsL (mir ns)
theorem turns_len (ns : List Int) : (turnsL ns).length = ns.length := by
  unfold turnsL
  rw [List.length_map, List.length_range]
theorem mem_turns {ns x : List Int} (h : 1 ≤ ns.length) : x ∈ turnsL ns ↔ ∃ t : Int, x = rot ns t := by
  unfold turnsL
  constructor
  · intro hx
    obtain ⟨t, _, rfl⟩ := List.mem_map.mp hx
    exact ⟨_, rfl⟩
  · intro ⟨t, ht⟩
    have hm := mod_in (i := t) (show 0 < ns.length by omega)
    refine List.mem_map.mpr ⟨(t % (ns.length : Int)).toNat, List.mem_range.mpr (by omega), ?_⟩
    rw [Int.toNat_of_nonneg hm.1, rot_mod, ht]
theorem mem_both {ns x : List Int} (h : 1 ≤ ns.length) : x ∈ bothL ns ↔ ∃ t : Int, x = rot ns t ∨ x = rot (mir ns) t := by
  unfold bothL
  rw [List.mem_append, mem_turns h, mem_turns (by rw [mir_len]; exact h)]
  constructor
  · rintro (⟨t, e⟩ | ⟨t, e⟩)
    · exact ⟨t, .inl e⟩
    · exact ⟨t, .inr e⟩
  · rintro ⟨t, e | e⟩
    · exact .inl ⟨t, e⟩
    · exact .inr ⟨t, e⟩
theorem both_len {ns x : List Int} (h : 1 ≤ ns.length) (hx : x ∈ bothL ns) : x.length = ns.length := by
  obtain ⟨t, rfl | rfl⟩ := (mem_both h).mp hx
  · exact rot_len _ _
  · rw [rot_len, mir_len]
theorem both_sub {ns ms x : List Int} (h : 1 ≤ ns.length) (hm : ms ∈ bothL ns) (hx : x ∈ bothL ms) : x ∈ bothL ns := by
  have hl := both_len h hm
  obtain ⟨s, e⟩ := (mem_both (by omega)).mp hx
  obtain ⟨t, rfl | rfl⟩ := (mem_both h).mp hm
  · rcases e with rfl | rfl
    · rw [rot_add]
      exact (mem_both h).mpr ⟨_, .inl rfl⟩
    · rw [mir_rot, rot_add]
      exact (mem_both h).mpr ⟨_, .inr rfl⟩
  · rcases e with rfl | rfl
    · rw [rot_add]
      exact (mem_both h).mpr ⟨_, .inr rfl⟩
    · rw [mir_rot, mir_mir, rot_add]
      exact (mem_both h).mpr ⟨_, .inl rfl⟩
theorem both_symm {ns ms : List Int} (h : 1 ≤ ns.length) (hm : ms ∈ bothL ns) : ns ∈ bothL ms := by
  have hl := both_len h hm
  obtain ⟨t, rfl | rfl⟩ := (mem_both h).mp hm
  · refine (mem_both (by omega)).mpr ⟨-t, .inl ?_⟩
    rw [rot_add, show t + -t = 0 by omega, rot_zero]
  · refine (mem_both (by omega)).mpr ⟨t, .inr ?_⟩
    rw [mir_rot, mir_mir, rot_add, show -t + t = 0 by omega, rot_zero]
theorem like_iff {ns ms m m' : List Int} (h : 1 ≤ ns.length) (h2 : 1 ≤ ms.length) (hm : LeastI (bothL ns) m) (hm' : LeastI (bothL ms) m') : m = m' ↔ ms ∈ bothL ns := by
  constructor
  · rintro rfl
    exact both_sub h hm.1 (both_symm h2 hm'.1)
  · intro e
    refine least_one hm (least_set hm' fun x => ⟨both_sub h e, both_sub h2 (both_symm h e)⟩)
theorem eqv_dI (a b : List Int) : PyData.eqv (dI a) (dI b) = decide (a = b) := by
  by_cases e : a = b
  · subst e
    rw [decide_eq_true rfl]
    exact PySem.W.eqv_refl_alike _ (alike_dI a a)
  · rw [decide_eq_false e]
    cases q : PyData.eqv (dI a) (dI b) with
    | false => rfl
    | true =>
      exfalso
      have z := (PySem.W.toks_eqv (dI a) (dI b) (alike_dI a b)).1 q
      unfold dI at z
      rw [PySem.W.keyToks, PySem.W.keyToks] at z
      exact e (toks_inj z)
theorem any_dI (S : List (List Int)) (m : List Int) : ((S.map dI).any fun z => PyData.eqv z (dI m)) = decide (m ∈ S) := by
  induction S with
  | nil => simp
  | cons a S ih =>
    rw [List.map_cons, List.any_cons, ih, eqv_dI]
    by_cases e : a = m
    · subst e
      simp
    · have e2 : ¬ m = a := fun z => e z.symm
      simp [e, e2]

/-! ### the turns at which one becomes the other -/
def hits (xs ys : List Int) (o : Int) : Nat → List Int
  | 0 => []
  | k + 1 => hits xs ys o k ++ (if rot xs (o + (k : Int)) = ys then [o + (k : Int)] else [])
theorem hits_yes {xs ys : List Int} {o : Int} {k : Nat} (h : rot xs (o + (k : Int)) = ys) : hits xs ys o (k + 1) = hits xs ys o k ++ [o + (k : Int)] := by
  rw [hits, if_pos h]
theorem hits_no {xs ys : List Int} {o : Int} {k : Nat} (h : ¬ rot xs (o + (k : Int)) = ys) : hits xs ys o (k + 1) = hits xs ys o k := by
  rw [hits, if_neg h, List.append_nil]
theorem hits_more (xs ys : List Int) (o : Int) (k : Nat) : ∀ m, ∃ r, hits xs ys o (k + m) = hits xs ys o k ++ r
  | 0 => ⟨[], by rw [List.append_nil]; rfl⟩
  | m + 1 => by
    obtain ⟨r, e⟩ := hits_more xs ys o k m
    refine ⟨r ++ (if rot xs (o + ((k + m : Nat) : Int)) = ys then [o + ((k + m : Nat) : Int)] else []), ?_⟩
    rw [← List.append_assoc, ← e]
    rfl
theorem hits_head {xs ys : List Int} {o : Int} {k n : Nat} (h0 : hits xs ys o k = []) (h : rot xs (o + (k : Int)) = ys) (hk : k < n) : ∃ r, hits xs ys o n = (o + (k : Int)) :: r := by
  obtain ⟨r, e⟩ := hits_more xs ys o (k + 1) (n - (k + 1))
  rw [show k + 1 + (n - (k + 1)) = n by omega, hits_yes h, h0] at e
  exact ⟨r, e⟩
theorem hits_shift (xs ys : List Int) (o : Int) : ∀ k, hits xs ys o k = (hits (rot xs o) ys 0 k).map (o + ·)
  | 0 => rfl
  | k + 1 => by
    have e : rot (rot xs o) (0 + (k : Int)) = rot xs (o + (k : Int)) := by rw [rot_add, show o + (0 + (k : Int)) = o + (k : Int) by omega]
    by_cases q : rot xs (o + (k : Int)) = ys
    · rw [hits_yes q, hits_yes (by rw [e]; exact q), hits_shift xs ys o k, List.map_append]
      simp
    · rw [hits_no q, hits_no (by rw [e]; exact q), hits_shift xs ys o k]
theorem hits_all {xs ys : List Int} {o : Int} : ∀ {k : Nat}, ∀ t ∈ hits xs ys o k, o ≤ t ∧ t < o + (k : Int)
  | 0, t, h => by cases h
  | k + 1, t, h => by
    rw [hits] at h
    rcases List.mem_append.mp h with h | h
    · have := hits_all t h
      omega
    · split at h
      · have := List.mem_singleton.mp h
        omega
      · cases h
theorem hits_len (xs ys : List Int) (o : Int) : ∀ k, (hits xs ys o k).length ≤ k
  | 0 => Nat.le_refl _
  | k + 1 => by
    have := hits_len xs ys o k
    rw [hits, List.length_append]
    split
    · simp only [List.length_singleton]; omega
    · simp only [List.length_nil]; omega
theorem hits_ab {xs ys : List Int} {o : Int} {k : Nat} (h0 : 0 ≤ o) (ho : o ≤ 10) (hk : k ≤ 1000) : Ab 100 (hits xs ys o k) := fun t ht => by
  have := hits_all t ht
  exact Nat.lt_of_lt_of_le (m := 1100) (by omega) (by decide)
/-- the period -/
def perL (ns : List Int) : List Int := hits ns ns 1 ns.length
theorem per_ex {ns : List Int} (h : 1 ≤ ns.length) : ∃ p r, perL ns = p :: r := by
  unfold perL
  cases e : hits ns ns 1 ns.length with
  | cons p r => exact ⟨p, r, rfl⟩
  | nil =>
    exfalso
    obtain ⟨k, hk⟩ : ∃ k, ns.length = k + 1 := ⟨ns.length - 1, by omega⟩
    rw [hk, hits_yes (by rw [show (1 : Int) + (k : Int) = ((k + 1 : Nat) : Int) by omega, ← hk]; exact rot_full ns)] at e
    have := congrArg List.length e
    simp at this

/-! ### rows of new lists -/
inductive Rows (H H' : Hp) : List V → List (List Int) → Prop
  | nil : Rows H H' [] []
  | cons {l : Addr} {m : List Int} {vs : List V} {S : List (List Int)} : H l = none → H' l = some (.lst (m.map V.int)) → Rows H H' vs S → Rows H H' (.ref l :: vs) (m :: S)
theorem Rows.up {H H1 H2 : Hp} {vs : List V} {S : List (List Int)} (h : Rows H H1 vs S) (s : Same H1 H2) : Rows H H2 vs S := by
  induction h with
  | nil => exact .nil
  | cons a b _ ih => exact .cons a (s _ _ b) ih
theorem Rows.down {H0 H H1 : Hp} {vs : List V} {S : List (List Int)} (h : Rows H H1 vs S) (s : Same H0 H) : Rows H0 H1 vs S := by
  induction h with
  | nil => exact .nil
  | cons a b _ ih => exact .cons (s.free a) b ih
theorem Rows.snoc {H H1 : Hp} {vs : List V} {S : List (List Int)} {l : Addr} {m : List Int} (h : Rows H H1 vs S) (a : H l = none) (b : H1 l = some (.lst (m.map V.int))) : Rows H H1 (vs ++ [.ref l]) (S ++ [m]) := by
  induction h with
  | nil => exact .cons a b .nil
  | cons c d _ ih => exact .cons c d ih
theorem Rows.app {H H1 : Hp} {vs ws : List V} {S T : List (List Int)} (h : Rows H H1 vs S) (k : Rows H H1 ws T) : Rows H H1 (vs ++ ws) (S ++ T) := by
  induction h with
  | nil => exact k
  | cons c d _ ih => exact .cons c d ih
theorem Rows.len {H H1 : Hp} {vs : List V} {S : List (List Int)} (h : Rows H H1 vs S) : vs.length = S.length := by
  induction h with
  | nil => rfl
  | cons _ _ _ ih => rw [List.length_cons, List.length_cons, ih]
theorem Rows.dp {K : PySem.W.Frag} {H H1 : Hp} {vs : List V} {S : List (List Int)} (h : Rows H H1 vs S) : DpAll K H1 vs (S.map dI) := by
  induction h with
  | nil => exact .nil
  | cons _ b _ ih => exact .cons (dp_ints (SqL.of b)) ih
theorem Rows.at {H H1 : Hp} {vs : List V} {S : List (List Int)} (h : Rows H H1 vs S) {i : Nat} {v : V} (hv : vs[i]? = some v) : ∃ l m, v = .ref l ∧ S[i]? = some m ∧ H l = none ∧ H1 l = some (.lst (m.map V.int)) := by
  induction h generalizing i with
  | nil => simp at hv
  | cons a b _ ih =>
    cases i with
    | zero =>
      have e := Option.some.inj (show some _ = some _ from hv)
      subst e
      exact ⟨_, _, rfl, rfl, a, b⟩
    | succ i => exact ih (i := i) (by simpa using hv)
theorem take_map_next {f : Nat → List Int} {n i : Nat} (h : i < n) : ((List.range n).map f).take i ++ [f i] = ((List.range n).map f).take (i + 1) := by
  rw [List.take_add_one, List.getElem?_map, List.getElem?_range h]
  rfl
theorem rows_over {H H1 : Hp} {vs : List V} {S : List (List Int)} {D : Addr} {o : HO} (h : Rows H H1 vs S) (k : ∀ l, V.ref l ∈ vs → l ≠ D) : Rows H (upd H1 D o) vs S := by
  induction h with
  | nil => exact .nil
  | cons a b _ ih => exact .cons a (by rw [upd_ne (k _ List.mem_cons_self)]; exact b) (ih fun l hl => k l (List.mem_cons_of_mem _ hl))
theorem Rows.ne {H H1 : Hp} {vs : List V} {S : List (List Int)} {D : Addr} {o : HO} (h : Rows H H1 vs S) (e : H1 D = some (.lst vs)) : ∀ l, V.ref l ∈ vs → l ≠ D := by
  intro l hl z
  subst z
  have : ∀ {ws : List V} {T : List (List Int)}, Rows H H1 ws T → V.ref l ∈ ws → ∃ m : List Int, H1 l = some (.lst (m.map V.int)) := by
    intro ws T h2
    induction h2 with
    | nil => intro z; cases z
    | cons a b _ ih =>
      intro z
      rcases List.mem_cons.mp z with z | z
      · cases z
        exact ⟨_, b⟩
      · exact ih z
  obtain ⟨m, hm⟩ := this h hl
  rw [e] at hm
  have hm : vs = m.map V.int := by
    have := Option.some.inj hm
    injection this
  rw [hm] at hl
  obtain ⟨i, _, z⟩ := List.mem_map.mp hl
  cases z
theorem Rim.of_both {ns m : List Int} (h : Rim ns) (hm : m ∈ bothL ns) : Rim m := by
  obtain ⟨t, rfl | rfl⟩ := (mem_both h.pos).mp hm
  · exact h.rot t
  · exact h.mir.rot t
theorem tank_free {T : Addr} {H H' : Hp} {c d : Int} {p : Addr} (u : But T H H') (k : Tank H T c) (k' : Tank H' T d) (h : H' p = none) : H p = none := by
  obtain ⟨o, e⟩ := k.some
  obtain ⟨o', e'⟩ := k'.some
  exact free_but u e h (by rw [e']; exact fun z => nomatch z)
/-- one of some new lists -/
def OneOf (H H' : Hp) (T : Addr) (n : Nat) (v : V) : Prop := ∃ (l : Addr) (ms : List Int), v = .ref l ∧ H l = none ∧ l ≠ T ∧ H' l = some (.lst (ms.map V.int)) ∧ Rim ms ∧ ms.length = n
theorem OneOf.but {H H1 H2 : Hp} {T : Addr} {n : Nat} {v : V} (h : OneOf H H1 T n v) (u : But T H1 H2) : OneOf H H2 T n v := by
  obtain ⟨l, ms, e, a, b, c, d, f⟩ := h
  exact ⟨l, ms, e, a, b, u _ _ c b, d, f⟩
theorem at_any {xs : List V} {i : Int} (h0 : 0 ≤ i) (h1 : i < xs.length) : ∃ v, v ∈ xs ∧ atI xs i = some v := by
  obtain ⟨j, rfl⟩ : ∃ j : Nat, i = (j : Int) := ⟨i.toNat, by omega⟩
  have h3 : j < xs.length := by omega
  exact ⟨xs[j], List.getElem_mem h3, atI_nat (List.getElem?_eq_getElem h3)⟩
theorem rows_step {H H1 H2 : Hp} {D l : Addr} {vs : List V} {S : List (List Int)} {i : Nat} {m : List Int} (hD : H D = none) (s1 : Same H H1) (hD1 : H1 D = some (.lst vs)) (hr1 : Rows H H1 vs (S.take i)) (s2 : Same H1 H2) (hl : H1 l = none) (hl2 : H2 l = some (.lst (m.map V.int))) (hi : S[i]? = some m) :
    Same H (upd H2 D (.lst (vs ++ [.ref l]))) ∧ Rows H (upd H2 D (.lst (vs ++ [.ref l]))) (vs ++ [.ref l]) (S.take (i + 1)) := by
  refine ⟨same_over (s1.trans s2) hD, ?_⟩
  have nl : l ≠ D := fun e => by
    rw [e, hD1] at hl
    cases hl
  have hr3 := hr1.up s2
  have hr4 := rows_over (o := .lst (vs ++ [.ref l])) hr3 (hr3.ne (o := .lst vs) (s2 _ _ hD1))
  have := hr4.snoc (s1.free hl) (m := m) (by rw [upd_ne nl]; exact hl2)
  rw [List.take_add_one, hi]
  exact this
theorem turns_at {ns : List Int} {i : Nat} (h : i < ns.length) : (turnsL ns)[i]? = some (rot ns (0 + (i : Int))) := by
  unfold turnsL
  rw [List.getElem?_map, List.getElem?_range h, Int.zero_add]
  rfl
theorem rows_fit {H H1 : Hp} {vs : List V} {S : List (List Int)} {i n : Nat} (h : Rows H H1 vs (S.take i)) (hn : S.length = n) (hk : n ≤ 100000) : vs.length < sizeLine := by
  have := h.len
  rw [List.length_take] at this
  exact sz40 (by omega)
/-- the answers, as data -/
def ansD (p hs : List Int) (m m2 : List Int) (x : Bool) : PyData := .list [headD p, headD hs, dI m, dI m2, .bool x]
theorem rp_bl (x : Bool) : RP (.bool x) := ⟨by simp only [PyData.showable], by simp only [PyData.hasDict], by simp only [PyData.canLay0], by simp only [PyData.depth]; omega⟩
theorem depth_head : ∀ l : List Int, (headD l).depth ≤ 1
  | [] => by simp only [headD, PyData.depth]; omega
  | _ :: _ => by simp only [headD, PyData.depth]; omega
theorem shown_head {l : List Int} (h : Ab 100 l) : (headD l).shown.length ≤ 100000 := by
  cases l with
  | nil => decide +kernel
  | cons x r => exact Nat.le_trans (shown_int (Nat.lt_of_lt_of_le (h x List.mem_cons_self) (pow_up (by decide)))) (by decide)
theorem ansD_rp {p hs m m2 : List Int} {x : Bool} (h1 : Ab 100 p) (h2 : Ab 100 hs) (h3 : Rim m) (h4 : Rim m2) : RP (ansD p hs m m2 x) ∧ (ansD p hs m m2 x).shown.length ≤ sizeLine := by
  have d3 := dp_ints_depth h3.abs
  have d4 := dp_ints_depth h4.abs
  refine ⟨((RPs.cons (rp_head h1) (depth_head p) (RPs.cons (rp_head h2) (depth_head hs) (RPs.cons h3.rp d3 (RPs.cons h4.rp d4 (RPs.cons (rp_bl x) (by simp only [PyData.depth]; omega) RPs.nil))))).list (by omega)).1, ?_⟩
  have e := shown_list (B := 100000) (ds := [headD p, headD hs, dI m, dI m2, .bool x]) fun d hd => by
    simp only [List.mem_cons, List.not_mem_nil, or_false] at hd
    rcases hd with rfl | rfl | rfl | rfl | rfl
    · exact shown_head h1
    · exact shown_head h2
    · have := shown_ints h3.abs
      have := h3.le
      omega
    · have := shown_ints h4.abs
      have := h4.le
      omega
    · cases x <;> decide +kernel
  exact fit_le (Nat.le_trans e (by show (100000 + 2) * 5 + 3 ≤ 16000000; decide))
theorem ansD_dp {K : PySem.W.Frag} {H : Hp} {l a b : Addr} {p hs m m2 : List Int} {x : Bool} (h : SqL K H l [headV p, headV hs, .ref a, .ref b, .bl x]) (ha : SqL K H a (m.map V.int)) (hb : SqL K H b (m2.map V.int)) : Dp K H (.ref l) (ansD p hs m m2 x) :=
  .lst h (.cons (dp_head p) (.cons (dp_head hs) (.cons (dp_ints ha) (.cons (dp_ints hb) (.cons (.bl x) .nil)))))
theorem atI_cons {v : V} {vs : List V} : atI (v :: vs) 0 = some v := atI_nat (j := 0) rfl
theorem perL_ab {ns : List Int} (h : ns.length ≤ 40) : Ab 100 (perL ns) := hits_ab (by decide) (by decide) (by omega)
theorem inD {X : Cx} {K : PySem.W.Frag} (h : X.K = K) {k : Nat} (hr : Room k X.A) : OpR X (compareOp .In) (rInD K) := h ▸ op_inD (by have := hr.un; omega)
end Sd

namespace Sd
open PySem PySem.Spec PyProof.Rows L2
def topS (i : Nat) : Stmt := PySem.Challenge.pw_slitdiscs_k22_own_lights.main.body.getD i (.Pass ⟨0, 0, 0, 0⟩)
abbrev s_turned_list : Stmt := topS 1
theorem sc_turned_list : FnScope ["items", "turn", "size", "slot"] ["items", "turn"] (defScope s_turned_list) := ⟨rfl, rfl, rfl, by decide +kernel, rfl, by decide +kernel, by decide +kernel⟩
abbrev s_mirrored_list : Stmt := topS 2
theorem sc_mirrored_list : FnScope ["items", "size", "slot"] ["items"] (defScope s_mirrored_list) := ⟨rfl, rfl, rfl, by decide +kernel, rfl, by decide +kernel, by decide +kernel⟩
abbrev s_light_between : Stmt := topS 3
theorem sc_light_between : FnScope ["disc", "row", "turn", "under", "over"] ["disc", "row", "turn"] (defScope s_light_between) := ⟨rfl, rfl, rfl, by decide +kernel, rfl, by decide +kernel, by decide +kernel⟩
abbrev s_lights_between : Stmt := topS 4
theorem sc_lights_between : FnScope ["disc", "row", "turn"] ["disc", "row"] (defScope s_lights_between) := ⟨rfl, rfl, rfl, by decide +kernel, rfl, by decide +kernel, by decide +kernel⟩
abbrev s_is_integer : Stmt := topS 11
theorem sc_is_integer : FnScope ["value"] ["value"] (defScope s_is_integer) := ⟨rfl, rfl, rfl, by decide +kernel, rfl, by decide +kernel, by decide +kernel⟩
abbrev s_has_slots : Stmt := topS 12
theorem sc_has_slots : FnScope ["value"] ["value"] (defScope s_has_slots) := ⟨rfl, rfl, rfl, by decide +kernel, rfl, by decide +kernel, by decide +kernel⟩
abbrev s_wrong_light : Stmt := topS 13
theorem sc_wrong_light : FnScope ["items", "most", "index", "item"] ["items", "most"] (defScope s_wrong_light) := ⟨rfl, rfl, rfl, by decide +kernel, rfl, by decide +kernel, by decide +kernel⟩
abbrev s_wrong_slot : Stmt := topS 14
theorem sc_wrong_slot : FnScope ["items"] ["items"] (defScope s_wrong_slot) := ⟨rfl, rfl, rfl, by decide +kernel, rfl, by decide +kernel, by decide +kernel⟩
abbrev s_check_disc : Stmt := topS 15
theorem sc_check_disc : FnScope ["disc", "index"] ["disc"] (defScope s_check_disc) := ⟨rfl, rfl, rfl, by decide +kernel, rfl, by decide +kernel, by decide +kernel⟩
abbrev s_check_discs : Stmt := topS 16
theorem sc_check_discs : FnScope ["disc", "other"] ["disc", "other"] (defScope s_check_discs) := ⟨rfl, rfl, rfl, by decide +kernel, rfl, by decide +kernel, by decide +kernel⟩
abbrev s_are_like : Stmt := topS 18
theorem sc_are_like : FnScope ["disc", "other"] ["disc", "other"] (defScope s_are_like) := ⟨rfl, rfl, rfl, by decide +kernel, rfl, by decide +kernel, by decide +kernel⟩
abbrev s_least_turned : Stmt := topS 19
theorem sc_least_turned : FnScope ["disc", "turn"] ["disc"] (defScope s_least_turned) := ⟨rfl, rfl, rfl, by decide +kernel, rfl, by decide +kernel, by decide +kernel⟩
abbrev s_least_like : Stmt := topS 20
theorem sc_least_like : FnScope ["disc"] ["disc"] (defScope s_least_like) := ⟨rfl, rfl, rfl, by decide +kernel, rfl, by decide +kernel, by decide +kernel⟩
abbrev s_own_lights : Stmt := topS 22
theorem sc_own_lights : FnScope ["disc"] ["disc"] (defScope s_own_lights) := ⟨rfl, rfl, rfl, by decide +kernel, rfl, by decide +kernel, by decide +kernel⟩
abbrev s_are_twins : Stmt := topS 23
theorem sc_are_twins : FnScope ["disc", "other"] ["disc", "other"] (defScope s_are_twins) := ⟨rfl, rfl, rfl, by decide +kernel, rfl, by decide +kernel, by decide +kernel⟩
abbrev s_law_pool : Stmt := topS 25
theorem sc_law_pool : FnScope ["script", "at", "cell"] ["script", "at"] (defScope s_law_pool) := ⟨rfl, rfl, rfl, by decide +kernel, rfl, by decide +kernel, by decide +kernel⟩
abbrev s_law_draw : Stmt := topS 26
theorem sc_law_draw : FnScope ["pool", "top", "drawn", "mixed"] ["pool", "top"] (defScope s_law_draw) := ⟨rfl, rfl, rfl, by decide +kernel, rfl, by decide +kernel, by decide +kernel⟩
abbrev s_law_plate : Stmt := topS 27
theorem sc_law_plate : FnScope ["pool", "size", "kind", "found", "spot", "wide", "some"] ["pool", "size"] (defScope s_law_plate) := ⟨rfl, rfl, rfl, by decide +kernel, rfl, by decide +kernel, by decide +kernel⟩
abbrev s_law_slits : Stmt := topS 28
theorem sc_law_slits : FnScope ["pool", "size", "kind", "left", "found", "spot", "turn"] ["pool", "size"] (defScope s_law_slits) := ⟨rfl, rfl, rfl, by decide +kernel, rfl, by decide +kernel, by decide +kernel⟩
abbrev s_law_own : Stmt := topS 29
theorem sc_law_own : FnScope ["plate", "size", "found", "turn", "spot"] ["plate"] (defScope s_law_own) := ⟨rfl, rfl, rfl, by decide +kernel, rfl, by decide +kernel, by decide +kernel⟩
abbrev s_law_turned : Stmt := topS 30
theorem sc_law_turned : FnScope ["plate", "by", "size", "spot"] ["plate", "by"] (defScope s_law_turned) := ⟨rfl, rfl, rfl, by decide +kernel, rfl, by decide +kernel, by decide +kernel⟩
abbrev s_law_back : Stmt := topS 31
theorem sc_law_back : FnScope ["plate", "size", "spot"] ["plate"] (defScope s_law_back) := ⟨rfl, rfl, rfl, by decide +kernel, rfl, by decide +kernel, by decide +kernel⟩
abbrev s_law_form : Stmt := topS 32
theorem sc_law_form : FnScope ["plate", "back", "size", "by"] ["plate"] (defScope s_law_form) := ⟨rfl, rfl, rfl, by decide +kernel, rfl, by decide +kernel, by decide +kernel⟩
abbrev s_law_laid : Stmt := topS 33
theorem sc_law_laid : FnScope ["plate", "second", "size", "found", "goal", "spot"] ["plate", "second"] (defScope s_law_laid) := ⟨rfl, rfl, rfl, by decide +kernel, rfl, by decide +kernel, by decide +kernel⟩
abbrev s_law_own_right : Stmt := topS 34
theorem sc_law_own_right : FnScope ["plate", "kept", "due", "told"] ["plate"] (defScope s_law_own_right) := ⟨rfl, rfl, rfl, by decide +kernel, rfl, by decide +kernel, by decide +kernel⟩
abbrev s_law_pair_right : Stmt := topS 35
theorem sc_law_pair_right : FnScope ["plate", "second", "kept", "due", "told"] ["plate", "second"] (defScope s_law_pair_right) := ⟨rfl, rfl, rfl, by decide +kernel, rfl, by decide +kernel, by decide +kernel⟩
abbrev s_law_right : Stmt := topS 36
theorem sc_law_right : FnScope ["pool", "size", "plate", "turned", "bent", "spot", "second", "one", "two", "first", "later"] ["pool", "size"] (defScope s_law_right) := ⟨rfl, rfl, rfl, by decide +kernel, rfl, by decide +kernel, by decide +kernel⟩
abbrev s_law : Stmt := topS 37
theorem sc_law : FnScope ["script", "at", "pool", "top", "first", "second", "one"] ["script"] (defScope s_law) := ⟨rfl, rfl, rfl, by decide +kernel, rfl, by decide +kernel, by decide +kernel⟩
/-- what the top has written -/
structure Txt (K : PySem.W.Frag) (mg : Str → Option Value) where
  a_turned_list : Addr
  d_turned_list : FuncData
  F_turned_list : Fun K "turned_list" "turned_list" s_turned_list a_turned_list d_turned_list
  b_turned_list : Binds K d_turned_list ["items", "turn"] []
  g_turned_list : mg "turned_list" = some (.ref a_turned_list)
  a_mirrored_list : Addr
  d_mirrored_list : FuncData
  F_mirrored_list : Fun K "mirrored_list" "mirrored_list" s_mirrored_list a_mirrored_list d_mirrored_list
  b_mirrored_list : Binds K d_mirrored_list ["items"] []
  g_mirrored_list : mg "mirrored_list" = some (.ref a_mirrored_list)
  a_light_between : Addr
  d_light_between : FuncData
  F_light_between : Fun K "light_between" "light_between" s_light_between a_light_between d_light_between
  b_light_between : Binds K d_light_between ["disc", "row", "turn"] []
  g_light_between : mg "light_between" = some (.ref a_light_between)
  a_lights_between : Addr
  d_lights_between : FuncData
  F_lights_between : Fun K "lights_between" "lights_between" s_lights_between a_lights_between d_lights_between
  b_lights_between : Binds K d_lights_between ["disc", "row"] []
  g_lights_between : mg "lights_between" = some (.ref a_lights_between)
  a_is_integer : Addr
  d_is_integer : FuncData
  F_is_integer : Fun K "is_integer" "is_integer" s_is_integer a_is_integer d_is_integer
  b_is_integer : Binds K d_is_integer ["value"] []
  g_is_integer : mg "is_integer" = some (.ref a_is_integer)
  a_has_slots : Addr
  d_has_slots : FuncData
  F_has_slots : Fun K "has_slots" "has_slots" s_has_slots a_has_slots d_has_slots
  b_has_slots : Binds K d_has_slots ["value"] []
  g_has_slots : mg "has_slots" = some (.ref a_has_slots)
  a_wrong_light : Addr
  d_wrong_light : FuncData
  F_wrong_light : Fun K "wrong_light" "wrong_light" s_wrong_light a_wrong_light d_wrong_light
  b_wrong_light : Binds K d_wrong_light ["items", "most"] []
  g_wrong_light : mg "wrong_light" = some (.ref a_wrong_light)
  a_wrong_slot : Addr
  d_wrong_slot : FuncData
  F_wrong_slot : Fun K "wrong_slot" "wrong_slot" s_wrong_slot a_wrong_slot d_wrong_slot
  b_wrong_slot : Binds K d_wrong_slot ["items"] []
  g_wrong_slot : mg "wrong_slot" = some (.ref a_wrong_slot)
  a_check_disc : Addr
  d_check_disc : FuncData
  F_check_disc : Fun K "check_disc" "check_disc" s_check_disc a_check_disc d_check_disc
  b_check_disc : Binds K d_check_disc ["disc"] []
  g_check_disc : mg "check_disc" = some (.ref a_check_disc)
  a_check_discs : Addr
  d_check_discs : FuncData
  F_check_discs : Fun K "check_discs" "check_discs" s_check_discs a_check_discs d_check_discs
  b_check_discs : Binds K d_check_discs ["disc", "other"] []
  g_check_discs : mg "check_discs" = some (.ref a_check_discs)
  a_are_like : Addr
  d_are_like : FuncData
  F_are_like : Fun K "are_like" "are_like" s_are_like a_are_like d_are_like
  b_are_like : Binds K d_are_like ["disc", "other"] []
  g_are_like : mg "are_like" = some (.ref a_are_like)
  a_least_turned : Addr
  d_least_turned : FuncData
  F_least_turned : Fun K "_least_turned" "_least_turned" s_least_turned a_least_turned d_least_turned
  b_least_turned : Binds K d_least_turned ["disc"] []
  g_least_turned : mg "_least_turned" = some (.ref a_least_turned)
  a_least_like : Addr
  d_least_like : FuncData
  F_least_like : Fun K "_least_like" "_least_like" s_least_like a_least_like d_least_like
  b_least_like : Binds K d_least_like ["disc"] []
  g_least_like : mg "_least_like" = some (.ref a_least_like)
  a_own_lights : Addr
  d_own_lights : FuncData
  F_own_lights : Fun K "own_lights" "own_lights" s_own_lights a_own_lights d_own_lights
  b_own_lights : Binds K d_own_lights ["disc"] []
  g_own_lights : mg "own_lights" = some (.ref a_own_lights)
  a_are_twins : Addr
  d_are_twins : FuncData
  F_are_twins : Fun K "are_twins" "are_twins" s_are_twins a_are_twins d_are_twins
  b_are_twins : Binds K d_are_twins ["disc", "other"] []
  g_are_twins : mg "are_twins" = some (.ref a_are_twins)
  a_law_pool : Addr
  d_law_pool : FuncData
  F_law_pool : Fun K "_law_pool" "_law_pool" s_law_pool a_law_pool d_law_pool
  b_law_pool : Binds K d_law_pool ["script", "at"] []
  g_law_pool : mg "_law_pool" = some (.ref a_law_pool)
  a_law_draw : Addr
  d_law_draw : FuncData
  F_law_draw : Fun K "_law_draw" "_law_draw" s_law_draw a_law_draw d_law_draw
  b_law_draw : Binds K d_law_draw ["pool", "top"] []
  g_law_draw : mg "_law_draw" = some (.ref a_law_draw)
  a_law_plate : Addr
  d_law_plate : FuncData
  F_law_plate : Fun K "_law_plate" "_law_plate" s_law_plate a_law_plate d_law_plate
  b_law_plate : Binds K d_law_plate ["pool", "size"] []
  g_law_plate : mg "_law_plate" = some (.ref a_law_plate)
  a_law_slits : Addr
  d_law_slits : FuncData
  F_law_slits : Fun K "_law_slits" "_law_slits" s_law_slits a_law_slits d_law_slits
  b_law_slits : Binds K d_law_slits ["pool", "size"] []
  g_law_slits : mg "_law_slits" = some (.ref a_law_slits)
  a_law_own : Addr
  d_law_own : FuncData
  F_law_own : Fun K "_law_own" "_law_own" s_law_own a_law_own d_law_own
  b_law_own : Binds K d_law_own ["plate"] []
  g_law_own : mg "_law_own" = some (.ref a_law_own)
  a_law_turned : Addr
  d_law_turned : FuncData
  F_law_turned : Fun K "_law_turned" "_law_turned" s_law_turned a_law_turned d_law_turned
  b_law_turned : Binds K d_law_turned ["plate", "by"] []
  g_law_turned : mg "_law_turned" = some (.ref a_law_turned)
  a_law_back : Addr
  d_law_back : FuncData
  F_law_back : Fun K "_law_back" "_law_back" s_law_back a_law_back d_law_back
  b_law_back : Binds K d_law_back ["plate"] []
  g_law_back : mg "_law_back" = some (.ref a_law_back)
  a_law_form : Addr
  d_law_form : FuncData
  F_law_form : Fun K "_law_form" "_law_form" s_law_form a_law_form d_law_form
  b_law_form : Binds K d_law_form ["plate"] []
  g_law_form : mg "_law_form" = some (.ref a_law_form)
  a_law_laid : Addr
  d_law_laid : FuncData
  F_law_laid : Fun K "_law_laid" "_law_laid" s_law_laid a_law_laid d_law_laid
  b_law_laid : Binds K d_law_laid ["plate", "second"] []
  g_law_laid : mg "_law_laid" = some (.ref a_law_laid)
  a_law_own_right : Addr
  d_law_own_right : FuncData
  F_law_own_right : Fun K "_law_own_right" "_law_own_right" s_law_own_right a_law_own_right d_law_own_right
  b_law_own_right : Binds K d_law_own_right ["plate"] []
  g_law_own_right : mg "_law_own_right" = some (.ref a_law_own_right)
  a_law_pair_right : Addr
  d_law_pair_right : FuncData
  F_law_pair_right : Fun K "_law_pair_right" "_law_pair_right" s_law_pair_right a_law_pair_right d_law_pair_right
  b_law_pair_right : Binds K d_law_pair_right ["plate", "second"] []
  g_law_pair_right : mg "_law_pair_right" = some (.ref a_law_pair_right)
  a_law_right : Addr
  d_law_right : FuncData
  F_law_right : Fun K "_law_right" "_law_right" s_law_right a_law_right d_law_right
  b_law_right : Binds K d_law_right ["pool", "size"] []
  g_law_right : mg "_law_right" = some (.ref a_law_right)
  a_law : Addr
  d_law : FuncData
  F_law : Fun K "law" "law" s_law a_law d_law
  g_law : mg "law" = some (.ref a_law)
  t_MOST_SLOTS : Tok
  g_MOST_SLOTS : mg "MOST_SLOTS" = some (.int (40) t_MOST_SLOTS)
  t_MOST_LIGHT : Tok
  g_MOST_LIGHT : mg "MOST_LIGHT" = some (.int (1000000000000000000000000000000) t_MOST_LIGHT)
  n_abs : mg "abs" = none
  n_bool : mg "bool" = none
  n_enumerate : mg "enumerate" = none
  n_int : mg "int" = none
  n_isinstance : mg "isinstance" = none
  n_len : mg "len" = none
  n_list : mg "list" = none
  n_max : mg "max" = none
  n_min : mg "min" = none
  n_range : mg "range" = none
  n_repr : mg "repr" = none
  n_sum : mg "sum" = none
  n_zip : mg "zip" = none
def kp_own_lights_disc {α : Type} : List α → List α → List α
  | [], [x0] => [x0]
  | _, _ => []
theorem kb_own_lights_disc {K : PySem.W.Frag} {mg : Str → Option Value} (T : Txt K mg) : KBinds K T.d_own_lights ["disc"] ["disc"] kp_own_lights_disc kp_own_lights_disc := by
  obtain ⟨_, _, _, _, _, _, _, _, _, e, _, _⟩ := T.F_own_lights.ex
  rw [e]
  refine ⟨fun s us ws _ hl => ?_, fun r1 r2 => ?_⟩
  · match us, ws, hl with
    | [], [x0], _ => exact .of_eq rfl
  · cases r1 with
    | cons _ _ => exact .nil
    | nil =>
      cases r2 with
      | nil => exact .nil
      | cons h0 r2 =>
        cases r2 with
        | cons _ _ => exact .nil
        | nil => exact .cons h0 .nil
def kp_are_twins_other_disc {α : Type} : List α → List α → List α
  | [], [x0, x1] => [x1, x0]
  | _, _ => []
theorem kb_are_twins_other_disc {K : PySem.W.Frag} {mg : Str → Option Value} (T : Txt K mg) : KBinds K T.d_are_twins ["disc", "other"] ["other", "disc"] kp_are_twins_other_disc kp_are_twins_other_disc := by
  obtain ⟨_, _, _, _, _, _, _, _, _, e, _, _⟩ := T.F_are_twins.ex
  rw [e]
  refine ⟨fun s us ws _ hl => ?_, fun r1 r2 => ?_⟩
  · match us, ws, hl with
    | [], [x0, x1], _ => exact .of_eq rfl
  · cases r1 with
    | cons _ _ => exact .nil
    | nil =>
      cases r2 with
      | nil => exact .nil
      | cons h0 r2 =>
        cases r2 with
        | nil => exact .nil
        | cons h1 r2 =>
          cases r2 with
          | cons _ _ => exact .nil
          | nil => exact .cons h1 (.cons h0 .nil)
section
variable {P : Program} {w : World} {K : PySem.W.Frag} {mg : Str → Option Value} {base : Heap}
/-! ### _law_pool, _law_draw -/
def mixP (y z : Int) : Int := (y + 524287 * z) ^ (3 : Int).toNat % (10 ^ (44 : Int).toNat + 31)
theorem e44 : (10 : Int) ^ (44 : Int).toNat + 31 = 100000000000000000000000000000000000000000031 := by decide +kernel
theorem e21 : (10 : Int) ^ (21 : Int).toNat + 117 = 1000000000000000000117 := by decide +kernel
theorem mixP_in (y z : Int) : 0 ≤ mixP y z ∧ mixP y z < 100000000000000000000000000000000000000000031 := by
  unfold mixP
  rw [e44]
  exact ⟨Int.emod_nonneg _ (by decide), Int.emod_lt_of_pos _ (by decide)⟩
def spDraw : Sp := fun vs H Q _ => ∃ (T : Addr) (m c : Int), vs = [.ref T, .int m] ∧ 0 < m ∧ m < 2 ^ 200 ∧ Tank H T c ∧ c < 2 ^ 40 ∧
  ∀ (r : Int) (H' : Hp), 0 ≤ r → r < m → Tank H' T (c + 1) → But T H H' → Q (.int r) H'
theorem ok_law_draw (T : Txt K mg) : FnOk P w K mg base CX0 1 T.a_law_draw T.d_law_draw ["pool", "top"] spDraw := by
  refine T.F_law_draw.ok sc_law_draw (fun vs H Q E h => ?_) (fun cdv A outer s H vs Q E hr h => ?_)
  · obtain ⟨_, _, _, rfl, _⟩ := h
    rfl
  · obtain ⟨t, m, c, rfl, hm0, hm, ⟨x, y, z, hT, hx, hy0, hy, hz0, hz⟩, hc, q⟩ := h
    refine ⟨_, (pss_cons (ps_if (pt_cmpR op_gt (pe_ix (ixL (K := K) rfl) (pv 0) pe_int (fun _ _ => rfl)) pe_int (nomark _)) (pss_cons (ps_set (i := 2) sc_law_draw.nd rfl (.inl rfl) (pe_op op_mod (pe_callTy call_int1 (by rfl) T.n_int (by decide +kernel) (pa_cons (pe_ix (ixL (K := K) rfl) (pv 0) pe_int (fun _ _ => rfl)) pa_nil)) (pv 1)))
      (pss_cons (ps_asg (pe_op op_fdivW (pe_ix (ixL (K := K) rfl) (pv 0) pe_int (fun _ _ => rfl)) (pv 1)) (pg_sub (pv 0) pe_int set_list))
      (pss_one (ps_ret (pv 2))))) pss_nil)
      (pss_cons (ps_asg (pe_op op_add (pe_ix (ixL (K := K) rfl) (pv 0) pe_int (fun _ _ => rfl)) pe_int) (pg_sub (pv 0) pe_int set_list))
      (pss_cons (ps_set (i := 3) sc_law_draw.nd rfl (.inl rfl) (pe_op op_mod (pe_callTy call_int1 (by rfl) T.n_int (by decide +kernel) (pa_cons (pe_op op_pow3 (pe_op op_add (pe_ix (ixL (K := K) rfl) (pv 0) pe_int (fun _ _ => rfl)) (pe_op op_mul pe_int (pe_ix (ixL (K := K) rfl) (pv 0) pe_int (fun _ _ => rfl)))) pe_int) pa_nil)) (pe_op op_add (pe_op op_pow pe_int pe_int) pe_int)))
      (pss_cons (ps_set (i := 3) sc_law_draw.nd rfl (.inl rfl) (pe_op op_mod (pe_callTy call_int1 (by rfl) T.n_int (by decide +kernel) (pa_cons (pe_op op_pow3 (pe_op op_add (pv 3) (pe_op op_mul pe_int (pe_ix (ixL (K := K) rfl) (pv 0) pe_int (fun _ _ => rfl)))) pe_int) pa_nil)) (pe_op op_add (pe_op op_pow pe_int pe_int) pe_int)))
      (pss_one (ps_ret (pe_op op_mod (pe_callTy call_int1 (by rfl) T.n_int (by decide +kernel) (pa_cons (pe_op op_fdivW (pv 3) pe_int) pa_nil)) (pv 1)))))))), ?_⟩
    refine ⟨.ref t, rfl, t, _, 0, .int x, rfl, rfl, SqL.of hT, rfl, x, 0, rfl, rfl, _, rfl, ite2 (fun h => ?_) (fun h => ?_)⟩
    · have hx1 : 0 < x := of_decide_eq_true h
      refine ⟨.ref t, rfl, t, _, 0, .int x, rfl, rfl, SqL.of hT, rfl, .inl ⟨x, rfl, .int m, rfl, x, m, rfl, rfl, hm0, ?_⟩⟩
      refine ⟨.ref t, rfl, t, _, 0, .int x, rfl, rfl, SqL.of hT, rfl, .int m, rfl, x, m, rfl, rfl, wide_div (b := 200) hm0 (by omega) (by decide) (by decide), ?_⟩
      refine ⟨.ref t, rfl, t, _, 0, 0, rfl, rfl, hT, rfl, ?_⟩
      refine ⟨.int (x % m), rfl, q _ _ (Int.emod_nonneg _ (by omega)) (Int.emod_lt_of_pos _ hm0) ⟨x / m, y, z, upd_same, Int.ediv_nonneg hx (by omega), hy0, hy, hz0, by omega⟩ upd_but⟩
    · refine ⟨.ref t, rfl, t, _, 2, .int z, rfl, rfl, SqL.of hT, rfl, z, 1, rfl, rfl, ?_⟩
      refine ⟨.ref t, rfl, t, _, 2, 2, rfl, rfl, hT, rfl, ?_⟩
      have hT2 : (upd H t (.lst [.int x, .int y, .int (z + 1)])) t = some (.lst [.int x, .int y, .int (z + 1)]) := upd_same
      refine ⟨.ref t, rfl, t, _, 1, .int y, rfl, rfl, SqL.of hT2, rfl, .ref t, rfl, t, _, 2, .int (z + 1), rfl, rfl, SqL.of hT2, rfl, 524287, z + 1, rfl, rfl, .inl ⟨by decide, by decide⟩, ?_⟩
      refine ⟨y, 524287 * (z + 1), rfl, rfl, _, 3, rfl, rfl, ⟨rfl, by omega, by omega⟩, .inl ⟨_, rfl, 10, 44, rfl, rfl, ⟨by decide, by decide, by decide⟩, _, 31, rfl, rfl, _, _, rfl, rfl, (by show (0 : Int) < 10 ^ (44 : Int).toNat + 31; decide +kernel), ?_⟩⟩
      obtain ⟨g0, g1⟩ := mixP_in y (z + 1)
      refine ⟨.int (mixP y (z + 1)), rfl, .ref t, rfl, t, _, 2, .int (z + 1), rfl, rfl, SqL.of hT2, rfl, 6700417, z + 1, rfl, rfl, .inl ⟨by decide, by decide⟩, ?_⟩
      refine ⟨mixP y (z + 1), 6700417 * (z + 1), rfl, rfl, _, 3, rfl, rfl, ⟨rfl, by omega, by omega⟩, .inl ⟨_, rfl, 10, 50, rfl, rfl, ⟨by decide, by decide, by decide⟩, _, 151, rfl, rfl, _, _, rfl, rfl, (by show (0 : Int) < 10 ^ (50 : Int).toNat + 151; decide +kernel), ?_⟩⟩
      refine ⟨_, rfl, _, 131071, rfl, rfl, wide_div (b := 30) (by decide) (by decide) (by decide) (by decide), .inl ⟨_, rfl, .int m, rfl, _, m, rfl, rfl, hm0, ?_⟩⟩
      exact q _ _ (Int.emod_nonneg _ (by omega)) (Int.emod_lt_of_pos _ hm0) ⟨x, y, z + 1, upd_same, hx, hy0, hy, by omega, by omega⟩ upd_but
def spPool (K : PySem.W.Frag) : Sp := fun vs H Q _ => ∃ (a : Addr) (ns : List Int) (i : Int), vs = [.ref a, .int i] ∧ SqL K H a (ns.map V.int) ∧ 0 ≤ i ∧ i < 100 ∧
  ∀ (t : Addr) (H' : Hp), Same H H' → H t = none → Tank H' t 0 → Q (.ref t) H'
theorem ok_law_pool (T : Txt K mg) : FnOk P w K mg base CX0 1 T.a_law_pool T.d_law_pool ["script", "at"] (spPool K) := by
  refine T.F_law_pool.ok sc_law_pool (fun vs H Q E h => ?_) (fun cdv A outer s H vs Q E hr h => ?_)
  · obtain ⟨_, _, _, rfl, _⟩ := h
    rfl
  · obtain ⟨a, ns, i, rfl, hS, hi0, hi, q⟩ := h
    refine ⟨_, (pss_cons (ps_set (i := 2) sc_law_pool.nd rfl (.inl rfl) (pe_ifExp (pt_cmpR op_lt (pv 1) (pe_callB (lenL (K := K) rfl) (by rfl) T.n_len (by decide +kernel) (pa_cons (pv 0) pa_nil)) (nomark _)) (pe_ix (ixL (K := K) rfl) (pv 0) (pv 1) (fun _ _ => rfl)) pe_int))
      (pss_one (ps_ret (pe_lst (pa_cons (pe_callB (call_max2 rfl) (by rfl) T.n_max (by decide +kernel) (pa_cons pe_int (pa_cons (pe_op op_sub (pe_callB call_abs (by rfl) T.n_abs (by decide +kernel) (pa_cons (pv 2) pa_nil)) (pe_op op_pow pe_int pe_int)) pa_nil))) (pa_cons (pe_op op_add (pe_op op_mod (pe_callTy call_int1 (by rfl) T.n_int (by decide +kernel) (pa_cons (pv 2) pa_nil)) (pe_op op_add (pe_op op_pow pe_int pe_int) pe_int)) (pe_op op_mul pe_int (pe_op op_add (pv 1) pe_int))) (pa_cons pe_int pa_nil))))))), ?_⟩
    have fin : ∀ c : Int, (fun σ H' => ∃ y2, σ = [some (.ref a), some (.int i), some y2] ∧ y2 = V.int c ∧ H' = H) [some (.ref a), some (.int i), some (V.int c)] H := fun c => ⟨_, rfl, rfl, rfl⟩
    have key : ∀ c : Int, (0 : Int) ≤ max 0 ((if c < 0 then -c else c) - 10 ^ 18) := fun c => Int.le_max_left _ _
    refine ⟨.int i, rfl, .ref a, rfl, a, _, rfl, .inl hS, i, _, rfl, rfl, _, rfl, ite2 (fun h => ?_) (fun h => ?_)⟩
    · have h1 : i < ns.length := by
        have := of_decide_eq_true h
        rw [List.length_map] at this
        exact this
      obtain ⟨c, hc, hat⟩ := at_in hi0 h1
      refine ⟨.ref a, rfl, .int i, rfl, a, _, i, .int c, rfl, rfl, hS, hat, ?_⟩
      refine ⟨.int c, rfl, c, rfl, 10, 18, rfl, rfl, ⟨by decide, by decide, by decide⟩, _, _, rfl, rfl, 0, _, rfl, ?_⟩
      refine ⟨.int c, rfl, .inl ⟨c, rfl, 10, 21, rfl, rfl, ⟨by decide, by decide, by decide⟩, _, 117, rfl, rfl, c, _, rfl, rfl, (by show (0 : Int) < 10 ^ (21 : Int).toNat + 117; decide +kernel), .int i, rfl, i, 1, rfl, rfl, 8191, i + 1, rfl, rfl, .inl ⟨by decide, by decide⟩, _, _, rfl, rfl, (by show 3 ≤ sizeLine; decide), fun t ht => ?_⟩⟩
      have m0 := Int.emod_nonneg c (show (1000000000000000000117 : Int) ≠ 0 by decide)
      have m1 := Int.emod_lt_of_pos c (show (0 : Int) < 1000000000000000000117 by decide)
      rw [e21]
      refine q t _ (new_same ht) ht ⟨_, _, 0, upd_same, ?_, by omega, by omega, by omega, by omega⟩
      split <;> omega
    · refine ⟨.int 0, rfl, 0, rfl, 10, 18, rfl, rfl, ⟨by decide, by decide, by decide⟩, _, _, rfl, rfl, 0, _, rfl, ?_⟩
      refine ⟨.int 0, rfl, .inl ⟨0, rfl, 10, 21, rfl, rfl, ⟨by decide, by decide, by decide⟩, _, 117, rfl, rfl, 0, _, rfl, rfl, (by show (0 : Int) < 10 ^ (21 : Int).toNat + 117; decide +kernel), .int i, rfl, i, 1, rfl, rfl, 8191, i + 1, rfl, rfl, .inl ⟨by decide, by decide⟩, _, _, rfl, rfl, (by show 3 ≤ sizeLine; decide), fun t ht => ?_⟩⟩
      rw [Int.zero_emod]
      refine q t _ (new_same ht) ht ⟨_, _, 0, upd_same, ?_, by omega, by omega, by omega, by omega⟩
      split <;> omega

/-! ### _law_plate -/
def spPlate : Sp := fun vs H Q _ => ∃ (T : Addr) (n c : Int), vs = [.ref T, .int n] ∧ 1 ≤ n ∧ n ≤ 40 ∧ Tank H T c ∧ 0 ≤ c ∧ c < 2 ^ 38 ∧
  ∀ (l : Addr) (ns : List Int) (H' : Hp), Rim ns → (ns.length : Int) = n → But T H H' → H l = none → H' l = some (.lst (ns.map V.int)) → Tank H' T (c + 60) → Q (.ref l) H'
/-- what holds between the ifs -/
def MidPl (t : Addr) (H : Hp) (n k e : Int) : L2.St → Hp → Prop := fun σ' H' => ∃ (D : Addr) (ns : List Int) (y5 y6 y7 : Option V),
  σ' = [some (.ref t), some (.int n), some (.int k), some (.ref D), y5, y6, y7] ∧ Rim ns ∧ (ns.length : Int) = n ∧ H D = none ∧ H' D = some (.lst (ns.map V.int)) ∧ But t H H' ∧ Tank H' t e
theorem ok_law_plate (T : Txt K mg) : FnOk P w K mg base CX0 2 T.a_law_plate T.d_law_plate ["pool", "size"] spPlate := by
  have G_law_draw := ok_law_draw (P := P) (w := w) (base := base) T
  refine T.F_law_plate.ok sc_law_plate (fun vs H Q E h => ?_) (fun cdv A outer s H vs Q E hr h => ?_)
  · obtain ⟨_, _, _, rfl, _⟩ := h
    rfl
  · obtain ⟨t, n, c, rfl, hn1, hn, hT, hc0, hc, q⟩ := h
    have e30 : (10 : Int) ^ (30 : Int).toNat = 1000000000000000000000000000000 := by decide +kernel
    refine ⟨_, (pss_cons (ps_set (i := 2) sc_law_plate.nd rfl (.inr rfl) (pe_call G_law_draw hr (by rfl) T.g_law_draw T.F_law_draw.kp T.b_law_draw .nil pass0 (pa_cons (pv 0) (pa_cons pe_int pa_nil))))
      (pss_cons (ps_setLc (i := 3) (own := [("spot", 4)]) (g := gName 4) (tt := tYes) (by rfl) sc_law_plate.nd rfl rfl (sw_true rfl rfl rfl (by decide +kernel)) (pi_range1 (by rfl) T.n_range (pa_cons (pv 1) pa_nil)) (blkOk_by (own := [("spot", 4)]) (N := ["pool", "size", "kind", "found", "spot", "wide", "some"]) (sc := defScope s_law_plate) (by decide +kernel))
        (fun _ _ _ _ _ => (pg_name (i := 4) sc_law_plate.nd rfl (Or.inl rfl))) (fun _ _ _ _ _ => pts_nil) (fun _ _ _ _ _ => (pe_call G_law_draw hr (by rfl) T.g_law_draw T.F_law_draw.kp T.b_law_draw .nil pass0 (pa_cons (pv 0) (pa_cons (pe_ix (ixL (K := K) rfl) (pe_lst (pa_cons pe_int (pa_cons pe_int (pa_cons pe_int (pa_cons pe_int (pa_cons (pe_op op_add (pe_op op_pow pe_int pe_int) pe_int) (pa_cons pe_int (pa_cons pe_int (pa_cons pe_int pa_nil))))))))) (pv 2) (fun _ _ => rfl)) pa_nil)))))
      (pss_mid (ps_if (pt_cmpR op_eq (pv 2) pe_int (nomark _)) (pss_cons (ps_set (i := 3) sc_law_plate.nd rfl (.inl rfl) (pe_op op_rep (pe_lst (pa_cons pe_int pa_nil)) (pv 1)))
      (pss_one (ps_asg (pe_op op_add pe_int (pe_call G_law_draw hr (by rfl) T.g_law_draw T.F_law_draw.kp T.b_law_draw .nil pass0 (pa_cons (pv 0) (pa_cons pe_int pa_nil)))) (pg_sub (pv 3) (pe_call G_law_draw hr (by rfl) T.g_law_draw T.F_law_draw.kp T.b_law_draw .nil pass0 (pa_cons (pv 0) (pa_cons (pv 1) pa_nil))) set_list)))) pss_nil)
      (pss_mid (ps_if (pt_cmpR op_eq (pv 2) pe_int (nomark _)) (pss_cons (ps_setLc (i := 5) (own := [("some", 6)]) (g := gName 6) (by rfl) sc_law_plate.nd rfl rfl (sw_true rfl rfl rfl (by decide +kernel)) (pi_range2 (by rfl) T.n_range (pa_cons pe_int (pa_cons (pe_op op_add (pv 1) pe_int) pa_nil))) (blkOk_by (own := [("some", 6)]) (N := ["pool", "size", "kind", "found", "spot", "wide", "some"]) (sc := defScope s_law_plate) (by decide +kernel))
        (fun _ _ _ _ _ => (pg_name (i := 6) sc_law_plate.nd rfl (Or.inl rfl))) (fun _ _ _ _ _ => (pts_one (pt_cmpR op_eq (pe_op op_mod (pe_callTy call_int1 (by rfl) T.n_int (by decide +kernel) (pa_cons (pv 1) pa_nil)) (pv 6)) pe_int (nomark _)))) (fun _ _ _ _ _ => (pv 6)))
      (pss_cons (ps_set (i := 5) sc_law_plate.nd rfl (.inl rfl) (pe_ix (ixL (K := K) rfl) (pv 5) (pe_call G_law_draw hr (by rfl) T.g_law_draw T.F_law_draw.kp T.b_law_draw .nil pass0 (pa_cons (pv 0) (pa_cons (pe_callB (lenL (K := K) rfl) (by rfl) T.n_len (by decide +kernel) (pa_cons (pv 5) pa_nil)) pa_nil))) (fun _ _ => rfl)))
      (pss_one (ps_set (i := 3) sc_law_plate.nd rfl (.inl rfl) (pe_op op_rep (pe_slice (slL (K := K) rfl) (pv 3) po_none (po_some (pv 5))) (pe_op op_fdivW (pv 1) (pv 5))))))) pss_nil)
      (pss_mid (ps_if (pt_cmpR op_eq (pv 2) pe_int (nomark _)) (pss_one (ps_set (i := 3) sc_law_plate.nd rfl (.inl rfl) (pe_op op_rep (pe_slice (slL (K := K) rfl) (pv 3) po_none (po_some pe_int)) (pv 1)))) pss_nil)
      (pss_one (ps_ret (pv 3)))))))), ?_⟩
    obtain ⟨oT, hoT⟩ := hT.some
    -- kind, wide
    refine ⟨.ref t, rfl, t, 8, c, rfl, by omega, by omega, hT, by omega, fun k H1 k0 k8 k1 u1 => ?_⟩
    have u3 : But t H H1 := u1
    have k3 : Tank H1 t (c + 2) := k1.mono (by omega)
    clear u1 k1
    have hH3 := rfl (a := H1)
    generalize H1 = H3 at u3 k3
    -- rim = [..]
    refine ⟨.int n, rfl, n, rfl, by omega, by omega, fun D hD => ?_⟩
    have hHD : H D = none := free_but u3 hoT hD (by obtain ⟨o, e⟩ := k3.some; rw [e]; exact fun z => nomatch z)
    refine lc_range (lo := 0) (n := n.toNat) (fun i H' => But t H H' ∧ Tank H' t (c + 2 + i) ∧ ∃ ms : List Int, H' D = some (.lst (ms.map V.int)) ∧ ms.length = i ∧ ∀ m ∈ ms, 0 ≤ m ∧ m ≤ 1000000000000000000000000000000)
      ⟨u3.trans (But.of (new_same hD)), (k3.mono (by omega)).up hD, [], upd_same, rfl, fun m hm => (List.not_mem_nil hm).elim⟩ (fun i H4 hi hP => ⟨rfl, ?_⟩) (fun H4 hP => ?_)
    · obtain ⟨u4, k4, ms, hD4, hlen, hall⟩ := hP
      refine ⟨.ref t, rfl, 10, 30, rfl, rfl, ⟨by decide, by decide, by decide⟩, _, 1, rfl, rfl, (by show 8 ≤ sizeLine; decide), fun l2 hl2 => ?_⟩
      obtain ⟨m, hm, hatm⟩ := at_in (ns := [2, 2, 3, 10, 10 ^ (30 : Int).toNat + 1, 2, 2, 4]) k0 (by show k < 8; omega)
      have hm1 : 1 ≤ m ∧ m ≤ 1000000000000000000000000000001 := by
        have := List.mem_of_getElem? hm
        simp only [List.mem_cons, List.not_mem_nil, or_false, e30] at this
        omega
      refine ⟨.int k, rfl, l2, _, k, .int m, rfl, rfl, SqL.of upd_same, hatm, t, m, c + 2 + i, rfl, by omega, by omega, k4.up hl2, by omega, fun v H5 v0 v1 k5 u5 => ?_⟩
      have hD5 : H5 D = some (.lst (ms.map V.int)) := u5 _ _ (new_same hl2 _ _ hD4) (k3.ne hD)
      refine ⟨_, hD5, by rw [List.length_map]; exact sz40 (by omega), ?_, ?_, ms ++ [v], ?_, by rw [List.length_append]; show ms.length + 1 = i + 1; omega, fun z hz => ?_⟩
      · exact fun b o e ne => by
          rw [upd_ne (ne_of_none e hHD)]
          exact ((u4.trans (But.of (new_same hl2))).trans u5) b o e ne
      · obtain ⟨x, y, z, e, a1, a2, a3, a4, a5⟩ := k5
        exact ⟨x, y, z, by rw [upd_ne (k3.ne hD).symm]; exact e, a1, a2, a3, a4, by omega⟩
      · rw [upd_same, List.map_append]
        rfl
      · rcases List.mem_append.mp hz with h | h
        · exact hall z h
        · have e := List.mem_singleton.mp h
          subst e
          omega
    · obtain ⟨u4, k4, ms, hD4, hlen, hall⟩ := hP
      have hn2 : (ms.length : Int) = n := by omega
      have hR : Rim ms := ⟨by omega, by omega, hall⟩
      have ek : ((n.toNat : Nat) : Int) = n := by omega
      rw [ek] at k4
      -- if kind == 1
      refine ⟨MidPl t H n k (c + 2 + n + 2), ⟨.int k, rfl, rfl, _, rfl, ite2 (fun _ => ?_) (fun _ => ?_)⟩, fun σ' H6 hM => ?_⟩
      · refine ⟨(by show 1 ≤ sizeLine; decide), fun l3 hl3 => ?_⟩
        refine ⟨.int n, rfl, l3, n, _, rfl, rfl, upd_same, by omega, by omega, (by show 1 * n.toNat ≤ sizeLine; exact sz40' (by omega)), fun p3 hp3 => ?_⟩
        have k5 : Tank (upd (upd H4 l3 (.lst [.int 0])) p3 (.lst (List.replicate n.toNat [V.int 0]).flatten)) t (c + 2 + n) := (k4.up hl3).up hp3
        have u5 : But t H (upd (upd H4 l3 (.lst [.int 0])) p3 (.lst (List.replicate n.toNat [V.int 0]).flatten)) := (u4.trans (But.of (new_same hl3))).trans (But.of (new_same hp3))
        refine ⟨.ref t, rfl, t, 3, c + 2 + n, rfl, by omega, by omega, k5, by omega, fun v H6 v0 v1 k6 u6 => ?_⟩
        refine ⟨1, v, rfl, rfl, .ref p3, rfl, .ref t, rfl, .int n, rfl, t, n, c + 2 + n + 1, rfl, by omega, by omega, k6, by omega, fun j H7 j0 j1 k7 u7 => ?_⟩
        have hp7 : H7 p3 = some (.lst ((List.replicate n.toNat (0 : Int)).map V.int)) := u7 _ _ (u6 _ _ (by rw [upd_same, rep_one]) ((k4.up hl3).ne hp3)) ((k4.up hl3).ne hp3)
        have hlenr : ((List.replicate n.toNat (0 : Int)).map V.int).length = n.toNat := by rw [List.length_map, List.length_replicate]
        refine ⟨p3, _, _, j.toNat, rfl, rfl, hp7, ixN_in j0 (by rw [hlenr]; omega), ?_⟩
        have hHp : H p3 = none := free_but (u4.trans (But.of (new_same hl3))) hoT hp3 (by obtain ⟨o, e⟩ := (k4.up hl3).some; rw [e]; exact fun z => nomatch z)
        refine ⟨p3, (List.replicate n.toNat (0 : Int)).set j.toNat (1 + v), _, _, _, rfl, ⟨?_, ?_, fun z hz => ?_⟩, ?_, hHp, ?_, ?_, ?_⟩
        · rw [List.length_set, List.length_replicate]
          omega
        · rw [List.length_set, List.length_replicate]
          omega
        · rcases List.mem_or_eq_of_mem_set hz with h | h
          · rw [(List.mem_replicate.mp h).2]
            omega
          · omega
        · rw [List.length_set, List.length_replicate]
          exact ek
        · rw [upd_same, map_set]
        · exact fun b o e ne => by
            rw [upd_ne (ne_of_none e hHp)]
            exact ((u5.trans u6).trans u7) b o e ne
        · obtain ⟨x, y, z, e, a1, a2, a3, a4, a5⟩ := k7
          exact ⟨x, y, z, by rw [upd_ne ((k4.up hl3).ne hp3).symm]; exact e, a1, a2, a3, a4, by omega⟩
      · exact ⟨D, ms, _, _, _, rfl, hR, hn2, hHD, hD4, u4, k4.mono (by omega)⟩
      -- if kind == 6
      obtain ⟨D6, ns6, y5, y6, y7, rfl, hR6, hn6, hH6, hD6, u6, k6⟩ := hM
      refine ⟨MidPl t H n k (c + 2 + n + 3), ⟨.int k, rfl, rfl, _, rfl, ite2 (fun _ => ?_) (fun _ => ?_)⟩, fun σ' H7 hM => ?_⟩
      · refine ⟨.int n, rfl, n, 1, rfl, rfl, 1, n + 1, rfl, ⟨by omega, by omega, by omega, by omega⟩, fun D2 hD2 => ?_⟩
        refine lc_range (lo := 1) (n := (n + 1 - 1).toNat) (fun i H' => Same H6 H' ∧ ∃ ss : List Int, H' D2 = some (.lst (ss.map V.int)) ∧ (∀ s ∈ ss, 1 ≤ s ∧ s ≤ n ∧ n % s = 0) ∧ ss.length ≤ i ∧ (0 < i → 1 ≤ ss.length))
          ⟨new_same hD2, [], upd_same, fun s hs => (List.not_mem_nil hs).elim, Nat.le_refl _, fun z => absurd z (Nat.lt_irrefl _)⟩ (fun i H7 hi hP => ⟨rfl, ?_⟩) (fun H7 hP => ?_)
        · obtain ⟨s7, ss, hD7, hss, hsl, hs0⟩ := hP
          refine ⟨.int n, rfl, .inl ⟨n, rfl, .int (1 + i), rfl, n, 1 + i, rfl, rfl, (by show (0 : Int) < _; omega), rfl, _, rfl, ite2 (fun h => ?_) (fun h => ?_)⟩⟩
          · have hz : n % (1 + (i : Int)) = 0 := V.int.inj (of_decide_eq_true h)
            refine ⟨.int (1 + i), rfl, _, hD7, by rw [List.length_map]; exact sz40 (by omega), fun b o e => ?_, ss ++ [1 + (i : Int)], ?_, fun z hzz => ?_, ?_, fun _ => ?_⟩
            · rw [upd_ne (ne_of_none e hD2)]
              exact s7 b o e
            · rw [upd_same, List.map_append]
              rfl
            · rcases List.mem_append.mp hzz with h | h
              · exact hss z h
              · have e := List.mem_singleton.mp h
                subst e
                exact ⟨by omega, by omega, hz⟩
            · rw [List.length_append]
              show ss.length + 1 ≤ i + 1
              omega
            · rw [List.length_append]
              show 1 ≤ ss.length + 1
              omega
          · refine ⟨s7, ss, hD7, hss, by omega, fun _ => ?_⟩
            rcases Nat.eq_zero_or_pos i with z | z
            · subst z
              exact absurd (decide_eq_true (by show V.int (n % (1 + ((0 : Nat) : Int))) = V.int 0; rw [show n % (1 + ((0 : Nat) : Int)) = 0 by omega])) h
            · exact hs0 z
        · obtain ⟨s7, ss, hD7, hss, hsl, hs0⟩ := hP
          have hs1 := hs0 (by omega)
          have k7 := k6.same s7
          refine ⟨.ref D2, rfl, .ref t, rfl, .ref D2, rfl, D2, _, rfl, .inl (SqL.of hD7), t, _, c + 2 + n + 2, rfl, by rw [List.length_map]; omega, by rw [List.length_map]; omega, k7, by omega, fun v H8 v0 v1 k8 u8 => ?_⟩
          rw [List.length_map] at v1
          obtain ⟨sz, hsz, hats⟩ := at_in v0 v1
          obtain ⟨z1, z2, z3⟩ := hss sz (List.mem_of_getElem? hsz)
          have hD8 : H8 D2 = some (.lst (ss.map V.int)) := u8 _ _ hD7 (k6.ne hD2)
          refine ⟨D2, _, v, .int sz, rfl, rfl, SqL.of hD8, hats, ?_⟩
          have hDt : D6 ≠ t := fun e => by
            rw [e] at hH6
            rw [hH6] at hoT
            cases hoT
          have hR8 : H8 D6 = some (.lst (ns6.map V.int)) := u8 _ _ (s7 _ _ hD6) hDt
          refine ⟨.ref D6, rfl, .int sz, rfl, sz, rfl, D6, _, rfl, SqL.of hR8, fun p3 hp3 => ?_⟩
          have hcut := cut_take ns6 sz (by omega)
          have hdv : n / sz * sz = n := Int.ediv_mul_cancel (Int.dvd_of_emod_eq_zero z3)
          have hq0 : 0 ≤ n / sz := Int.ediv_nonneg (by omega) (by omega)
          have hqn : n / sz ≤ n := Int.ediv_le_self _ (by omega)
          have htl : (ns6.take sz.toNat).length = sz.toNat := by rw [List.length_take]; omega
          have hlen2 : (n / sz).toNat * sz.toNat = n.toNat := by
            have e1 : (((n / sz).toNat * sz.toNat : Nat) : Int) = n := by
              rw [Int.natCast_mul, Int.toNat_of_nonneg hq0, Int.toNat_of_nonneg (by omega), hdv]
            omega
          refine ⟨.int n, rfl, .int sz, rfl, n, sz, rfl, rfl, wide_div (b := 200) (by omega) (by omega) (by decide) (by decide), p3, n / sz, _, rfl, rfl, upd_same, by omega, by omega, ?_, fun p4 hp4 => ?_⟩
          · rw [hcut, List.length_map, htl, Nat.mul_comm, hlen2]
            exact sz40' (by omega)
          · have hHp : H p4 = none := free_but (((u6.trans (But.of s7)).trans u8).trans (But.of (new_same hp3))) hoT hp4 (by obtain ⟨o, e⟩ := (k8.up hp3).some; rw [e]; exact fun z => nomatch z)
            refine ⟨p4, (List.replicate (n / sz).toNat (ns6.take sz.toNat)).flatten, _, _, _, rfl, ⟨?_, ?_, fun z hz => ?_⟩, ?_, hHp, by rw [upd_same, hcut, rep_map], (((u6.trans (But.of s7)).trans u8).trans (But.of (new_same hp3))).trans (But.of (new_same hp4)), ((k8.mono (by omega)).up hp3).up hp4⟩
            · rw [rep_len, htl, hlen2]
              omega
            · rw [rep_len, htl, hlen2]
              omega
            · exact hR6.all z (List.mem_of_mem_take (rep_mem hz))
            · rw [rep_len, htl, hlen2]
              exact ek
      · exact ⟨D6, ns6, y5, y6, y7, rfl, hR6, hn6, hH6, hD6, u6, k6.mono (by omega)⟩
      -- if kind == 7
      obtain ⟨D8, ns8, y5, y6, y7, rfl, hR8, hn8, hH8, hD8, u8, k8⟩ := hM
      refine ⟨MidPl t H n k (c + 2 + n + 3), ⟨.int k, rfl, rfl, _, rfl, ite2 (fun _ => ?_) (fun _ => ?_)⟩, fun σ' H9 hM => ?_⟩
      · refine ⟨.ref D8, rfl, 1, rfl, D8, _, rfl, SqL.of hD8, fun p3 hp3 => ?_⟩
        have hcut := cut_take ns8 1 (by omega)
        obtain ⟨m, hm, hat0⟩ := at_in (ns := ns8) (i := 0) (by omega) (by omega)
        have hmb := hR8.all m (List.mem_of_getElem? hm)
        have ht1 : ns8.take (1 : Int).toNat = [m] := by
          cases ns8 with
          | nil => cases hm
          | cons z zs =>
            have : z = m := Option.some.inj hm
            subst this
            rfl
        rw [hcut, ht1]
        refine ⟨.int n, rfl, p3, n, _, rfl, rfl, upd_same, by omega, by omega, (by show 1 * n.toNat ≤ sizeLine; exact sz40' (by omega)), fun p4 hp4 => ?_⟩
        have hHp : H p4 = none := free_but (u8.trans (But.of (new_same hp3))) hoT hp4 (by obtain ⟨o, e⟩ := (k8.up hp3).some; rw [e]; exact fun z => nomatch z)
        refine ⟨p4, List.replicate n.toNat m, _, _, _, rfl, ⟨?_, ?_, fun z hz => ?_⟩, ?_, hHp, by rw [upd_same]; exact congrArg (fun z => some (HO.lst z)) (rep_one m _), (u8.trans (But.of (new_same hp3))).trans (But.of (new_same hp4)), (k8.up hp3).up hp4⟩
        · rw [List.length_replicate]
          omega
        · rw [List.length_replicate]
          omega
        · rw [(List.mem_replicate.mp hz).2]
          exact hmb
        · rw [List.length_replicate]
          exact ek
      · exact ⟨D8, ns8, y5, y6, y7, rfl, hR8, hn8, hH8, hD8, u8, k8⟩
      -- return rim
      obtain ⟨D7, ns7, y5, y6, y7, rfl, hR7, hn7, hH7, hD7, u7, k7⟩ := hM
      exact ⟨.ref D7, rfl, q D7 ns7 H9 hR7 hn7 u7 hH7 hD7 (k7.mono (by omega))⟩

/-! ### _law_slits -/
def Slt (ns : List Int) : Prop := ∀ n ∈ ns, 0 ≤ n ∧ n ≤ 1
def spSlits : Sp := fun vs H Q _ => ∃ (T : Addr) (n c : Int), vs = [.ref T, .int n] ∧ 1 ≤ n ∧ n ≤ 40 ∧ Tank H T c ∧ 0 ≤ c ∧ c < 2 ^ 38 ∧
  ∀ (l : Addr) (ns : List Int) (H' : Hp), Slt ns → (ns.length : Int) = n → But T H H' → H l = none → H' l = some (.lst (ns.map V.int)) → Tank H' T (c + 90) → Q (.ref l) H'
theorem rgV_ints (n : Int) : rgV 0 n = ((List.range n.toNat).map fun (i : Nat) => (i : Int)).map V.int := by
  unfold rgV
  rw [List.map_map, Int.sub_zero]
  exact List.map_congr_left fun i _ => by show V.int (0 + (i : Int)) = V.int (i : Int); rw [Int.zero_add]
theorem seqIx_in {i : Int} {n : Nat} (h0 : 0 ≤ i) (h1 : i < n) : seqIndex? i n = some i.toNat := by
  unfold seqIndex?
  have e : ¬ i < 0 := by omega
  simp only [if_neg e]
  rw [if_pos (by rw [Bool.and_eq_true]; exact ⟨decide_eq_true h0, decide_eq_true h1⟩)]
theorem erase_map : ∀ (ns : List Int) (k : Nat), (ns.map V.int).eraseIdx k = (ns.eraseIdx k).map V.int
  | [], _ => rfl
  | _ :: _, 0 => rfl
  | n :: ns, k + 1 => congrArg (V.int n :: ·) (erase_map ns k)
theorem erase_len {ns : List Int} {i : Nat} (h : i < ns.length) : (ns.eraseIdx i).length = ns.length - 1 := List.length_eraseIdx_of_lt h
def MidSl (t : Addr) (H : Hp) (n k e : Int) : L2.St → Hp → Prop := fun σ' H' => ∃ (D : Addr) (ns : List Int) (y3 y5 y6 : Option V),
  σ' = [some (.ref t), some (.int n), some (.int k), y3, some (.ref D), y5, y6] ∧ Slt ns ∧ (ns.length : Int) = n ∧ H D = none ∧ H' D = some (.lst (ns.map V.int)) ∧ But t H H' ∧ Tank H' t e
theorem ok_law_slits (T : Txt K mg) : FnOk P w K mg base CX0 2 T.a_law_slits T.d_law_slits ["pool", "size"] spSlits := by
  have G_law_draw := ok_law_draw (P := P) (w := w) (base := base) T
  refine T.F_law_slits.ok sc_law_slits (fun vs H Q E h => ?_) (fun cdv A outer s H vs Q E hr h => ?_)
  · obtain ⟨_, _, _, rfl, _⟩ := h
    rfl
  · obtain ⟨t, n, c, rfl, hn1, hn, hT, hc0, hc, q⟩ := h
    refine ⟨_, (pss_cons (ps_par (i := 2) (j := 3) (by rfl) sc_law_slits.nd rfl rfl (by decide) rfl rfl (pa_cons (pe_call G_law_draw hr (by rfl) T.g_law_draw T.F_law_draw.kp T.b_law_draw .nil pass0 (pa_cons (pv 0) (pa_cons pe_int pa_nil))) (pa_cons (pe_listRg rfl (by rfl) T.n_list (prg_1 (by rfl) T.n_range (pv 1))) pa_nil)) (by rfl))
      (pss_cons (ps_setLc (i := 4) (own := [("spot", 5)]) (g := gName 5) (tt := tYes) (by rfl) sc_law_slits.nd rfl rfl (sw_true rfl rfl rfl (by decide +kernel)) (pi_range1 (by rfl) T.n_range (pa_cons (pv 1) pa_nil)) (blkOk_by (own := [("spot", 5)]) (N := ["pool", "size", "kind", "left", "found", "spot", "turn"]) (sc := defScope s_law_slits) (by decide +kernel))
        (fun _ _ _ _ _ => (pg_name (i := 5) sc_law_slits.nd rfl (Or.inl rfl))) (fun _ _ _ _ _ => pts_nil) (fun _ _ _ _ _ => (pe_call G_law_draw hr (by rfl) T.g_law_draw T.F_law_draw.kp T.b_law_draw .nil pass0 (pa_cons (pv 0) (pa_cons pe_int pa_nil)))))
      (pss_mid (ps_if (pt_cmpR op_gt (pv 2) pe_int (nomark _)) (pss_cons (ps_set (i := 4) sc_law_slits.nd rfl (.inl rfl) (pe_op op_rep (pe_lst (pa_cons pe_int pa_nil)) (pv 1)))
      (pss_one (ps_for PassesOwn.never rfl (pi_range1 (by rfl) T.n_range (pa_cons (pe_ix (ixL (K := K) rfl) (pe_lst (pa_cons (pv 1) (pa_cons (pe_op op_fdivW (pv 1) pe_int) (pa_cons (pe_callB (call_min2 rfl) (by rfl) T.n_min (by decide +kernel) (pa_cons pe_int (pa_cons (pv 1) pa_nil))) (pa_cons (pe_op op_sub (pv 1) (pe_callB (call_min2 rfl) (by rfl) T.n_min (by decide +kernel) (pa_cons pe_int (pa_cons (pv 1) pa_nil)))) pa_nil))))) (pv 2) (fun _ _ => rfl)) pa_nil)) (pg_name (i := 6) sc_law_slits.nd rfl (.inl rfl)) (pss_one (ps_asg pe_int (pg_sub (pv 4) (pe_bm PySem.F.plainAttrs_list PySem.F.slot_list_pop PySem.F.type_list_pop mt_popAt (pv 3) (pa_cons (pe_call G_law_draw hr (by rfl) T.g_law_draw T.F_law_draw.kp T.b_law_draw .nil pass0 (pa_cons (pv 0) (pa_cons (pe_callB (lenL (K := K) rfl) (by rfl) T.n_len (by decide +kernel) (pa_cons (pv 3) pa_nil)) pa_nil))) pa_nil)) set_list)))))) pss_nil)
      (pss_one (ps_ret (pv 4)))))), ?_⟩
    obtain ⟨oT, hoT⟩ := hT.some
    -- kind, left
    refine ⟨.ref t, rfl, t, 4, c, rfl, by omega, by omega, hT, by omega, fun k H1 k0 k4 k1 u1 => ?_⟩
    refine ⟨.int n, rfl, n, rfl, RgOk.of_le (by omega) (by omega) (by omega) (by omega), fun L hL => ?_⟩
    have nL : L ≠ t := k1.ne hL
    have hHL : H L = none := free_but u1 hoT hL (by obtain ⟨o, e⟩ := k1.some; rw [e]; exact fun z => nomatch z)
    have u2 : But t H (upd H1 L (.lst (rgV 0 n))) := u1.trans (But.of (new_same hL))
    have k2 : Tank (upd H1 L (.lst (rgV 0 n))) t (c + 1) := k1.up hL
    have gL : (upd H1 L (.lst (rgV 0 n))) L = some (.lst (((List.range n.toNat).map fun (i : Nat) => (i : Int)).map V.int)) := by rw [upd_same, rgV_ints]
    generalize upd H1 L (.lst (rgV 0 n)) = H2 at u2 k2 gL ⊢
    -- found
    refine ⟨_, _, rfl, .int n, rfl, n, rfl, by omega, by omega, fun D hD => ?_⟩
    have hHD : H D = none := free_but u2 hoT hD (by obtain ⟨o, e⟩ := k2.some; rw [e]; exact fun z => nomatch z)
    have nD : D ≠ t := k2.ne hD
    refine lc_range (lo := 0) (n := n.toNat) (fun i H' => But t H2 H' ∧ Tank H' t (c + 1 + i) ∧ ∃ ms : List Int, H' D = some (.lst (ms.map V.int)) ∧ ms.length = i ∧ Slt ms)
      ⟨But.of (new_same hD), (k2.mono (by omega)).up hD, [], upd_same, rfl, fun m hm => (List.not_mem_nil hm).elim⟩ (fun i H4 hi hP => ⟨rfl, ?_⟩) (fun H4 hP => ?_)
    · obtain ⟨u4, k4, ms, hD4, hlen, hall⟩ := hP
      refine ⟨.ref t, rfl, t, 2, c + 1 + i, rfl, by omega, by omega, k4, by omega, fun v H5 v0 v1 k5 u5 => ?_⟩
      have hD5 : H5 D = some (.lst (ms.map V.int)) := u5 _ _ hD4 nD
      refine ⟨_, hD5, by rw [List.length_map]; exact sz40 (by omega), ?_, ?_, ms ++ [v], ?_, by rw [List.length_append]; show ms.length + 1 = i + 1; omega, fun z hz => ?_⟩
      · exact fun b o e ne => by
          rw [upd_ne (ne_of_none e hD)]
          exact (u4.trans u5) b o e ne
      · obtain ⟨x, y, z, e, a1, a2, a3, a4, a5⟩ := k5
        exact ⟨x, y, z, by rw [upd_ne nD.symm]; exact e, a1, a2, a3, a4, by omega⟩
      · rw [upd_same, List.map_append]
        rfl
      · rcases List.mem_append.mp hz with h | h
        · exact hall z h
        · have e := List.mem_singleton.mp h
          subst e
          omega
    · obtain ⟨u4, k4, ms, hD4, hlen, hall⟩ := hP
      have hn2 : (ms.length : Int) = n := by omega
      have ek : ((n.toNat : Nat) : Int) = n := by omega
      rw [ek] at k4
      have gL4 := u4 _ _ gL nL
      have u24 := u2.trans u4
      refine ⟨MidSl t H n k (c + 1 + n + n), ⟨.int k, rfl, k, 0, rfl, rfl, _, rfl, ite2 (fun hk => ?_) (fun _ => ?_)⟩, fun σ' H5 hM => ?_⟩
      · refine ⟨(by show 1 ≤ sizeLine; decide), fun l3 hl3 => ?_⟩
        refine ⟨.int n, rfl, l3, n, _, rfl, rfl, upd_same, by omega, by omega, (by show 1 * n.toNat ≤ sizeLine; exact sz40' (by omega)), fun F hF => ?_⟩
        have k5 : Tank (upd (upd H4 l3 (.lst [.int 0])) F (.lst (List.replicate n.toNat [V.int 0]).flatten)) t (c + 1 + n) := (k4.up hl3).up hF
        have u5 : But t H (upd (upd H4 l3 (.lst [.int 0])) F (.lst (List.replicate n.toNat [V.int 0]).flatten)) := (u24.trans (But.of (new_same hl3))).trans (But.of (new_same hF))
        have hHF : H F = none := free_but (u24.trans (But.of (new_same hl3))) hoT hF (by obtain ⟨o, e⟩ := (k4.up hl3).some; rw [e]; exact fun z => nomatch z)
        have gL5 := new_same (o := .lst (List.replicate n.toNat [V.int 0]).flatten) hF _ _ (new_same (o := .lst [.int 0]) hl3 _ _ gL4)
        have nLF : L ≠ F := fun z => by
          have := new_same (o := .lst [.int 0]) hl3 _ _ gL4
          rw [z, hF] at this
          cases this
        have nF : F ≠ t := (k4.up hl3).ne hF
        have gF : (upd (upd H4 l3 (.lst [.int 0])) F (.lst (List.replicate n.toNat [V.int 0]).flatten)) F = some (.lst ((List.replicate n.toNat (0 : Int)).map V.int)) := by rw [upd_same, rep_one]
        generalize upd (upd H4 l3 (.lst [.int 0])) F (.lst (List.replicate n.toNat [V.int 0]).flatten) = H5 at k5 u5 gL5 gF ⊢
        -- the loop
        refine ⟨.int n, rfl, .int n, rfl, n, 2, rfl, rfl, wide_div (b := 200) (by decide) (by omega) (by decide) (by decide), .int n, rfl, 3, n, rfl, .int n, rfl, .int n, rfl, 2, n, rfl, n, _, rfl, rfl, (by show 4 ≤ sizeLine; decide), fun S hS => ?_⟩
        obtain ⟨N, hN, hat⟩ := at_in (ns := [n, n / 2, if n < 3 then n else 3, n - if n < 2 then n else 2]) k0 (by show k < 4; omega)
        have hN1 : 0 ≤ N ∧ N ≤ n := by
          have := List.mem_of_getElem? hN
          simp only [List.mem_cons, List.not_mem_nil, or_false] at this
          rcases this with h | h | h | h
          · omega
          · omega
          · revert h; split <;> omega
          · revert h; split <;> omega
        have sS := new_same (o := .lst (([n, n / 2, if n < 3 then n else 3, n - if n < 2 then n else 2] : List Int).map V.int)) hS
        refine ⟨.int k, rfl, S, _, k, .int N, rfl, rfl, SqL.of upd_same, hat, N, rfl, by omega, by omega, for_range (lo := 0) (n := N.toNat)
          (fun i σ H' => ∃ (y5 y6 : Option V) (ls ms : List Int), σ = [some (.ref t), some (.int n), some (.int k), some (.ref L), some (.ref F), y5, y6] ∧ But t H H' ∧ Tank H' t (c + 1 + n + i) ∧
            H' L = some (.lst (ls.map V.int)) ∧ ls.length + i = n.toNat ∧ (∀ x ∈ ls, 0 ≤ x ∧ x < n) ∧ H' F = some (.lst (ms.map V.int)) ∧ Slt ms ∧ (ms.length : Int) = n)
          ⟨_, _, _, _, rfl, u5.trans (But.of sS), (k5.mono (by omega)).same sS, sS _ _ gL5, by rw [List.length_map, List.length_range]; omega, fun x hx => ?_, sS _ _ gF, fun z hz => ?_, by rw [List.length_replicate]; omega⟩
          (fun i σ H6 hi hP => ?_) (fun σ H6 hP => ?_)⟩
        · obtain ⟨j, hj, rfl⟩ := List.mem_map.mp hx
          have := List.mem_range.mp hj
          omega
        · rw [(List.mem_replicate.mp hz).2]
          omega
        · obtain ⟨y5, y6, ls, ms6, rfl, u6, k6, gL6, hll, hls, gF6, hS6, hm6⟩ := hP
          refine ⟨.ref F, rfl, .ref L, rfl, .inl ⟨rfl, _, SqL.of gL6⟩, .ref t, rfl, .ref L, rfl, L, _, rfl, .inl (SqL.of gL6), t, _, c + 1 + n + i, rfl, by rw [List.length_map]; omega, by rw [List.length_map]; omega, k6, by omega, fun v H7 v0 v1 k7 u7 => ?_⟩
          rw [List.length_map] at v1
          obtain ⟨x, hx, hatx⟩ := at_in v0 v1
          obtain ⟨x0, x1⟩ := hls x (List.mem_of_getElem? hx)
          have gL7 := u7 _ _ gL6 nL
          have gF7 := u7 _ _ gF6 nF
          refine ⟨L, _, v, v.toNat, .int x, rfl, rfl, gL7, by omega, by omega, seqIx_in v0 (by rw [List.length_map]; exact v1), at_int hx, ?_⟩
          refine ⟨F, _, x, x.toNat, rfl, rfl, by rw [upd_ne nLF.symm]; exact gF7, ixN_in x0 (by rw [List.length_map]; omega), ?_⟩
          refine ⟨_, _, ls.eraseIdx v.toNat, ms6.set x.toNat 1, rfl, ?_, ?_, ?_, ?_, fun z hz => hls z (List.mem_of_mem_eraseIdx hz), ?_, fun z hz => ?_, by rw [List.length_set]; exact hm6⟩
          · exact fun b o e ne => by
              rw [upd_ne (ne_of_none e hHF), upd_ne (ne_of_none e hHL)]
              exact (u6.trans u7) b o e ne
          · obtain ⟨a, b, d, e, a1, a2, a3, a4, a5⟩ := k7
            exact ⟨a, b, d, by rw [upd_ne nF.symm, upd_ne nL.symm]; exact e, a1, a2, a3, a4, by omega⟩
          · rw [upd_ne nLF, upd_same, erase_map]
          · rw [erase_len (by omega)]
            omega
          · rw [upd_same, map_set]
          · rcases List.mem_or_eq_of_mem_set hz with h | h
            · exact hS6 z h
            · omega
        · obtain ⟨y5, y6, ls, ms6, rfl, u6, k6, gL6, hll, hls, gF6, hS6, hm6⟩ := hP
          exact ⟨F, ms6, _, _, _, rfl, hS6, hm6, hHF, gF6, u6, k6.mono (by omega)⟩
      · exact ⟨D, ms, _, _, _, rfl, hall, hn2, hHD, hD4, u24, k4.mono (by omega)⟩
      obtain ⟨D5, ns5, y3, y5, y6, rfl, hS5, hn5, hH5, hD5, u5, k5⟩ := hM
      exact ⟨.ref D5, rfl, q D5 ns5 H5 hS5 hn5 u5 hH5 hD5 (k5.mono (by omega))⟩

/-! ### _law_own, _law_turned, _law_back -/
def spLOwn (K : PySem.W.Frag) : Sp := fun vs H Q _ => ∃ (a : Addr) (ns : List Int), vs = [.ref a] ∧ SqL K H a (ns.map V.int) ∧ Rim ns ∧
  ∀ (l : Addr) (H' : Hp), Same H H' → H l = none → H' l = some (.lst ((lightsV ns ns).map V.int)) → Q (.ref l) H'
theorem ok_law_own (T : Txt K mg) : FnOk P w K mg base CX0 1 T.a_law_own T.d_law_own ["plate"] (spLOwn K) := by
  refine T.F_law_own.ok sc_law_own (fun vs H Q E h => ?_) (fun cdv A outer s H vs Q E hr h => ?_)
  · obtain ⟨_, _, rfl, _⟩ := h
    rfl
  · obtain ⟨a, ns, rfl, hS, hR, q⟩ := h
    refine ⟨_, (pss_cons (ps_asg (pe_tup (pa_cons (pe_callB (lenL (K := K) rfl) (by rfl) T.n_len (by decide +kernel) (pa_cons (pv 0) pa_nil)) (pa_cons (pe_lst pa_nil) pa_nil))) (pg_tupL (K := K) (n := 2) rfl rfl (pgs_cons (pg_name (i := 1) sc_law_own.nd rfl (.inr rfl)) (pgs_cons (pg_name (i := 2) sc_law_own.nd rfl (.inl rfl)) pgs_nil))))
      (pss_cons (ps_for PassesOwn.never rfl (pi_range1 (by rfl) T.n_range (pa_cons (pv 1) pa_nil)) (pg_name (i := 3) sc_law_own.nd rfl (.inr rfl)) (pss_one (ps_expr (pe_bm PySem.F.plainAttrs_list PySem.F.slot_list_append PySem.F.type_list_append mt_append (pv 2) (pa_cons (pe_callB (sumL (K := K) rfl rfl) (by rfl) T.n_sum (by decide +kernel) (pa_cons (pe_lc (own := [("spot", 4)]) (g := gName 4) (tt := tYes) (by rfl) sc_law_own.nd (pi_range1 (by rfl) T.n_range (pa_cons (pv 1) pa_nil)) (blkOk_by (own := [("spot", 4)]) (N := ["plate", "size", "found", "turn", "spot"]) (sc := defScope s_law_own) (by decide +kernel))
        (fun _ _ _ _ _ => (pg_name (i := 4) sc_law_own.nd rfl (Or.inl rfl))) (fun _ _ _ _ _ => pts_nil) (fun _ _ _ _ _ => (pe_op op_mulW (pe_ix (ixL (K := K) rfl) (pv 0) (pv 4) (fun _ _ => rfl)) (pe_ix (ixL (K := K) rfl) (pv 0) (pe_op op_mod (pe_callTy call_int1 (by rfl) T.n_int (by decide +kernel) (pa_cons (pe_op op_sub (pv 4) (pv 3)) pa_nil)) (pv 1)) (fun _ _ => rfl))))) pa_nil)) pa_nil)))))
      (pss_one (ps_ret (pv 2))))), ?_⟩
    have l40 := hR.le
    have l1 := hR.pos
    have hA := hR.ab
    refine ⟨.ref a, rfl, a, _, rfl, .inl hS, (by show 0 ≤ sizeLine; decide), fun F hF => ?_⟩
    rw [List.length_map]
    refine ⟨(by show 2 ≤ sizeLine; decide), fun p hp => ⟨p, _, rfl, SqT.of upd_same, rfl, _, _, rfl, _, _, rfl, rfl, ?_⟩⟩
    have s1 := (new_same (o := .lst []) hF).trans (new_same (o := .tup [.int ns.length, .ref F]) hp)
    have g1 := (new_same (o := .tup [.int ns.length, .ref F]) hp) _ _ (upd_same (H := H) (a := F) (o := .lst []))
    generalize upd (upd H F (.lst [])) p (.tup [.int ns.length, .ref F]) = H1 at s1 g1 ⊢
    refine ⟨.int ns.length, rfl, ns.length, rfl, by omega, by omega, for_range (lo := 0) (n := ((ns.length : Nat) : Int).toNat)
      (fun i σ H' => ∃ y3 y4 : Option V, σ = [some (.ref a), some (.int ns.length), some (.ref F), y3, y4] ∧ Same H H' ∧ H' F = some (.lst (((lightsV ns ns).take i).map V.int))) ⟨_, _, rfl, s1, g1⟩ (fun i σ H2 hi hP => ?_) (fun σ H2 hP => ?_)⟩
    · obtain ⟨y3, y4, rfl, s2, g2⟩ := hP
      rw [Int.toNat_natCast] at hi
      refine ⟨.ref F, rfl, .inl ⟨rfl, _, SqL.of g2⟩, .int ns.length, rfl, ns.length, rfl, by omega, by omega, fun D hD => lc_range (lo := 0) (n := ((ns.length : Nat) : Int).toNat)
        (fun j H' => Same H2 H' ∧ H' D = some (.lst (((prods ns (rot ns (i : Int))).take j).map V.int))) ⟨new_same hD, upd_same⟩ (fun j H3 hj hP => ⟨rfl, ?_⟩) (fun H3 hP => ?_)⟩
      · obtain ⟨s3, hD3⟩ := hP
        rw [Int.toNat_natCast] at hj
        have s23 := s2.trans s3
        have hm := mod_in (i := (0 + (j : Int)) - (0 + (i : Int))) (show 0 < ns.length by omega)
        obtain ⟨x, hx, hatx⟩ := at_in (ns := ns) (i := 0 + (j : Int)) (by omega) (by omega)
        obtain ⟨y, hy, haty⟩ := at_in hm.1 hm.2
        refine ⟨.ref a, rfl, .int (0 + j), rfl, a, _, _, .int x, rfl, rfl, s23.seq hS, hatx, ?_⟩
        refine ⟨.ref a, rfl, .int (0 + j), rfl, .int (0 + i), rfl, 0 + j, 0 + i, rfl, rfl, .inl ⟨_, rfl, .int ns.length, rfl, _, _, rfl, rfl, (by show (0 : Int) < _; omega), ?_⟩⟩
        refine ⟨a, _, _, .int y, rfl, rfl, s23.seq hS, haty, x, y, rfl, rfl, wide_mul (hA.at hx) (hA.at hy) (by decide) (by decide) (by decide), ?_⟩
        refine ⟨_, hD3, ?_, same_over s3 hD, ?_⟩
        · rw [List.length_map, List.length_take]
          exact sz40 (by omega)
        · rw [upd_same, take_next]
          refine prods_at ?_ ?_
          · rw [Int.zero_add, Int.toNat_natCast] at hx
            exact hx
          · rw [rot_at hj]
            rw [show (j : Int) - (i : Int) = (0 + (j : Int)) - (0 + (i : Int)) by omega, getD_at hy]
      · obtain ⟨s3, hD3⟩ := hP
        rw [Int.toNat_natCast, take_all (by rw [prods_len, rot_len]; omega)] at hD3
        have s23 := s2.trans s3
        refine ⟨D, _, rfl, SqL.of hD3, F, _, _, rfl, rfl, s3 _ _ g2, ?_, ?_⟩
        · rw [List.length_map, List.length_take]
          exact sz40 (by omega)
        · refine ⟨_, _, rfl, same_over s23 hF, ?_⟩
          rw [upd_same, take_next]
          rw [lightsV_at hi]
          rfl
    · obtain ⟨y3, y4, rfl, s2, g2⟩ := hP
      rw [Int.toNat_natCast, take_all (by rw [lightsV_len]; exact Nat.le_refl _)] at g2
      exact ⟨.ref F, rfl, q F H2 s2 hF g2⟩
def spLTu (K : PySem.W.Frag) : Sp := fun vs H Q _ => ∃ (a : Addr) (ns : List Int) (t : Int), vs = [.ref a, .int t] ∧ SqL K H a (ns.map V.int) ∧ 1 ≤ ns.length ∧ ns.length ≤ 1000 ∧
  ∀ (l : Addr) (H' : Hp), Same H H' → H l = none → H' l = some (.lst ((rot ns t).map V.int)) → Q (.ref l) H'
theorem ok_law_turned (T : Txt K mg) : FnOk P w K mg base CX0 1 T.a_law_turned T.d_law_turned ["plate", "by"] (spLTu K) := by
  refine T.F_law_turned.ok sc_law_turned (fun vs H Q E h => ?_) (fun cdv A outer s H vs Q E hr h => ?_)
  · obtain ⟨_, _, _, rfl, _⟩ := h
    rfl
  · obtain ⟨a, ns, t, rfl, hS, hn1, hn, q⟩ := h
    refine ⟨_, (pss_cons (ps_set (i := 2) sc_law_turned.nd rfl (.inr rfl) (pe_callB (lenL (K := K) rfl) (by rfl) T.n_len (by decide +kernel) (pa_cons (pv 0) pa_nil)))
      (pss_one (ps_ret (pe_lc (own := [("spot", 3)]) (g := gName 3) (tt := tYes) (by rfl) sc_law_turned.nd (pi_range1 (by rfl) T.n_range (pa_cons (pv 2) pa_nil)) (blkOk_by (own := [("spot", 3)]) (N := ["plate", "by", "size", "spot"]) (sc := defScope s_law_turned) (by decide +kernel))
        (fun _ _ _ _ _ => (pg_name (i := 3) sc_law_turned.nd rfl (Or.inl rfl))) (fun _ _ _ _ _ => pts_nil) (fun _ _ _ _ _ => (pe_ix (ixL (K := K) rfl) (pv 0) (pe_op op_mod (pe_callTy call_int1 (by rfl) T.n_int (by decide +kernel) (pa_cons (pe_op op_sub (pv 3) (pv 1)) pa_nil)) (pv 2)) (fun _ _ => rfl))))))), ?_⟩
    refine ⟨.ref a, rfl, a, _, rfl, .inl hS, ?_⟩
    rw [List.length_map]
    refine ⟨.int ns.length, rfl, ns.length, rfl, by omega, by omega, fun D hD => lc_range (lo := 0) (n := ((ns.length : Nat) : Int).toNat)
      (fun i H' => Same H H' ∧ H' D = some (.lst (((rot ns t).take i).map V.int))) ⟨new_same hD, upd_same⟩ (fun i H1 hi hP => ⟨rfl, ?_⟩) (fun H1 hP => ?_)⟩
    · obtain ⟨s1, hD1⟩ := hP
      rw [Int.toNat_natCast] at hi
      have hm := mod_in (i := (0 + (i : Int)) - t) (show 0 < ns.length by omega)
      obtain ⟨n, hx, hat⟩ := at_in hm.1 hm.2
      refine ⟨.ref a, rfl, .int (0 + i), rfl, .int t, rfl, 0 + i, t, rfl, rfl, .inl ⟨_, rfl, .int ns.length, rfl, _, _, rfl, rfl, (by show (0 : Int) < _; omega), ?_⟩⟩
      refine ⟨a, _, _, .int n, rfl, rfl, s1.seq hS, hat, _, hD1, ?_, ?_, ?_⟩
      · rw [List.length_map, List.length_take]
        exact sz40 (by omega)
      · intro b o e
        rw [upd_ne (ne_of_none e hD)]
        exact s1 b o e
      · rw [upd_same, take_next]
        rw [rot_at hi]
        rw [show (i : Int) - t = 0 + (i : Int) - t by omega, getD_at hx]
    · obtain ⟨s1, hD1⟩ := hP
      rw [Int.toNat_natCast, take_all (by rw [rot_len]; exact Nat.le_refl _)] at hD1
      exact q D H1 s1 hD hD1
def spLBa (K : PySem.W.Frag) : Sp := fun vs H Q _ => ∃ (a : Addr) (ns : List Int), vs = [.ref a] ∧ SqL K H a (ns.map V.int) ∧ 1 ≤ ns.length ∧ ns.length ≤ 1000 ∧
  ∀ (l : Addr) (H' : Hp), Same H H' → H l = none → H' l = some (.lst ((mir ns).map V.int)) → Q (.ref l) H'
theorem ok_law_back (T : Txt K mg) : FnOk P w K mg base CX0 1 T.a_law_back T.d_law_back ["plate"] (spLBa K) := by
  refine T.F_law_back.ok sc_law_back (fun vs H Q E h => ?_) (fun cdv A outer s H vs Q E hr h => ?_)
  · obtain ⟨_, _, rfl, _⟩ := h
    rfl
  · obtain ⟨a, ns, rfl, hS, hn1, hn, q⟩ := h
    refine ⟨_, (pss_cons (ps_set (i := 1) sc_law_back.nd rfl (.inr rfl) (pe_callB (lenL (K := K) rfl) (by rfl) T.n_len (by decide +kernel) (pa_cons (pv 0) pa_nil)))
      (pss_one (ps_ret (pe_lc (own := [("spot", 2)]) (g := gName 2) (tt := tYes) (by rfl) sc_law_back.nd (pi_range1 (by rfl) T.n_range (pa_cons (pv 1) pa_nil)) (blkOk_by (own := [("spot", 2)]) (N := ["plate", "size", "spot"]) (sc := defScope s_law_back) (by decide +kernel))
        (fun _ _ _ _ _ => (pg_name (i := 2) sc_law_back.nd rfl (Or.inl rfl))) (fun _ _ _ _ _ => pts_nil) (fun _ _ _ _ _ => (pe_ix (ixL (K := K) rfl) (pv 0) (pe_op op_mod (pe_callTy call_int1 (by rfl) T.n_int (by decide +kernel) (pa_cons (pe_op op_sub pe_int (pv 2)) pa_nil)) (pv 1)) (fun _ _ => rfl))))))), ?_⟩
    refine ⟨.ref a, rfl, a, _, rfl, .inl hS, ?_⟩
    rw [List.length_map]
    refine ⟨.int ns.length, rfl, ns.length, rfl, by omega, by omega, fun D hD => lc_range (lo := 0) (n := ((ns.length : Nat) : Int).toNat)
      (fun i H' => Same H H' ∧ H' D = some (.lst (((mir ns).take i).map V.int))) ⟨new_same hD, upd_same⟩ (fun i H1 hi hP => ⟨rfl, ?_⟩) (fun H1 hP => ?_)⟩
    · obtain ⟨s1, hD1⟩ := hP
      rw [Int.toNat_natCast] at hi
      have hm := mod_in (i := 0 - (0 + (i : Int))) (show 0 < ns.length by omega)
      obtain ⟨n, hx, hat⟩ := at_in hm.1 hm.2
      refine ⟨.ref a, rfl, .int (0 + i), rfl, 0, 0 + i, rfl, rfl, .inl ⟨_, rfl, .int ns.length, rfl, _, _, rfl, rfl, (by show (0 : Int) < _; omega), ?_⟩⟩
      refine ⟨a, _, _, .int n, rfl, rfl, s1.seq hS, hat, _, hD1, ?_, ?_, ?_⟩
      · rw [List.length_map, List.length_take]
        exact sz40 (by omega)
      · intro b o e
        rw [upd_ne (ne_of_none e hD)]
        exact s1 b o e
      · rw [upd_same, take_next]
        rw [mir_at hi]
        rw [show -(i : Int) = 0 - (0 + (i : Int)) by omega, getD_at hx]
    · obtain ⟨s1, hD1⟩ := hP
      rw [Int.toNat_natCast, take_all (by rw [mir_len]; exact Nat.le_refl _)] at hD1
      exact q D H1 s1 hD hD1

/-! ### _law_form, _law_laid -/
def spLForm (K : PySem.W.Frag) : Sp := fun vs H Q _ => ∃ (a : Addr) (ns : List Int), vs = [.ref a] ∧ SqL K H a (ns.map V.int) ∧ Rim ns ∧
  ∀ (l : Addr) (m : List Int) (H' : Hp), Same H H' → H l = none → H' l = some (.lst (m.map V.int)) → LeastI (bothL ns) m → Q (.ref l) H'
theorem ok_law_form (T : Txt K mg) : FnOk P w K mg base CX0 2 T.a_law_form T.d_law_form ["plate"] (spLForm K) := by
  have G_law_back := ok_law_back (P := P) (w := w) (base := base) T
  have G_law_turned := ok_law_turned (P := P) (w := w) (base := base) T
  refine T.F_law_form.ok sc_law_form (fun vs H Q E h => ?_) (fun cdv A outer s H vs Q E hr h => ?_)
  · obtain ⟨_, _, rfl, _⟩ := h
    rfl
  · obtain ⟨a, ns, rfl, hS, hR, q⟩ := h
    refine ⟨_, (pss_cons (ps_asg (pe_tup (pa_cons (pe_call G_law_back hr (by rfl) T.g_law_back T.F_law_back.kp T.b_law_back .nil pass0 (pa_cons (pv 0) pa_nil)) (pa_cons (pe_callB (lenL (K := K) rfl) (by rfl) T.n_len (by decide +kernel) (pa_cons (pv 0) pa_nil)) pa_nil))) (pg_tupL (K := K) (n := 2) rfl rfl (pgs_cons (pg_name (i := 1) sc_law_form.nd rfl (.inr rfl)) (pgs_cons (pg_name (i := 2) sc_law_form.nd rfl (.inl rfl)) pgs_nil))))
      (pss_one (ps_ret (pe_callB (cr_minI (K := K) rfl rfl hr) (by rfl) T.n_min (by decide +kernel) (pa_cons (pe_op op_cat (pe_lc (own := [("by", 3)]) (g := gName 3) (tt := tYes) (by rfl) sc_law_form.nd (pi_range1 (by rfl) T.n_range (pa_cons (pv 2) pa_nil)) (blkOk_by (own := [("by", 3)]) (N := ["plate", "back", "size", "by"]) (sc := defScope s_law_form) (by decide +kernel))
        (fun _ _ _ _ _ => (pg_name (i := 3) sc_law_form.nd rfl (Or.inl rfl))) (fun _ _ _ _ _ => pts_nil) (fun _ _ _ _ _ => (pe_call G_law_turned hr (by rfl) T.g_law_turned T.F_law_turned.kp T.b_law_turned .nil pass0 (pa_cons (pv 0) (pa_cons (pv 3) pa_nil))))) (pe_lc (own := [("by", 3)]) (g := gName 3) (tt := tYes) (by rfl) sc_law_form.nd (pi_range1 (by rfl) T.n_range (pa_cons (pv 2) pa_nil)) (blkOk_by (own := [("by", 3)]) (N := ["plate", "back", "size", "by"]) (sc := defScope s_law_form) (by decide +kernel))
        (fun _ _ _ _ _ => (pg_name (i := 3) sc_law_form.nd rfl (Or.inl rfl))) (fun _ _ _ _ _ => pts_nil) (fun _ _ _ _ _ => (pe_call G_law_turned hr (by rfl) T.g_law_turned T.F_law_turned.kp T.b_law_turned .nil pass0 (pa_cons (pv 1) (pa_cons (pv 3) pa_nil)))))) pa_nil))))), ?_⟩
    have l40 := hR.le
    have l1 := hR.pos
    have hRm := hR.mir
    have lm := mir_len ns
    refine ⟨.ref a, rfl, a, ns, rfl, hS, l1, by omega, fun B H1 s1 fB eB => ?_⟩
    refine ⟨.ref a, rfl, a, _, rfl, .inl (s1.seq hS), ?_⟩
    rw [List.length_map]
    refine ⟨(by show 2 ≤ sizeLine; decide), fun p hp => ⟨p, _, rfl, SqT.of upd_same, rfl, _, _, rfl, _, _, rfl, rfl, ?_⟩⟩
    have sp := new_same (o := .tup [.ref B, .int ns.length]) hp
    have s2 := s1.trans sp
    have gB := sp _ _ eB
    generalize upd H1 p (.tup [.ref B, .int ns.length]) = H2 at s2 gB ⊢
    clear s1 sp eB
    refine ⟨.int ns.length, rfl, ns.length, rfl, by omega, by omega, fun D1 hD1 => ?_⟩
    refine lc_range (lo := 0) (n := ((ns.length : Nat) : Int).toNat)
      (fun i H' => ∃ vs, Same H2 H' ∧ H' D1 = some (.lst vs) ∧ Rows H2 H' vs ((turnsL ns).take i)) ⟨[], new_same hD1, upd_same, .nil⟩ (fun i H3 hi hP => ⟨rfl, ?_⟩) (fun H3 hP => ?_)
    · obtain ⟨vs, s3, g3, r3⟩ := hP
      rw [Int.toNat_natCast] at hi
      refine ⟨.ref a, rfl, .int (0 + i), rfl, a, ns, 0 + i, rfl, (s2.trans s3).seq hS, l1, by omega, fun l H4 s4 hl hl4 => ?_⟩
      obtain ⟨s5, r5⟩ := rows_step hD1 s3 g3 r3 s4 hl hl4 (turns_at hi)
      exact ⟨vs, s4 _ _ g3, rows_fit r3 (turns_len ns) (by omega), vs ++ [.ref l], s5, upd_same, r5⟩
    · obtain ⟨vs1, s3, g3, r3⟩ := hP
      rw [Int.toNat_natCast, List.take_of_length_le (by rw [turns_len]; exact Nat.le_refl _)] at r3
      have s23 := s2.trans s3
      have gB3 := s3 _ _ gB
      refine ⟨.int ns.length, rfl, ns.length, rfl, by omega, by omega, fun D2 hD2 => ?_⟩
      refine lc_range (lo := 0) (n := ((ns.length : Nat) : Int).toNat)
        (fun i H' => ∃ vs, Same H3 H' ∧ H' D2 = some (.lst vs) ∧ Rows H3 H' vs ((turnsL (mir ns)).take i)) ⟨[], new_same hD2, upd_same, .nil⟩ (fun i H5 hi hP => ⟨rfl, ?_⟩) (fun H5 hP => ?_)
      · obtain ⟨vs, s5, g5, r5⟩ := hP
        rw [Int.toNat_natCast] at hi
        refine ⟨.ref B, rfl, .int (0 + i), rfl, B, mir ns, 0 + i, rfl, s5.seq (SqL.of gB3), by omega, by omega, fun l H6 s6 hl hl6 => ?_⟩
        obtain ⟨s7, r7⟩ := rows_step hD2 s5 g5 r5 s6 hl hl6 (turns_at (by omega))
        exact ⟨vs, s6 _ _ g5, rows_fit r5 (turns_len _) (by omega), vs ++ [.ref l], s7, upd_same, r7⟩
      · obtain ⟨vs2, s5, g5, r5⟩ := hP
        rw [Int.toNat_natCast, List.take_of_length_le (by rw [turns_len]; omega)] at r5
        have w1 := r3.len
        have w2 := r5.len
        rw [turns_len] at w1 w2
        refine ⟨D1, D2, _, _, rfl, rfl, s5 _ _ g3, g5, by exact sz40' (by omega), fun q8 hq8 => ?_⟩
        have s8 := new_same (o := .lst (vs1 ++ vs2)) hq8
        have r8 : Rows H2 (upd H5 q8 (.lst (vs1 ++ vs2))) (vs1 ++ vs2) (bothL ns) := ((r3.up s5).up s8).app ((r5.down s3).up s8)
        refine ⟨q8, vs1 ++ vs2, bothL ns, rfl, SqL.of upd_same, r8.dp, by rw [← r8.len, List.length_append]; omega, fun i v m hv hm hL => ?_⟩
        obtain ⟨l, m', rfl, hm', fl, el⟩ := r8.at hv
        rw [hm] at hm'
        cases hm'
        exact q l m _ ((s23.trans s5).trans s8) (s2.free fl) el hL
theorem slt_ab {ns : List Int} (h : Slt ns) : Ab 1 ns := fun n hn => by
  obtain ⟨h0, h1⟩ := h n hn
  show n.natAbs < 2
  omega
theorem slt_sum : ∀ {ns : List Int}, Slt ns → 0 ≤ ns.sum ∧ ns.sum ≤ ns.length
  | [], _ => by simp
  | x :: l, h => by
    have h1 := h x List.mem_cons_self
    have h2 := slt_sum (ns := l) fun y hy => h y (List.mem_cons_of_mem _ hy)
    rw [List.sum_cons, List.length_cons]
    omega
theorem slt_mul {x y : Int} (hx : 0 ≤ x ∧ x ≤ 1) (hy : 0 ≤ y ∧ y ≤ 1) : 0 ≤ x * y ∧ x * y ≤ 1 := by
  have : x = 0 ∨ x = 1 := by omega
  rcases this with rfl | rfl
  · rw [Int.zero_mul]; omega
  · rw [Int.one_mul]; exact hy
def spLaid (K : PySem.W.Frag) : Sp := fun vs H Q _ => ∃ (a b : Addr) (ns ms : List Int), vs = [.ref a, .ref b] ∧ SqL K H a (ns.map V.int) ∧ SqL K H b (ms.map V.int) ∧ Slt ns ∧ Slt ms ∧ ns.length = ms.length ∧ 1 ≤ ns.length ∧ ns.length ≤ 40 ∧
  ∀ (l : Addr) (rs : List Int) (H' : Hp), Same H H' → H l = none → H' l = some (.lst (rs.map V.int)) → Rim rs → rs.length = ns.length → Q (.ref l) H'
theorem ok_law_laid (T : Txt K mg) : FnOk P w K mg base CX0 1 T.a_law_laid T.d_law_laid ["plate", "second"] (spLaid K) := by
  refine T.F_law_laid.ok sc_law_laid (fun vs H Q E h => ?_) (fun cdv A outer s H vs Q E hr h => ?_)
  · obtain ⟨_, _, _, _, rfl, _⟩ := h
    rfl
  · obtain ⟨a, b, ns, ms, rfl, hS, hS2, hA, hB, hl, l1, l40, q⟩ := h
    refine ⟨_, (pss_cons (ps_asg (pe_tup (pa_cons (pe_callB (lenL (K := K) rfl) (by rfl) T.n_len (by decide +kernel) (pa_cons (pv 0) pa_nil)) (pa_cons (pe_lst pa_nil) pa_nil))) (pg_tupL (K := K) (n := 2) rfl rfl (pgs_cons (pg_name (i := 2) sc_law_laid.nd rfl (.inr rfl)) (pgs_cons (pg_name (i := 3) sc_law_laid.nd rfl (.inl rfl)) pgs_nil))))
      (pss_cons (ps_for PassesOwn.never rfl (pi_range1 (by rfl) T.n_range (pa_cons (pv 2) pa_nil)) (pg_name (i := 4) sc_law_laid.nd rfl (.inr rfl)) (pss_one (ps_expr (pe_bm PySem.F.plainAttrs_list PySem.F.slot_list_append PySem.F.type_list_append mt_append (pv 3) (pa_cons (pe_callB (sumL (K := K) rfl rfl) (by rfl) T.n_sum (by decide +kernel) (pa_cons (pe_lc (own := [("spot", 5)]) (g := gName 5) (tt := tYes) (by rfl) sc_law_laid.nd (pi_range1 (by rfl) T.n_range (pa_cons (pv 2) pa_nil)) (blkOk_by (own := [("spot", 5)]) (N := ["plate", "second", "size", "found", "goal", "spot"]) (sc := defScope s_law_laid) (by decide +kernel))
        (fun _ _ _ _ _ => (pg_name (i := 5) sc_law_laid.nd rfl (Or.inl rfl))) (fun _ _ _ _ _ => pts_nil) (fun _ _ _ _ _ => (pe_op op_mulW (pe_ix (ixL (K := K) rfl) (pv 0) (pv 5) (fun _ _ => rfl)) (pe_ix (ixL (K := K) rfl) (pv 1) (pe_op op_mod (pe_callTy call_int1 (by rfl) T.n_int (by decide +kernel) (pa_cons (pe_op op_sub (pv 4) (pv 5)) pa_nil)) (pv 2)) (fun _ _ => rfl))))) pa_nil)) pa_nil)))))
      (pss_one (ps_ret (pv 3))))), ?_⟩
    refine ⟨.ref a, rfl, a, _, rfl, .inl hS, (by show 0 ≤ sizeLine; decide), fun F hF => ?_⟩
    rw [List.length_map]
    refine ⟨(by show 2 ≤ sizeLine; decide), fun p hp => ⟨p, _, rfl, SqT.of upd_same, rfl, _, _, rfl, _, _, rfl, rfl, ?_⟩⟩
    have s1 := (new_same (o := .lst []) hF).trans (new_same (o := .tup [.int ns.length, .ref F]) hp)
    have g1 := (new_same (o := .tup [.int ns.length, .ref F]) hp) _ _ (upd_same (H := H) (a := F) (o := .lst []))
    generalize upd (upd H F (.lst [])) p (.tup [.int ns.length, .ref F]) = H1 at s1 g1 ⊢
    refine ⟨.int ns.length, rfl, ns.length, rfl, by omega, by omega, for_range (lo := 0) (n := ((ns.length : Nat) : Int).toNat)
      (fun i σ H' => ∃ (y3 y4 : Option V) (rs : List Int), σ = [some (.ref a), some (.ref b), some (.int ns.length), some (.ref F), y3, y4] ∧ Same H H' ∧ H' F = some (.lst (rs.map V.int)) ∧ rs.length = i ∧ ∀ r ∈ rs, 0 ≤ r ∧ r ≤ 40) ⟨_, _, [], rfl, s1, g1, rfl, fun r hr => (List.not_mem_nil hr).elim⟩ (fun i σ H2 hi hP => ?_) (fun σ H2 hP => ?_)⟩
    · obtain ⟨y3, y4, rs, rfl, s2, g2, hrl, hrs⟩ := hP
      rw [Int.toNat_natCast] at hi
      refine ⟨.ref F, rfl, .inl ⟨rfl, _, SqL.of g2⟩, .int ns.length, rfl, ns.length, rfl, by omega, by omega, fun D hD => lc_range (lo := 0) (n := ((ns.length : Nat) : Int).toNat)
        (fun j H' => ∃ qs : List Int, Same H2 H' ∧ H' D = some (.lst (qs.map V.int)) ∧ qs.length = j ∧ Slt qs) ⟨[], new_same hD, upd_same, rfl, fun r hr => (List.not_mem_nil hr).elim⟩ (fun j H3 hj hP => ⟨rfl, ?_⟩) (fun H3 hP => ?_)⟩
      · obtain ⟨qs, s3, hD3, hql, hqs⟩ := hP
        rw [Int.toNat_natCast] at hj
        have s23 := s2.trans s3
        have hm := mod_in (i := (0 + (i : Int)) - (0 + (j : Int))) (show 0 < ns.length by omega)
        obtain ⟨x, hx, hatx⟩ := at_in (ns := ns) (i := 0 + (j : Int)) (by omega) (by omega)
        obtain ⟨y, hy, haty⟩ := at_in (ns := ms) hm.1 (by omega)
        have bx := hA x (List.mem_of_getElem? hx)
        have by' := hB y (List.mem_of_getElem? hy)
        refine ⟨.ref a, rfl, .int (0 + j), rfl, a, _, _, .int x, rfl, rfl, s23.seq hS, hatx, ?_⟩
        refine ⟨.ref b, rfl, .int (0 + i), rfl, .int (0 + j), rfl, 0 + i, 0 + j, rfl, rfl, .inl ⟨_, rfl, .int ns.length, rfl, _, _, rfl, rfl, (by show (0 : Int) < _; omega), ?_⟩⟩
        refine ⟨b, _, _, .int y, rfl, rfl, s23.seq hS2, haty, x, y, rfl, rfl, wide_mul (slt_ab hA x (List.mem_of_getElem? hx)) (slt_ab hB y (List.mem_of_getElem? hy)) (by decide) (by decide) (by decide), ?_⟩
        refine ⟨_, hD3, by rw [List.length_map]; exact sz40 (by omega), qs ++ [x * y], same_over s3 hD, by rw [upd_same, List.map_append]; rfl, by rw [List.length_append]; show qs.length + 1 = j + 1; omega, fun z hz => ?_⟩
        rcases List.mem_append.mp hz with h | h
        · exact hqs z h
        · rw [List.mem_singleton.mp h]
          exact slt_mul bx by'
      · obtain ⟨qs, s3, hD3, hql, hqs⟩ := hP
        rw [Int.toNat_natCast] at hql
        have s23 := s2.trans s3
        have hsum := slt_sum hqs
        refine ⟨D, _, rfl, SqL.of hD3, F, _, _, rfl, rfl, s3 _ _ g2, by rw [List.length_map]; exact sz40 (by omega), ?_⟩
        refine ⟨_, _, rs ++ [qs.sum], rfl, same_over s23 hF, by rw [upd_same, List.map_append]; rfl, by rw [List.length_append]; show rs.length + 1 = i + 1; omega, fun z hz => ?_⟩
        rcases List.mem_append.mp hz with h | h
        · exact hrs z h
        · rw [List.mem_singleton.mp h]
          omega
    · obtain ⟨y3, y4, rs, rfl, s2, g2, hrl, hrs⟩ := hP
      rw [Int.toNat_natCast] at hrl
      exact ⟨.ref F, rfl, q F rs H2 s2 hF g2 ⟨by omega, by omega, fun n hn => by have := hrs n hn; omega⟩ hrl⟩

def spLTurned (K : PySem.W.Frag) : Sp := fun vs H Q _ => ∃ (a : Addr) (ns : List Int) (t : Int), vs = [.ref a, .int t] ∧ SqL K H a (ns.map V.int) ∧ 1 ≤ ns.length ∧ ns.length ≤ 1000 ∧
  ∀ (l : Addr) (H' : Hp), Same H H' → H l = none → H' l = some (.lst ((rot ns t).map V.int)) → Q (.ref l) H'
def spLMirrored (K : PySem.W.Frag) : Sp := fun vs H Q _ => ∃ (a : Addr) (ns : List Int), vs = [.ref a] ∧ SqL K H a (ns.map V.int) ∧ 1 ≤ ns.length ∧ ns.length ≤ 1000 ∧
  ∀ (l : Addr) (H' : Hp), Same H H' → H l = none → H' l = some (.lst ((mir ns).map V.int)) → Q (.ref l) H'

/-! ### slitdiscs.around -/
def spTurnedList (K : PySem.W.Frag) : Sp := spLTurned K
theorem ok_turned_list (T : Txt K mg) : FnOk P w K mg base CX0 1 T.a_turned_list T.d_turned_list ["items", "turn"] (spTurnedList K) := by
  refine T.F_turned_list.ok sc_turned_list (fun vs H Q E h => ?_) (fun cdv A outer s H vs Q E hr h => ?_)
  · obtain ⟨_, _, _, rfl, _⟩ := h
    rfl
  · obtain ⟨a, ns, t, rfl, hS, hn1, hn, q⟩ := h
    refine ⟨_, (pss_cons (ps_set (i := 2) sc_turned_list.nd rfl (.inr rfl) (pe_callB (lenL (K := K) rfl) (by rfl) T.n_len (by decide +kernel) (pa_cons (pv 0) pa_nil)))
      (pss_one (ps_ret (pe_lc (own := [("slot", 3)]) (g := gName 3) (tt := tYes) (by rfl) sc_turned_list.nd (pi_range1 (by rfl) T.n_range (pa_cons (pv 2) pa_nil)) (blkOk_by (own := [("slot", 3)]) (N := ["items", "turn", "size", "slot"]) (sc := defScope s_turned_list) (by decide +kernel))
        (fun _ _ _ _ _ => (pg_name (i := 3) sc_turned_list.nd rfl (Or.inl rfl))) (fun _ _ _ _ _ => pts_nil) (fun _ _ _ _ _ => (pe_ix (ixL (K := K) rfl) (pv 0) (pe_op op_mod (pe_op op_sub (pv 3) (pv 1)) (pv 2)) (fun _ _ => rfl))))))), ?_⟩
    refine ⟨.ref a, rfl, a, _, rfl, .inl hS, ?_⟩
    rw [List.length_map]
    refine ⟨.int ns.length, rfl, ns.length, rfl, by omega, by omega, fun D hD => lc_range (lo := 0) (n := ((ns.length : Nat) : Int).toNat)
      (fun i H' => Same H H' ∧ H' D = some (.lst (((rot ns t).take i).map V.int))) ⟨new_same hD, upd_same⟩ (fun i H1 hi hP => ⟨rfl, ?_⟩) (fun H1 hP => ?_)⟩
    · obtain ⟨s1, hD1⟩ := hP
      rw [Int.toNat_natCast] at hi
      have hm := mod_in (i := (0 + (i : Int)) - t) (show 0 < ns.length by omega)
      obtain ⟨n, hx, hat⟩ := at_in hm.1 hm.2
      refine ⟨.ref a, rfl, .int (0 + i), rfl, .int t, rfl, 0 + i, t, rfl, rfl, .int ns.length, rfl, _, _, rfl, rfl, (by show (0 : Int) < _; omega), ?_⟩
      refine ⟨a, _, _, .int n, rfl, rfl, s1.seq hS, hat, _, hD1, ?_, ?_, ?_⟩
      · rw [List.length_map, List.length_take]
        exact sz40 (by omega)
      · intro b o e
        rw [upd_ne (ne_of_none e hD)]
        exact s1 b o e
      · rw [upd_same, take_next]
        rw [rot_at hi]
        rw [show (i : Int) - t = 0 + (i : Int) - t by omega, getD_at hx]
    · obtain ⟨s1, hD1⟩ := hP
      rw [Int.toNat_natCast, take_all (by rw [rot_len]; exact Nat.le_refl _)] at hD1
      exact q D H1 s1 hD hD1

def spMirroredList (K : PySem.W.Frag) : Sp := spLMirrored K
theorem ok_mirrored_list (T : Txt K mg) : FnOk P w K mg base CX0 1 T.a_mirrored_list T.d_mirrored_list ["items"] (spMirroredList K) := by
  refine T.F_mirrored_list.ok sc_mirrored_list (fun vs H Q E h => ?_) (fun cdv A outer s H vs Q E hr h => ?_)
  · obtain ⟨_, _, rfl, _⟩ := h
    rfl
  · obtain ⟨a, ns, rfl, hS, hn1, hn, q⟩ := h
    refine ⟨_, (pss_cons (ps_set (i := 1) sc_mirrored_list.nd rfl (.inr rfl) (pe_callB (lenL (K := K) rfl) (by rfl) T.n_len (by decide +kernel) (pa_cons (pv 0) pa_nil)))
      (pss_one (ps_ret (pe_lc (own := [("slot", 2)]) (g := gName 2) (tt := tYes) (by rfl) sc_mirrored_list.nd (pi_range1 (by rfl) T.n_range (pa_cons (pv 1) pa_nil)) (blkOk_by (own := [("slot", 2)]) (N := ["items", "size", "slot"]) (sc := defScope s_mirrored_list) (by decide +kernel))
        (fun _ _ _ _ _ => (pg_name (i := 2) sc_mirrored_list.nd rfl (Or.inl rfl))) (fun _ _ _ _ _ => pts_nil) (fun _ _ _ _ _ => (pe_ix (ixL (K := K) rfl) (pv 0) (pe_op op_mod (pe_un un_neg (pv 2)) (pv 1)) (fun _ _ => rfl))))))), ?_⟩
    refine ⟨.ref a, rfl, a, _, rfl, .inl hS, ?_⟩
    rw [List.length_map]
    refine ⟨.int ns.length, rfl, ns.length, rfl, by omega, by omega, fun D hD => lc_range (lo := 0) (n := ((ns.length : Nat) : Int).toNat)
      (fun i H' => Same H H' ∧ H' D = some (.lst (((mir ns).take i).map V.int))) ⟨new_same hD, upd_same⟩ (fun i H1 hi hP => ⟨rfl, ?_⟩) (fun H1 hP => ?_)⟩
    · obtain ⟨s1, hD1⟩ := hP
      rw [Int.toNat_natCast] at hi
      have hm := mod_in (i := -(0 + (i : Int))) (show 0 < ns.length by omega)
      obtain ⟨n, hx, hat⟩ := at_in hm.1 hm.2
      refine ⟨.ref a, rfl, .int (0 + i), rfl, 0 + i, rfl, .int ns.length, rfl, _, _, rfl, rfl, (by show (0 : Int) < _; omega), ?_⟩
      refine ⟨a, _, _, .int n, rfl, rfl, s1.seq hS, hat, _, hD1, ?_, ?_, ?_⟩
      · rw [List.length_map, List.length_take]
        exact sz40 (by omega)
      · intro b o e
        rw [upd_ne (ne_of_none e hD)]
        exact s1 b o e
      · rw [upd_same, take_next]
        rw [mir_at hi]
        rw [show -(i : Int) = -(0 + (i : Int)) by omega, getD_at hx]
    · obtain ⟨s1, hD1⟩ := hP
      rw [Int.toNat_natCast, take_all (by rw [mir_len]; exact Nat.le_refl _)] at hD1
      exact q D H1 s1 hD hD1

/-! ### slitdiscs.checks, over rims -/
def spIsInt : Sp := fun vs H Q _ => ∃ n : Int, vs = [.int n] ∧ Q (.bl true) H
theorem ok_is_integer (T : Txt K mg) : FnOk P w K mg base CX0 1 T.a_is_integer T.d_is_integer ["value"] spIsInt := by
  refine T.F_is_integer.ok sc_is_integer (fun vs H Q E h => ?_) (fun cdv A outer s H vs Q E hr h => ?_)
  · obtain ⟨_, rfl, _⟩ := h
    rfl
  · obtain ⟨n, rfl, q⟩ := h
    refine ⟨_, (pss_one (ps_ret (pe_and (pe_callB (isiL (K := K) rfl) (by rfl) T.n_isinstance (by decide +kernel) (pa_cons (pv 0) (pa_cons (pe_bltn (v := .ty "int") (u := Value.type "int") rfl T.n_int (by decide +kernel) rfl) pa_nil))) (pe_one (pe_not (pe_callB (isiL (K := K) rfl) (by rfl) T.n_isinstance (by decide +kernel) (pa_cons (pv 0) (pa_cons (pe_bltn (v := .ty "bool") (u := Value.type "bool") rfl T.n_bool (by decide +kernel) rfl) pa_nil)))))))), ?_⟩
    refine ⟨.int n, rfl, .int n, .ty "int", _, _, true, rfl, .ty _, .base (.int n), kit_int_int, true, rfl, iteT ?_⟩
    exact ⟨.int n, rfl, .int n, .ty "bool", _, _, false, rfl, .ty _, .base (.int n), kit_int_bool, false, rfl, q⟩
def spHasSlots (K : PySem.W.Frag) : Sp := fun vs H Q _ => ∃ (a : Addr) (xs : List V), vs = [.ref a] ∧ SqL K H a xs ∧ 1 ≤ xs.length ∧ xs.length ≤ 40 ∧ Q (.bl true) H
theorem ok_has_slots (T : Txt K mg) : FnOk P w K mg base CX0 1 T.a_has_slots T.d_has_slots ["value"] (spHasSlots K) := by
  refine T.F_has_slots.ok sc_has_slots (fun vs H Q E h => ?_) (fun cdv A outer s H vs Q E hr h => ?_)
  · obtain ⟨_, _, rfl, _⟩ := h
    rfl
  · obtain ⟨a, xs, rfl, hS, h1, h40, q⟩ := h
    refine ⟨_, (pss_one (ps_ret (pe_and (pe_callB (isiL (K := K) rfl) (by rfl) T.n_isinstance (by decide +kernel) (pa_cons (pv 0) (pa_cons (pe_bltn (v := .ty "list") (u := Value.type "list") rfl T.n_list (by decide +kernel) rfl) pa_nil))) (pe_one (pe_chain op_le op_le pe_int (pe_callB (lenL (K := K) rfl) (by rfl) T.n_len (by decide +kernel) (pa_cons (pv 0) pa_nil)) (pe_glob (v := .int (40)) rfl T.g_MOST_SLOTS ⟨_, rfl⟩)))))), ?_⟩
    refine ⟨.ref a, rfl, .ref a, .ty "list", _, _, true, rfl, .ty _, tyx_list hS, kit_list_list, true, rfl, iteT ?_⟩
    refine ⟨.ref a, rfl, a, _, rfl, .inl hS, 1, _, rfl, rfl, _, rfl, ?_⟩
    rw [if_pos (decide_eq_true (by omega))]
    refine ⟨_, 40, rfl, rfl, ?_⟩
    show Q (.bl (decide ((xs.length : Int) ≤ 40))) H
    rw [decide_eq_true (show (xs.length : Int) ≤ 40 by omega)]
    exact q
def spWrongLight (K : PySem.W.Frag) : Sp := fun vs H Q _ => ∃ (a : Addr) (ns : List Int) (m : Int), vs = [.ref a, .int m] ∧ SqL K H a (ns.map V.int) ∧ (∀ n ∈ ns, 0 ≤ n ∧ n ≤ m) ∧ ∀ H', Same H H' → Q .non H'
theorem ok_wrong_light (T : Txt K mg) : FnOk P w K mg base CX0 2 T.a_wrong_light T.d_wrong_light ["items", "most"] (spWrongLight K) := by
  have G_is_integer := ok_is_integer (P := P) (w := w) (base := base) T
  refine T.F_wrong_light.ok sc_wrong_light (fun vs H Q E h => ?_) (fun cdv A outer s H vs Q E hr h => ?_)
  · obtain ⟨_, _, _, rfl, _⟩ := h
    rfl
  · obtain ⟨a, ns, m, rfl, hS, hR, q⟩ := h
    refine ⟨_, (pss_cons (ps_for PassesOwn.never rfl (enumL (K := K) rfl (by rfl) T.n_enumerate (pa_cons (pv 0) pa_nil)) (pg_tupL (K := K) (n := 2) rfl rfl (pgs_cons (pg_name (i := 2) sc_wrong_light.nd rfl (.inl rfl)) (pgs_cons (pg_name (i := 3) sc_wrong_light.nd rfl (.inl rfl)) pgs_nil))) (pss_one (ps_if (PW.pt (pw_or (pt_not (pt_val (pe_call G_is_integer hr (by rfl) T.g_is_integer T.F_is_integer.kp T.b_is_integer .nil pass0 (pa_cons (pv 3) pa_nil)))) (pw_or1 (pt_not (pt_chain op_le op_le pe_int (pv 3) (pv 1)))))) (pss_one (ps_ret (pv 2))) pss_nil)))
      (pss_one (ps_ret pe_non))), ?_⟩
    refine ⟨.ref a, rfl, a, _, rfl, hS, for_it (walk_enum (K := K) (xs := ns.map V.int)) (fun i σ H' => ∃ y1 y2 : Option V, σ = [some (.ref a), some (.int m), y1, y2] ∧ Same H H')
      ⟨none, none, rfl, Same.refl H⟩ (fun i σ H' _ ⟨_, _, _, s2⟩ => s2.seq hS) (fun i x σ H1 H2 hi hP hY => ?_) (fun σ H1 hP => ?_)⟩
    · obtain ⟨y1, y2, rfl, s1⟩ := hP
      obtain ⟨p, z1, z2, rfl, hp, rfl, e1, e2⟩ := hY
      obtain ⟨n, hn, rfl⟩ := int_at e2
      have hb := hR n (List.mem_of_getElem? hn)
      refine ⟨p, _, rfl, SqT.of upd_same, rfl, _, _, rfl, _, _, rfl, rfl, ?_⟩
      refine ⟨.int n, rfl, n, rfl, true, rfl, iteF ?_⟩
      refine ⟨.int n, rfl, 0, n, rfl, rfl, _, rfl, ?_⟩
      rw [if_pos (decide_eq_true hb.1)]
      refine ⟨.int m, rfl, n, m, rfl, rfl, _, rfl, iteNS hb.2 ?_⟩
      exact ⟨_, _, rfl, s1.trans (new_same hp)⟩
    · obtain ⟨y1, y2, rfl, s1⟩ := hP
      exact q H1 s1
def spWrongSlot (K : PySem.W.Frag) : Sp := fun vs H Q _ => ∃ (a : Addr) (ns : List Int), vs = [.ref a] ∧ SqL K H a (ns.map V.int) ∧ Rim ns ∧ ∀ H', Same H H' → Q .non H'
theorem ok_wrong_slot (T : Txt K mg) : FnOk P w K mg base CX0 3 T.a_wrong_slot T.d_wrong_slot ["items"] (spWrongSlot K) := by
  have G_wrong_light := ok_wrong_light (P := P) (w := w) (base := base) T
  refine T.F_wrong_slot.ok sc_wrong_slot (fun vs H Q E h => ?_) (fun cdv A outer s H vs Q E hr h => ?_)
  · obtain ⟨_, _, rfl, _⟩ := h
    rfl
  · obtain ⟨a, ns, rfl, hS, hR, q⟩ := h
    refine ⟨_, (pss_one (ps_ret (pe_call G_wrong_light hr (by rfl) T.g_wrong_light T.F_wrong_light.kp T.b_wrong_light .nil pass0 (pa_cons (pv 0) (pa_cons (pe_glob (v := .int (1000000000000000000000000000000)) rfl T.g_MOST_LIGHT ⟨_, rfl⟩) pa_nil))))), ?_⟩
    exact ⟨.ref a, rfl, a, ns, _, rfl, hS, hR.all, q⟩
def spCheckDisc (K : PySem.W.Frag) : Sp := spWrongSlot K
theorem ok_check_disc (T : Txt K mg) : FnOk P w K mg base CX0 4 T.a_check_disc T.d_check_disc ["disc"] (spCheckDisc K) := by
  have G_has_slots := ok_has_slots (P := P) (w := w) (base := base) T
  have G_wrong_slot := ok_wrong_slot (P := P) (w := w) (base := base) T
  refine T.F_check_disc.ok sc_check_disc (fun vs H Q E h => ?_) (fun cdv A outer s H vs Q E hr h => ?_)
  · obtain ⟨_, _, rfl, _⟩ := h
    rfl
  · obtain ⟨a, ns, rfl, hS, hR, q⟩ := h
    refine ⟨_, (pss_cons (ps_if (pt_not (pt_val (pe_call G_has_slots (hr.mono (by decide)) (by rfl) T.g_has_slots T.F_has_slots.kp T.b_has_slots .nil pass0 (pa_cons (pv 0) pa_nil)))) (pss_one ps_never) pss_nil)
      (pss_cons (ps_set (i := 1) sc_check_disc.nd rfl (.inl rfl) (pe_call G_wrong_slot hr (by rfl) T.g_wrong_slot T.F_wrong_slot.kp T.b_wrong_slot .nil pass0 (pa_cons (pv 0) pa_nil)))
      (pss_one (ps_if (pt_cmpR op_notN (pv 1) pe_non (nomark _)) (pss_one ps_never) pss_nil)))), ?_⟩
    refine ⟨.ref a, rfl, a, _, rfl, hS, by rw [List.length_map]; exact hR.pos, by rw [List.length_map]; exact hR.le, true, rfl, iteF ?_⟩
    refine ⟨.ref a, rfl, a, ns, rfl, hS, hR, fun H1 s1 => ?_⟩
    refine ⟨.non, rfl, rfl, _, rfl, iteNS rfl ?_⟩
    exact q H1 s1

def spCheckDiscs (K : PySem.W.Frag) : Sp := fun vs H Q _ => ∃ (a b : Addr) (ns ms : List Int), vs = [.ref a, .ref b] ∧ SqL K H a (ns.map V.int) ∧ SqL K H b (ms.map V.int) ∧ Rim ns ∧ Rim ms ∧ ns.length = ms.length ∧ ∀ H', Same H H' → Q .non H'
theorem ok_check_discs (T : Txt K mg) : FnOk P w K mg base CX0 5 T.a_check_discs T.d_check_discs ["disc", "other"] (spCheckDiscs K) := by
  have G_check_disc := ok_check_disc (P := P) (w := w) (base := base) T
  refine T.F_check_discs.ok sc_check_discs (fun vs H Q E h => ?_) (fun cdv A outer s H vs Q E hr h => ?_)
  · obtain ⟨_, _, _, _, rfl, _⟩ := h
    rfl
  · obtain ⟨a, b, ns, ms, rfl, hS, hS2, hR, hR2, hl, q⟩ := h
    refine ⟨_, (pss_cons (ps_expr (pe_call G_check_disc hr (by rfl) T.g_check_disc T.F_check_disc.kp T.b_check_disc .nil pass0 (pa_cons (pv 0) pa_nil)))
      (pss_cons (ps_expr (pe_call G_check_disc hr (by rfl) T.g_check_disc T.F_check_disc.kp T.b_check_disc .nil pass0 (pa_cons (pv 1) pa_nil)))
      (pss_one (ps_if (pt_cmpR op_ne (pe_callB (lenL (K := K) rfl) (by rfl) T.n_len (by decide +kernel) (pa_cons (pv 1) pa_nil)) (pe_callB (lenL (K := K) rfl) (by rfl) T.n_len (by decide +kernel) (pa_cons (pv 0) pa_nil)) (nomark _)) (pss_one ps_never) pss_nil)))), ?_⟩
    refine ⟨.ref a, rfl, a, ns, rfl, hS, hR, fun H1 s1 => ?_⟩
    refine ⟨.ref b, rfl, b, ms, rfl, s1.seq hS2, hR2, fun H2 s2 => ?_⟩
    refine ⟨.ref b, rfl, b, _, rfl, .inl ((s1.trans s2).seq hS2), .ref a, rfl, a, _, rfl, .inl ((s1.trans s2).seq hS), rfl, _, rfl, iteNS ?_ ?_⟩
    · rw [List.length_map, List.length_map, hl]
    · exact q H2 (s1.trans s2)

/-! ### lights -/
def spLight (K : PySem.W.Frag) : Sp := fun vs H Q _ => ∃ (a b : Addr) (ns ms : List Int) (t : Int), vs = [.ref a, .ref b, .int t] ∧ SqL K H a (ns.map V.int) ∧ SqL K H b (ms.map V.int) ∧
  ns.length = ms.length ∧ 1 ≤ ns.length ∧ ns.length ≤ 40 ∧ Ab 100 ns ∧ Ab 400 ms ∧ ∀ H', Same H H' → Q (.int (lightV ns ms t)) H'
theorem ok_light_between (T : Txt K mg) : FnOk P w K mg base CX0 2 T.a_light_between T.d_light_between ["disc", "row", "turn"] (spLight K) := by
  have G_turned_list := ok_turned_list (P := P) (w := w) (base := base) T
  refine T.F_light_between.ok sc_light_between (fun vs H Q E h => ?_) (fun cdv A outer s H vs Q E hr h => ?_)
  · obtain ⟨_, _, _, _, _, rfl, _⟩ := h
    rfl
  · obtain ⟨a, b, ns, ms, t, rfl, hS, hS2, hl, h1, h40, hA, hB, q⟩ := h
    refine ⟨_, (pss_one (ps_ret (pe_callB (sumL (K := K) rfl rfl) (by rfl) T.n_sum (by decide +kernel) (pa_cons (pe_lc (own := [("under", 3), ("over", 4)]) (tt := tYes) (by rfl) sc_light_between.nd (zipL (K := K) rfl (by rfl) T.n_zip (pa_cons (pv 0) (pa_cons (pe_call G_turned_list hr (by rfl) T.g_turned_list T.F_turned_list.kp T.b_turned_list .nil pass0 (pa_cons (pv 1) (pa_cons (pv 2) pa_nil))) pa_nil))) (blkOk_by (own := [("under", 3), ("over", 4)]) (N := ["disc", "row", "turn", "under", "over"]) (sc := defScope s_light_between) (by decide +kernel))
        (fun _ _ _ _ _ => (pg_tupL (K := K) (n := 2) rfl rfl (pgs_cons (pg_name (i := 3) sc_light_between.nd rfl (.inl rfl)) (pgs_cons (pg_name (i := 4) sc_light_between.nd rfl (.inl rfl)) pgs_nil)))) (fun _ _ _ _ _ => pts_nil) (fun _ _ _ _ _ => (pe_op op_mulW (pv 3) (pv 4)))) pa_nil)))), ?_⟩
    refine ⟨.ref a, rfl, .ref b, rfl, .int t, rfl, b, ms, t, rfl, hS2, by omega, by omega, fun l H1 s1 hl0 hl1 => ?_⟩
    refine ⟨a, l, _, _, rfl, s1.seq hS, SqL.of hl1, fun D hD => ?_⟩
    refine lc_it (walk_zip (K := K) (a := a) (b := l) (xs := ns.map V.int) (ys := (rot ms t).map V.int) (n := ns.length) (by rw [List.length_map, List.length_map, rot_len]; omega))
      (fun i H' => Same H1 H' ∧ H' D = some (.lst (((prods ns (rot ms t)).take i).map V.int))) ⟨new_same hD, upd_same⟩ (fun i H' _ hP => ⟨hP.1.seq (s1.seq hS), hP.1.seq (SqL.of hl1)⟩) (fun i x H2 H3 hi hP hY => ?_) (fun H2 hP => ?_)
    · obtain ⟨s2, hD2⟩ := hP
      obtain ⟨p, z1, z2, rfl, hp, rfl, e1, e2⟩ := hY
      obtain ⟨x, hx, rfl⟩ := int_at e1
      obtain ⟨y, hy, rfl⟩ := int_at e2
      refine ⟨p, _, rfl, SqT.of upd_same, rfl, _, _, rfl, _, _, rfl, rfl, rfl, ?_⟩
      refine ⟨.int x, rfl, .int y, rfl, x, y, rfl, rfl, wide_mul (hA.at hx) ((hB.rot t).at hy) (by decide) (by decide) (by decide), ?_⟩
      have s3 := s2.trans (new_same (o := .tup [.int x, .int y]) hp)
      refine ⟨_, (new_same hp) _ _ hD2, ?_, same_over s3 hD, ?_⟩
      · rw [List.length_map, List.length_take]
        exact sz40 (by omega)
      · rw [upd_same, take_next (prods_at hx hy)]
    · obtain ⟨s2, hD2⟩ := hP
      rw [take_all (by rw [prods_len, rot_len]; omega)] at hD2
      exact ⟨D, _, rfl, SqL.of hD2, q H2 (s1.trans s2)⟩
def spLights (K : PySem.W.Frag) : Sp := fun vs H Q _ => ∃ (a b : Addr) (ns ms : List Int), vs = [.ref a, .ref b] ∧ SqL K H a (ns.map V.int) ∧ SqL K H b (ms.map V.int) ∧
  ns.length = ms.length ∧ 1 ≤ ns.length ∧ ns.length ≤ 40 ∧ Ab 100 ns ∧ Ab 400 ms ∧ ∀ (l : Addr) (H' : Hp), Same H H' → H l = none → H' l = some (.lst ((lightsV ns ms).map V.int)) → Q (.ref l) H'
theorem ok_lights_between (T : Txt K mg) : FnOk P w K mg base CX0 3 T.a_lights_between T.d_lights_between ["disc", "row"] (spLights K) := by
  have G_light_between := ok_light_between (P := P) (w := w) (base := base) T
  refine T.F_lights_between.ok sc_lights_between (fun vs H Q E h => ?_) (fun cdv A outer s H vs Q E hr h => ?_)
  · obtain ⟨_, _, _, _, rfl, _⟩ := h
    rfl
  · obtain ⟨a, b, ns, ms, rfl, hS, hS2, hl, h1, h40, hA, hB, q⟩ := h
    refine ⟨_, (pss_one (ps_ret (pe_lc (own := [("turn", 2)]) (g := gName 2) (tt := tYes) (by rfl) sc_lights_between.nd (pi_range1 (by rfl) T.n_range (pa_cons (pe_callB (lenL (K := K) rfl) (by rfl) T.n_len (by decide +kernel) (pa_cons (pv 0) pa_nil)) pa_nil)) (blkOk_by (own := [("turn", 2)]) (N := ["disc", "row", "turn"]) (sc := defScope s_lights_between) (by decide +kernel))
        (fun _ _ _ _ _ => (pg_name (i := 2) sc_lights_between.nd rfl (Or.inl rfl))) (fun _ _ _ _ _ => pts_nil) (fun _ _ _ _ _ => (pe_call G_light_between hr (by rfl) T.g_light_between T.F_light_between.kp T.b_light_between .nil pass0 (pa_cons (pv 0) (pa_cons (pv 1) (pa_cons (pv 2) pa_nil)))))))), ?_⟩
    refine ⟨.ref a, rfl, a, _, rfl, .inl hS, ?_⟩
    rw [List.length_map]
    refine ⟨ns.length, rfl, by omega, by omega, fun D hD => lc_range (lo := 0) (n := ((ns.length : Nat) : Int).toNat)
      (fun i H' => Same H H' ∧ H' D = some (.lst (((lightsV ns ms).take i).map V.int))) ⟨new_same hD, upd_same⟩ (fun i H1 hi hP => ⟨rfl, ?_⟩) (fun H1 hP => ?_)⟩
    · obtain ⟨s1, hD1⟩ := hP
      rw [Int.toNat_natCast] at hi
      refine ⟨.ref a, rfl, .ref b, rfl, .int (0 + i), rfl, a, b, ns, ms, 0 + i, rfl, s1.seq hS, s1.seq hS2, hl, h1, h40, hA, hB, fun H2 s2 => ?_⟩
      refine ⟨_, s2 _ _ hD1, ?_, same_over (s1.trans s2) hD, ?_⟩
      · rw [List.length_map, List.length_take]
        exact sz40 (by omega)
      · rw [upd_same, take_next]
        rw [lightsV_at hi, Int.zero_add]
    · obtain ⟨s1, hD1⟩ := hP
      rw [Int.toNat_natCast, take_all (by rw [lightsV_len]; exact Nat.le_refl _)] at hD1
      exact q D H1 s1 hD hD1

def spLeastTurned (K : PySem.W.Frag) : Sp := fun vs H Q _ => ∃ (a : Addr) (ns : List Int), vs = [.ref a] ∧ SqL K H a (ns.map V.int) ∧ Rim ns ∧
  ∀ (l : Addr) (m : List Int) (H' : Hp), Same H H' → H l = none → H' l = some (.lst (m.map V.int)) → LeastI (turnsL ns) m → Q (.ref l) H'
theorem ok_least_turned (T : Txt K mg) : FnOk P w K mg base CX0 2 T.a_least_turned T.d_least_turned ["disc"] (spLeastTurned K) := by
  have G_turned_list := ok_turned_list (P := P) (w := w) (base := base) T
  refine T.F_least_turned.ok sc_least_turned (fun vs H Q E h => ?_) (fun cdv A outer s H vs Q E hr h => ?_)
  · obtain ⟨_, _, rfl, _⟩ := h
    rfl
  · obtain ⟨a, ns, rfl, hS, hR, q⟩ := h
    refine ⟨_, (pss_one (ps_ret (pe_callB (cr_minI (K := K) rfl rfl hr) (by rfl) T.n_min (by decide +kernel) (pa_cons (pe_lc (own := [("turn", 1)]) (g := gName 1) (tt := tYes) (by rfl) sc_least_turned.nd (pi_range1 (by rfl) T.n_range (pa_cons (pe_callB (lenL (K := K) rfl) (by rfl) T.n_len (by decide +kernel) (pa_cons (pv 0) pa_nil)) pa_nil)) (blkOk_by (own := [("turn", 1)]) (N := ["disc", "turn"]) (sc := defScope s_least_turned) (by decide +kernel))
        (fun _ _ _ _ _ => (pg_name (i := 1) sc_least_turned.nd rfl (Or.inl rfl))) (fun _ _ _ _ _ => pts_nil) (fun _ _ _ _ _ => (pe_call G_turned_list hr (by rfl) T.g_turned_list T.F_turned_list.kp T.b_turned_list .nil pass0 (pa_cons (pv 0) (pa_cons (pv 1) pa_nil))))) pa_nil)))), ?_⟩
    have l40 := hR.le
    have l1 := hR.pos
    refine ⟨.ref a, rfl, a, _, rfl, .inl hS, ?_⟩
    rw [List.length_map]
    refine ⟨ns.length, rfl, by omega, by omega, fun D hD => lc_range (lo := 0) (n := ((ns.length : Nat) : Int).toNat)
      (fun i H' => ∃ vs, Same H H' ∧ H' D = some (.lst vs) ∧ Rows H H' vs ((turnsL ns).take i)) ⟨[], new_same hD, upd_same, .nil⟩ (fun i H1 hi hP => ⟨rfl, ?_⟩) (fun H1 hP => ?_)⟩
    · obtain ⟨vs, s1, hD1, hr1⟩ := hP
      rw [Int.toNat_natCast] at hi
      refine ⟨.ref a, rfl, .int (0 + i), rfl, a, ns, 0 + i, rfl, s1.seq hS, l1, by omega, fun l H2 s2 hl hl2 => ?_⟩
      refine ⟨vs, s2 _ _ hD1, ?_, vs ++ [.ref l], same_over (s1.trans s2) hD, upd_same, ?_⟩
      · have := hr1.len
        rw [List.length_take, turns_len] at this
        exact sz40 (by omega)
      · have nl : l ≠ D := fun e => by
          rw [e, hD1] at hl
          cases hl
        have e : rot ns (0 + (i : Int)) = (fun (t : Nat) => rot ns (t : Int)) i := by
          show rot ns (0 + (i : Int)) = rot ns (i : Int)
          rw [Int.zero_add]
        have hr2 : Rows H (upd H2 D (.lst (vs ++ [.ref l]))) vs ((turnsL ns).take i) := by
          have hr3 := hr1.up s2
          exact rows_over hr3 (hr3.ne (o := .lst vs) (s2 _ _ hD1))
        have := hr2.snoc (s1.free hl) (m := rot ns (0 + (i : Int))) (by rw [upd_ne nl]; exact hl2)
        rw [e] at this
        unfold turnsL at this
        rw [take_map_next hi] at this
        exact this
    · obtain ⟨vs, s1, hD1, hr1⟩ := hP
      rw [Int.toNat_natCast, List.take_of_length_le (by rw [turns_len]; exact Nat.le_refl _)] at hr1
      refine ⟨D, vs, turnsL ns, rfl, SqL.of hD1, hr1.dp, by rw [turns_len]; omega, fun i v m hv hm hL => ?_⟩
      obtain ⟨l, m', rfl, hm', fl, el⟩ := hr1.at hv
      rw [hm] at hm'
      cases hm'
      exact q l m H1 s1 fl el hL
def spLeastLike (K : PySem.W.Frag) : Sp := fun vs H Q _ => ∃ (a : Addr) (ns : List Int), vs = [.ref a] ∧ SqL K H a (ns.map V.int) ∧ Rim ns ∧
  ∀ (l : Addr) (m : List Int) (H' : Hp), Same H H' → H l = none → H' l = some (.lst (m.map V.int)) → LeastI (bothL ns) m → Q (.ref l) H'
theorem ok_least_like (T : Txt K mg) : FnOk P w K mg base CX0 3 T.a_least_like T.d_least_like ["disc"] (spLeastLike K) := by
  have G_mirrored_list := ok_mirrored_list (P := P) (w := w) (base := base) T
  have G_least_turned := ok_least_turned (P := P) (w := w) (base := base) T
  refine T.F_least_like.ok sc_least_like (fun vs H Q E h => ?_) (fun cdv A outer s H vs Q E hr h => ?_)
  · obtain ⟨_, _, rfl, _⟩ := h
    rfl
  · obtain ⟨a, ns, rfl, hS, hR, q⟩ := h
    refine ⟨_, (pss_one (ps_ret (pe_callB (cr_min2 (K := K) rfl rfl hr) (by rfl) T.n_min (by decide +kernel) (pa_cons (pe_call G_least_turned hr (by rfl) T.g_least_turned T.F_least_turned.kp T.b_least_turned .nil pass0 (pa_cons (pv 0) pa_nil)) (pa_cons (pe_call G_least_turned hr (by rfl) T.g_least_turned T.F_least_turned.kp T.b_least_turned .nil pass0 (pa_cons (pe_call G_mirrored_list (hr.mono (by decide)) (by rfl) T.g_mirrored_list T.F_mirrored_list.kp T.b_mirrored_list .nil pass0 (pa_cons (pv 0) pa_nil)) pa_nil)) pa_nil))))), ?_⟩
    have l40 := hR.le
    refine ⟨.ref a, rfl, a, ns, rfl, hS, hR, fun l1 m1 H1 s1 f1 e1 L1 => ?_⟩
    refine ⟨.ref a, rfl, a, ns, rfl, s1.seq hS, hR.pos, by omega, fun l2 H2 s2 f2 e2 => ?_⟩
    refine ⟨l2, mir ns, rfl, SqL.of e2, hR.mir, fun l3 m3 H3 s3 f3 e3 L3 => ?_⟩
    have s13 := s2.trans s3
    have s03 := s1.trans s13
    have L := least_app L1 L3
    refine ⟨.ref l1, .ref l3, m1, m3, rfl, dp_ints (SqL.of (s13 _ _ e1)), dp_ints (SqL.of e3), ?_⟩
    cases z : LtI m3 m1 with
    | true =>
      rw [z] at L
      exact q l3 m3 H3 s03 ((s1.trans s2).free f3) e3 L
    | false =>
      rw [z] at L
      exact q l1 m1 H3 s03 f1 (s13 _ _ e1) L

def spAreLike (K : PySem.W.Frag) : Sp := fun vs H Q _ => ∃ (a b : Addr) (ns ms : List Int), vs = [.ref a, .ref b] ∧ SqL K H a (ns.map V.int) ∧ SqL K H b (ms.map V.int) ∧ Rim ns ∧ Rim ms ∧ ns.length = ms.length ∧
  ∀ H', Same H H' → Q (.bl (decide (ms ∈ bothL ns))) H'
theorem ok_are_like (T : Txt K mg) : FnOk P w K mg base CX0 6 T.a_are_like T.d_are_like ["disc", "other"] (spAreLike K) := by
  have G_check_discs := ok_check_discs (P := P) (w := w) (base := base) T
  have G_least_like := ok_least_like (P := P) (w := w) (base := base) T
  refine T.F_are_like.ok sc_are_like (fun vs H Q E h => ?_) (fun cdv A outer s H vs Q E hr h => ?_)
  · obtain ⟨_, _, _, _, rfl, _⟩ := h
    rfl
  · obtain ⟨a, b, ns, ms, rfl, hS, hS2, hR, hR2, hl, q⟩ := h
    refine ⟨_, (pss_cons (ps_expr (pe_call G_check_discs hr (by rfl) T.g_check_discs T.F_check_discs.kp T.b_check_discs .nil pass0 (pa_cons (pv 0) (pa_cons (pv 1) pa_nil))))
      (pss_one (ps_ret (pe_cmpR (eqD (K := K) rfl hr) (pe_call G_least_like (hr.mono (by decide)) (by rfl) T.g_least_like T.F_least_like.kp T.b_least_like .nil pass0 (pa_cons (pv 0) pa_nil)) (pe_call G_least_like (hr.mono (by decide)) (by rfl) T.g_least_like T.F_least_like.kp T.b_least_like .nil pass0 (pa_cons (pv 1) pa_nil)) (nomark _))))), ?_⟩
    refine ⟨.ref a, rfl, .ref b, rfl, a, b, ns, ms, rfl, hS, hS2, hR, hR2, hl, fun H1 s1 => ?_⟩
    refine ⟨.ref a, rfl, a, ns, rfl, s1.seq hS, hR, fun l1 m1 H2 s2 f1 e1 L1 => ?_⟩
    have s12 := s1.trans s2
    refine ⟨.ref b, rfl, b, ms, rfl, s12.seq hS2, hR2, fun l2 m2 H3 s3 f2 e2 L2 => ?_⟩
    have r1 : Rim m1 := hR.of_both L1.1
    have r2 : Rim m2 := hR2.of_both L2.1
    refine ⟨dI m1, dI m2, dp_ints (SqL.of (s3 _ _ e1)), dp_ints (SqL.of e2), r1.rp.shaped, r2.rp.shaped, ?_⟩
    rw [eqv_dI]
    have z := q H3 (s12.trans s3)
    have e : decide (m1 = m2) = decide (ms ∈ bothL ns) := by
      have := like_iff hR.pos hR2.pos L1 L2
      simp only [this]
    rw [e]
    exact z

/-! ### slitdiscs.twins -/
def spOwnLights (K : PySem.W.Frag) : Sp := fun vs H Q _ => ∃ (a : Addr) (ns : List Int), vs = [.ref a] ∧ SqL K H a (ns.map V.int) ∧ Rim ns ∧
  ∀ (l : Addr) (H' : Hp), Same H H' → H l = none → H' l = some (.lst ((lightsV ns ns).map V.int)) → Q (.ref l) H'
theorem ok_own_lights (T : Txt K mg) : FnOk P w K mg base CX0 5 T.a_own_lights T.d_own_lights ["disc"] (spOwnLights K) := by
  have G_check_disc := ok_check_disc (P := P) (w := w) (base := base) T
  have G_lights_between := ok_lights_between (P := P) (w := w) (base := base) T
  refine T.F_own_lights.ok sc_own_lights (fun vs H Q E h => ?_) (fun cdv A outer s H vs Q E hr h => ?_)
  · obtain ⟨_, _, rfl, _⟩ := h
    rfl
  · obtain ⟨a, ns, rfl, hS, hR, q⟩ := h
    refine ⟨_, (pss_cons (ps_expr (pe_call G_check_disc hr (by rfl) T.g_check_disc T.F_check_disc.kp T.b_check_disc .nil pass0 (pa_cons (pv 0) pa_nil)))
      (pss_one (ps_ret (pe_call G_lights_between (hr.mono (by decide)) (by rfl) T.g_lights_between T.F_lights_between.kp T.b_lights_between .nil pass0 (pa_cons (pv 0) (pa_cons (pv 0) pa_nil)))))), ?_⟩
    refine ⟨.ref a, rfl, a, ns, rfl, hS, hR, fun H1 s1 => ?_⟩
    exact ⟨.ref a, rfl, .ref a, rfl, a, a, ns, ns, rfl, s1.seq hS, s1.seq hS, rfl, hR.pos, hR.le, hR.ab, hR.ab.mono (by decide), fun l H2 s2 h2 e2 => q l H2 (s1.trans s2) (s1.free h2) e2⟩
/-- whether they are twins -/
def twB (ns ms : List Int) : Bool := decide (lightsV ns ns = lightsV ms ms) && !decide (ms ∈ bothL ns)
theorem twB_comm {ns ms : List Int} (h : 1 ≤ ns.length) (h2 : 1 ≤ ms.length) : twB ms ns = twB ns ms := by
  unfold twB
  have e1 : decide (lightsV ms ms = lightsV ns ns) = decide (lightsV ns ns = lightsV ms ms) := decide_eq_decide.mpr ⟨Eq.symm, Eq.symm⟩
  have e2 : decide (ns ∈ bothL ms) = decide (ms ∈ bothL ns) := decide_eq_decide.mpr ⟨both_symm h2, both_symm h⟩
  rw [e1, e2]
theorem own_ab {ns : List Int} (h : Rim ns) : RP (dI (lightsV ns ns)) := (lightsV_ab h.ab h.ab (by have := h.le; omega)).rp (by decide)
theorem own_fits {ns : List Int} (h : Rim ns) : (dI (lightsV ns ns)).shown.length ≤ sizeLine :=
  fit_le (Nat.le_trans ((lightsV_ab h.ab h.ab (by have := h.le; omega)).fits (by decide) (by rw [lightsV_len]; have := h.le; omega)) (by decide))
def spTwins (K : PySem.W.Frag) : Sp := fun vs H Q _ => ∃ (a b : Addr) (ns ms : List Int), vs = [.ref a, .ref b] ∧ SqL K H a (ns.map V.int) ∧ SqL K H b (ms.map V.int) ∧ Rim ns ∧ Rim ms ∧ ns.length = ms.length ∧
  ∀ H', Same H H' → Q (.bl (twB ns ms)) H'
theorem ok_are_twins (T : Txt K mg) : FnOk P w K mg base CX0 7 T.a_are_twins T.d_are_twins ["disc", "other"] (spTwins K) := by
  have G_check_discs := ok_check_discs (P := P) (w := w) (base := base) T
  have G_lights_between := ok_lights_between (P := P) (w := w) (base := base) T
  have G_are_like := ok_are_like (P := P) (w := w) (base := base) T
  refine T.F_are_twins.ok sc_are_twins (fun vs H Q E h => ?_) (fun cdv A outer s H vs Q E hr h => ?_)
  · obtain ⟨_, _, _, _, rfl, _⟩ := h
    rfl
  · obtain ⟨a, b, ns, ms, rfl, hS, hS2, hR, hR2, hl, q⟩ := h
    refine ⟨_, (pss_cons (ps_expr (pe_call G_check_discs (hr.mono (by decide)) (by rfl) T.g_check_discs T.F_check_discs.kp T.b_check_discs .nil pass0 (pa_cons (pv 0) (pa_cons (pv 1) pa_nil))))
      (pss_one (ps_ret (pe_and (pe_cmpR (eqD (K := K) rfl hr) (pe_call G_lights_between (hr.mono (by decide)) (by rfl) T.g_lights_between T.F_lights_between.kp T.b_lights_between .nil pass0 (pa_cons (pv 0) (pa_cons (pv 0) pa_nil))) (pe_call G_lights_between (hr.mono (by decide)) (by rfl) T.g_lights_between T.F_lights_between.kp T.b_lights_between .nil pass0 (pa_cons (pv 1) (pa_cons (pv 1) pa_nil))) (nomark _)) (pe_one (pe_not (pe_call G_are_like hr (by rfl) T.g_are_like T.F_are_like.kp T.b_are_like .nil pass0 (pa_cons (pv 0) (pa_cons (pv 1) pa_nil))))))))), ?_⟩
    refine ⟨.ref a, rfl, .ref b, rfl, a, b, ns, ms, rfl, hS, hS2, hR, hR2, hl, fun H1 s1 => ?_⟩
    refine ⟨.ref a, rfl, .ref a, rfl, a, a, ns, ns, rfl, s1.seq hS, s1.seq hS, rfl, hR.pos, hR.le, hR.ab, hR.ab.mono (by decide), fun l2 H2 s2 h2 e2 => ?_⟩
    have s12 := s1.trans s2
    refine ⟨.ref b, rfl, .ref b, rfl, b, b, ms, ms, rfl, s12.seq hS2, s12.seq hS2, rfl, hR2.pos, hR2.le, hR2.ab, hR2.ab.mono (by decide), fun l3 H3 s3 h3 e3 => ?_⟩
    have s13 := s12.trans s3
    refine ⟨_, _, dp_ints (SqL.of (s3 _ _ e2)), dp_ints (SqL.of e3), (own_ab hR).shaped, (own_ab hR2).shaped, ?_⟩
    rw [eqv_dI]
    by_cases c : lightsV ns ns = lightsV ms ms
    · rw [decide_eq_true c]
      refine ⟨true, rfl, iteT ?_⟩
      refine ⟨.ref a, rfl, .ref b, rfl, a, b, ns, ms, rfl, s13.seq hS, s13.seq hS2, hR, hR2, hl, fun H4 s4 => ?_⟩
      have z := q H4 (s13.trans s4)
      unfold twB at z
      rw [decide_eq_true c, Bool.true_and] at z
      exact ⟨_, rfl, z⟩
    · have z := q H3 s13
      unfold twB at z
      rw [decide_eq_false c, Bool.false_and] at z
      rw [decide_eq_false c]
      exact ⟨false, rfl, iteF z⟩
/-! ### the law's looks -/
def spOwnRight (K : PySem.W.Frag) : Sp := fun vs H Q _ => ∃ (a : Addr) (ns : List Int), vs = [.ref a] ∧ SqL K H a (ns.map V.int) ∧ Rim ns ∧ ∀ H', Same H H' → Q (.bl true) H'
theorem ok_law_own_right (T : Txt K mg) : FnG P w K mg base CX0 6 T.a_law_own_right T.d_law_own_right ["plate"] (spOwnRight K) := by
  have G_law_own := ok_law_own (P := P) (w := w) (base := base) T
  have G_own_lights := ok_own_lights (P := P) (w := w) (base := base) T
  refine okG T.F_law_own_right sc_law_own_right (fun vs H Q E h => ?_) (fun cdv A outer s H vs Q E hg hr h => ?_)
  · obtain ⟨_, _, rfl, _⟩ := h
    rfl
  · obtain ⟨a, ns, rfl, hS, hR, q⟩ := h
    refine ⟨_, (pss_cons (ps_par (i := 1) (j := 2) (by rfl) sc_law_own_right.nd rfl rfl (by decide) rfl rfl (pa_cons (pe_callB (reprL (K := K) rfl hg hr) (by rfl) T.n_repr (by decide +kernel) (pa_cons (pv 0) pa_nil)) (pa_cons (pe_callB (reprL (K := K) rfl hg hr) (by rfl) T.n_repr (by decide +kernel) (pa_cons (pe_call G_law_own (hr.mono (by decide)) (by rfl) T.g_law_own T.F_law_own.kp T.b_law_own .nil pass0 (pa_cons (pv 0) pa_nil)) pa_nil)) pa_nil)) (by rfl))
      (pss_cons (ps_set (i := 3) sc_law_own_right.nd rfl (.inl rfl) (pe_callW G_own_lights hr rfl T.g_own_lights T.F_own_lights.kp (kb_own_lights_disc T) pass0 (pk_cons (pv 0) pk_nil)))
      (pss_cons (ps_if (PW.pt (pw_or (pt_cmpR op_ne (pe_callB (reprL (K := K) rfl hg hr) (by rfl) T.n_repr (by decide +kernel) (pa_cons (pv 3) pa_nil)) (pv 2) (nomark _)) (pw_or1 (pt_cmpR op_ne (pe_callB (reprL (K := K) rfl hg hr) (by rfl) T.n_repr (by decide +kernel) (pa_cons (pv 0) pa_nil)) (pv 1) (nomark _))))) (pss_one (ps_ret pe_bl)) pss_nil)
      (pss_cons (ps_expr (pe_bm PySem.F.plainAttrs_list PySem.F.slot_list_append PySem.F.type_list_append mt_append (pv 3) (pa_cons pe_non pa_nil)))
      (pss_one (ps_ret (pe_cmpR op_eq (pe_callB (reprL (K := K) rfl hg hr) (by rfl) T.n_repr (by decide +kernel) (pa_cons (pe_call G_own_lights hr (by rfl) T.g_own_lights T.F_own_lights.kp T.b_own_lights .nil pass0 (pa_cons (pv 0) pa_nil)) pa_nil)) (pv 2) (nomark _)))))))), ?_⟩
    have r := own_ab hR
    have f := own_fits hR
    refine ⟨.ref a, rfl, a, dI ns, rfl, dp_ints hS, hR.rp.sh, hR.rp.nd, hR.rp.dp, hR.fits, ?_⟩
    refine ⟨.ref a, rfl, a, ns, rfl, hS, hR, fun l1 H1 s1 f1 e1 => ?_⟩
    refine ⟨l1, _, rfl, dp_ints (SqL.of e1), r.sh, r.nd, r.dp, f, ?_⟩
    refine ⟨_, _, rfl, .ref a, rfl, a, ns, rfl, s1.seq hS, hR, fun l2 H2 s2 f2 e2 => ?_⟩
    have s12 := s1.trans s2
    refine ⟨.ref l2, rfl, l2, _, rfl, dp_ints (SqL.of e2), r.sh, r.nd, r.dp, f, .str (dI (lightsV ns ns)).shown, rfl, rfl, _, rfl, iteNS rfl ?_⟩
    refine ⟨.ref a, rfl, a, dI ns, rfl, dp_ints (s12.seq hS), hR.rp.sh, hR.rp.nd, hR.rp.dp, hR.fits, .str (dI ns).shown, rfl, rfl, _, rfl, iteNS rfl ?_⟩
    refine ⟨.ref l2, rfl, .inl ⟨rfl, _, SqL.of e2⟩, l2, _, .non, rfl, rfl, e2, by rw [List.length_map, lightsV_len]; exact sz40 (by have := hR.le; omega), ?_⟩
    have s3 : Same H (upd H2 l2 (.lst ((lightsV ns ns).map V.int ++ [.non]))) := same_over s12 (s1.free f2)
    refine ⟨.ref a, rfl, a, ns, rfl, s3.seq hS, hR, fun l4 H4 s4 f4 e4 => ?_⟩
    refine ⟨l4, _, rfl, dp_ints (SqL.of e4), r.sh, r.nd, r.dp, f, .str (dI (lightsV ns ns)).shown, rfl, rfl, ?_⟩
    show Q (.bl (decide (V.str (dI (lightsV ns ns)).shown = V.str (dI (lightsV ns ns)).shown))) _
    rw [decide_eq_true rfl]
    exact q _ (s3.trans s4)
def spPairRight (K : PySem.W.Frag) : Sp := fun vs H Q _ => ∃ (a b : Addr) (ns ms : List Int), vs = [.ref a, .ref b] ∧ SqL K H a (ns.map V.int) ∧ SqL K H b (ms.map V.int) ∧ Rim ns ∧ Rim ms ∧ ns.length = ms.length ∧ ∀ H', Same H H' → Q (.bl true) H'
def d3 (x : Bool) : PyData := .list [.bool x, .bool x, .bool x]
theorem d3_rp (x : Bool) : RP (d3 x) ∧ (d3 x).shown.length ≤ sizeLine := by
  cases x
  · exact ⟨⟨by decide, by decide, by decide, by decide⟩, Nat.le_trans (m := 1000) (by decide +kernel) (by decide)⟩
  · exact ⟨⟨by decide, by decide, by decide, by decide⟩, Nat.le_trans (m := 1000) (by decide +kernel) (by decide)⟩
theorem d3_dp {K : PySem.W.Frag} {H : Hp} {l : Addr} {x : Bool} (h : H l = some (.lst [.bl x, .bl x, .bl x])) : Dp K H (.ref l) (d3 x) := .lst (SqL.of h) (.cons (.bl x) (.cons (.bl x) (.cons (.bl x) .nil)))
theorem startP (x y : V) : L2.start [Str.ofString "plate", Str.ofString "second", Str.ofString "kept", Str.ofString "due", Str.ofString "told"] [x, y] = [some x, some y, none, none, none] := rfl
theorem ok_law_pair_right (T : Txt K mg) : FnG P w K mg base CX0 8 T.a_law_pair_right T.d_law_pair_right ["plate", "second"] (spPairRight K) := by
  have G_law_own := ok_law_own (P := P) (w := w) (base := base) T
  have G_law_form := ok_law_form (P := P) (w := w) (base := base) T
  have G_are_twins := ok_are_twins (P := P) (w := w) (base := base) T
  refine okG T.F_law_pair_right sc_law_pair_right (fun vs H Q E h => ?_) (fun cdv A outer s H vs Q E hg hr h => ?_)
  · obtain ⟨_, _, _, _, rfl, _⟩ := h
    rfl
  · obtain ⟨a, b, ns, ms, rfl, hS, hS2, hR, hR2, hl, q⟩ := h
    refine ⟨_, (pss_cons (ps_par (i := 2) (j := 3) (by rfl) sc_law_pair_right.nd rfl rfl (by decide) rfl rfl (pa_cons (pe_callB (reprL (K := K) rfl hg hr) (by rfl) T.n_repr (by decide +kernel) (pa_cons (pe_lst (pa_cons (pv 0) (pa_cons (pv 1) pa_nil))) pa_nil)) (pa_cons (pe_cmpR (eqD (K := K) rfl hr) (pe_call G_law_own (hr.mono (by decide)) (by rfl) T.g_law_own T.F_law_own.kp T.b_law_own .nil pass0 (pa_cons (pv 0) pa_nil)) (pe_call G_law_own (hr.mono (by decide)) (by rfl) T.g_law_own T.F_law_own.kp T.b_law_own .nil pass0 (pa_cons (pv 1) pa_nil)) (nomark _)) pa_nil)) (by rfl))
      (pss_mid (ps_set (i := 3) sc_law_pair_right.nd rfl (.inl rfl) (pe_and (pv 3) (pe_one (pe_cmpR (neD (K := K) rfl hr) (pe_call G_law_form (hr.mono (by decide)) (by rfl) T.g_law_form T.F_law_form.kp T.b_law_form .nil pass0 (pa_cons (pv 0) pa_nil)) (pe_call G_law_form (hr.mono (by decide)) (by rfl) T.g_law_form T.F_law_form.kp T.b_law_form .nil pass0 (pa_cons (pv 1) pa_nil)) (nomark _)))))
      (pss_cons (ps_set (i := 4) sc_law_pair_right.nd rfl (.inl rfl) (pe_lst (pa_cons (pe_callW G_are_twins hr rfl T.g_are_twins T.F_are_twins.kp (kb_are_twins_other_disc T) pass0 (pk_cons (pv 1) (pk_cons (pv 0) pk_nil))) (pa_cons (pe_call G_are_twins hr (by rfl) T.g_are_twins T.F_are_twins.kp T.b_are_twins .nil pass0 (pa_cons (pv 0) (pa_cons (pv 1) pa_nil))) (pa_cons (pe_call G_are_twins hr (by rfl) T.g_are_twins T.F_are_twins.kp T.b_are_twins .nil pass0 (pa_cons (pv 1) (pa_cons (pv 0) pa_nil))) pa_nil)))))
      (pss_one (ps_ret (pe_and (pe_cmpR op_eq (pe_callB (reprL (K := K) rfl hg hr) (by rfl) T.n_repr (by decide +kernel) (pa_cons (pv 4) pa_nil)) (pe_callB (reprL (K := K) rfl hg hr) (by rfl) T.n_repr (by decide +kernel) (pa_cons (pe_op op_rep (pe_lst (pa_cons (pv 3) pa_nil)) pe_int) pa_nil)) (nomark _)) (pe_one (pe_cmpR op_eq (pe_callB (reprL (K := K) rfl hg hr) (by rfl) T.n_repr (by decide +kernel) (pa_cons (pe_lst (pa_cons (pv 0) (pa_cons (pv 1) pa_nil))) pa_nil)) (pv 2) (nomark _))))))))), ?_⟩
    have kK : RP (dL [ns, ms]) := rp_lists (k := 400) (by decide) (all2 (hR.ab.mono (by decide)) (hR2.ab.mono (by decide)))
    have fK : (dL [ns, ms]).shown.length ≤ sizeLine := fits_lists (k := 400) (by decide) (all2 (hR.ab.mono (by decide)) (hR2.ab.mono (by decide))) (all2 (P := fun l => l.length ≤ 1000) (by have := hR.le; omega) (by have := hR2.le; omega)) (by show 2 ≤ 7; decide)
    have dp2 : ∀ {H' : Hp} {p x y : Addr} {ls1 ls2 : List Int}, H' p = some (.lst [.ref x, .ref y]) → SqL K H' x (ls1.map V.int) → SqL K H' y (ls2.map V.int) → Dp K H' (.ref p) (dL [ls1, ls2]) :=
      fun e1 e2 e3 => .lst (SqL.of e1) (.cons (dp_ints e2) (.cons (dp_ints e3) .nil))
    -- kept, due
    refine ⟨.ref a, rfl, .ref b, rfl, (by show 2 ≤ sizeLine; decide), fun z1 hz1 => ?_⟩
    have s1 := new_same (o := .lst [.ref a, .ref b]) hz1
    refine ⟨z1, _, rfl, dp2 upd_same (s1.seq hS) (s1.seq hS2), kK.sh, kK.nd, kK.dp, fK, ?_⟩
    refine ⟨.ref a, rfl, a, ns, rfl, s1.seq hS, hR, fun l2 H2 s2 f2 e2 => ?_⟩
    have s12 := s1.trans s2
    refine ⟨.ref b, rfl, b, ms, rfl, s12.seq hS2, hR2, fun l3 H3 s3 f3 e3 => ?_⟩
    have s13 := s12.trans s3
    refine ⟨_, _, dp_ints (SqL.of (s3 _ _ e2)), dp_ints (SqL.of e3), (own_ab hR).shaped, (own_ab hR2).shaped, ?_⟩
    rw [eqv_dI]
    refine ⟨_, _, rfl, fun σ' H' => σ' = [some (.ref a), some (.ref b), some (.str (dL [ns, ms]).shown), some (.bl (twB ns ms)), none] ∧ Same H H', ?_, fun σ' H4 hM => ?_⟩
    · by_cases c : lightsV ns ns = lightsV ms ms
      · rw [decide_eq_true c]
        refine ⟨.bl true, rfl, true, rfl, iteT ?_⟩
        refine ⟨.ref a, rfl, a, ns, rfl, s13.seq hS, hR, fun l4 m4 H4 s4 f4 e4 L4 => ?_⟩
        have s14 := s13.trans s4
        refine ⟨.ref b, rfl, b, ms, rfl, s14.seq hS2, hR2, fun l5 m5 H5 s5 f5 e5 L5 => ?_⟩
        refine ⟨_, _, dp_ints (SqL.of (s5 _ _ e4)), dp_ints (SqL.of e5), (hR.of_both L4.1).rp.shaped, (hR2.of_both L5.1).rp.shaped, ?_⟩
        rw [eqv_dI]
        have e : twB ns ms = !decide (m4 = m5) := by
          unfold twB
          rw [decide_eq_true c, Bool.true_and]
          have := like_iff hR.pos hR2.pos L4 L5
          simp only [this]
        exact ⟨by rw [e]; rfl, s14.trans s5⟩
      · rw [decide_eq_false c]
        have e : twB ns ms = false := by
          unfold twB
          rw [decide_eq_false c, Bool.false_and]
        exact ⟨.bl false, rfl, false, rfl, iteF ⟨by rw [e]; rfl, s13⟩⟩
    obtain ⟨rfl, s4⟩ := hM
    clear s13 s12 s2 s3 s1
    -- told
    refine ⟨.ref b, rfl, .ref a, rfl, a, b, ns, ms, rfl, s4.seq hS, s4.seq hS2, hR, hR2, hl, fun H5 s5 => ?_⟩
    have s45 := s4.trans s5
    refine ⟨.ref a, rfl, .ref b, rfl, a, b, ns, ms, rfl, s45.seq hS, s45.seq hS2, hR, hR2, hl, fun H6 s6 => ?_⟩
    have s46 := s45.trans s6
    refine ⟨.ref b, rfl, .ref a, rfl, b, a, ms, ns, rfl, s46.seq hS2, s46.seq hS, hR2, hR, hl.symm, fun H7 s7 => ?_⟩
    rw [twB_comm hR.pos hR2.pos]
    have s47 := s46.trans s7
    obtain ⟨r3, f3⟩ := d3_rp (twB ns ms)
    refine ⟨(by show 3 ≤ sizeLine; decide), fun t1 ht1 => ?_⟩
    have s8 := s47.trans (new_same (o := .lst [.bl (twB ns ms), .bl (twB ns ms), .bl (twB ns ms)]) ht1)
    refine ⟨.ref t1, rfl, t1, _, rfl, d3_dp upd_same, r3.sh, r3.nd, r3.dp, f3, ?_⟩
    refine ⟨.bl (twB ns ms), rfl, (by show 1 ≤ sizeLine; decide), fun w1 hw1 => ?_⟩
    have s9 := s8.trans (new_same (o := .lst [.bl (twB ns ms)]) hw1)
    refine ⟨w1, 3, _, rfl, rfl, upd_same, by decide, by decide, (by show 1 * 3 ≤ sizeLine; decide), fun w2 hw2 => ?_⟩
    have sA := s9.trans (new_same (o := .lst [.bl (twB ns ms), .bl (twB ns ms), .bl (twB ns ms)]) hw2)
    refine ⟨w2, d3 (twB ns ms), rfl, d3_dp upd_same, r3.sh, r3.nd, r3.dp, f3, rfl, _, rfl, ?_⟩
    rw [if_pos (decide_eq_true rfl)]
    refine ⟨.ref a, rfl, .ref b, rfl, (by show 2 ≤ sizeLine; decide), fun z3 hz3 => ?_⟩
    have sB := sA.trans (new_same (o := .lst [.ref a, .ref b]) hz3)
    refine ⟨z3, _, rfl, dp2 upd_same (sB.seq hS) (sB.seq hS2), kK.sh, kK.nd, kK.dp, fK, .str (dL [ns, ms]).shown, rfl, rfl, ?_⟩
    show Q (.bl (decide (V.str (dL [ns, ms]).shown = V.str (dL [ns, ms]).shown))) _
    rw [decide_eq_true rfl]
    exact q _ sB

/-! ### _law_right, law -/
def spRight22 : Sp := fun vs H Q _ => ∃ (t : Addr) (n c : Int), vs = [.ref t, .int n] ∧ 1 ≤ n ∧ n ≤ 40 ∧ Tank H t c ∧ 0 ≤ c ∧ c < 2 ^ 37 ∧
  ∀ H', But t H H' → Tank H' t (c + 400) → Q (.bl true) H'
/-- a disc that is there -/
def Pl (H' : Hp) (n : Int) (v : V) : Prop := ∃ (l : Addr) (ms : List Int), v = .ref l ∧ H' l = some (.lst (ms.map V.int)) ∧ Rim ms ∧ (ms.length : Int) = n
theorem Pl.same {H1 H2 : Hp} {n : Int} {v : V} (h : Pl H1 n v) (s : Same H1 H2) : Pl H2 n v := by
  obtain ⟨l, ms, e, a, b⟩ := h
  exact ⟨l, ms, e, s _ _ a, b⟩
theorem start22 (x y : V) : L2.start [Str.ofString "pool", Str.ofString "size", Str.ofString "plate", Str.ofString "turned", Str.ofString "bent", Str.ofString "spot", Str.ofString "second", Str.ofString "one", Str.ofString "two", Str.ofString "first", Str.ofString "later"] [x, y] = [some x, some y, none, none, none, none, none, none, none, none, none] := rfl
theorem slt_mir {ns : List Int} (h : Slt ns) : Slt (mir ns) := mir_all h
theorem ok_law_right (T : Txt K mg) : FnG P w K mg base CX0 9 T.a_law_right T.d_law_right ["pool", "size"] spRight22 := by
  have G_law_draw := ok_law_draw (P := P) (w := w) (base := base) T
  have G_law_plate := ok_law_plate (P := P) (w := w) (base := base) T
  have G_law_slits := ok_law_slits (P := P) (w := w) (base := base) T
  have G_law_turned := ok_law_turned (P := P) (w := w) (base := base) T
  have G_law_back := ok_law_back (P := P) (w := w) (base := base) T
  have G_law_laid := ok_law_laid (P := P) (w := w) (base := base) T
  have G_law_own_right := ok_law_own_right (P := P) (w := w) (base := base) T
  have G_law_pair_right := ok_law_pair_right (P := P) (w := w) (base := base) T
  refine okG T.F_law_right sc_law_right (fun vs H Q E h => ?_) (fun cdv A outer s H vs Q E hg hr h => ?_)
  · obtain ⟨_, _, _, rfl, _⟩ := h
    rfl
  · obtain ⟨t, n, c, rfl, hn1, hn, hT, hc0, hc, q⟩ := h
    refine ⟨_, (pss_cons (ps_set (i := 2) sc_law_right.nd rfl (.inl rfl) (pe_call G_law_plate (hr.mono (by decide)) (by rfl) T.g_law_plate T.F_law_plate.kp T.b_law_plate .nil pass0 (pa_cons (pv 0) (pa_cons (pv 1) pa_nil))))
      (pss_cons (ps_if (pt_not (pt_val (pe_callG G_law_own_right hg (hr.mono (by decide)) (by rfl) T.g_law_own_right T.F_law_own_right.kp T.b_law_own_right .nil pass0 (pa_cons (pv 2) pa_nil)))) (pss_one (ps_ret pe_bl)) pss_nil)
      (pss_cons (ps_set (i := 3) sc_law_right.nd rfl (.inl rfl) (pe_call G_law_turned (hr.mono (by decide)) (by rfl) T.g_law_turned T.F_law_turned.kp T.b_law_turned .nil pass0 (pa_cons (pv 2) (pa_cons (pe_call G_law_draw (hr.mono (by decide)) (by rfl) T.g_law_draw T.F_law_draw.kp T.b_law_draw .nil pass0 (pa_cons (pv 0) (pa_cons (pv 1) pa_nil))) pa_nil))))
      (pss_cons (ps_par (i := 4) (j := 5) (by rfl) sc_law_right.nd rfl rfl (by decide) rfl rfl (pa_cons (pe_callTy (listL (K := K) rfl) (by rfl) T.n_list (by decide +kernel) (pa_cons (pv 3) pa_nil)) (pa_cons (pe_call G_law_draw (hr.mono (by decide)) (by rfl) T.g_law_draw T.F_law_draw.kp T.b_law_draw .nil pass0 (pa_cons (pv 0) (pa_cons (pv 1) pa_nil))) pa_nil)) (by rfl))
      (pss_mid (ps_asg (pe_ifExp (pt_cmpR op_lt (pe_ix (ixL (K := K) rfl) (pv 4) (pv 5) (fun _ _ => rfl)) (pe_op op_pow pe_int pe_int) (nomark _)) (pe_op op_add (pe_ix (ixL (K := K) rfl) (pv 4) (pv 5) (fun _ _ => rfl)) pe_int) pe_int) (pg_sub (pv 4) (pv 5) set_list))
      (pss_cons (ps_for PassesOwn.never rfl (pi_tupL (K := K) rfl (pe_tup (pa_cons (pv 2) (pa_cons (pv 3) (pa_cons (pe_call G_law_back (hr.mono (by decide)) (by rfl) T.g_law_back T.F_law_back.kp T.b_law_back .nil pass0 (pa_cons (pv 3) pa_nil)) (pa_cons (pv 4) (pa_cons (pe_call G_law_plate (hr.mono (by decide)) (by rfl) T.g_law_plate T.F_law_plate.kp T.b_law_plate .nil pass0 (pa_cons (pv 0) (pa_cons (pv 1) pa_nil))) pa_nil))))))) (pg_name (i := 6) sc_law_right.nd rfl (.inl rfl)) (pss_one (ps_if (pt_not (pt_val (pe_callG G_law_pair_right hg hr (by rfl) T.g_law_pair_right T.F_law_pair_right.kp T.b_law_pair_right .nil pass0 (pa_cons (pv 2) (pa_cons (pv 6) pa_nil))))) (pss_one (ps_ret pe_bl)) pss_nil)))
      (pss_cons (ps_par (i := 7) (j := 8) (by rfl) sc_law_right.nd rfl rfl (by decide) rfl rfl (pa_cons (pe_call G_law_slits (hr.mono (by decide)) (by rfl) T.g_law_slits T.F_law_slits.kp T.b_law_slits .nil pass0 (pa_cons (pv 0) (pa_cons (pv 1) pa_nil))) (pa_cons (pe_call G_law_slits (hr.mono (by decide)) (by rfl) T.g_law_slits T.F_law_slits.kp T.b_law_slits .nil pass0 (pa_cons (pv 0) (pa_cons (pv 1) pa_nil))) pa_nil)) (by rfl))
      (pss_cons (ps_par (i := 9) (j := 10) (by rfl) sc_law_right.nd rfl rfl (by decide) rfl rfl (pa_cons (pe_call G_law_laid (hr.mono (by decide)) (by rfl) T.g_law_laid T.F_law_laid.kp T.b_law_laid .nil pass0 (pa_cons (pv 7) (pa_cons (pv 8) pa_nil))) (pa_cons (pe_call G_law_laid (hr.mono (by decide)) (by rfl) T.g_law_laid T.F_law_laid.kp T.b_law_laid .nil pass0 (pa_cons (pv 7) (pa_cons (pe_call G_law_back (hr.mono (by decide)) (by rfl) T.g_law_back T.F_law_back.kp T.b_law_back .nil pass0 (pa_cons (pv 8) pa_nil)) pa_nil))) pa_nil)) (by rfl))
      (pss_one (ps_ret (pe_and (pe_callG G_law_pair_right hg hr (by rfl) T.g_law_pair_right T.F_law_pair_right.kp T.b_law_pair_right .nil pass0 (pa_cons (pv 9) (pa_cons (pv 10) pa_nil))) (pe_one (pe_callG G_law_pair_right hg hr (by rfl) T.g_law_pair_right T.F_law_pair_right.kp T.b_law_pair_right .nil pass0 (pa_cons (pv 9) (pa_cons (pe_call G_law_turned (hr.mono (by decide)) (by rfl) T.g_law_turned T.F_law_turned.kp T.b_law_turned .nil pass0 (pa_cons (pv 10) (pa_cons pe_int pa_nil))) pa_nil))))))))))))))), ?_⟩
    -- plate
    refine ⟨.ref t, rfl, .int n, rfl, t, n, c, rfl, hn1, hn, hT, hc0, by omega, fun D ns H1 hR hl u1 f1 e1 k1 => ?_⟩
    have l40 := hR.le
    have l1 := hR.pos
    have nD : D ≠ t := hT.ne f1
    refine ⟨.ref D, rfl, D, ns, rfl, SqL.of e1, hR, fun H2 s2 => ⟨true, rfl, iteF ?_⟩⟩
    have u2 := u1.trans (But.of (T := t) s2)
    have k2 := k1.same s2
    have e2 := s2 _ _ e1
    clear s2 e1 u1 k1
    -- turned
    refine ⟨.ref D, rfl, .ref t, rfl, .int n, rfl, t, n, c + 60, rfl, by omega, by omega, k2, by omega, fun y H3 y0 y1 k3 u3 => ?_⟩
    have e3 := u3 _ _ e2 nD
    refine ⟨D, ns, y, rfl, SqL.of e3, l1, by omega, fun U H4 s4 fU eU => ?_⟩
    have nU : U ≠ t := k3.ne fU
    have u4 := (u2.trans u3).trans (But.of (T := t) s4)
    have k4 := k3.same s4
    have e4 := s4 _ _ e3
    have hRU := hR.rot y
    have lU := rot_len ns y
    clear u2 u3 s4 k3 e3 k2 e2
    -- bent, spot
    refine ⟨.ref U, rfl, U, _, rfl, .inl (SqL.of eU), fun B hB => ?_⟩
    have sB := new_same (o := .lst ((rot ns y).map V.int)) hB
    have nB : B ≠ t := k4.ne hB
    have fB : H B = none := tank_free u4 hT k4 hB
    have gB : (upd H4 B (.lst ((rot ns y).map V.int))) B = some (.lst ((rot ns y).map V.int)) := upd_same
    have u5 := u4.trans (But.of (T := t) sB)
    have k5 := k4.same sB
    have e5 := sB _ _ e4
    have eU5 := sB _ _ eU
    have nUB : U ≠ B := fun z => by
      rw [z, hB] at eU
      cases eU
    have nDB : D ≠ B := fun z => by
      rw [z, hB] at e4
      cases e4
    generalize upd H4 B (.lst ((rot ns y).map V.int)) = H5 at gB u5 k5 e5 eU5 ⊢
    clear sB e4 eU u4 k4
    refine ⟨.ref t, rfl, .int n, rfl, t, n, c + 60 + 1, rfl, by omega, by omega, k5, by omega, fun z H6 z0 z1 k6 u6 => ?_⟩
    have gB6 := u6 _ _ gB nB
    have e6 := u6 _ _ e5 nD
    have eU6 := u6 _ _ eU5 nU
    have u56 := u5.trans u6
    clear gB e5 eU5 u5 u6 k5
    refine ⟨_, _, rfl, ?_⟩
    simp only [start22, List.set_cons_zero, List.set_cons_succ]
    -- bent[spot] = ..
    obtain ⟨x, hx, hatx⟩ := at_in (ns := rot ns y) z0 (by omega)
    have hxb := hRU.all x (List.mem_of_getElem? hx)
    have e30 : (10 : Int) ^ (30 : Int).toNat = 1000000000000000000000000000000 := by decide +kernel
    refine ⟨fun σ' H' => σ' = [some (.ref t), some (.int n), some (.ref D), some (.ref U), some (.ref B), some (.int z), none, none, none, none, none] ∧ ∃ x' : Int, (0 ≤ x' ∧ x' ≤ 1000000000000000000000000000000) ∧ H' = upd H6 B (.lst (((rot ns y).map V.int).set z.toNat (.int x'))), ?_, fun σ' H7' hM => ?_⟩
    · refine ⟨.ref B, rfl, .int z, rfl, B, _, z, .int x, rfl, rfl, SqL.of gB6, hatx, 10, 30, rfl, rfl, ⟨by decide, by decide, by decide⟩, x, _, rfl, rfl, _, rfl, ite2 (fun h => ?_) (fun h => ?_)⟩
      · have hlt := of_decide_eq_true h
        rw [e30] at hlt
        refine ⟨.ref B, rfl, .int z, rfl, B, _, z, .int x, rfl, rfl, SqL.of gB6, hatx, x, 1, rfl, rfl, ?_⟩
        exact ⟨.ref B, rfl, .int z, rfl, B, _, z, z.toNat, rfl, rfl, gB6, ixN_in z0 (by rw [List.length_map]; omega), rfl, x + 1, by omega, rfl⟩
      · exact ⟨.ref B, rfl, .int z, rfl, B, _, z, z.toNat, rfl, rfl, gB6, ixN_in z0 (by rw [List.length_map]; omega), rfl, 0, by omega, rfl⟩
    obtain ⟨rfl, x', hx', rfl⟩ := hM
    have hRB : Rim ((rot ns y).set z.toNat x') := ⟨by rw [List.length_set]; omega, by rw [List.length_set]; omega, fun w hw => by
      rcases List.mem_or_eq_of_mem_set hw with h | h
      · exact hRU.all w h
      · rw [h]; exact hx'⟩
    have lB : ((rot ns y).set z.toNat x').length = ns.length := by rw [List.length_set]; exact lU
    have gB7 : (upd H6 B (.lst (((rot ns y).map V.int).set z.toNat (.int x')))) B = some (.lst (((rot ns y).set z.toNat x').map V.int)) := by rw [upd_same, map_set]
    have e7 : (upd H6 B (.lst (((rot ns y).map V.int).set z.toNat (.int x')))) D = some (.lst (ns.map V.int)) := by rw [upd_ne nDB]; exact e6
    have eU7 : (upd H6 B (.lst (((rot ns y).map V.int).set z.toNat (.int x')))) U = some (.lst ((rot ns y).map V.int)) := by rw [upd_ne nUB]; exact eU6
    have k7 : Tank (upd H6 B (.lst (((rot ns y).map V.int).set z.toNat (.int x')))) t (c + 60 + 1 + 1) := by
      obtain ⟨a1, a2, a3, e, a⟩ := k6
      exact ⟨a1, a2, a3, by rw [upd_ne nB.symm]; exact e, a⟩
    have u7 : But t H (upd H6 B (.lst (((rot ns y).map V.int).set z.toNat (.int x')))) := fun b o e ne => by
      rw [upd_ne (ne_of_none e fB)]
      exact u56 b o e ne
    generalize upd H6 B (.lst (((rot ns y).map V.int).set z.toNat (.int x'))) = H7 at gB7 e7 eU7 k7 u7 ⊢
    clear gB6 e6 eU6 u56 k6
    -- for second in (..)
    refine ⟨.ref D, rfl, .ref U, rfl, .ref U, rfl, U, rot ns y, rfl, SqL.of eU7, by omega, by omega, fun M H8 s8 fM eM => ?_⟩
    have nM : M ≠ t := k7.ne fM
    refine ⟨.ref B, rfl, .ref t, rfl, .int n, rfl, t, n, c + 60 + 1 + 1, rfl, hn1, hn, k7.same s8, by omega, by omega, fun W ws H9 hRW hlW u9 fW eW k9 => ?_⟩
    have e9 := u9 _ _ (s8 _ _ e7) nD
    have eU9 := u9 _ _ (s8 _ _ eU7) nU
    have gB9 := u9 _ _ (s8 _ _ gB7) nB
    have eM9 := u9 _ _ eM nM
    have u09 := (u7.trans (But.of (T := t) s8)).trans u9
    clear e7 eU7 gB7 eM u7 u9 s8 k7
    refine ⟨(by show 5 ≤ sizeLine; decide), fun p hp => ?_⟩
    have sp := new_same (o := .tup [.ref D, .ref U, .ref M, .ref B, .ref W]) hp
    have kA := k9.same sp
    have uA := u09.trans (But.of (T := t) sp)
    have eA := sp _ _ e9
    have allP : ∀ v ∈ [V.ref D, .ref U, .ref M, .ref B, .ref W], Pl (upd H9 p (.tup [.ref D, .ref U, .ref M, .ref B, .ref W])) n v := fun v hv => by
      simp only [List.mem_cons, List.not_mem_nil, or_false] at hv
      rcases hv with rfl | rfl | rfl | rfl | rfl
      · exact ⟨D, _, rfl, eA, hR, hl⟩
      · exact ⟨U, _, rfl, sp _ _ eU9, hRU, by rw [lU]; exact hl⟩
      · exact ⟨M, _, rfl, sp _ _ eM9, hRU.mir, by rw [mir_len, lU]; exact hl⟩
      · exact ⟨B, _, rfl, sp _ _ gB9, hRB, by rw [lB]; exact hl⟩
      · exact ⟨W, _, rfl, sp _ _ eW, hRW, hlW⟩
    have gp : (upd H9 p (.tup [.ref D, .ref U, .ref M, .ref B, .ref W])) p = some (.tup [.ref D, .ref U, .ref M, .ref B, .ref W]) := upd_same
    generalize upd H9 p (.tup [.ref D, .ref U, .ref M, .ref B, .ref W]) = HA at kA uA eA allP gp ⊢
    clear sp k9 u09 e9 eU9 eM9 gB9 eW
    refine ⟨p, rfl, ⟨_, SqT.of gp⟩, for_tup (K := K) (a := p) (xs := [.ref D, .ref U, .ref M, .ref B, .ref W])
      (fun i σ H' => ∃ y6 : Option V, σ = [some (.ref t), some (.int n), some (.ref D), some (.ref U), some (.ref B), some (.int z), y6, none, none, none, none] ∧ Same HA H')
      ⟨none, rfl, Same.refl HA⟩ (fun i σ H' _ ⟨_, _, s⟩ => SqT.of (s _ _ gp)) (fun i x σ HB hx hP => ?_) (fun σ HB hP => ?_)⟩
    · obtain ⟨y6, rfl, sB⟩ := hP
      obtain ⟨l, ms, rfl, el, hRl, hll⟩ := (allP x (List.mem_of_getElem? hx)).same sB
      refine ⟨.ref D, rfl, .ref l, rfl, D, l, ns, ms, rfl, SqL.of (sB _ _ eA), SqL.of el, hR, hRl, by omega, fun HC sC => ?_⟩
      exact ⟨true, rfl, iteF ⟨_, rfl, sB.trans sC⟩⟩
    obtain ⟨y6, rfl, sB⟩ := hP
    have kB := kA.same sB
    have uB := uA.trans (But.of (T := t) sB)
    clear sB allP gp eA kA uA
    -- one, two
    refine ⟨.ref t, rfl, .int n, rfl, t, n, c + 60 + 1 + 1 + 60, rfl, hn1, hn, kB, by omega, by omega, fun O os HC hO lO uC fO eO kC => ?_⟩
    have nO : O ≠ t := kB.ne fO
    refine ⟨.ref t, rfl, .int n, rfl, t, n, c + 60 + 1 + 1 + 60 + 90, rfl, hn1, hn, kC, by omega, by omega, fun W2 wss HD hW lW uD fW2 eW2 kD => ?_⟩
    have eO2 := uD _ _ eO nO
    have u1D := (uB.trans uC).trans uD
    have nW2 : W2 ≠ t := kC.ne fW2
    clear uB uC uD eO kB kC
    refine ⟨_, _, rfl, ?_⟩
    simp only [start22, List.set_cons_zero, List.set_cons_succ]
    -- first, later
    refine ⟨.ref O, rfl, .ref W2, rfl, O, W2, os, wss, rfl, SqL.of eO2, SqL.of eW2, hO, hW, by omega, by omega, by omega, fun F fs HE sE fF eF hRF lF => ?_⟩
    refine ⟨.ref O, rfl, .ref W2, rfl, W2, wss, rfl, SqL.of (sE _ _ eW2), by omega, by omega, fun X HF sF fX eX => ?_⟩
    have sEF := sE.trans sF
    refine ⟨O, X, os, mir wss, rfl, SqL.of (sEF _ _ eO2), SqL.of eX, hO, slt_mir hW, by rw [mir_len]; omega, by omega, by omega, fun L ls HG sG fL eL hRL lL => ?_⟩
    have sEG := sEF.trans sG
    have eF2 := sG _ _ (sF _ _ eF)
    refine ⟨_, _, rfl, ?_⟩
    simp only [start22, List.set_cons_zero, List.set_cons_succ]
    -- return
    refine ⟨.ref F, rfl, .ref L, rfl, F, L, fs, ls, rfl, SqL.of eF2, SqL.of eL, hRF, hRL, by omega, fun HH sH => ⟨true, rfl, iteT ?_⟩⟩
    refine ⟨.ref F, rfl, .ref L, rfl, L, ls, 1, rfl, SqL.of (sH _ _ eL), hRL.pos, by have := hRL.le; omega, fun Y HI sI fY eY => ?_⟩
    refine ⟨F, Y, fs, rot ls 1, rfl, SqL.of (sI _ _ (sH _ _ eF2)), SqL.of eY, hRF, hRL.rot 1, by rw [rot_len]; omega, fun HJ sJ => ?_⟩
    have sEJ := ((sEG.trans sH).trans sI).trans sJ
    exact q _ (u1D.trans (But.of sEJ)) ((kD.same sEJ).mono (by omega))
def spLaw (K : PySem.W.Frag) : Sp := fun vs H Q _ => ∃ (a : Addr) (ns : List Int), vs = [.ref a] ∧ SqL K H a (ns.map V.int) ∧ ns.length ≤ 63 ∧ ∀ H', Q (.bl true) H'

theorem startL (x : V) : L2.start [Str.ofString "script", Str.ofString "at", Str.ofString "pool", Str.ofString "top", Str.ofString "first", Str.ofString "second", Str.ofString "one"] [x] = [some x, none, none, none, none, none, none] := rfl
theorem five_times {K : PySem.W.Frag} {H : Hp} (ns : List Int) : True := trivial
theorem ok_law (T : Txt K mg) : FnG P w K mg base CX0 10 T.a_law T.d_law ["script"] (spLaw K) := by
  have G_law_pool := ok_law_pool (P := P) (w := w) (base := base) T
  have G_law_draw := ok_law_draw (P := P) (w := w) (base := base) T
  have G_law_right := ok_law_right (P := P) (w := w) (base := base) T
  have G_are_twins := ok_are_twins (P := P) (w := w) (base := base) T
  have G_own_lights := ok_own_lights (P := P) (w := w) (base := base) T
  refine okG T.F_law sc_law (fun vs H Q E h => ?_) (fun cdv A outer s H vs Q E hg hr h => ?_)
  · obtain ⟨_, _, rfl, _⟩ := h
    rfl
  · obtain ⟨a, ns, rfl, hS, hlen, q⟩ := h
    refine ⟨_, (pss_cons (ps_for PassesOwn.never rfl (pi_range1 (by rfl) T.n_range (pa_cons (pe_callB (call_max2 rfl) (by rfl) T.n_max (by decide +kernel) (pa_cons pe_int (pa_cons (pe_callB (call_min2 rfl) (by rfl) T.n_min (by decide +kernel) (pa_cons pe_int (pa_cons (pe_callB (lenL (K := K) rfl) (by rfl) T.n_len (by decide +kernel) (pa_cons (pv 0) pa_nil)) pa_nil))) pa_nil))) pa_nil)) (pg_name (i := 1) sc_law.nd rfl (.inl rfl)) (pss_cons (ps_set (i := 2) sc_law.nd rfl (.inl rfl) (pe_call G_law_pool (hr.mono (by decide)) (by rfl) T.g_law_pool T.F_law_pool.kp T.b_law_pool .nil pass0 (pa_cons (pv 0) (pa_cons (pv 1) pa_nil))))
      (pss_one (ps_for PassesOwn.never rfl (pi_tupL (K := K) rfl (pe_tup (pa_cons pe_int (pa_cons pe_int (pa_cons pe_int (pa_cons pe_int pa_nil)))))) (pg_name (i := 3) sc_law.nd rfl (.inl rfl)) (pss_one (ps_if (pt_not (pt_val (pe_callG G_law_right hg hr (by rfl) T.g_law_right T.F_law_right.kp T.b_law_right .nil pass0 (pa_cons (pv 2) (pa_cons (pe_op op_add pe_int (pe_call G_law_draw (hr.mono (by decide)) (by rfl) T.g_law_draw T.F_law_draw.kp T.b_law_draw .nil pass0 (pa_cons (pv 2) (pa_cons (pv 3) pa_nil)))) pa_nil))))) (pss_one (ps_ret pe_bl)) pss_nil))))))
      (pss_cons (ps_par (i := 4) (j := 5) (by rfl) sc_law.nd rfl rfl (by decide) rfl rfl (pa_cons (pe_lst (pa_cons pe_int (pa_cons pe_int (pa_cons pe_int (pa_cons pe_int (pa_cons pe_int (pa_cons pe_int (pa_cons pe_int (pa_cons pe_int pa_nil))))))))) (pa_cons (pe_lst (pa_cons pe_int (pa_cons pe_int (pa_cons pe_int (pa_cons pe_int (pa_cons pe_int (pa_cons pe_int (pa_cons pe_int (pa_cons pe_int pa_nil))))))))) pa_nil)) (by rfl))
      (pss_cons (ps_if (PW.pt (pw_or (pt_not (pt_val (pe_call G_are_twins (hr.mono (by decide)) (by rfl) T.g_are_twins T.F_are_twins.kp T.b_are_twins .nil pass0 (pa_cons (pv 4) (pa_cons (pv 5) pa_nil))))) (pw_or1 (pt_cmpR (neD (K := K) rfl hr) (pe_call G_own_lights (hr.mono (by decide)) (by rfl) T.g_own_lights T.F_own_lights.kp T.b_own_lights .nil pass0 (pa_cons (pv 4) pa_nil)) (pe_lst (pa_cons pe_int (pa_cons pe_int (pa_cons pe_int (pa_cons pe_int (pa_cons pe_int (pa_cons pe_int (pa_cons pe_int (pa_cons pe_int pa_nil))))))))) (nomark _))))) (pss_one (ps_ret pe_bl)) pss_nil)
      (pss_cons (ps_if (pt_val (pe_call G_are_twins (hr.mono (by decide)) (by rfl) T.g_are_twins T.F_are_twins.kp T.b_are_twins .nil pass0 (pa_cons (pv 4) (pa_cons (pe_lst (pa_cons pe_int (pa_cons pe_int (pa_cons pe_int (pa_cons pe_int (pa_cons pe_int (pa_cons pe_int (pa_cons pe_int (pa_cons pe_int pa_nil))))))))) pa_nil)))) (pss_one (ps_ret pe_bl)) pss_nil)
      (pss_cons (ps_if (pt_not (pt_val (pe_call G_are_twins (hr.mono (by decide)) (by rfl) T.g_are_twins T.F_are_twins.kp T.b_are_twins .nil pass0 (pa_cons (pe_lc (own := [("one", 6)]) (g := gName 6) (tt := tYes) (by rfl) sc_law.nd (pi_listL (K := K) rfl (pv 4)) (blkOk_by (own := [("one", 6)]) (N := ["script", "at", "pool", "top", "first", "second", "one"]) (sc := defScope s_law) (by decide +kernel))
        (fun _ _ _ _ _ => (pg_name (i := 6) sc_law.nd rfl (Or.inl rfl))) (fun _ _ _ _ _ => pts_nil) (fun _ _ _ _ _ => (pe_op op_mul pe_int (pv 6)))) (pa_cons (pe_lc (own := [("one", 6)]) (g := gName 6) (tt := tYes) (by rfl) sc_law.nd (pi_listL (K := K) rfl (pv 5)) (blkOk_by (own := [("one", 6)]) (N := ["script", "at", "pool", "top", "first", "second", "one"]) (sc := defScope s_law) (by decide +kernel))
        (fun _ _ _ _ _ => (pg_name (i := 6) sc_law.nd rfl (Or.inl rfl))) (fun _ _ _ _ _ => pts_nil) (fun _ _ _ _ _ => (pe_op op_mul pe_int (pv 6)))) pa_nil))))) (pss_one (ps_ret pe_bl)) pss_nil)
      (pss_one (ps_ret (pe_and (pe_callG G_law_right hg hr (by rfl) T.g_law_right T.F_law_right.kp T.b_law_right .nil pass0 (pa_cons (pe_call G_law_pool (hr.mono (by decide)) (by rfl) T.g_law_pool T.F_law_pool.kp T.b_law_pool .nil pass0 (pa_cons (pv 0) (pa_cons pe_int pa_nil))) (pa_cons pe_int pa_nil))) (pe_one (pe_cmpR (eqD (K := K) rfl hr) (pe_call G_own_lights (hr.mono (by decide)) (by rfl) T.g_own_lights T.F_own_lights.kp T.b_own_lights .nil pass0 (pa_cons (pe_lst (pa_cons pe_int (pa_cons pe_int pa_nil))) pa_nil)) (pe_lst (pa_cons pe_int (pa_cons pe_int pa_nil))) (nomark _))))))))))), ?_⟩
    refine ⟨.ref a, rfl, a, _, rfl, .inl hS, 6, _, rfl, 1, _, rfl, _, rfl, ?_, ?_, for_range (lo := 0)
      (fun i σ H' => ∃ y1 y2 y3 : Option V, σ = [some (.ref a), y1, y2, y3, none, none, none] ∧ Same H H' ∧ i ≤ 7) ⟨none, none, none, rfl, Same.refl H, by omega⟩ (fun i σ H1 hi hP => ?_) (fun σ H1 hP => ?_)⟩
    · split <;> split <;> omega
    · split <;> split <;> omega
    · obtain ⟨y1, y2, y3, rfl, s1, _⟩ := hP
      have hi6 : i < 7 := by
        revert hi
        split <;> split <;> omega
      refine ⟨.ref a, rfl, .int (0 + i), rfl, a, ns, 0 + i, rfl, s1.seq hS, by omega, by omega, fun t H2 s2 ht k2 => ?_⟩
      refine ⟨(by show 4 ≤ sizeLine; decide), fun p hp => ?_⟩
      have sp := new_same (o := .tup (([4, 9, 14, 40] : List Int).map V.int)) hp
      have npt : p ≠ t := k2.ne hp
      refine ⟨p, rfl, ⟨_, SqT.of upd_same⟩, for_tup (K := K) (a := p) (xs := ([4, 9, 14, 40] : List Int).map V.int)
        (fun j σ H' => ∃ z3 : Option V, σ = [some (.ref a), some (.int (0 + i)), some (.ref t), z3, none, none, none] ∧ But t (upd H2 p (.tup (([4, 9, 14, 40] : List Int).map V.int))) H' ∧ Tank H' t (1000 * j))
        ⟨_, rfl, But.refl t _, (k2.up hp).mono (by omega)⟩ (fun j σ H' _ ⟨_, _, u, _⟩ => SqT.of (u _ _ upd_same npt)) (fun j x σ H3 hx hP => ?_) (fun σ H3 hP => ?_)⟩
      · obtain ⟨z3, rfl, u3, k3⟩ := hP
        have hj4 : j < 4 := (List.getElem?_eq_some_iff.mp hx).1
        obtain ⟨m, hm, rfl⟩ := int_at hx
        have hm1 : 1 ≤ m ∧ m ≤ 40 := by
          have := List.mem_of_getElem? hm
          simp only [List.mem_cons, List.not_mem_nil, or_false] at this
          omega
        refine ⟨.ref t, rfl, .ref t, rfl, .int m, rfl, t, m, 1000 * j, rfl, by omega, by omega, k3, by omega, fun r H4 r1 r2 k4 u4 => ?_⟩
        refine ⟨1, r, rfl, rfl, t, 1 + r, 1000 * j + 1, rfl, by omega, by omega, k4, by omega, by omega, fun H5 u5 k5 => ?_⟩
        exact ⟨true, rfl, iteF ⟨_, rfl, (u3.trans u4).trans u5, k5.mono (by omega)⟩⟩
      · obtain ⟨z3, rfl, u3, k3⟩ := hP
        refine ⟨_, _, _, rfl, fun b o e => u3 _ _ (sp _ _ (s2 _ _ (s1 _ _ e))) (fun z => ?_), by omega⟩
        have e1 := s1 _ _ e
        rw [z, ht] at e1
        cases e1
    · obtain ⟨y1, y2, y3, rfl, s1, _⟩ := hP
      have hR1 : Rim [1, 1, 0, 1, 1, 0, 0, 0] := ⟨by decide, by decide, by decide⟩
      have hR2 : Rim [1, 1, 1, 0, 0, 1, 0, 0] := ⟨by decide, by decide, by decide⟩
      have hR3 : Rim [1, 1, 0, 0, 0, 1, 1, 0] := ⟨by decide, by decide, by decide⟩
      have hR4 : Rim [5, 5, 0, 5, 5, 0, 0, 0] := ⟨by decide, by decide, by decide⟩
      have hR5 : Rim [5, 5, 5, 0, 0, 5, 0, 0] := ⟨by decide, by decide, by decide⟩
      have hR6 : Rim [2, 5] := ⟨by decide, by decide, by decide⟩
      have x1 : twB [1, 1, 0, 1, 1, 0, 0, 0] [1, 1, 1, 0, 0, 1, 0, 0] = true := by decide +kernel
      have x2 : twB [1, 1, 0, 1, 1, 0, 0, 0] [1, 1, 0, 0, 0, 1, 1, 0] = false := by decide +kernel
      have x3 : twB [5, 5, 0, 5, 5, 0, 0, 0] [5, 5, 5, 0, 0, 5, 0, 0] = true := by decide +kernel
      have x4 : lightsV [1, 1, 0, 1, 1, 0, 0, 0] [1, 1, 0, 1, 1, 0, 0, 0] = [4, 2, 1, 2, 2, 2, 1, 2] := by decide +kernel
      have x5 : lightsV [2, 5] [2, 5] = [29, 20] := by decide +kernel
      refine ⟨(by show 8 ≤ sizeLine; decide), fun l hl => ⟨(by show 8 ≤ sizeLine; decide), fun m hm => ?_⟩⟩
      have gl : (upd (upd H1 l (.lst (([1, 1, 0, 1, 1, 0, 0, 0] : List Int).map V.int))) m (.lst (([1, 1, 1, 0, 0, 1, 0, 0] : List Int).map V.int))) l = some (.lst (([1, 1, 0, 1, 1, 0, 0, 0] : List Int).map V.int)) := new_same hm _ _ upd_same
      have gm : (upd (upd H1 l (.lst (([1, 1, 0, 1, 1, 0, 0, 0] : List Int).map V.int))) m (.lst (([1, 1, 1, 0, 0, 1, 0, 0] : List Int).map V.int))) m = some (.lst (([1, 1, 1, 0, 0, 1, 0, 0] : List Int).map V.int)) := upd_same
      have s2 := s1.trans ((new_same (o := .lst (([1, 1, 0, 1, 1, 0, 0, 0] : List Int).map V.int)) hl).trans (new_same (o := .lst (([1, 1, 1, 0, 0, 1, 0, 0] : List Int).map V.int)) hm))
      refine ⟨_, _, rfl, .ref l, rfl, .ref m, rfl, l, m, _, _, rfl, SqL.of gl, SqL.of gm, hR1, hR2, rfl, fun H3 s3 => ?_⟩
      rw [x1]
      refine ⟨true, rfl, iteF ?_⟩
      refine ⟨.ref l, rfl, l, _, rfl, SqL.of (s3 _ _ gl), hR1, fun o H4 s4 fo eo => ?_⟩
      rw [x4] at eo
      refine ⟨(by show 8 ≤ sizeLine; decide), fun o2 ho2 => ?_⟩
      have s5 := new_same (o := .lst [.int 4, .int 2, .int 1, .int 2, .int 2, .int 2, .int 1, .int 2]) ho2
      have rA : RP (dI [4, 2, 1, 2, 2, 2, 1, 2]) := rp_ints (by decide +kernel)
      refine ⟨_, _, dp_ints (ns := [4, 2, 1, 2, 2, 2, 1, 2]) (SqL.of (s5 _ _ eo)), dp_ints (ns := [4, 2, 1, 2, 2, 2, 1, 2]) (SqL.of upd_same), rA.shaped, rA.shaped, _, rfl, ?_⟩
      rw [rA.refl]
      refine iteF ?_
      have s35 := (s3.trans s4).trans s5
      have gl5 := s35 _ _ gl
      have gm5 := s35 _ _ gm
      have s25 := s2.trans s35
      generalize upd H4 o2 (.lst [.int 4, .int 2, .int 1, .int 2, .int 2, .int 2, .int 1, .int 2]) = H5 at gl5 gm5 s25 ⊢
      clear s5 s4 s3 s35 s2 gl gm eo
      -- are_twins(first, [..])
      refine ⟨.ref l, rfl, (by show 8 ≤ sizeLine; decide), fun o3 ho3 => ?_⟩
      have s6 := new_same (o := .lst (([1, 1, 0, 0, 0, 1, 1, 0] : List Int).map V.int)) ho3
      refine ⟨l, o3, _, [1, 1, 0, 0, 0, 1, 1, 0], rfl, SqL.of (s6 _ _ gl5), SqL.of upd_same, hR1, hR3, rfl, fun H6 s7 => ?_⟩
      rw [x2]
      refine ⟨false, rfl, iteF ?_⟩
      have s67 := s6.trans s7
      have gl6 := s67 _ _ gl5
      have gm6 := s67 _ _ gm5
      have s26 := s25.trans s67
      clear s6 s7 s67 gl5 gm5 s25
      -- are_twins([5 * ..], [5 * ..])
      refine ⟨.ref l, rfl, l, rfl, ⟨_, SqL.of gl6⟩, fun D1 hD1 => ?_⟩
      refine lc_list (K := K) (a := l) (xs := ([1, 1, 0, 1, 1, 0, 0, 0] : List Int).map V.int) (fun i H' => Same H6 H' ∧ H' D1 = some (.lst ((([5, 5, 0, 5, 5, 0, 0, 0] : List Int).take i).map V.int)))
        ⟨new_same hD1, upd_same⟩ (fun i H' _ hP => SqL.of (hP.1 _ _ gl6)) (fun i x H7 hx hP => ⟨rfl, ?_⟩) (fun H7 hP => ?_)
      · obtain ⟨s7, g7⟩ := hP
        obtain ⟨b, hb, rfl⟩ := int_at hx
        refine ⟨.int b, rfl, 5, b, rfl, rfl, .inl ⟨by decide, by decide⟩, _, g7, by rw [List.length_map, List.length_take]; exact sz40 (by show min i 8 ≤ 100000; omega), same_over s7 hD1, ?_⟩
        rw [upd_same, take_next]
        rw [show ([5, 5, 0, 5, 5, 0, 0, 0] : List Int) = ([1, 1, 0, 1, 1, 0, 0, 0] : List Int).map (5 * ·) from rfl, List.getElem?_map, hb]
        rfl
      obtain ⟨s7, g7⟩ := hP
      have gm7 := s7 _ _ gm6
      refine ⟨.ref m, rfl, m, rfl, ⟨_, SqL.of gm7⟩, fun D2 hD2 => ?_⟩
      refine lc_list (K := K) (a := m) (xs := ([1, 1, 1, 0, 0, 1, 0, 0] : List Int).map V.int) (fun i H' => Same H7 H' ∧ H' D2 = some (.lst ((([5, 5, 5, 0, 0, 5, 0, 0] : List Int).take i).map V.int)))
        ⟨new_same hD2, upd_same⟩ (fun i H' _ hP => SqL.of (hP.1 _ _ gm7)) (fun i x H8 hx hP => ⟨rfl, ?_⟩) (fun H8 hP => ?_)
      · obtain ⟨s8, g8⟩ := hP
        obtain ⟨b, hb, rfl⟩ := int_at hx
        refine ⟨.int b, rfl, 5, b, rfl, rfl, .inl ⟨by decide, by decide⟩, _, g8, by rw [List.length_map, List.length_take]; exact sz40 (by show min i 8 ≤ 100000; omega), same_over s8 hD2, ?_⟩
        rw [upd_same, take_next]
        rw [show ([5, 5, 5, 0, 0, 5, 0, 0] : List Int) = ([1, 1, 1, 0, 0, 1, 0, 0] : List Int).map (5 * ·) from rfl, List.getElem?_map, hb]
        rfl
      obtain ⟨s8, g8⟩ := hP
      refine ⟨D1, D2, [5, 5, 0, 5, 5, 0, 0, 0], [5, 5, 5, 0, 0, 5, 0, 0], rfl, SqL.of (s8 _ _ g7), SqL.of g8, hR4, hR5, rfl, fun H9 s9 => ?_⟩
      rw [x3]
      refine ⟨true, rfl, iteF ?_⟩
      have s29 := ((s26.trans s7).trans s8).trans s9
      clear s7 s8 s9 g7 g8 gm6 gm7 gl6 s26
      -- the last line
      refine ⟨.ref a, rfl, a, ns, 0, rfl, s29.seq hS, by omega, by omega, fun t HA sA ht k2 => ?_⟩
      refine ⟨t, 40, 0, rfl, by decide, by decide, k2, by decide, by decide, fun HB uB kB => ⟨true, rfl, iteT ?_⟩⟩
      refine ⟨(by show 2 ≤ sizeLine; decide), fun o4 ho4 => ?_⟩
      refine ⟨o4, [2, 5], rfl, SqL.of upd_same, hR6, fun o5 HC sC f5 e5 => ?_⟩
      rw [x5] at e5
      refine ⟨(by show 2 ≤ sizeLine; decide), fun o6 ho6 => ?_⟩
      have rB : RP (dI [29, 20]) := rp_ints (by decide +kernel)
      refine ⟨_, _, dp_ints (ns := [29, 20]) (SqL.of (new_same ho6 _ _ e5)), dp_ints (ns := [29, 20]) (SqL.of upd_same), rB.shaped, rB.shaped, ?_⟩
      rw [rB.refl]
      exact q _

end
/-! ### what the top has written, and the end -/
theorem all_mk {l : PySem.W.OpenLaw} {w : World} {K : PySem.W.Frag} {h : Heap} {mg : Str → Option Value} {fa : Addr} (X : K.In h) (G : h.Ns mainGlobals mg) (hfa : mg "law" = some (.ref fa))
    {f0 : Addr} {od0 an0 : Option Addr} {sl0 : Array (Option Value)} {oc0 kV0 dc0 pm0 cd0 ct0 : Value}
    (a0 : PySem.W.nsIn K mainGlobals "turned_list" = some (some (.ref f0))) (l0 : K.lookup f0 = some ⟨oc0, od0, .func (PySem.W.fnOf "turned_list" "turned_list" (defArgs s_turned_list) (defBody s_turned_list) (defScope s_turned_list) .none kV0 dc0 pm0 an0 cd0 ct0), sl0⟩) (c0 : PySem.W.codeIn K cd0 "turned_list" = true) (k0 : PySem.W.keepIn K (.ref f0) = true)
    {f1 : Addr} {od1 an1 : Option Addr} {sl1 : Array (Option Value)} {oc1 kV1 dc1 pm1 cd1 ct1 : Value}
    (a1 : PySem.W.nsIn K mainGlobals "mirrored_list" = some (some (.ref f1))) (l1 : K.lookup f1 = some ⟨oc1, od1, .func (PySem.W.fnOf "mirrored_list" "mirrored_list" (defArgs s_mirrored_list) (defBody s_mirrored_list) (defScope s_mirrored_list) .none kV1 dc1 pm1 an1 cd1 ct1), sl1⟩) (c1 : PySem.W.codeIn K cd1 "mirrored_list" = true) (k1 : PySem.W.keepIn K (.ref f1) = true)
    {f2 : Addr} {od2 an2 : Option Addr} {sl2 : Array (Option Value)} {oc2 kV2 dc2 pm2 cd2 ct2 : Value}
    (a2 : PySem.W.nsIn K mainGlobals "light_between" = some (some (.ref f2))) (l2 : K.lookup f2 = some ⟨oc2, od2, .func (PySem.W.fnOf "light_between" "light_between" (defArgs s_light_between) (defBody s_light_between) (defScope s_light_between) .none kV2 dc2 pm2 an2 cd2 ct2), sl2⟩) (c2 : PySem.W.codeIn K cd2 "light_between" = true) (k2 : PySem.W.keepIn K (.ref f2) = true)
    {f3 : Addr} {od3 an3 : Option Addr} {sl3 : Array (Option Value)} {oc3 kV3 dc3 pm3 cd3 ct3 : Value}
    (a3 : PySem.W.nsIn K mainGlobals "lights_between" = some (some (.ref f3))) (l3 : K.lookup f3 = some ⟨oc3, od3, .func (PySem.W.fnOf "lights_between" "lights_between" (defArgs s_lights_between) (defBody s_lights_between) (defScope s_lights_between) .none kV3 dc3 pm3 an3 cd3 ct3), sl3⟩) (c3 : PySem.W.codeIn K cd3 "lights_between" = true) (k3 : PySem.W.keepIn K (.ref f3) = true)
    {f4 : Addr} {od4 an4 : Option Addr} {sl4 : Array (Option Value)} {oc4 kV4 dc4 pm4 cd4 ct4 : Value}
    (a4 : PySem.W.nsIn K mainGlobals "is_integer" = some (some (.ref f4))) (l4 : K.lookup f4 = some ⟨oc4, od4, .func (PySem.W.fnOf "is_integer" "is_integer" (defArgs s_is_integer) (defBody s_is_integer) (defScope s_is_integer) .none kV4 dc4 pm4 an4 cd4 ct4), sl4⟩) (c4 : PySem.W.codeIn K cd4 "is_integer" = true) (k4 : PySem.W.keepIn K (.ref f4) = true)
    {f5 : Addr} {od5 an5 : Option Addr} {sl5 : Array (Option Value)} {oc5 kV5 dc5 pm5 cd5 ct5 : Value}
    (a5 : PySem.W.nsIn K mainGlobals "has_slots" = some (some (.ref f5))) (l5 : K.lookup f5 = some ⟨oc5, od5, .func (PySem.W.fnOf "has_slots" "has_slots" (defArgs s_has_slots) (defBody s_has_slots) (defScope s_has_slots) .none kV5 dc5 pm5 an5 cd5 ct5), sl5⟩) (c5 : PySem.W.codeIn K cd5 "has_slots" = true) (k5 : PySem.W.keepIn K (.ref f5) = true)
    {f6 : Addr} {od6 an6 : Option Addr} {sl6 : Array (Option Value)} {oc6 kV6 dc6 pm6 cd6 ct6 : Value}
    (a6 : PySem.W.nsIn K mainGlobals "wrong_light" = some (some (.ref f6))) (l6 : K.lookup f6 = some ⟨oc6, od6, .func (PySem.W.fnOf "wrong_light" "wrong_light" (defArgs s_wrong_light) (defBody s_wrong_light) (defScope s_wrong_light) .none kV6 dc6 pm6 an6 cd6 ct6), sl6⟩) (c6 : PySem.W.codeIn K cd6 "wrong_light" = true) (k6 : PySem.W.keepIn K (.ref f6) = true)
    {f7 : Addr} {od7 an7 : Option Addr} {sl7 : Array (Option Value)} {oc7 kV7 dc7 pm7 cd7 ct7 : Value}
    (a7 : PySem.W.nsIn K mainGlobals "wrong_slot" = some (some (.ref f7))) (l7 : K.lookup f7 = some ⟨oc7, od7, .func (PySem.W.fnOf "wrong_slot" "wrong_slot" (defArgs s_wrong_slot) (defBody s_wrong_slot) (defScope s_wrong_slot) .none kV7 dc7 pm7 an7 cd7 ct7), sl7⟩) (c7 : PySem.W.codeIn K cd7 "wrong_slot" = true) (k7 : PySem.W.keepIn K (.ref f7) = true)
    {f8 : Addr} {od8 an8 : Option Addr} {sl8 : Array (Option Value)} {oc8 kV8 dc8 pm8 cd8 ct8 : Value}
    (a8 : PySem.W.nsIn K mainGlobals "check_disc" = some (some (.ref f8))) (l8 : K.lookup f8 = some ⟨oc8, od8, .func (PySem.W.fnOf "check_disc" "check_disc" (defArgs s_check_disc) (defBody s_check_disc) (defScope s_check_disc) .none kV8 dc8 pm8 an8 cd8 ct8), sl8⟩) (c8 : PySem.W.codeIn K cd8 "check_disc" = true) (k8 : PySem.W.keepIn K (.ref f8) = true)
    {f9 : Addr} {od9 an9 : Option Addr} {sl9 : Array (Option Value)} {oc9 kV9 dc9 pm9 cd9 ct9 : Value}
    (a9 : PySem.W.nsIn K mainGlobals "check_discs" = some (some (.ref f9))) (l9 : K.lookup f9 = some ⟨oc9, od9, .func (PySem.W.fnOf "check_discs" "check_discs" (defArgs s_check_discs) (defBody s_check_discs) (defScope s_check_discs) .none kV9 dc9 pm9 an9 cd9 ct9), sl9⟩) (c9 : PySem.W.codeIn K cd9 "check_discs" = true) (k9 : PySem.W.keepIn K (.ref f9) = true)
    {f10 : Addr} {od10 an10 : Option Addr} {sl10 : Array (Option Value)} {oc10 kV10 dc10 pm10 cd10 ct10 : Value}
    (a10 : PySem.W.nsIn K mainGlobals "are_like" = some (some (.ref f10))) (l10 : K.lookup f10 = some ⟨oc10, od10, .func (PySem.W.fnOf "are_like" "are_like" (defArgs s_are_like) (defBody s_are_like) (defScope s_are_like) .none kV10 dc10 pm10 an10 cd10 ct10), sl10⟩) (c10 : PySem.W.codeIn K cd10 "are_like" = true) (k10 : PySem.W.keepIn K (.ref f10) = true)
    {f11 : Addr} {od11 an11 : Option Addr} {sl11 : Array (Option Value)} {oc11 kV11 dc11 pm11 cd11 ct11 : Value}
    (a11 : PySem.W.nsIn K mainGlobals "_least_turned" = some (some (.ref f11))) (l11 : K.lookup f11 = some ⟨oc11, od11, .func (PySem.W.fnOf "_least_turned" "_least_turned" (defArgs s_least_turned) (defBody s_least_turned) (defScope s_least_turned) .none kV11 dc11 pm11 an11 cd11 ct11), sl11⟩) (c11 : PySem.W.codeIn K cd11 "_least_turned" = true) (k11 : PySem.W.keepIn K (.ref f11) = true)
    {f12 : Addr} {od12 an12 : Option Addr} {sl12 : Array (Option Value)} {oc12 kV12 dc12 pm12 cd12 ct12 : Value}
    (a12 : PySem.W.nsIn K mainGlobals "_least_like" = some (some (.ref f12))) (l12 : K.lookup f12 = some ⟨oc12, od12, .func (PySem.W.fnOf "_least_like" "_least_like" (defArgs s_least_like) (defBody s_least_like) (defScope s_least_like) .none kV12 dc12 pm12 an12 cd12 ct12), sl12⟩) (c12 : PySem.W.codeIn K cd12 "_least_like" = true) (k12 : PySem.W.keepIn K (.ref f12) = true)
    {f13 : Addr} {od13 an13 : Option Addr} {sl13 : Array (Option Value)} {oc13 kV13 dc13 pm13 cd13 ct13 : Value}
    (a13 : PySem.W.nsIn K mainGlobals "own_lights" = some (some (.ref f13))) (l13 : K.lookup f13 = some ⟨oc13, od13, .func (PySem.W.fnOf "own_lights" "own_lights" (defArgs s_own_lights) (defBody s_own_lights) (defScope s_own_lights) .none kV13 dc13 pm13 an13 cd13 ct13), sl13⟩) (c13 : PySem.W.codeIn K cd13 "own_lights" = true) (k13 : PySem.W.keepIn K (.ref f13) = true)
    {f14 : Addr} {od14 an14 : Option Addr} {sl14 : Array (Option Value)} {oc14 kV14 dc14 pm14 cd14 ct14 : Value}
    (a14 : PySem.W.nsIn K mainGlobals "are_twins" = some (some (.ref f14))) (l14 : K.lookup f14 = some ⟨oc14, od14, .func (PySem.W.fnOf "are_twins" "are_twins" (defArgs s_are_twins) (defBody s_are_twins) (defScope s_are_twins) .none kV14 dc14 pm14 an14 cd14 ct14), sl14⟩) (c14 : PySem.W.codeIn K cd14 "are_twins" = true) (k14 : PySem.W.keepIn K (.ref f14) = true)
    {f15 : Addr} {od15 an15 : Option Addr} {sl15 : Array (Option Value)} {oc15 kV15 dc15 pm15 cd15 ct15 : Value}
    (a15 : PySem.W.nsIn K mainGlobals "_law_pool" = some (some (.ref f15))) (l15 : K.lookup f15 = some ⟨oc15, od15, .func (PySem.W.fnOf "_law_pool" "_law_pool" (defArgs s_law_pool) (defBody s_law_pool) (defScope s_law_pool) .none kV15 dc15 pm15 an15 cd15 ct15), sl15⟩) (c15 : PySem.W.codeIn K cd15 "_law_pool" = true) (k15 : PySem.W.keepIn K (.ref f15) = true)
    {f16 : Addr} {od16 an16 : Option Addr} {sl16 : Array (Option Value)} {oc16 kV16 dc16 pm16 cd16 ct16 : Value}
    (a16 : PySem.W.nsIn K mainGlobals "_law_draw" = some (some (.ref f16))) (l16 : K.lookup f16 = some ⟨oc16, od16, .func (PySem.W.fnOf "_law_draw" "_law_draw" (defArgs s_law_draw) (defBody s_law_draw) (defScope s_law_draw) .none kV16 dc16 pm16 an16 cd16 ct16), sl16⟩) (c16 : PySem.W.codeIn K cd16 "_law_draw" = true) (k16 : PySem.W.keepIn K (.ref f16) = true)
    {f17 : Addr} {od17 an17 : Option Addr} {sl17 : Array (Option Value)} {oc17 kV17 dc17 pm17 cd17 ct17 : Value}
    (a17 : PySem.W.nsIn K mainGlobals "_law_plate" = some (some (.ref f17))) (l17 : K.lookup f17 = some ⟨oc17, od17, .func (PySem.W.fnOf "_law_plate" "_law_plate" (defArgs s_law_plate) (defBody s_law_plate) (defScope s_law_plate) .none kV17 dc17 pm17 an17 cd17 ct17), sl17⟩) (c17 : PySem.W.codeIn K cd17 "_law_plate" = true) (k17 : PySem.W.keepIn K (.ref f17) = true)
    {f18 : Addr} {od18 an18 : Option Addr} {sl18 : Array (Option Value)} {oc18 kV18 dc18 pm18 cd18 ct18 : Value}
    (a18 : PySem.W.nsIn K mainGlobals "_law_slits" = some (some (.ref f18))) (l18 : K.lookup f18 = some ⟨oc18, od18, .func (PySem.W.fnOf "_law_slits" "_law_slits" (defArgs s_law_slits) (defBody s_law_slits) (defScope s_law_slits) .none kV18 dc18 pm18 an18 cd18 ct18), sl18⟩) (c18 : PySem.W.codeIn K cd18 "_law_slits" = true) (k18 : PySem.W.keepIn K (.ref f18) = true)
    {f19 : Addr} {od19 an19 : Option Addr} {sl19 : Array (Option Value)} {oc19 kV19 dc19 pm19 cd19 ct19 : Value}
    (a19 : PySem.W.nsIn K mainGlobals "_law_own" = some (some (.ref f19))) (l19 : K.lookup f19 = some ⟨oc19, od19, .func (PySem.W.fnOf "_law_own" "_law_own" (defArgs s_law_own) (defBody s_law_own) (defScope s_law_own) .none kV19 dc19 pm19 an19 cd19 ct19), sl19⟩) (c19 : PySem.W.codeIn K cd19 "_law_own" = true) (k19 : PySem.W.keepIn K (.ref f19) = true)
    {f20 : Addr} {od20 an20 : Option Addr} {sl20 : Array (Option Value)} {oc20 kV20 dc20 pm20 cd20 ct20 : Value}
    (a20 : PySem.W.nsIn K mainGlobals "_law_turned" = some (some (.ref f20))) (l20 : K.lookup f20 = some ⟨oc20, od20, .func (PySem.W.fnOf "_law_turned" "_law_turned" (defArgs s_law_turned) (defBody s_law_turned) (defScope s_law_turned) .none kV20 dc20 pm20 an20 cd20 ct20), sl20⟩) (c20 : PySem.W.codeIn K cd20 "_law_turned" = true) (k20 : PySem.W.keepIn K (.ref f20) = true)
    {f21 : Addr} {od21 an21 : Option Addr} {sl21 : Array (Option Value)} {oc21 kV21 dc21 pm21 cd21 ct21 : Value}
    (a21 : PySem.W.nsIn K mainGlobals "_law_back" = some (some (.ref f21))) (l21 : K.lookup f21 = some ⟨oc21, od21, .func (PySem.W.fnOf "_law_back" "_law_back" (defArgs s_law_back) (defBody s_law_back) (defScope s_law_back) .none kV21 dc21 pm21 an21 cd21 ct21), sl21⟩) (c21 : PySem.W.codeIn K cd21 "_law_back" = true) (k21 : PySem.W.keepIn K (.ref f21) = true)
    {f22 : Addr} {od22 an22 : Option Addr} {sl22 : Array (Option Value)} {oc22 kV22 dc22 pm22 cd22 ct22 : Value}
    (a22 : PySem.W.nsIn K mainGlobals "_law_form" = some (some (.ref f22))) (l22 : K.lookup f22 = some ⟨oc22, od22, .func (PySem.W.fnOf "_law_form" "_law_form" (defArgs s_law_form) (defBody s_law_form) (defScope s_law_form) .none kV22 dc22 pm22 an22 cd22 ct22), sl22⟩) (c22 : PySem.W.codeIn K cd22 "_law_form" = true) (k22 : PySem.W.keepIn K (.ref f22) = true)
    {f23 : Addr} {od23 an23 : Option Addr} {sl23 : Array (Option Value)} {oc23 kV23 dc23 pm23 cd23 ct23 : Value}
    (a23 : PySem.W.nsIn K mainGlobals "_law_laid" = some (some (.ref f23))) (l23 : K.lookup f23 = some ⟨oc23, od23, .func (PySem.W.fnOf "_law_laid" "_law_laid" (defArgs s_law_laid) (defBody s_law_laid) (defScope s_law_laid) .none kV23 dc23 pm23 an23 cd23 ct23), sl23⟩) (c23 : PySem.W.codeIn K cd23 "_law_laid" = true) (k23 : PySem.W.keepIn K (.ref f23) = true)
    {f24 : Addr} {od24 an24 : Option Addr} {sl24 : Array (Option Value)} {oc24 kV24 dc24 pm24 cd24 ct24 : Value}
    (a24 : PySem.W.nsIn K mainGlobals "_law_own_right" = some (some (.ref f24))) (l24 : K.lookup f24 = some ⟨oc24, od24, .func (PySem.W.fnOf "_law_own_right" "_law_own_right" (defArgs s_law_own_right) (defBody s_law_own_right) (defScope s_law_own_right) .none kV24 dc24 pm24 an24 cd24 ct24), sl24⟩) (c24 : PySem.W.codeIn K cd24 "_law_own_right" = true) (k24 : PySem.W.keepIn K (.ref f24) = true)
    {f25 : Addr} {od25 an25 : Option Addr} {sl25 : Array (Option Value)} {oc25 kV25 dc25 pm25 cd25 ct25 : Value}
    (a25 : PySem.W.nsIn K mainGlobals "_law_pair_right" = some (some (.ref f25))) (l25 : K.lookup f25 = some ⟨oc25, od25, .func (PySem.W.fnOf "_law_pair_right" "_law_pair_right" (defArgs s_law_pair_right) (defBody s_law_pair_right) (defScope s_law_pair_right) .none kV25 dc25 pm25 an25 cd25 ct25), sl25⟩) (c25 : PySem.W.codeIn K cd25 "_law_pair_right" = true) (k25 : PySem.W.keepIn K (.ref f25) = true)
    {f26 : Addr} {od26 an26 : Option Addr} {sl26 : Array (Option Value)} {oc26 kV26 dc26 pm26 cd26 ct26 : Value}
    (a26 : PySem.W.nsIn K mainGlobals "_law_right" = some (some (.ref f26))) (l26 : K.lookup f26 = some ⟨oc26, od26, .func (PySem.W.fnOf "_law_right" "_law_right" (defArgs s_law_right) (defBody s_law_right) (defScope s_law_right) .none kV26 dc26 pm26 an26 cd26 ct26), sl26⟩) (c26 : PySem.W.codeIn K cd26 "_law_right" = true) (k26 : PySem.W.keepIn K (.ref f26) = true)
    {f27 : Addr} {od27 an27 : Option Addr} {sl27 : Array (Option Value)} {oc27 kV27 dc27 pm27 cd27 ct27 : Value}
    (a27 : PySem.W.nsIn K mainGlobals "law" = some (some (.ref f27))) (l27 : K.lookup f27 = some ⟨oc27, od27, .func (PySem.W.fnOf "law" "law" (defArgs s_law) (defBody s_law) (defScope s_law) .none kV27 dc27 pm27 an27 cd27 ct27), sl27⟩) (c27 : PySem.W.codeIn K cd27 "law" = true) (k27 : PySem.W.keepIn K (.ref f27) = true)
    {t_MOST_SLOTS : Tok} (m_MOST_SLOTS : PySem.W.nsIn K mainGlobals "MOST_SLOTS" = some (some (.int (40) t_MOST_SLOTS)))
    {t_MOST_LIGHT : Tok} (m_MOST_LIGHT : PySem.W.nsIn K mainGlobals "MOST_LIGHT" = some (some (.int (1000000000000000000000000000000) t_MOST_LIGHT)))
    (z_abs : PySem.W.nsIn K mainGlobals "abs" = some none)
    (z_bool : PySem.W.nsIn K mainGlobals "bool" = some none)
    (z_enumerate : PySem.W.nsIn K mainGlobals "enumerate" = some none)
    (z_int : PySem.W.nsIn K mainGlobals "int" = some none)
    (z_isinstance : PySem.W.nsIn K mainGlobals "isinstance" = some none)
    (z_len : PySem.W.nsIn K mainGlobals "len" = some none)
    (z_list : PySem.W.nsIn K mainGlobals "list" = some none)
    (z_max : PySem.W.nsIn K mainGlobals "max" = some none)
    (z_min : PySem.W.nsIn K mainGlobals "min" = some none)
    (z_range : PySem.W.nsIn K mainGlobals "range" = some none)
    (z_repr : PySem.W.nsIn K mainGlobals "repr" = some none)
    (z_sum : PySem.W.nsIn K mainGlobals "sum" = some none)
    (z_zip : PySem.W.nsIn K mainGlobals "zip" = some none)
    : ∃ fd : FuncData, (∀ (s : Shared) (u : Value), BindsTo s fd ⟨[u], []⟩ [("script", u)]) ∧ ∀ base : Heap, K.In base → base.Ns mainGlobals mg → FnG l.prog w K mg base CX0 10 fa fd ["script"] (spLaw K) := by
  have e := hfa.symm.trans (PySem.W.mg_of X G a27)
  cases e
  have F0 := fun_mk (st := s_turned_list) l0 c0 k0
  have b0 := F0.binds (ps := ["items", "turn"]) fun _ _ _ _ _ _ us hl => match us, hl with | [_, _], _ => rfl
  have F1 := fun_mk (st := s_mirrored_list) l1 c1 k1
  have b1 := F1.binds (ps := ["items"]) fun _ _ _ _ _ _ us hl => match us, hl with | [_], _ => rfl
  have F2 := fun_mk (st := s_light_between) l2 c2 k2
  have b2 := F2.binds (ps := ["disc", "row", "turn"]) fun _ _ _ _ _ _ us hl => match us, hl with | [_, _, _], _ => rfl
  have F3 := fun_mk (st := s_lights_between) l3 c3 k3
  have b3 := F3.binds (ps := ["disc", "row"]) fun _ _ _ _ _ _ us hl => match us, hl with | [_, _], _ => rfl
  have F4 := fun_mk (st := s_is_integer) l4 c4 k4
  have b4 := F4.binds (ps := ["value"]) fun _ _ _ _ _ _ us hl => match us, hl with | [_], _ => rfl
  have F5 := fun_mk (st := s_has_slots) l5 c5 k5
  have b5 := F5.binds (ps := ["value"]) fun _ _ _ _ _ _ us hl => match us, hl with | [_], _ => rfl
  have F6 := fun_mk (st := s_wrong_light) l6 c6 k6
  have b6 := F6.binds (ps := ["items", "most"]) fun _ _ _ _ _ _ us hl => match us, hl with | [_, _], _ => rfl
  have F7 := fun_mk (st := s_wrong_slot) l7 c7 k7
  have b7 := F7.binds (ps := ["items"]) fun _ _ _ _ _ _ us hl => match us, hl with | [_], _ => rfl
  have F8 := fun_mk (st := s_check_disc) l8 c8 k8
  have b8 := F8.binds (ps := ["disc"]) fun _ _ _ _ _ _ us hl => match us, hl with | [_], _ => rfl
  have F9 := fun_mk (st := s_check_discs) l9 c9 k9
  have b9 := F9.binds (ps := ["disc", "other"]) fun _ _ _ _ _ _ us hl => match us, hl with | [_, _], _ => rfl
  have F10 := fun_mk (st := s_are_like) l10 c10 k10
  have b10 := F10.binds (ps := ["disc", "other"]) fun _ _ _ _ _ _ us hl => match us, hl with | [_, _], _ => rfl
  have F11 := fun_mk (st := s_least_turned) l11 c11 k11
  have b11 := F11.binds (ps := ["disc"]) fun _ _ _ _ _ _ us hl => match us, hl with | [_], _ => rfl
  have F12 := fun_mk (st := s_least_like) l12 c12 k12
  have b12 := F12.binds (ps := ["disc"]) fun _ _ _ _ _ _ us hl => match us, hl with | [_], _ => rfl
  have F13 := fun_mk (st := s_own_lights) l13 c13 k13
  have b13 := F13.binds (ps := ["disc"]) fun _ _ _ _ _ _ us hl => match us, hl with | [_], _ => rfl
  have F14 := fun_mk (st := s_are_twins) l14 c14 k14
  have b14 := F14.binds (ps := ["disc", "other"]) fun _ _ _ _ _ _ us hl => match us, hl with | [_, _], _ => rfl
  have F15 := fun_mk (st := s_law_pool) l15 c15 k15
  have b15 := F15.binds (ps := ["script", "at"]) fun _ _ _ _ _ _ us hl => match us, hl with | [_, _], _ => rfl
  have F16 := fun_mk (st := s_law_draw) l16 c16 k16
  have b16 := F16.binds (ps := ["pool", "top"]) fun _ _ _ _ _ _ us hl => match us, hl with | [_, _], _ => rfl
  have F17 := fun_mk (st := s_law_plate) l17 c17 k17
  have b17 := F17.binds (ps := ["pool", "size"]) fun _ _ _ _ _ _ us hl => match us, hl with | [_, _], _ => rfl
  have F18 := fun_mk (st := s_law_slits) l18 c18 k18
  have b18 := F18.binds (ps := ["pool", "size"]) fun _ _ _ _ _ _ us hl => match us, hl with | [_, _], _ => rfl
  have F19 := fun_mk (st := s_law_own) l19 c19 k19
  have b19 := F19.binds (ps := ["plate"]) fun _ _ _ _ _ _ us hl => match us, hl with | [_], _ => rfl
  have F20 := fun_mk (st := s_law_turned) l20 c20 k20
  have b20 := F20.binds (ps := ["plate", "by"]) fun _ _ _ _ _ _ us hl => match us, hl with | [_, _], _ => rfl
  have F21 := fun_mk (st := s_law_back) l21 c21 k21
  have b21 := F21.binds (ps := ["plate"]) fun _ _ _ _ _ _ us hl => match us, hl with | [_], _ => rfl
  have F22 := fun_mk (st := s_law_form) l22 c22 k22
  have b22 := F22.binds (ps := ["plate"]) fun _ _ _ _ _ _ us hl => match us, hl with | [_], _ => rfl
  have F23 := fun_mk (st := s_law_laid) l23 c23 k23
  have b23 := F23.binds (ps := ["plate", "second"]) fun _ _ _ _ _ _ us hl => match us, hl with | [_, _], _ => rfl
  have F24 := fun_mk (st := s_law_own_right) l24 c24 k24
  have b24 := F24.binds (ps := ["plate"]) fun _ _ _ _ _ _ us hl => match us, hl with | [_], _ => rfl
  have F25 := fun_mk (st := s_law_pair_right) l25 c25 k25
  have b25 := F25.binds (ps := ["plate", "second"]) fun _ _ _ _ _ _ us hl => match us, hl with | [_, _], _ => rfl
  have F26 := fun_mk (st := s_law_right) l26 c26 k26
  have b26 := F26.binds (ps := ["pool", "size"]) fun _ _ _ _ _ _ us hl => match us, hl with | [_, _], _ => rfl
  have F27 := fun_mk (st := s_law) l27 c27 k27
  exact ⟨_, fun s v => .of_eq rfl, fun base _ _ => ok_law ⟨f0, _, F0, b0, PySem.W.mg_of X G a0, f1, _, F1, b1, PySem.W.mg_of X G a1, f2, _, F2, b2, PySem.W.mg_of X G a2, f3, _, F3, b3, PySem.W.mg_of X G a3, f4, _, F4, b4, PySem.W.mg_of X G a4, f5, _, F5, b5, PySem.W.mg_of X G a5, f6, _, F6, b6, PySem.W.mg_of X G a6, f7, _, F7, b7, PySem.W.mg_of X G a7, f8, _, F8, b8, PySem.W.mg_of X G a8, f9, _, F9, b9, PySem.W.mg_of X G a9, f10, _, F10, b10, PySem.W.mg_of X G a10, f11, _, F11, b11, PySem.W.mg_of X G a11, f12, _, F12, b12, PySem.W.mg_of X G a12, f13, _, F13, b13, PySem.W.mg_of X G a13, f14, _, F14, b14, PySem.W.mg_of X G a14, f15, _, F15, b15, PySem.W.mg_of X G a15, f16, _, F16, b16, PySem.W.mg_of X G a16, f17, _, F17, b17, PySem.W.mg_of X G a17, f18, _, F18, b18, PySem.W.mg_of X G a18, f19, _, F19, b19, PySem.W.mg_of X G a19, f20, _, F20, b20, PySem.W.mg_of X G a20, f21, _, F21, b21, PySem.W.mg_of X G a21, f22, _, F22, b22, PySem.W.mg_of X G a22, f23, _, F23, b23, PySem.W.mg_of X G a23, f24, _, F24, b24, PySem.W.mg_of X G a24, f25, _, F25, b25, PySem.W.mg_of X G a25, f26, _, F26, b26, PySem.W.mg_of X G a26, fa, _, F27, PySem.W.mg_of X G a27, t_MOST_SLOTS, PySem.W.mg_of X G m_MOST_SLOTS, t_MOST_LIGHT, PySem.W.mg_of X G m_MOST_LIGHT, PySem.W.mg_none_of X G z_abs, PySem.W.mg_none_of X G z_bool, PySem.W.mg_none_of X G z_enumerate, PySem.W.mg_none_of X G z_int, PySem.W.mg_none_of X G z_isinstance, PySem.W.mg_none_of X G z_len, PySem.W.mg_none_of X G z_list, PySem.W.mg_none_of X G z_max, PySem.W.mg_none_of X G z_min, PySem.W.mg_none_of X G z_range, PySem.W.mg_none_of X G z_repr, PySem.W.mg_none_of X G z_sum, PySem.W.mg_none_of X G z_zip⟩⟩
end Sd
open PySem PySem.W PyProof.Rows
set_option maxRecDepth 100000 in
set_option maxHeartbeats 0 in
theorem PySem.Challenge.cw_slitdiscs_k22_own_lights_holds : PySem.Challenge.rw_slitdiscs_k22_own_lights.Holds := by
  w_on; o_law; k_head; (case hw => w_witness2)
  k_fill
  refine Sd.gwalk (l := PySem.Challenge.rw_slitdiscs_k22_own_lights) (n := 63) (k := 10) (x := "script") (sp := Sd.spLaw) rfl (by decide) rfl ⟨rfl, by decide, by decide⟩ (fun w h Y => PySem.W.kIn_of Y) ?F (fun _ _ a ns hl hS => ⟨a, ns, rfl, hS, hl, fun _ => rfl⟩)
  case F =>
    intro w mg fa h KX G hmg
    refine' Sd.all_mk KX G hmg ?a0 ?l0 ?c0 ?k0 ?a1 ?l1 ?c1 ?k1 ?a2 ?l2 ?c2 ?k2 ?a3 ?l3 ?c3 ?k3 ?a4 ?l4 ?c4 ?k4 ?a5 ?l5 ?c5 ?k5 ?a6 ?l6 ?c6 ?k6 ?a7 ?l7 ?c7 ?k7 ?a8 ?l8 ?c8 ?k8 ?a9 ?l9 ?c9 ?k9 ?a10 ?l10 ?c10 ?k10 ?a11 ?l11 ?c11 ?k11 ?a12 ?l12 ?c12 ?k12 ?a13 ?l13 ?c13 ?k13 ?a14 ?l14 ?c14 ?k14 ?a15 ?l15 ?c15 ?k15 ?a16 ?l16 ?c16 ?k16 ?a17 ?l17 ?c17 ?k17 ?a18 ?l18 ?c18 ?k18 ?a19 ?l19 ?c19 ?k19 ?a20 ?l20 ?c20 ?k20 ?a21 ?l21 ?c21 ?k21 ?a22 ?l22 ?c22 ?k22 ?a23 ?l23 ?c23 ?k23 ?a24 ?l24 ?c24 ?k24 ?a25 ?l25 ?c25 ?k25 ?a26 ?l26 ?c26 ?k26 ?a27 ?l27 ?c27 ?k27 ?m_MOST_SLOTS ?m_MOST_LIGHT ?z_abs ?z_bool ?z_enumerate ?z_int ?z_isinstance ?z_len ?z_list ?z_max ?z_min ?z_range ?z_repr ?z_sum ?z_zip
    (case a0 => k_is)
    (case l0 => k_is)
    (case c0 => k_is)
    (case k0 => k_is)
    (case a1 => k_is)
    (case l1 => k_is)
    (case c1 => k_is)
    (case k1 => k_is)
    (case a2 => k_is)
    (case l2 => k_is)
    (case c2 => k_is)
    (case k2 => k_is)
    (case a3 => k_is)
    (case l3 => k_is)
    (case c3 => k_is)
    (case k3 => k_is)
    (case a4 => k_is)
    (case l4 => k_is)
    (case c4 => k_is)
    (case k4 => k_is)
    (case a5 => k_is)
    (case l5 => k_is)
    (case c5 => k_is)
    (case k5 => k_is)
    (case a6 => k_is)
    (case l6 => k_is)
    (case c6 => k_is)
    (case k6 => k_is)
    (case a7 => k_is)
    (case l7 => k_is)
    (case c7 => k_is)
    (case k7 => k_is)
    (case a8 => k_is)
    (case l8 => k_is)
    (case c8 => k_is)
    (case k8 => k_is)
    (case a9 => k_is)
    (case l9 => k_is)
    (case c9 => k_is)
    (case k9 => k_is)
    (case a10 => k_is)
    (case l10 => k_is)
    (case c10 => k_is)
    (case k10 => k_is)
    (case a11 => k_is)
    (case l11 => k_is)
    (case c11 => k_is)
    (case k11 => k_is)
    (case a12 => k_is)
    (case l12 => k_is)
    (case c12 => k_is)
    (case k12 => k_is)
    (case a13 => k_is)
    (case l13 => k_is)
    (case c13 => k_is)
    (case k13 => k_is)
    (case a14 => k_is)
    (case l14 => k_is)
    (case c14 => k_is)
    (case k14 => k_is)
    (case a15 => k_is)
    (case l15 => k_is)
    (case c15 => k_is)
    (case k15 => k_is)
    (case a16 => k_is)
    (case l16 => k_is)
    (case c16 => k_is)
    (case k16 => k_is)
    (case a17 => k_is)
    (case l17 => k_is)
    (case c17 => k_is)
    (case k17 => k_is)
    (case a18 => k_is)
    (case l18 => k_is)
    (case c18 => k_is)
    (case k18 => k_is)
    (case a19 => k_is)
    (case l19 => k_is)
    (case c19 => k_is)
    (case k19 => k_is)
    (case a20 => k_is)
    (case l20 => k_is)
    (case c20 => k_is)
    (case k20 => k_is)
    (case a21 => k_is)
    (case l21 => k_is)
    (case c21 => k_is)
    (case k21 => k_is)
    (case a22 => k_is)
    (case l22 => k_is)
    (case c22 => k_is)
    (case k22 => k_is)
    (case a23 => k_is)
    (case l23 => k_is)
    (case c23 => k_is)
    (case k23 => k_is)
    (case a24 => k_is)
    (case l24 => k_is)
    (case c24 => k_is)
    (case k24 => k_is)
    (case a25 => k_is)
    (case l25 => k_is)
    (case c25 => k_is)
    (case k25 => k_is)
    (case a26 => k_is)
    (case l26 => k_is)
    (case c26 => k_is)
    (case k26 => k_is)
    (case a27 => k_is)
    (case l27 => k_is)
    (case c27 => k_is)
    (case k27 => k_is)
    (case m_MOST_SLOTS => k_is)
    (case m_MOST_LIGHT => k_is)
    (case z_abs => k_is)
    (case z_bool => k_is)
    (case z_enumerate => k_is)
    (case z_int => k_is)
    (case z_isinstance => k_is)
    (case z_len => k_is)
    (case z_list => k_is)
    (case z_max => k_is)
    (case z_min => k_is)
    (case z_range => k_is)
    (case z_repr => k_is)
    (case z_sum => k_is)
    (case z_zip => k_is)
