import PyProof.Rows.All
import Wide.All
import OpenK.AllK
import Wide.FinOn
import HandS.Comp
import HandS.Ends
import HandS.Iter
import HandS.Words
import HandS.WordsList
import HandS.Walk
import HandS.IsInst
import HandS.Wide
import PyProof.ReprRoads
import PyProof.ReprLen
import PySem.Challenge.RW_slitdiscs_k02_turned_and_mirrored_discs
set_option Elab.async false
set_option linter.all false
set_option maxRecDepth 100000
set_option maxHeartbeats 4000000
/-! Own layer over HandS: defs that run where no repr is under way (FnG), repr of data, powers of great ints, calls by keywords alone. -/
namespace Sd
open PySem PySem.Spec PyProof.Rows L2

/-! ### a def called where no repr is under way -/
structure FnG (P : Program) (w : World) (K : PySem.W.Frag) (mg : Str → Option Value) (base : Heap) (C : CXT) (k : Nat) (f : Addr) (fd : FuncData) (ps : List Str) (sp : Sp) : Prop where
  cnt : ∀ {vs H Q E}, sp vs H Q E → vs.length = ps.length
  go : ∀ (A : Around) (out : List Env) (s : Shared) (H : Hp) (ar : Args) (us : List Value) (vs : List V) (Q : VK) (E : XK), A.guards = some [] → Room k A →
    Env0 P w K mg base A out s H → BindsTo s fd ar (ps.zip us) → Vals vs us → sp vs H Q E →
    codeAny (model P w) A (.call (.ref f) ar) (CR C out P w H s Q E) s

section
variable {P : Program} {w : World} {K : PySem.W.Frag} {mg : Str → Option Value} {base : Heap} {C : CXT}
theorem gfn_of {k : Nat} {f : Addr} {nm ql : Str} {pms : Arguments} {bd : List Stmt} {sc : Scope} {v1 v2 v3 v4 cd v5 oc : Value} {an od : Option Addr}
    {osl : Array (Option Value)} {N ps : List Str} {sp : Sp}
    (lk : K.lookup f = some ⟨oc, od, .func (PySem.W.fnOf nm ql pms bd sc v1 v2 v3 v4 an cd v5), osl⟩)
    (hc : PySem.W.codeIn K cd ql = true) (S : FnScope N ps sc)
    (len : ∀ vs H Q E, sp vs H Q E → vs.length = ps.length)
    (hb : ∀ (A : Around) (out : List Env) (s : Shared) (H : Hp) (vs : List V) (Q : VK) (E : XK), A.guards = some [] →
      Room k (A.deeper (envOfC ql sc s.heap.objs.size f cd)) → sp vs H Q E →
      ∃ t, PSs (cxOf C P w K mg base N ql sc f cd A out s H E) bd t ∧ t { nx := fun _ H' => Q .non H', rt := Q } (start N vs) H) :
    FnG P w K mg base C (k + 1) f (PySem.W.fnOf nm ql pms bd sc v1 v2 v3 v4 an cd v5) ps sp := by
  refine ⟨fun h => len _ _ _ _ h, fun A out s H ar us vs Q E hg hr e0 hbd r hsp => ?_⟩
  have n1 := len _ _ _ _ hsp
  have kx : K.In s.heap := e0.mod.kin.keeps fun b o e => (e0.bs b o e).1
  have li : s.heap.NoLimit := e0.mod.nolimit.keeps fun b o e => (e0.bs b o e).1
  refine codeAny_call_function hr.depth (kx _ _ lk) rfl S.co S.gen rfl (PySem.W.codeRec_of kx hc) (hbd _ _ _ _ ?_)
  refine wpAny_newFunctionEnv_cells S.kind (fun ⟨n, v⟩ hy => ?_) fun env he s1 x => ?_
  · rcases S.par n (List.of_mem_zip hy).1 with q | q
    · exact .inl q
    · exact .inr ⟨q, PySem.W.cellsFrom_some _ _ _ (.inl q)⟩
  subst he
  refine ⟨li.keeps x.toInCall.keep, codeAny_func ?_⟩
  obtain ⟨t, ht, hq⟩ := hb A out s H vs Q E hg (hr.deeper _) hsp
  have I0 := inv_start (CX := C) (E := E) S hr.hd e0 n1 r x
  refine wpAny_mono (ht.run [] s1 (start N vs) H _ I0 hq) (fun fl s' hs => ?_) fun e s' hs => hs
  cases fl with
  | next =>
    obtain ⟨σ', H', J, q⟩ := hs
    exact ⟨.non, H', J.os, J.bare, J.base, J.hok, rfl, q⟩
  | ret u =>
    obtain ⟨v, σ', H', J, rv, q⟩ := hs
    exact ⟨v, H', J.os, J.bare, J.base, J.hok, rv, q⟩
  | brk => exact hs.elim fun _ ⟨_, _, q⟩ => False.elim q
  | cont => exact hs.elim fun _ ⟨_, _, q⟩ => False.elim q

/-- as Fun.ok, where no repr is under way -/
theorem okG {x ql : Str} {st : Stmt} {f : Addr} {fd : FuncData} {N ps : List Str} {k : Nat} {sp : Sp} (F : Fun K x ql st f fd) (S : FnScope N ps (defScope st))
    (len : ∀ vs H Q E, sp vs H Q E → vs.length = ps.length)
    (hb : ∀ (cd : Value) (A : Around) (out : List Env) (s : Shared) (H : Hp) (vs : List V) (Q : VK) (E : XK), A.guards = some [] →
      Room k (A.deeper (envOfC ql (defScope st) s.heap.objs.size f cd)) → sp vs H Q E →
      ∃ t, PSs (cxOf CX0 P w K mg base N ql (defScope st) f cd A out s H E).nox (defBody st) t ∧ t { nx := fun _ H' => Q .non H', rt := Q } (start N vs) H) :
    FnG P w K mg base CX0 (k + 1) f fd ps sp := by
  obtain ⟨oc, od, v2, v3, v4, an, cd, v5, osl, rfl, lk, hc⟩ := F.ex
  refine gfn_of lk hc S len fun A out s H vs Q E hg hr hsp => ?_
  obtain ⟨t, h, q⟩ := hb cd A out s H vs Q E hg hr hsp
  exact ⟨t, h.nox, q⟩
end

section
variable {X : Cx} {C : CXT} {k : Nat} {f : Addr} {fd : FuncData} {ps ks : List Str} {sp : Sp} {dvs : List V} {ds : List Value} {E : XK} {x : Str} {p pos : Pos} {e : Expr} {es : List Expr} {kws : List Keyword} {t tk : TA}
theorem endG {pins : List (Addr × Obj)} {σ : L2.St} {H : Hp} {s s' : Shared} {Q : VK} {r : Result} (hx : Passes C X E) (I : Inv X pins σ H s) (h : CR C X.stack X.prog X.w H s Q E r s') :
    (match r with | .ok (.ret u) => EP X pins σ Q u s' | .ok _ => False | .error e => X.xe e s') := by
  cases r with
  | error e => exact hx pins σ H s e s' I h
  | ok fl =>
    cases fl with
    | ret u => exact I.after h
    | next => exact h
    | brk => exact h
    | cont => exact h
theorem goG {pins : List (Addr × Obj)} {σ : L2.St} {H : Hp} {s : Shared} {Q : VK} {us : List Value} {vs : List V} (F : FnG X.prog X.w X.K X.mg X.base C k f fd ps sp) (hA : X.A.guards = some []) (hr : Room k X.A)
    (hb : Binds X.K fd ps ds) (hd : Vals dvs ds) (hx : Passes C X E) (I : Inv X pins σ H s) (r : Vals vs us) (h : sp (vs ++ dvs) H Q E) :
    wpAny (model X.prog X.w) X.A (call (.ref f) us) (EP X pins σ Q) X.xe s := by
  have r2 := r.append hd
  have n2 : (us ++ ds).length = ps.length := r2.length.symm.trans (F.cnt h)
  refine wpAny_call (codeAny_mono (F.go X.A X.stack s H ⟨us, []⟩ _ _ Q E hA hr I.env0 (hb s us I.kIn n2) r2 h) fun r s' hq => ?_)
  have z := endG hx I hq
  cases r with
  | error e => exact z
  | ok fl => cases fl <;> exact z
/-- f(e, ..) where no repr is under way -/
theorem pe_callG (F : FnG X.prog X.w X.K X.mg X.base C k f fd ps sp) (hA : X.A.guards = some []) (hr : Room k X.A) (hg : Gl X x) (hm : X.mg x = some (.ref f)) (hk : PySem.W.keepIn X.K (.ref f) = true)
    (hb : Binds X.K fd ps ds) (hd : Vals dvs ds) (hx : Passes C X E) (ha : PA X (e :: es) t) (hdb : (x == ("__debug__" : Str)) = false := by decide)
    (he : starEach (e :: es) X.env = (false, eval e X.env) :: starEach es X.env := by rfl) (hpl : (backTo pos (starEach es X.env)).any (·.1) = false := by rfl) :
    PE X (.Call (.Name x p) (e :: es) [] pos) (tCall sp dvs E t) := by
  refine ⟨fun pins s σ H Q I h => wpAny_Call_Name_kw (ld_glob I hg hm ?_ hdb)⟩
  refine PySem.W.callWith_K (h₀ := X.base) I.ok.mod.kin hk (thn (ha.run pos pins s σ H _ I h) fun us s1 z => ?_) he hpl
  obtain ⟨vs, H1, I1, r, q⟩ := z
  exact ⟨I1.kIn, goG F hA hr hb hd hx I1 r q⟩
/-- f(k = v, ..): keywords alone -/
def tCallW (sp : Sp) (gV : List V → List V) (E : XK) (tk : TA) : TE := fun σ H Q => tk σ H fun zs H2 => sp (gV zs) H2 Q E
variable {g : List Value → List Value → List Value} {gV : List V → List V → List V}
theorem pe_callW (F : FnOk X.prog X.w X.K X.mg X.base C k f fd ps sp) (hr : Room k X.A) (hg : Gl X x) (hm : X.mg x = some (.ref f)) (hk : PySem.W.keepIn X.K (.ref f) = true) (hb : KBinds X.K fd ps ks g gV) (hx : Passes C X E)
    (hkw : PK X kws tk) (hall : (backToKw pos (keywordEach kws X.env)).all (·.1.isSome) = true := by rfl) (hks : (backToKw pos (keywordEach kws X.env)).filterMap (·.1) = ks := by rfl)
    (hdb : (x == ("__debug__" : Str)) = false := by decide)
    (hpl : ((backTo pos (starEach [] X.env)).any (·.1) || (backToKw pos (keywordEach kws X.env)).any (·.1.isNone)) = false := by rfl) :
    PE X (.Call (.Name x p) [] kws pos) (tCallW sp (gV []) E tk) := by
  refine ⟨fun pins s σ H Q I h => wpAny_Call_Name_kw (ld_glob I hg hm ?_ hdb)⟩
  refine PySem.W.callWith_KW0 (h₀ := X.base) I.ok.mod.kin hk hall (thn (hkw.run pos pins s σ H _ I h) fun ws s2 z => ?_) hpl
  obtain ⟨zs, H2, I2, rz, q2⟩ := z
  refine ⟨I2.kIn, ?_⟩
  rw [hks]
  exact run_fnk F hr hb hx I2 .nil rz q2
end

/-! ### the law's call -/
theorem glaw {P : Program} {w : World} {K : PySem.W.Frag} {mg mb : Str → Option Value} {k : Nat} {fa a : Addr} {fd : FuncData} {x : Str} {sp : Sp} {s1 : Shared} {vs : List Value} {ns : List Int}
    (kx : K.In s1.heap) (hn : s1.heap.Ns mainGlobals mg) (hb : s1.heap.Ns builtinsNs mb) (hbb : ∀ x : Str, x ≠ "__name__" → mb x = bootBuiltins x) (hlim : s1.heap.NoLimit) (hgs : s1.gens = #[])
    (ha : s1.heap.get? a = some { cls := .type "list", data := .seq vs.toArray }) (hi : IntsAre vs ns) (hl : ns.length ≤ sizeLine) (hr : Room k callerA)
    (F : ∀ base : Heap, K.In base → base.Ns mainGlobals mg → FnG P w K mg base CX0 k fa fd [x] sp) (hbind : ∀ (s : Shared) (u : Value), BindsTo s fd ⟨[u], []⟩ [(x, u)])
    (hsp : ∀ H : Hp, SqL K H a (ns.map V.int) → sp [.ref a] H (fun v _ => v = .bl true) E0) :
    codeAny (model P w) callerA (.call (.ref fa) ⟨[.ref a], []⟩) (fun r s' => r = .ok (.ret (.bool true)) ∧ OldK s1.heap s'.heap ∧ s'.os = s1.os ∧ AllBare s'.gens) s1 := by
  have rv := vals_ints hi
  have nv := hi.length
  -- the abstract heap: the script, locked, unless the module itself holds it
  have main : ∀ H : Hp, (∀ b, H b = none ∨ (b = a ∧ H b = some (.frz { cls := .type "list", data := .seq vs.toArray } (.lst (ns.map V.int))))) → (H a ≠ none → K.lookup a = none) →
      SqL K H a (ns.map V.int) → HOk P w H s1.heap →
      codeAny (model P w) callerA (.call (.ref fa) ⟨[.ref a], []⟩) (fun r s' => r = .ok (.ret (.bool true)) ∧ OldK s1.heap s'.heap ∧ s'.os = s1.os ∧ AllBare s'.gens) s1 := by
    intro H hO hK hS hok
    have out : ∀ {b : Addr} {o : Obj}, s1.heap.get? b = some o → (b = a → H b = none) → (hidT s1.heap H).get? b = some o := fun {b o} e n => hidT_get e (by
      rcases hO b with z | ⟨z, _⟩
      · exact z
      · exact n z)
    have dct : ∀ {b : Addr} {m : Str → Option Value}, s1.heap.Ns b m → (hidT s1.heap H).Ns b m := fun {b m} ⟨o, es, ep, e, d, r⟩ => ⟨o, es, ep, out e (fun z => by
      subst z
      rw [ha] at e
      cases e
      cases (show Data.seq vs.toArray _ = Data.dict es ep from d)), d, r⟩
    have kb : K.In (hidT s1.heap H) := fun b o e => out (kx b o e) fun z => by
      subst z
      cases q : H b with
      | none => rfl
      | some u =>
        rw [hK (by rw [q]; exact fun z => nomatch z)] at e
        cases e
    have md : Mod K mg (hidT s1.heap H) := ⟨kb, dct hn, ⟨mb, dct hb, hbb⟩, let ⟨mc, h1, h2⟩ := hlim; ⟨mc, dct h1, h2⟩⟩
    have en : Env0 P w K mg (hidT s1.heap H) callerA [] s1 H := ⟨rfl, md, fun b o e => of_hidT e, Nat.le_of_eq (hidT_size _ _), trivial, fun b z => (List.not_mem_nil z).elim, hok, .of_eq hgs⟩
    refine codeAny_mono ((F _ kb (dct hn)).go callerA [] s1 H ⟨[.ref a], []⟩ [.ref a] [.ref a] _ _ rfl hr en (hbind s1 (.ref a)) (.cons rfl .nil) (hsp H hS)) fun r s' h => ?_
    cases r with
    | error e => exact False.elim h
    | ok fl =>
      cases fl with
      | next => exact False.elim h
      | brk => exact False.elim h
      | cont => exact False.elim h
      | ret u =>
        obtain ⟨v, H', os, br, un, ok', r', q⟩ := h
        cases (show v = .bl true from q)
        cases (show u = Value.bool true from r')
        refine ⟨rfl, OldK.of_keep fun b o e => ?_, os, br⟩
        rcases hO b with z | ⟨_, z⟩
        · exact un.keep b o e z (fun z => (List.not_mem_nil z).elim) (fun z => (List.not_mem_nil z).elim)
        · have e1 := (hok b _ z).1
          have e2 := (ok' b _ (un.frzs b _ _ z)).1
          rw [e] at e1
          cases e1
          exact e2
  cases hk : K.lookup a with
  | some o =>
    have e := kx a o hk
    rw [ha] at e
    cases e
    refine main (fun _ => none) (fun _ => .inl rfl) (fun z => absurd rfl z) (.inr ⟨_, vs.toArray, _, hk, rfl, rfl, rfl, ?_, ?_⟩) fun b u z => nomatch (show (none : Option HO) = some u from z)
    · rw [List.size_toArray, nv]
      exact hl
    · simpa using rv
  | none =>
    refine main (fun b => if b = a then some (.frz { cls := .type "list", data := .seq vs.toArray } (.lst (ns.map V.int))) else none) (fun b => ?_) (fun _ => hk) (.inl (.inr ⟨{ cls := .type "list", data := .seq vs.toArray }, if_pos rfl⟩)) (fun b u z => ?_)
    · by_cases q : b = a
      · exact .inr ⟨q, if_pos q⟩
      · exact .inl (if_neg q)
    · by_cases q : b = a
      · have z2 := (if_pos q).symm.trans z
        cases z2
        subst q
        exact ⟨ha, by rw [List.length_map]; exact hl, vs, _, rv, ha⟩
      · have z2 := (if_neg q).symm.trans z
        cases z2
theorem gwalk {l : PySem.W.OpenLaw} {n k : Nat} {q : Program} {lo : List Str} {XP : (Str → Option Value) → Heap → Prop} {YP : World → Heap → Prop} {d : DefRec} {K : Params → PySem.W.Frag} {sp : PySem.W.Frag → Sp} {x : Str}
    (hn : l.most = some n) (hn2 : n ≤ sizeLine) (hdf : d.params.defaults = []) (hr : Room k callerA) (hY : ∀ (w : World) (h : Heap), YP w h → (K w.params).In h)
    (F : ∀ (w : World) (mg : Str → Option Value) (fa : Addr) (h : Heap), (K w.params).In h → h.Ns mainGlobals mg → mg d.name = some (.ref fa) →
      ∃ fd : FuncData, (∀ (s : Shared) (u : Value), BindsTo s fd ⟨[u], []⟩ [(x, u)]) ∧
        ∀ base : Heap, (K w.params).In base → base.Ns mainGlobals mg → FnG l.prog w (K w.params) mg base CX0 k fa fd [x] (sp (K w.params)))
    (hsp : ∀ (K : PySem.W.Frag) (H : Hp) (a : Addr) (ns : List Int), ns.length ≤ n → SqL K H a (ns.map V.int) → sp K [.ref a] H (fun v _ => v = .bl true) E0) :
    PySem.W.WalkO q lo XP YP l.row.toRowW d [] (fun f vs => PySem.call f vs) := by
  refine Att.attach_call hn hdf fun w s₀ s₁ mg mb fa o pm cd doc a vs ns G Y ho hd hcd hmg hobj hints hlen hg => ?_
  have kx := hY w _ Y
  obtain ⟨fd, hb, hF⟩ := F w mg fa _ kx G.T.g hmg
  exact glaw kx G.T.g G.T.b G.T.builtins G.T.nolimit hg hobj hints (Nat.le_trans hlen hn2) hr hF hb fun H hS => hsp (K w.params) H a ns hlen hS

/-! ### repr of data -/
def rRepr (K : PySem.W.Frag) : List V → Hp → VK → Prop := fun xs H Q => ∃ (a : Addr) (d : PyData), xs = [.ref a] ∧ Dp K H (.ref a) d ∧ d.showable = true ∧ d.hasDict = false ∧ d.depth ≤ 32 ∧ d.shown.length ≤ sizeLine ∧ Q (.str d.shown) H
theorem call_repr {X : Cx} (hA : X.A.guards = some []) {k : Nat} (hr : Room k X.A) : CallR X (.builtin "repr") (rRepr X.K) := by
  intro pins s σ H xs us Q I r h
  obtain ⟨a, d, rfl, hd, h1, h2, h3, h4, q⟩ := h
  cases r with
  | cons r1 r2 =>
    cases r2
    cases r1
    obtain ⟨as, rd⟩ := Dp.reads I d _ _ hd rfl
    have hu := hr.units
    refine repr_of_reads' rd h1 (fun z => by rw [h2] at z; cases z) hA (by omega) (fun _ _ e => e) (fun h' u tk kp => ?_) h4
    exact ⟨.str d.shown, H, I.kept (t' := tk) kp, ⟨u, rfl⟩, q⟩

/-- repr of any data -/
def rReprV (K : PySem.W.Frag) : List V → Hp → VK → Prop := fun xs H Q => ∃ (x : V) (d : PyData), xs = [x] ∧ Dp K H x d ∧ d.showable = true ∧ d.hasDict = false ∧ d.depth ≤ 32 ∧ d.shown.length ≤ sizeLine ∧ Q (.str d.shown) H
theorem reprV {X : Cx} {K : PySem.W.Frag} (hK : X.K = K) (hA : X.A.guards = some []) {k : Nat} (hr : Room k X.A) : CallR X (.builtin "repr") (rReprV K) := by
  subst hK
  intro pins s σ H xs us Q I r h
  obtain ⟨x, d, rfl, hd, h1, h2, h3, h4, q⟩ := h
  have ref : ∀ a : Addr, x = .ref a → wpAny (model X.prog X.w) X.A (call (.builtin "repr") us) (EP X pins σ Q) X.xe s := fun a e => by
    subst e
    exact call_repr hA hr pins s σ H _ us Q I r ⟨a, d, rfl, hd, h1, h2, h3, h4, q⟩
  cases hd with
  | lst _ _ => exact ref _ rfl
  | tup _ _ => exact ref _ rfl
  | non =>
    cases r with
    | cons r1 r2 =>
      cases r2
      cases r1
      exact PySem.P.repr_of_none ⟨.str (PyData.shown .none), H, I.tok _, ⟨_, rfl⟩, q⟩
  | bl b =>
    cases r with
    | cons r1 r2 =>
      cases r2
      cases r1
      cases b with
      | true => exact PySem.P.repr_of_bool ⟨.str (PyData.shown (.bool true)), H, I.tok _, ⟨_, rfl⟩, q⟩
      | false => exact PySem.P.repr_of_bool ⟨.str (PyData.shown (.bool false)), H, I.tok _, ⟨_, rfl⟩, q⟩
  | int i =>
    cases r with
    | cons r1 r2 =>
      cases r2
      obtain ⟨t, rfl⟩ := r1
      have z : i.natAbs.log2 < 1920 := by
        simp only [PyData.showable] at h1
        exact of_decide_eq_true h1
      exact PySem.P.repr_of_int z ⟨.str (PyData.shown (.int i)), H, I.tok _, ⟨_, rfl⟩, q⟩
  | str y =>
    cases r with
    | cons r1 r2 =>
      cases r2
      obtain ⟨t, rfl⟩ := r1
      exact PySem.P.repr_of_str ⟨.str (PyData.shown (.str y)), H, I.tok _, ⟨_, rfl⟩, q⟩ h4

/-! ### a statement, then the rest by a word between them -/
def tMid (t u : TS) : TS := fun D σ H => ∃ M : L2.St → Hp → Prop, t { D with nx := M } σ H ∧ ∀ σ' H', M σ' H' → u D σ' H'
theorem pss_mid {X : Cx} {st : Stmt} {rs : List Stmt} {t u : TS} (h1 : PS X st t) (h2 : PSs X rs u) : PSs X (st :: rs) (tMid t u) :=
  ⟨fun pins s σ H D I ⟨M, hm, hu⟩ => wpAny_execs_cons (thn (h1.run pins s σ H { D with nx := M } I hm) fun f s1 q => by
    cases f with
    | next => exact q.elim fun σ' ⟨H', I', z⟩ => h2.run pins s1 σ' H' D I' (hu σ' H' z)
    | ret v => exact q
    | brk => exact q
    | cont => exact q)⟩

/-! ### rules with the written part named (for blocks of comprehensions) -/
theorem ixL {X : Cx} {K : PySem.W.Frag} (h : X.K = K) : IxR X (rIxL K) := h ▸ ix_list
theorem slL {X : Cx} {K : PySem.W.Frag} (h : X.K = K) : SlR X (rSlL K) := h ▸ sl_list
def rLenL (K : PySem.W.Frag) : List V → Hp → VK → Prop := fun xs H Q => ∃ (p : Addr) (ys : List V), xs = [.ref p] ∧ (SqL K H p ys ∨ SqT K H p ys) ∧ Q (.int ys.length) H
theorem lenL {X : Cx} {K : PySem.W.Frag} (h : X.K = K) : CallR X (.builtin "len") (rLenL K) := h ▸ call_len_seq
theorem sumL {X : Cx} {K : PySem.W.Frag} (h : X.K = K) (hc : X.calm = true) : CallR X (.builtin "sum") (rSum K) := h ▸ cr_sum hc
theorem maxL {X : Cx} {K : PySem.W.Frag} (h : X.K = K) (hc : X.calm = true) : CallR X (.builtin "max") (rMax K) := h ▸ cr_max hc
theorem minL {X : Cx} {K : PySem.W.Frag} (h : X.K = K) (hc : X.calm = true) : CallR X (.builtin "min") (rMin K) := h ▸ cr_min hc
theorem isiL {X : Cx} {K : PySem.W.Frag} (h : X.K = K) : CallR X (.builtin "isinstance") (rIsi K) := h ▸ call_isi
theorem reprL {X : Cx} {K : PySem.W.Frag} (h : X.K = K) (hA : X.A.guards = some []) {k : Nat} (hr : Room k X.A) : CallR X (.builtin "repr") (rRepr K) := h ▸ call_repr hA hr
theorem pg_tupL {X : Cx} {K : PySem.W.Frag} {es : List Expr} {j : Nat} {pos : Pos} {t : TGs} {n : Nat} (h : X.K = K) (hc : X.calm = true) (hs : PGs X es t)
    (hn : (assignEach es X.env).length = n := by rfl) (hst : (assignEach es X.env).findIdx? (·.1) = none := by rfl) : PG X (.Tuple es j pos) (gTup K n t) := h ▸ pg_tup hc hs hn hst
theorem enumL {X : Cx} {K : PySem.W.Frag} {elts : List Expr} {kk : Nat} {tpos p pos : Pos} {e : Expr} {ta : TA} (h : X.K = K) (hg : Gl X "enumerate") (hm : X.mg "enumerate" = none) (ha : PA X [e] ta)
    (hs : starEach [e] X.env = [(false, eval e X.env)] := by rfl) : PI X (.Tuple elts kk tpos) (.Call (.Name "enumerate" p) [e] [] pos) (iEnum K ta) := h ▸ pi_enum hg hm ha hs
theorem zipL {X : Cx} {K : PySem.W.Frag} {elts : List Expr} {kk : Nat} {tpos p pos : Pos} {e e2 : Expr} {ta : TA} (h : X.K = K) (hg : Gl X "zip") (hm : X.mg "zip" = none) (ha : PA X [e, e2] ta)
    (hs : starEach [e, e2] X.env = (false, eval e X.env) :: starEach [e2] X.env := by rfl) (hpl : (backTo pos (starEach [e2] X.env)).any (·.1) = false := by rfl) :
    PI X (.Tuple elts kk tpos) (.Call (.Name "zip" p) [e, e2] [] pos) (iZip K ta) := h ▸ pi_zip hg hm ha hs hpl
theorem pi_tupL {X : Cx} {K : PySem.W.Frag} {tg l : Expr} {tl : TE} (h : X.K = K) (hl : PE X l tl) : PI X tg l (iTup K tl) := h ▸ pi_tup hl
theorem pi_listL {X : Cx} {K : PySem.W.Frag} {tg l : Expr} {tl : TE} (h : X.K = K) (hl : PE X l tl) : PI X tg l (iList K tl) := h ▸ pi_list hl
def rListL (K : PySem.W.Frag) : List V → Hp → VK → Prop := fun xs H Q => ∃ (p : Addr) (ys : List V), xs = [.ref p] ∧ (SqL K H p ys ∨ SqT K H p ys) ∧ ∀ l, H l = none → Q (.ref l) (upd H l (.lst ys))
theorem listL {X : Cx} {K : PySem.W.Frag} (h : X.K = K) : CallR X (.type "list") (rListL K) := h ▸ call_list_of
theorem eqD {X : Cx} {K : PySem.W.Frag} (h : X.K = K) {k : Nat} (hr : Room k X.A) : OpR X (compareOp .Eq) (rEqD K) := h ▸ op_eqD hr.units
theorem neD {X : Cx} {K : PySem.W.Frag} (h : X.K = K) {k : Nat} (hr : Room k X.A) : OpR X (compareOp .NotEq) (rNeD K) := h ▸ op_neD hr.units

/-! ### a power of a great int, the exponent small -/
def CPow3 (i j : Int) : Prop := j = 3 ∧ 0 ≤ i ∧ i.natAbs < 2 ^ 200
theorem op_pow3 {X : Cx} : OpR X (binaryOp .Pow) (rI CPow3 fun i j => .int (i ^ j.toNat)) := opI fun i j t u s Q E hc q => by
  obtain ⟨rfl, h0, h1⟩ := hc
  by_cases e : (i == 0 || i == 1) = true
  · refine PySem.AutoIntOps.pow_1 (by decide) (by decide) e ?_
    have e2 : i ^ (3 : Int).toNat = i := by
      rcases (Bool.or_eq_true _ _).mp e with z | z
      · rw [eq_of_beq z]; rfl
      · rw [eq_of_beq z]; rfl
    rw [e2] at q
    exact q
  · refine PySem.AutoIntOps.pow_4 (by decide) (by decide) e ?_ ?_ q
    · intro z
      have := eq_of_beq z
      omega
    · intro z
      unfold Builtin.Int.intTooBig at z
      have z3 := of_decide_eq_true z
      have b : Builtin.Int.intBits i ≤ 201 := by
        unfold Builtin.Int.intBits
        have y := PySem.Flt.log2_lt_of (show 0 < 200 by decide) h1
        split <;> omega
      have e : bitsLine = 134217728 := by decide
      rw [e] at z3
      omega
end Sd

namespace Sd
open PySem PySem.Spec PyProof.Rows L2

/-! ### heaps -/
/-- all but T is as it was -/
def But (T : Addr) (H H' : Hp) : Prop := ∀ b o, H b = some o → b ≠ T → H' b = some o
theorem But.refl (T : Addr) (H : Hp) : But T H H := fun _ _ h _ => h
theorem But.trans {T : Addr} {H H1 H2 : Hp} (a : But T H H1) (b : But T H1 H2) : But T H H2 := fun c o h n => b c o (a c o h n) n
theorem But.of {T : Addr} {H H' : Hp} (s : Same H H') : But T H H' := fun b o h _ => s b o h
theorem But.lst {T : Addr} {H H' : Hp} {a : Addr} {o : HO} (s : But T H H') (h : H a = some o) (n : a ≠ T) : H' a = some o := s a o h n
theorem new_same {H : Hp} {p : Addr} {o : HO} (h : H p = none) : Same H (upd H p o) := fun b x e => by
  rw [upd_ne (ne_of_none e h)]
  exact e
theorem upd_but {H : Hp} {T : Addr} {o : HO} : But T H (upd H T o) := fun b x e n => by
  rw [upd_ne n]
  exact e
theorem free_but {T : Addr} {H H' : Hp} {p : Addr} {o : HO} (s : But T H H') (hT : H T = some o) (h : H' p = none) (hT' : H' T ≠ none) : H p = none := by
  cases q : H p with
  | none => rfl
  | some u =>
    by_cases e : p = T
    · subst e
      exact absurd h hT'
    · rw [s p u q e] at h
      cases h
/-- the law's tank -/
def Tank (H : Hp) (T : Addr) (c : Int) : Prop := ∃ x y z : Int, H T = some (.lst [.int x, .int y, .int z]) ∧ 0 ≤ x ∧ 0 ≤ y ∧ y < 2 ^ 100 ∧ 0 ≤ z ∧ z ≤ c
theorem Tank.some {H : Hp} {T : Addr} {c : Int} (h : Tank H T c) : ∃ o, H T = some o := let ⟨_, _, _, e, _⟩ := h; ⟨_, e⟩
theorem Tank.same {H H' : Hp} {T : Addr} {c : Int} (h : Tank H T c) (s : Same H H') : Tank H' T c := let ⟨x, y, z, e, r⟩ := h; ⟨x, y, z, s _ _ e, r⟩
theorem Tank.ne {H : Hp} {T p : Addr} {c : Int} (h : Tank H T c) (n : H p = none) : p ≠ T := fun e => by
  obtain ⟨o, q⟩ := h.some
  rw [e, q] at n
  cases n
theorem Tank.up {H : Hp} {T p : Addr} {c : Int} {o : HO} (h : Tank H T c) (n : H p = none) : Tank (upd H p o) T c := h.same (new_same n)
theorem Tank.mono {H : Hp} {T : Addr} {c d : Int} (h : Tank H T c) (l : c ≤ d) : Tank H T d := let ⟨x, y, z, e, a, b, r, f, g⟩ := h; ⟨x, y, z, e, a, b, r, f, by omega⟩

/-! ### lists of ints -/
theorem tyx_list {K : PySem.W.Frag} {H : Hp} {a : Addr} {xs : List V} (h : SqL K H a xs) : TyX K H (.ref a) (.type "list") := by
  rcases h with (h | ⟨o, h⟩) | ⟨o, its, n, hk, hc, _⟩
  · exact .base (.lst h)
  · exact .base (.frz h)
  · exact .kList hk hc
theorem kit_int_int {K : PySem.W.Frag} : PySem.W.kitOne K (.type "int") (.type "int") = some true := kit_ty (by decide +kernel)
theorem kit_int_bool {K : PySem.W.Frag} : PySem.W.kitOne K (.type "int") (.type "bool") = some false := kit_ty (by decide +kernel)
theorem kit_list_list {K : PySem.W.Frag} : PySem.W.kitOne K (.type "list") (.type "list") = some true := kit_ty (by decide +kernel)
/-- a rim: from 1 to 40 numbers from 0 to 10 ** 30 -/
structure Rim (ns : List Int) : Prop where
  pos : 1 ≤ ns.length
  le : ns.length ≤ 40
  all : ∀ n ∈ ns, 0 ≤ n ∧ n ≤ 1000000000000000000000000000000
theorem sz40 {n : Nat} (h : n ≤ 100000) : n < sizeLine := Nat.lt_of_le_of_lt h (by decide)
theorem sz40' {n : Nat} (h : n ≤ 100000) : n ≤ sizeLine := Nat.le_of_lt (sz40 h)
theorem int_at {ns : List Int} {i : Nat} {x : V} (h : (ns.map V.int)[i]? = some x) : ∃ n, ns[i]? = some n ∧ x = .int n := by
  rw [List.getElem?_map] at h
  cases e : ns[i]? with
  | none =>
    rw [e] at h
    cases h
  | some n =>
    rw [e] at h
    exact ⟨n, rfl, (Option.some.inj h).symm⟩
theorem at_int {ns : List Int} {i : Nat} {n : Int} (h : ns[i]? = some n) : (ns.map V.int)[i]? = some (.int n) := by
  rw [List.getElem?_map, h]
  rfl
/-- xs[i] at an int that lies within -/
theorem at_in {ns : List Int} {i : Int} (h0 : 0 ≤ i) (h1 : i < ns.length) : ∃ n, ns[i.toNat]? = some n ∧ atI (ns.map V.int) i = some (.int n) := by
  have h2 : i.toNat < ns.length := by omega
  obtain ⟨j, rfl⟩ : ∃ j : Nat, i = (j : Int) := ⟨i.toNat, by omega⟩
  have h3 : j < ns.length := by omega
  exact ⟨ns[j], List.getElem?_eq_getElem h3, atI_nat (at_int (List.getElem?_eq_getElem h3))⟩
theorem ixN_in {n : Nat} {i : Int} (h0 : 0 ≤ i) (h1 : i < n) : ixN n i = some i.toNat := by
  unfold ixN
  rw [if_pos h0, if_pos h1]

/-! ### turning, mirroring -/
/-- what stands at slot j behind a turn by t -/
def rot (ns : List Int) (t : Int) : List Int := (List.range ns.length).map fun (j : Nat) => ns.getD ((((j : Int) - t) % (ns.length : Int)).toNat) 0
def mir (ns : List Int) : List Int := (List.range ns.length).map fun (j : Nat) => ns.getD (((-(j : Int)) % (ns.length : Int)).toNat) 0
theorem rot_len (ns : List Int) (t : Int) : (rot ns t).length = ns.length := by
  unfold rot
  rw [List.length_map, List.length_range]
theorem mir_len (ns : List Int) : (mir ns).length = ns.length := by
  unfold mir
  rw [List.length_map, List.length_range]
theorem rot_at {ns : List Int} {t : Int} {j : Nat} (h : j < ns.length) : (rot ns t)[j]? = some (ns.getD ((((j : Int) - t) % (ns.length : Int)).toNat) 0) := by
  unfold rot
  rw [List.getElem?_map, List.getElem?_range h]
  rfl
theorem mir_at {ns : List Int} {j : Nat} (h : j < ns.length) : (mir ns)[j]? = some (ns.getD (((-(j : Int)) % (ns.length : Int)).toNat) 0) := by
  unfold mir
  rw [List.getElem?_map, List.getElem?_range h]
  rfl
theorem mod_in {i : Int} {n : Nat} (h : 0 < n) : 0 ≤ i % (n : Int) ∧ i % (n : Int) < n := ⟨Int.emod_nonneg _ (by omega), Int.emod_lt_of_pos _ (by omega)⟩
theorem getD_at {ns : List Int} {j : Nat} {n : Int} (h : ns[j]? = some n) : ns.getD j 0 = n := by
  rw [List.getD_eq_getElem?_getD, h]
  rfl
theorem at_getD {ns : List Int} {j : Nat} (h : j < ns.length) : ns[j]? = some (ns.getD j 0) := by
  rw [List.getD_eq_getElem?_getD, List.getElem?_eq_getElem h]
  rfl
theorem rot_all {ns : List Int} {t : Int} {P : Int → Prop} (h : ∀ n ∈ ns, P n) : ∀ n ∈ rot ns t, P n := fun n hn => by
  unfold rot at hn
  obtain ⟨j, hj, rfl⟩ := List.mem_map.mp hn
  have hj := List.mem_range.mp hj
  have hm := mod_in (i := (j : Int) - t) (show 0 < ns.length by omega)
  exact h _ (List.mem_of_getElem? (at_getD (show (((j : Int) - t) % (ns.length : Int)).toNat < ns.length by omega)))
theorem mir_all {ns : List Int} {P : Int → Prop} (h : ∀ n ∈ ns, P n) : ∀ n ∈ mir ns, P n := fun n hn => by
  unfold mir at hn
  obtain ⟨j, hj, rfl⟩ := List.mem_map.mp hn
  have hj := List.mem_range.mp hj
  have hm := mod_in (i := -(j : Int)) (show 0 < ns.length by omega)
  exact h _ (List.mem_of_getElem? (at_getD (show ((-(j : Int)) % (ns.length : Int)).toNat < ns.length by omega)))
theorem Rim.rot {ns : List Int} (h : Rim ns) (t : Int) : Rim (rot ns t) := ⟨by rw [rot_len]; exact h.pos, by rw [rot_len]; exact h.le, rot_all h.all⟩
theorem Rim.mir {ns : List Int} (h : Rim ns) : Rim (mir ns) := ⟨by rw [mir_len]; exact h.pos, by rw [mir_len]; exact h.le, mir_all h.all⟩
/-- filling slot by slot: found[(i + t) % n] = ns[i] for i below k leaves rot where it was filled -/
theorem rot_back {ns : List Int} {t : Int} {i : Nat} (hi : i < ns.length) : (rot ns t)[((((i : Int) + t) % (ns.length : Int)).toNat)]? = ns[i]? := by
  have hm := mod_in (i := (i : Int) + t) (show 0 < ns.length by omega)
  rw [rot_at (by omega), at_getD hi]
  have e : ((((((i : Int) + t) % (ns.length : Int)).toNat : Nat) : Int) - t) % (ns.length : Int) = (i : Int) := by
    rw [Int.toNat_of_nonneg hm.1, Int.emod_sub_emod]
    rw [show (i : Int) + t - t = (i : Int) by omega]
    exact Int.emod_eq_of_lt (by omega) (by omega)
  rw [e, Int.toNat_natCast]
theorem mir_back {ns : List Int} {i : Nat} (hi : i < ns.length) : (mir ns)[((((0 : Int) - (i : Int)) % (ns.length : Int)).toNat)]? = ns[i]? := by
  have hm := mod_in (i := (0 : Int) - (i : Int)) (show 0 < ns.length by omega)
  rw [mir_at (by omega), at_getD hi]
  have e : (-((((((0 : Int) - (i : Int)) % (ns.length : Int)).toNat : Nat) : Int))) % (ns.length : Int) = (i : Int) := by
    rw [Int.toNat_of_nonneg hm.1]
    rw [show -(((0 : Int) - (i : Int)) % (ns.length : Int)) = 0 - ((0 : Int) - (i : Int)) % (ns.length : Int) by omega, Int.sub_emod_emod]
    rw [show (0 : Int) - (0 - (i : Int)) = (i : Int) by omega]
    exact Int.emod_eq_of_lt (by omega) (by omega)
  rw [e, Int.toNat_natCast]
/-- filled at the places f 0, f 1 .. f (k - 1) as res is -/
def Filled (f : Nat → Nat) (res ms : List Int) (k : Nat) : Prop := ms.length = res.length ∧ ∀ p, (∃ j, j < k ∧ f j = p) → ms[p]? = res[p]?
theorem Filled.step {f : Nat → Nat} {res ms : List Int} {k : Nat} {v : Int} (h : Filled f res ms k) (e : res[f k]? = some v) : Filled f res (ms.set (f k) v) (k + 1) := by
  refine ⟨by rw [List.length_set]; exact h.1, fun p ⟨j, hj, hp⟩ => ?_⟩
  have hk : f k < ms.length := by
    rw [h.1]
    exact (List.getElem?_eq_some_iff.mp e).1
  by_cases q : f k = p
  · subst q
    rw [List.getElem?_set_self hk, e]
  · rw [List.getElem?_set_ne q]
    refine h.2 p ⟨j, ?_, hp⟩
    rcases Nat.lt_or_ge j k with z | z
    · exact z
    · have : j = k := by omega
      subst this
      exact absurd hp q
theorem Filled.done {f : Nat → Nat} {res ms : List Int} {n : Nat} (h : Filled f res ms n) (on : ∀ p, p < res.length → ∃ j, j < n ∧ f j = p) : ms = res := by
  refine List.ext_getElem? fun p => ?_
  by_cases q : p < res.length
  · exact h.2 p (on p q)
  · rw [List.getElem?_eq_none (by rw [h.1]; omega), List.getElem?_eq_none (by omega)]
theorem rot_on {ns : List Int} {t : Int} {p : Nat} (hp : p < ns.length) : ∃ j, j < ns.length ∧ (((j : Int) + t) % (ns.length : Int)).toNat = p := by
  have hm := mod_in (i := (p : Int) - t) (show 0 < ns.length by omega)
  refine ⟨(((p : Int) - t) % (ns.length : Int)).toNat, by omega, ?_⟩
  have e : ((((((p : Int) - t) % (ns.length : Int)).toNat : Nat) : Int) + t) % (ns.length : Int) = (p : Int) := by
    rw [Int.toNat_of_nonneg hm.1, Int.emod_add_emod]
    rw [show (p : Int) - t + t = (p : Int) by omega]
    exact Int.emod_eq_of_lt (by omega) (by omega)
  rw [e, Int.toNat_natCast]
theorem mir_on {ns : List Int} {p : Nat} (hp : p < ns.length) : ∃ j, j < ns.length ∧ (((0 : Int) - (j : Int)) % (ns.length : Int)).toNat = p := by
  have hm := mod_in (i := (0 : Int) - (p : Int)) (show 0 < ns.length by omega)
  refine ⟨(((0 : Int) - (p : Int)) % (ns.length : Int)).toNat, by omega, ?_⟩
  have e : ((0 : Int) - (((((0 : Int) - (p : Int)) % (ns.length : Int)).toNat : Nat) : Int)) % (ns.length : Int) = (p : Int) := by
    rw [Int.toNat_of_nonneg hm.1, Int.sub_emod_emod]
    rw [show (0 : Int) - (0 - (p : Int)) = (p : Int) by omega]
    exact Int.emod_eq_of_lt (by omega) (by omega)
  rw [e, Int.toNat_natCast]
theorem map_set {ns : List Int} {j : Nat} {v : Int} : (ns.map V.int).set j (.int v) = (ns.set j v).map V.int := by
  rw [List.map_set]
theorem take_next {l : List Int} {i : Nat} {v : Int} (h : l[i]? = some v) : (l.take i).map V.int ++ [.int v] = (l.take (i + 1)).map V.int := by
  rw [List.take_add_one, h, List.map_append]
  rfl
theorem take_all {l : List Int} {n : Nat} (h : l.length ≤ n) : l.take n = l := List.take_of_length_le h
theorem rep_one (v : Int) : ∀ k : Nat, (List.replicate k [V.int v]).flatten = (List.replicate k v).map V.int
  | 0 => rfl
  | k + 1 => by
    rw [List.replicate_succ, List.replicate_succ, List.flatten_cons, List.map_cons, rep_one v k]
    rfl
theorem rep_map (ns : List Int) : ∀ k : Nat, (List.replicate k (ns.map V.int)).flatten = ((List.replicate k ns).flatten).map V.int
  | 0 => rfl
  | k + 1 => by
    rw [List.replicate_succ, List.replicate_succ, List.flatten_cons, List.flatten_cons, List.map_append, rep_map ns k]
theorem rep_len (ns : List Int) : ∀ k : Nat, ((List.replicate k ns).flatten).length = k * ns.length
  | 0 => by simp
  | k + 1 => by
    rw [List.replicate_succ, List.flatten_cons, List.length_append, rep_len ns k, Nat.succ_mul, Nat.add_comm]
theorem rep_mem {ns : List Int} {k : Nat} {x : Int} (h : x ∈ (List.replicate k ns).flatten) : x ∈ ns := by
  obtain ⟨l, hl, hx⟩ := List.mem_flatten.mp h
  rw [(List.mem_replicate.mp hl).2] at hx
  exact hx
theorem cut_take (ns : List Int) (s : Int) (h0 : 0 ≤ s) : cutV (ns.map V.int) none (some s) = (ns.take s.toNat).map V.int := by
  obtain ⟨k, rfl⟩ : ∃ k : Nat, s = (k : Int) := ⟨s.toNat, by omega⟩
  unfold cutV
  rw [HT.sIx_none, HT.sIx_nat, Int.toNat_natCast, List.drop_zero, Nat.sub_zero, List.map_take]
  rcases Nat.le_total k (ns.map V.int).length with z | z
  · rw [Nat.min_eq_left z]
  · rw [Nat.min_eq_right z, List.take_of_length_le (Nat.le_refl _), List.take_of_length_le z]

/-! ### data: lists of ints, for repr and == -/
def dI (ns : List Int) : PyData := .list (ns.map PyData.int)
theorem dpAll_ints {K : PySem.W.Frag} {H : Hp} : ∀ ns : List Int, DpAll K H (ns.map V.int) (ns.map PyData.int)
  | [] => .nil
  | n :: ns => .cons (.int n) (dpAll_ints ns)
theorem dp_ints {K : PySem.W.Frag} {H : Hp} {a : Addr} {ns : List Int} (h : SqL K H a (ns.map V.int)) : Dp K H (.ref a) (dI ns) := .lst h (dpAll_ints ns)
/-- what repr and == ask of data -/
structure RP (d : PyData) : Prop where
  sh : d.showable = true
  nd : d.hasDict = false
  cl : d.canLay0 = true
  dp : d.depth ≤ 32
theorem RP.shaped {d : PyData} (h : RP d) : SeqAt.shaped d = true := by
  have := h.dp
  exact Bool.and_eq_true_iff.mpr ⟨h.cl, decide_eq_true (by omega)⟩
theorem RP.refl {d : PyData} (h : RP d) : PyData.eqv d d = true := SeqAt.eqv_refl d h.cl
theorem rp_int {i : Int} (h : i.natAbs < 2 ^ 1000) : RP (.int i) := ⟨by simp only [PyData.showable]; exact decide_eq_true (Nat.lt_trans (PySem.Flt.log2_lt_of (by decide) h) (by decide)), by simp only [PyData.hasDict], by simp only [PyData.canLay0], by simp only [PyData.depth]; omega⟩
/-- all of a list: depth one less -/
structure RPs (k : Nat) (ds : List PyData) : Prop where
  sh : PyData.showableAll ds = true
  nd : PyData.hasDictAll ds = false
  cl : PyData.canLayAll0 ds = true
  dp : PyData.depthAll ds ≤ k
theorem RPs.nil {k : Nat} : RPs k [] := ⟨by simp only [PyData.showableAll], by simp only [PyData.hasDictAll], by simp only [PyData.canLayAll0], by simp only [PyData.depthAll]; omega⟩
theorem RPs.cons {k : Nat} {d : PyData} {ds : List PyData} (h : RP d) (hk : d.depth ≤ k) (hs : RPs k ds) : RPs k (d :: ds) := by
  refine ⟨?_, ?_, ?_, ?_⟩
  · simp only [PyData.showableAll, h.sh, hs.sh, Bool.and_self]
  · simp only [PyData.hasDictAll, h.nd, hs.nd, Bool.or_self]
  · simp only [PyData.canLayAll0, h.cl, hs.cl, Bool.and_self]
  · simp only [PyData.depthAll]
    have := hs.dp
    omega
theorem RPs.list {k : Nat} {ds : List PyData} (h : RPs k ds) (hk : k ≤ 31) : RP (.list ds) ∧ (PyData.list ds).depth ≤ k + 1 := by
  have hd : (PyData.list ds).depth ≤ k + 1 := by
    simp only [PyData.depth]
    have := h.dp
    omega
  refine ⟨⟨?_, ?_, ?_, by omega⟩, hd⟩
  · simp only [PyData.showable, h.sh]
  · simp only [PyData.hasDict, h.nd]
  · simp only [PyData.canLay0, h.cl]
theorem rps_ints : ∀ {ns : List Int}, (∀ n ∈ ns, n.natAbs < 2 ^ 1000) → RPs 0 (ns.map PyData.int)
  | [], _ => RPs.nil
  | n :: ns, h => RPs.cons (rp_int (h n List.mem_cons_self)) (by simp only [PyData.depth]; omega) (rps_ints fun x hx => h x (List.mem_cons_of_mem _ hx))
theorem rp_ints {ns : List Int} (h : ∀ n ∈ ns, n.natAbs < 2 ^ 1000) : RP (dI ns) := ((rps_ints h).list (by omega)).1
theorem dp_ints_depth {ns : List Int} (h : ∀ n ∈ ns, n.natAbs < 2 ^ 1000) : (dI ns).depth ≤ 1 := ((rps_ints h).list (by omega)).2
theorem sum_bound {B : Nat} : ∀ {l : List Nat}, (∀ x ∈ l, x ≤ B) → l.sum ≤ B * l.length
  | [], _ => Nat.zero_le _
  | x :: l, h => by
    have h1 := h x List.mem_cons_self
    have h2 := sum_bound (B := B) (l := l) fun y hy => h y (List.mem_cons_of_mem _ hy)
    rw [List.sum_cons, List.length_cons, Nat.mul_succ]
    omega
theorem shownAll_map (ds : List PyData) : PyData.shownAll ds = ds.map PyData.shown := by
  induction ds with
  | nil => rfl
  | cons d ds ih =>
    simp only [PyData.shownAll, List.map_cons, ih]
/-- how long a list's text is at most, by its items' -/
theorem shown_list {B : Nat} {ds : List PyData} (h : ∀ d ∈ ds, d.shown.length ≤ B) : (PyData.list ds).shown.length ≤ (B + 2) * ds.length + 3 := by
  simp only [PyData.shown]
  have h1 := listText_len_le (PyData.shownAll ds)
  have h2 : ((PyData.shownAll ds).map (·.length)).sum ≤ B * ds.length := by
    rw [shownAll_map, List.map_map]
    have := sum_bound (B := B) (l := ds.map ((fun x => x.length) ∘ PyData.shown)) fun x hx => by
      obtain ⟨d, hd, rfl⟩ := List.mem_map.mp hx
      exact h d hd
    rw [List.length_map] at this
    exact this
  have h3 : (PyData.shownAll ds).length = ds.length := by rw [shownAll_map, List.length_map]
  rw [h3] at h1
  rw [Nat.add_mul]
  omega
theorem shown_int {i : Int} (h : i.natAbs < 2 ^ 1000) : (PyData.int i).shown.length ≤ 1001 := by
  simp only [PyData.shown]
  rw [PySem.ofString_length]
  exact int_text_length_le (by decide) (PySem.Flt.log2_lt_of (by decide) h)
theorem shown_ints {ns : List Int} (h : ∀ n ∈ ns, n.natAbs < 2 ^ 1000) : (dI ns).shown.length ≤ 1003 * ns.length + 3 := by
  have := shown_list (B := 1001) (ds := ns.map PyData.int) fun d hd => by
    obtain ⟨n, hn, rfl⟩ := List.mem_map.mp hd
    exact shown_int (h n hn)
  rw [List.length_map] at this
  exact this
theorem small_abs {n : Int} (h0 : 0 ≤ n) (h1 : n ≤ 1000000000000000000000000000000) : n.natAbs < 2 ^ 1000 := Nat.lt_of_le_of_lt (m := 1000000000000000000000000000000) (by omega) (by decide +kernel)
theorem Rim.abs {ns : List Int} (h : Rim ns) : ∀ n ∈ ns, n.natAbs < 2 ^ 1000 := fun n hn => small_abs (h.all n hn).1 (h.all n hn).2
theorem Rim.rp {ns : List Int} (h : Rim ns) : RP (dI ns) := rp_ints h.abs
theorem Rim.fits {ns : List Int} (h : Rim ns) : (dI ns).shown.length ≤ sizeLine := by
  have := shown_ints h.abs
  have := h.le
  exact sz40' (by omega)
/-- an object that was not there is written -/
theorem same_over {H H4 : Hp} {l : Addr} {o : HO} (s : Same H H4) (n : H l = none) : Same H (upd H4 l o) := fun b x e => by
  rw [upd_ne (ne_of_none e n)]
  exact s b x e
/-- turned back -/
theorem rot_rot {ns : List Int} {t : Int} : rot (rot ns t) (0 - t) = ns := by
  refine List.ext_getElem? fun j => ?_
  by_cases h : j < ns.length
  · rw [rot_at (by rw [rot_len]; exact h), rot_len]
    have hm := mod_in (i := (j : Int) - (0 - t)) (show 0 < ns.length by omega)
    have e := rot_back (t := t) h
    rw [show (j : Int) - (0 - t) = (j : Int) + t by omega]
    rw [show (j : Int) - (0 - t) = (j : Int) + t by omega] at hm
    rw [← e, ← at_getD (by rw [rot_len]; omega)]
  · rw [List.getElem?_eq_none (by rw [rot_len, rot_len]; omega), List.getElem?_eq_none (by omega)]
theorem mir_mir {ns : List Int} : mir (mir ns) = ns := by
  refine List.ext_getElem? fun j => ?_
  by_cases h : j < ns.length
  · rw [mir_at (by rw [mir_len]; exact h), mir_len]
    have hm := mod_in (i := (0 : Int) - (j : Int)) (show 0 < ns.length by omega)
    have e := mir_back h
    rw [show -(j : Int) = (0 : Int) - (j : Int) by omega]
    rw [← e, ← at_getD (by rw [mir_len]; omega)]
  · rw [List.getElem?_eq_none (by rw [mir_len, mir_len]; omega), List.getElem?_eq_none (by omega)]
end Sd

namespace Sd
open PySem PySem.Spec PyProof.Rows L2
def topS (i : Nat) : Stmt := PySem.Challenge.pw_slitdiscs_k02_turned_and_mirrored_discs.main.body.getD i (.Pass ⟨0, 0, 0, 0⟩)
abbrev s_turned_list : Stmt := topS 1
theorem sc_turned_list : FnScope ["items", "turn", "size", "slot"] ["items", "turn"] (defScope s_turned_list) := ⟨rfl, rfl, rfl, by decide +kernel, rfl, by decide +kernel, by decide +kernel⟩
abbrev s_mirrored_list : Stmt := topS 2
theorem sc_mirrored_list : FnScope ["items", "size", "slot"] ["items"] (defScope s_mirrored_list) := ⟨rfl, rfl, rfl, by decide +kernel, rfl, by decide +kernel, by decide +kernel⟩
abbrev s_is_integer : Stmt := topS 10
theorem sc_is_integer : FnScope ["value"] ["value"] (defScope s_is_integer) := ⟨rfl, rfl, rfl, by decide +kernel, rfl, by decide +kernel, by decide +kernel⟩
abbrev s_has_slots : Stmt := topS 11
theorem sc_has_slots : FnScope ["value"] ["value"] (defScope s_has_slots) := ⟨rfl, rfl, rfl, by decide +kernel, rfl, by decide +kernel, by decide +kernel⟩
abbrev s_wrong_light : Stmt := topS 12
theorem sc_wrong_light : FnScope ["items", "most", "index", "item"] ["items", "most"] (defScope s_wrong_light) := ⟨rfl, rfl, rfl, by decide +kernel, rfl, by decide +kernel, by decide +kernel⟩
abbrev s_wrong_slot : Stmt := topS 13
theorem sc_wrong_slot : FnScope ["items"] ["items"] (defScope s_wrong_slot) := ⟨rfl, rfl, rfl, by decide +kernel, rfl, by decide +kernel, by decide +kernel⟩
abbrev s_check_disc : Stmt := topS 14
theorem sc_check_disc : FnScope ["disc", "index"] ["disc"] (defScope s_check_disc) := ⟨rfl, rfl, rfl, by decide +kernel, rfl, by decide +kernel, by decide +kernel⟩
abbrev s_check_turn : Stmt := topS 15
theorem sc_check_turn : FnScope ["turn"] ["turn"] (defScope s_check_turn) := ⟨rfl, rfl, rfl, by decide +kernel, rfl, by decide +kernel, by decide +kernel⟩
abbrev s_turned_disc : Stmt := topS 17
theorem sc_turned_disc : FnScope ["disc", "turn"] ["disc", "turn"] (defScope s_turned_disc) := ⟨rfl, rfl, rfl, by decide +kernel, rfl, by decide +kernel, by decide +kernel⟩
abbrev s_mirrored_disc : Stmt := topS 18
theorem sc_mirrored_disc : FnScope ["disc"] ["disc"] (defScope s_mirrored_disc) := ⟨rfl, rfl, rfl, by decide +kernel, rfl, by decide +kernel, by decide +kernel⟩
abbrev s_law_tank : Stmt := topS 20
theorem sc_law_tank : FnScope ["script", "at", "cell"] ["script", "at"] (defScope s_law_tank) := ⟨rfl, rfl, rfl, by decide +kernel, rfl, by decide +kernel, by decide +kernel⟩
abbrev s_law_tap : Stmt := topS 21
theorem sc_law_tap : FnScope ["tank", "many", "drawn", "mixed"] ["tank", "many"] (defScope s_law_tap) := ⟨rfl, rfl, rfl, by decide +kernel, rfl, by decide +kernel, by decide +kernel⟩
abbrev s_law_drawn_count : Stmt := topS 22
theorem sc_law_drawn_count : FnScope ["tank", "most", "some"] ["tank", "most"] (defScope s_law_drawn_count) := ⟨rfl, rfl, rfl, by decide +kernel, rfl, by decide +kernel, by decide +kernel⟩
abbrev s_law_drawn_rim : Stmt := topS 23
theorem sc_law_drawn_rim : FnScope ["tank", "count", "kind", "wide", "rim", "slot_here", "sizes", "size"] ["tank", "count"] (defScope s_law_drawn_rim) := ⟨rfl, rfl, rfl, by decide +kernel, rfl, by decide +kernel, by decide +kernel⟩
abbrev s_law_drawn_turn : Stmt := topS 24
theorem sc_law_drawn_turn : FnScope ["tank"] ["tank"] (defScope s_law_drawn_turn) := ⟨rfl, rfl, rfl, by decide +kernel, rfl, by decide +kernel, by decide +kernel⟩
abbrev s_law_turned : Stmt := topS 25
theorem sc_law_turned : FnScope ["rim", "by", "found", "slot_here", "one"] ["rim", "by"] (defScope s_law_turned) := ⟨rfl, rfl, rfl, by decide +kernel, rfl, by decide +kernel, by decide +kernel⟩
abbrev s_law_mirrored : Stmt := topS 26
theorem sc_law_mirrored : FnScope ["rim", "found", "slot_here", "one"] ["rim"] (defScope s_law_mirrored) := ⟨rfl, rfl, rfl, by decide +kernel, rfl, by decide +kernel, by decide +kernel⟩
abbrev s_law_right : Stmt := topS 27
theorem sc_law_right : FnScope ["tank", "rim", "kept", "by", "told", "due"] ["tank", "rim"] (defScope s_law_right) := ⟨rfl, rfl, rfl, by decide +kernel, rfl, by decide +kernel, by decide +kernel⟩
abbrev s_law : Stmt := topS 28
theorem sc_law : FnScope ["script", "at", "tank", "lap", "rim", "told"] ["script"] (defScope s_law) := ⟨rfl, rfl, rfl, by decide +kernel, rfl, by decide +kernel, by decide +kernel⟩
/-- what the top has written -/
structure Txt (K : PySem.W.Frag) (mg : Str → Option Value) where
  a_turned_list : Addr
  d_turned_list : FuncData
  F_turned_list : Fun K "turned_list" "turned_list" s_turned_list a_turned_list d_turned_list
  b_turned_list : Binds K d_turned_list ["items", "turn"] []
  g_turned_list : mg "turned_list" = some (.ref a_turned_list)
  a_mirrored_list : Addr
  d_mirrored_list : FuncData
  F_mirrored_list : Fun K "mirrored_list" "mirrored_list" s_mirrored_list a_mirrored_list d_mirrored_list
  b_mirrored_list : Binds K d_mirrored_list ["items"] []
  g_mirrored_list : mg "mirrored_list" = some (.ref a_mirrored_list)
  a_is_integer : Addr
  d_is_integer : FuncData
  F_is_integer : Fun K "is_integer" "is_integer" s_is_integer a_is_integer d_is_integer
  b_is_integer : Binds K d_is_integer ["value"] []
  g_is_integer : mg "is_integer" = some (.ref a_is_integer)
  a_has_slots : Addr
  d_has_slots : FuncData
  F_has_slots : Fun K "has_slots" "has_slots" s_has_slots a_has_slots d_has_slots
  b_has_slots : Binds K d_has_slots ["value"] []
  g_has_slots : mg "has_slots" = some (.ref a_has_slots)
  a_wrong_light : Addr
  d_wrong_light : FuncData
  F_wrong_light : Fun K "wrong_light" "wrong_light" s_wrong_light a_wrong_light d_wrong_light
  b_wrong_light : Binds K d_wrong_light ["items", "most"] []
  g_wrong_light : mg "wrong_light" = some (.ref a_wrong_light)
  a_wrong_slot : Addr
  d_wrong_slot : FuncData
  F_wrong_slot : Fun K "wrong_slot" "wrong_slot" s_wrong_slot a_wrong_slot d_wrong_slot
  b_wrong_slot : Binds K d_wrong_slot ["items"] []
  g_wrong_slot : mg "wrong_slot" = some (.ref a_wrong_slot)
  a_check_disc : Addr
  d_check_disc : FuncData
  F_check_disc : Fun K "check_disc" "check_disc" s_check_disc a_check_disc d_check_disc
  b_check_disc : Binds K d_check_disc ["disc"] []
  g_check_disc : mg "check_disc" = some (.ref a_check_disc)
  a_check_turn : Addr
  d_check_turn : FuncData
  F_check_turn : Fun K "check_turn" "check_turn" s_check_turn a_check_turn d_check_turn
  b_check_turn : Binds K d_check_turn ["turn"] []
  g_check_turn : mg "check_turn" = some (.ref a_check_turn)
  a_turned_disc : Addr
  d_turned_disc : FuncData
  F_turned_disc : Fun K "turned_disc" "turned_disc" s_turned_disc a_turned_disc d_turned_disc
  b_turned_disc : Binds K d_turned_disc ["disc", "turn"] []
  g_turned_disc : mg "turned_disc" = some (.ref a_turned_disc)
  a_mirrored_disc : Addr
  d_mirrored_disc : FuncData
  F_mirrored_disc : Fun K "mirrored_disc" "mirrored_disc" s_mirrored_disc a_mirrored_disc d_mirrored_disc
  b_mirrored_disc : Binds K d_mirrored_disc ["disc"] []
  g_mirrored_disc : mg "mirrored_disc" = some (.ref a_mirrored_disc)
  a_law_tank : Addr
  d_law_tank : FuncData
  F_law_tank : Fun K "_law_tank" "_law_tank" s_law_tank a_law_tank d_law_tank
  b_law_tank : Binds K d_law_tank ["script", "at"] []
  g_law_tank : mg "_law_tank" = some (.ref a_law_tank)
  a_law_tap : Addr
  d_law_tap : FuncData
  F_law_tap : Fun K "_law_tap" "_law_tap" s_law_tap a_law_tap d_law_tap
  b_law_tap : Binds K d_law_tap ["tank", "many"] []
  g_law_tap : mg "_law_tap" = some (.ref a_law_tap)
  a_law_drawn_count : Addr
  d_law_drawn_count : FuncData
  F_law_drawn_count : Fun K "_law_drawn_count" "_law_drawn_count" s_law_drawn_count a_law_drawn_count d_law_drawn_count
  b_law_drawn_count : Binds K d_law_drawn_count ["tank", "most"] []
  g_law_drawn_count : mg "_law_drawn_count" = some (.ref a_law_drawn_count)
  a_law_drawn_rim : Addr
  d_law_drawn_rim : FuncData
  F_law_drawn_rim : Fun K "_law_drawn_rim" "_law_drawn_rim" s_law_drawn_rim a_law_drawn_rim d_law_drawn_rim
  b_law_drawn_rim : Binds K d_law_drawn_rim ["tank", "count"] []
  g_law_drawn_rim : mg "_law_drawn_rim" = some (.ref a_law_drawn_rim)
  a_law_drawn_turn : Addr
  d_law_drawn_turn : FuncData
  F_law_drawn_turn : Fun K "_law_drawn_turn" "_law_drawn_turn" s_law_drawn_turn a_law_drawn_turn d_law_drawn_turn
  b_law_drawn_turn : Binds K d_law_drawn_turn ["tank"] []
  g_law_drawn_turn : mg "_law_drawn_turn" = some (.ref a_law_drawn_turn)
  a_law_turned : Addr
  d_law_turned : FuncData
  F_law_turned : Fun K "_law_turned" "_law_turned" s_law_turned a_law_turned d_law_turned
  b_law_turned : Binds K d_law_turned ["rim", "by"] []
  g_law_turned : mg "_law_turned" = some (.ref a_law_turned)
  a_law_mirrored : Addr
  d_law_mirrored : FuncData
  F_law_mirrored : Fun K "_law_mirrored" "_law_mirrored" s_law_mirrored a_law_mirrored d_law_mirrored
  b_law_mirrored : Binds K d_law_mirrored ["rim"] []
  g_law_mirrored : mg "_law_mirrored" = some (.ref a_law_mirrored)
  a_law_right : Addr
  d_law_right : FuncData
  F_law_right : Fun K "_law_right" "_law_right" s_law_right a_law_right d_law_right
  b_law_right : Binds K d_law_right ["tank", "rim"] []
  g_law_right : mg "_law_right" = some (.ref a_law_right)
  a_law : Addr
  d_law : FuncData
  F_law : Fun K "law" "law" s_law a_law d_law
  g_law : mg "law" = some (.ref a_law)
  t_MOST_SLOTS : Tok
  g_MOST_SLOTS : mg "MOST_SLOTS" = some (.int (40) t_MOST_SLOTS)
  t_MOST_LIGHT : Tok
  g_MOST_LIGHT : mg "MOST_LIGHT" = some (.int (1000000000000000000000000000000) t_MOST_LIGHT)
  n_abs : mg "abs" = none
  n_bool : mg "bool" = none
  n_enumerate : mg "enumerate" = none
  n_int : mg "int" = none
  n_isinstance : mg "isinstance" = none
  n_len : mg "len" = none
  n_list : mg "list" = none
  n_max : mg "max" = none
  n_min : mg "min" = none
  n_range : mg "range" = none
  n_repr : mg "repr" = none
def kp_mirrored_disc_disc {α : Type} : List α → List α → List α
  | [], [x0] => [x0]
  | _, _ => []
theorem kb_mirrored_disc_disc {K : PySem.W.Frag} {mg : Str → Option Value} (T : Txt K mg) : KBinds K T.d_mirrored_disc ["disc"] ["disc"] kp_mirrored_disc_disc kp_mirrored_disc_disc := by
  obtain ⟨_, _, _, _, _, _, _, _, _, e, _, _⟩ := T.F_mirrored_disc.ex
  rw [e]
  refine ⟨fun s us ws _ hl => ?_, fun r1 r2 => ?_⟩
  · match us, ws, hl with
    | [], [x0], _ => exact .of_eq rfl
  · cases r1 with
    | cons _ _ => exact .nil
    | nil =>
      cases r2 with
      | nil => exact .nil
      | cons h0 r2 =>
        cases r2 with
        | cons _ _ => exact .nil
        | nil => exact .cons h0 .nil
def kp_turned_disc_turn_disc {α : Type} : List α → List α → List α
  | [], [x0, x1] => [x1, x0]
  | _, _ => []
theorem kb_turned_disc_turn_disc {K : PySem.W.Frag} {mg : Str → Option Value} (T : Txt K mg) : KBinds K T.d_turned_disc ["disc", "turn"] ["turn", "disc"] kp_turned_disc_turn_disc kp_turned_disc_turn_disc := by
  obtain ⟨_, _, _, _, _, _, _, _, _, e, _, _⟩ := T.F_turned_disc.ex
  rw [e]
  refine ⟨fun s us ws _ hl => ?_, fun r1 r2 => ?_⟩
  · match us, ws, hl with
    | [], [x0, x1], _ => exact .of_eq rfl
  · cases r1 with
    | cons _ _ => exact .nil
    | nil =>
      cases r2 with
      | nil => exact .nil
      | cons h0 r2 =>
        cases r2 with
        | nil => exact .nil
        | cons h1 r2 =>
          cases r2 with
          | cons _ _ => exact .nil
          | nil => exact .cons h1 (.cons h0 .nil)
section
variable {P : Program} {w : World} {K : PySem.W.Frag} {mg : Str → Option Value} {base : Heap}
/-! ### _law_tank, _law_tap -/
def mixA (y z : Int) : Int := (y + 350377 * z) ^ (3 : Int).toNat % 170141183460469231731687303715884105727
theorem mixA_in (y z : Int) : 0 ≤ mixA y z ∧ mixA y z < 170141183460469231731687303715884105727 := ⟨Int.emod_nonneg _ (by decide), Int.emod_lt_of_pos _ (by decide)⟩
def spTap : Sp := fun vs H Q _ => ∃ (T : Addr) (m c : Int), vs = [.ref T, .int m] ∧ 0 < m ∧ m < 2 ^ 200 ∧ Tank H T c ∧ c < 2 ^ 40 ∧
  ∀ (r : Int) (H' : Hp), 0 ≤ r → r < m → Tank H' T (c + 1) → But T H H' → Q (.int r) H'
theorem ok_law_tap (T : Txt K mg) : FnOk P w K mg base CX0 1 T.a_law_tap T.d_law_tap ["tank", "many"] spTap := by
  refine T.F_law_tap.ok sc_law_tap (fun vs H Q E h => ?_) (fun cdv A outer s H vs Q E hr h => ?_)
  · obtain ⟨_, _, _, rfl, _⟩ := h
    rfl
  · obtain ⟨t, m, c, rfl, hm0, hm, ⟨x, y, z, hT, hx, hy0, hy, hz0, hz⟩, hc, q⟩ := h
    refine ⟨_, (pss_cons (ps_if (pt_cmpR op_gt (pe_ix (ixL (K := K) rfl) (pv 0) pe_int (fun _ _ => rfl)) pe_int (nomark _)) (pss_cons (ps_set (i := 2) sc_law_tap.nd rfl (.inl rfl) (pe_op op_mod (pe_callTy call_int1 (by rfl) T.n_int (by decide +kernel) (pa_cons (pe_ix (ixL (K := K) rfl) (pv 0) pe_int (fun _ _ => rfl)) pa_nil)) (pv 1)))
      (pss_cons (ps_asg (pe_op op_fdivW (pe_ix (ixL (K := K) rfl) (pv 0) pe_int (fun _ _ => rfl)) (pv 1)) (pg_sub (pv 0) pe_int set_list))
      (pss_one (ps_ret (pv 2))))) pss_nil)
      (pss_cons (ps_asg (pe_op op_add (pe_ix (ixL (K := K) rfl) (pv 0) pe_int (fun _ _ => rfl)) pe_int) (pg_sub (pv 0) pe_int set_list))
      (pss_cons (ps_set (i := 3) sc_law_tap.nd rfl (.inl rfl) (pe_op op_mod (pe_callTy call_int1 (by rfl) T.n_int (by decide +kernel) (pa_cons (pe_op op_pow3 (pe_op op_add (pe_ix (ixL (K := K) rfl) (pv 0) pe_int (fun _ _ => rfl)) (pe_op op_mul pe_int (pe_ix (ixL (K := K) rfl) (pv 0) pe_int (fun _ _ => rfl)))) pe_int) pa_nil)) pe_int))
      (pss_cons (ps_set (i := 3) sc_law_tap.nd rfl (.inl rfl) (pe_op op_mod (pe_callTy call_int1 (by rfl) T.n_int (by decide +kernel) (pa_cons (pe_op op_pow3 (pe_op op_add (pv 3) (pe_op op_mul pe_int (pe_ix (ixL (K := K) rfl) (pv 0) pe_int (fun _ _ => rfl)))) pe_int) pa_nil)) (pe_op op_add (pe_op op_pow pe_int pe_int) pe_int)))
      (pss_one (ps_ret (pe_op op_mod (pe_callTy call_int1 (by rfl) T.n_int (by decide +kernel) (pa_cons (pe_op op_fdivW (pv 3) pe_int) pa_nil)) (pv 1)))))))), ?_⟩
    refine ⟨.ref t, rfl, t, _, 0, .int x, rfl, rfl, SqL.of hT, rfl, x, 0, rfl, rfl, _, rfl, ite2 (fun h => ?_) (fun h => ?_)⟩
    · have hx1 : 0 < x := of_decide_eq_true h
      refine ⟨.ref t, rfl, t, _, 0, .int x, rfl, rfl, SqL.of hT, rfl, .inl ⟨x, rfl, .int m, rfl, x, m, rfl, rfl, hm0, ?_⟩⟩
      refine ⟨.ref t, rfl, t, _, 0, .int x, rfl, rfl, SqL.of hT, rfl, .int m, rfl, x, m, rfl, rfl, wide_div (b := 200) hm0 (by omega) (by decide) (by decide), ?_⟩
      refine ⟨.ref t, rfl, t, _, 0, 0, rfl, rfl, hT, rfl, ?_⟩
      refine ⟨.int (x % m), rfl, q _ _ (Int.emod_nonneg _ (by omega)) (Int.emod_lt_of_pos _ hm0) ⟨x / m, y, z, upd_same, Int.ediv_nonneg hx (by omega), hy0, hy, hz0, by omega⟩ upd_but⟩
    · refine ⟨.ref t, rfl, t, _, 2, .int z, rfl, rfl, SqL.of hT, rfl, z, 1, rfl, rfl, ?_⟩
      refine ⟨.ref t, rfl, t, _, 2, 2, rfl, rfl, hT, rfl, ?_⟩
      have hT2 : (upd H t (.lst [.int x, .int y, .int (z + 1)])) t = some (.lst [.int x, .int y, .int (z + 1)]) := upd_same
      refine ⟨.ref t, rfl, t, _, 1, .int y, rfl, rfl, SqL.of hT2, rfl, .ref t, rfl, t, _, 2, .int (z + 1), rfl, rfl, SqL.of hT2, rfl, 350377, z + 1, rfl, rfl, .inl ⟨by decide, by decide⟩, ?_⟩
      refine ⟨y, 350377 * (z + 1), rfl, rfl, _, 3, rfl, rfl, ⟨rfl, by omega, by omega⟩, .inl ⟨_, rfl, _, 170141183460469231731687303715884105727, rfl, rfl, (by show (0 : Int) < 170141183460469231731687303715884105727; decide), ?_⟩⟩
      obtain ⟨g0, g1⟩ := mixA_in y (z + 1)
      refine ⟨.int (mixA y (z + 1)), rfl, .ref t, rfl, t, _, 2, .int (z + 1), rfl, rfl, SqL.of hT2, rfl, 27644437, z + 1, rfl, rfl, .inl ⟨by decide, by decide⟩, ?_⟩
      refine ⟨mixA y (z + 1), 27644437 * (z + 1), rfl, rfl, _, 3, rfl, rfl, ⟨rfl, by omega, by omega⟩, .inl ⟨_, rfl, 10, 46, rfl, rfl, ⟨by decide, by decide, by decide⟩, _, 9, rfl, rfl, _, _, rfl, rfl, (by show (0 : Int) < 10 ^ (46 : Int).toNat + 9; decide +kernel), ?_⟩⟩
      refine ⟨_, rfl, _, 524288, rfl, rfl, wide_div (b := 30) (by decide) (by decide) (by decide) (by decide), .inl ⟨_, rfl, .int m, rfl, _, m, rfl, rfl, hm0, ?_⟩⟩
      exact q _ _ (Int.emod_nonneg _ (by omega)) (Int.emod_lt_of_pos _ hm0) ⟨x, y, z + 1, upd_same, hx, hy0, hy, by omega, by omega⟩ upd_but
def spTank (K : PySem.W.Frag) : Sp := fun vs H Q _ => ∃ (a : Addr) (ns : List Int) (i : Int), vs = [.ref a, .int i] ∧ SqL K H a (ns.map V.int) ∧ 0 ≤ i ∧ i < 100 ∧
  ∀ (t : Addr) (H' : Hp), Same H H' → H t = none → Tank H' t 0 → Q (.ref t) H'
theorem ok_law_tank (T : Txt K mg) : FnOk P w K mg base CX0 1 T.a_law_tank T.d_law_tank ["script", "at"] (spTank K) := by
  refine T.F_law_tank.ok sc_law_tank (fun vs H Q E h => ?_) (fun cdv A outer s H vs Q E hr h => ?_)
  · obtain ⟨_, _, _, rfl, _⟩ := h
    rfl
  · obtain ⟨a, ns, i, rfl, hS, hi0, hi, q⟩ := h
    refine ⟨_, (pss_cons (ps_set (i := 2) sc_law_tank.nd rfl (.inl rfl) (pe_ifExp (pt_cmpR op_lt (pv 1) (pe_callB (lenL (K := K) rfl) (by rfl) T.n_len (by decide +kernel) (pa_cons (pv 0) pa_nil)) (nomark _)) (pe_ix (ixL (K := K) rfl) (pv 0) (pv 1) (fun _ _ => rfl)) pe_int))
      (pss_one (ps_ret (pe_lst (pa_cons (pe_callB (call_max2 rfl) (by rfl) T.n_max (by decide +kernel) (pa_cons pe_int (pa_cons (pe_op op_sub (pe_callB call_abs (by rfl) T.n_abs (by decide +kernel) (pa_cons (pv 2) pa_nil)) (pe_op op_pow pe_int pe_int)) pa_nil))) (pa_cons (pe_op op_add (pe_op op_mod (pe_callTy call_int1 (by rfl) T.n_int (by decide +kernel) (pa_cons (pv 2) pa_nil)) pe_int) (pe_op op_mul pe_int (pe_op op_add (pv 1) pe_int))) (pa_cons pe_int pa_nil))))))), ?_⟩
    have fin : ∀ c : Int, (fun σ H' => ∃ y2, σ = [some (.ref a), some (.int i), some y2] ∧ y2 = V.int c ∧ H' = H) [some (.ref a), some (.int i), some (V.int c)] H := fun c => ⟨_, rfl, rfl, rfl⟩
    have key : ∀ c : Int, (0 : Int) ≤ max 0 ((if c < 0 then -c else c) - 10 ^ 18) := fun c => Int.le_max_left _ _
    refine ⟨.int i, rfl, .ref a, rfl, a, _, rfl, .inl hS, i, _, rfl, rfl, _, rfl, ite2 (fun h => ?_) (fun h => ?_)⟩
    · have h1 : i < ns.length := by
        have := of_decide_eq_true h
        rw [List.length_map] at this
        exact this
      obtain ⟨c, hc, hat⟩ := at_in hi0 h1
      refine ⟨.ref a, rfl, .int i, rfl, a, _, i, .int c, rfl, rfl, hS, hat, ?_⟩
      refine ⟨.int c, rfl, c, rfl, 10, 18, rfl, rfl, ⟨by decide, by decide, by decide⟩, _, _, rfl, rfl, 0, _, rfl, ?_⟩
      refine ⟨.int c, rfl, .inl ⟨c, rfl, c, 1000000000000000003, rfl, rfl, (by show (0 : Int) < 1000000000000000003; decide), .int i, rfl, i, 1, rfl, rfl, 104729, i + 1, rfl, rfl, .inl ⟨by decide, by decide⟩, _, _, rfl, rfl, (by show 3 ≤ sizeLine; decide), fun t ht => ?_⟩⟩
      have m0 := Int.emod_nonneg c (show (1000000000000000003 : Int) ≠ 0 by decide)
      have m1 := Int.emod_lt_of_pos c (show (0 : Int) < 1000000000000000003 by decide)
      refine q t _ (new_same ht) ht ⟨_, _, 0, upd_same, ?_, by omega, by omega, by omega, by omega⟩
      split <;> omega
    · refine ⟨.int 0, rfl, 0, rfl, 10, 18, rfl, rfl, ⟨by decide, by decide, by decide⟩, _, _, rfl, rfl, 0, _, rfl, ?_⟩
      refine ⟨.int 0, rfl, .inl ⟨0, rfl, 0, 1000000000000000003, rfl, rfl, (by show (0 : Int) < 1000000000000000003; decide), .int i, rfl, i, 1, rfl, rfl, 104729, i + 1, rfl, rfl, .inl ⟨by decide, by decide⟩, _, _, rfl, rfl, (by show 3 ≤ sizeLine; decide), fun t ht => ?_⟩⟩
      refine q t _ (new_same ht) ht ⟨_, _, 0, upd_same, ?_, by omega, by omega, by omega, by omega⟩
      split <;> omega

/-! ### _law_drawn_count, _law_drawn_turn -/
def spCount : Sp := fun vs H Q _ => ∃ (T : Addr) (m c : Int), vs = [.ref T, .int m] ∧ 1 ≤ m ∧ m ≤ 40 ∧ Tank H T c ∧ 0 ≤ c ∧ c < 2 ^ 39 ∧
  ∀ (r : Int) (H' : Hp), 1 ≤ r → r ≤ m → Tank H' T (c + 3) → But T H H' → Q (.int r) H'
theorem ok_law_drawn_count (T : Txt K mg) : FnOk P w K mg base CX0 2 T.a_law_drawn_count T.d_law_drawn_count ["tank", "most"] spCount := by
  have G_law_tap := ok_law_tap (P := P) (w := w) (base := base) T
  refine T.F_law_drawn_count.ok sc_law_drawn_count (fun vs H Q E h => ?_) (fun cdv A outer s H vs Q E hr h => ?_)
  · obtain ⟨_, _, _, rfl, _⟩ := h
    rfl
  · obtain ⟨t, m, c, rfl, hm1, hm, hT, hc0, hc, q⟩ := h
    refine ⟨_, (pss_cons (ps_set (i := 2) sc_law_drawn_count.nd rfl (.inl rfl) (pe_lst (pa_cons pe_int (pa_cons (pv 1) (pa_cons pe_int (pa_cons pe_int (pa_cons pe_int (pa_cons pe_int (pa_cons pe_int (pa_cons (pe_op op_add pe_int (pe_call G_law_tap hr (by rfl) T.g_law_tap T.F_law_tap.kp T.b_law_tap .nil pass0 (pa_cons (pv 0) (pa_cons (pv 1) pa_nil)))) (pa_cons (pe_op op_add pe_int (pe_call G_law_tap hr (by rfl) T.g_law_tap T.F_law_tap.kp T.b_law_tap .nil pass0 (pa_cons (pv 0) (pa_cons (pv 1) pa_nil)))) pa_nil)))))))))))
      (pss_one (ps_ret (pe_callB (call_min2 rfl) (by rfl) T.n_min (by decide +kernel) (pa_cons (pv 1) (pa_cons (pe_ix (ixL (K := K) rfl) (pv 2) (pe_call G_law_tap hr (by rfl) T.g_law_tap T.F_law_tap.kp T.b_law_tap .nil pass0 (pa_cons (pv 0) (pa_cons pe_int pa_nil))) (fun _ _ => rfl)) pa_nil)))))), ?_⟩
    refine ⟨.int m, rfl, .ref t, rfl, .int m, rfl, t, m, c, rfl, by omega, by omega, hT, by omega, fun r1 H1 a1 b1 k1 u1 => ?_⟩
    refine ⟨1, r1, rfl, rfl, .ref t, rfl, .int m, rfl, t, m, c + 1, rfl, by omega, by omega, k1, by omega, fun r2 H2 a2 b2 k2 u2 => ?_⟩
    refine ⟨1, r2, rfl, rfl, (by show 9 ≤ sizeLine; decide), fun l hl => ?_⟩
    refine ⟨.int m, rfl, .ref l, rfl, .ref t, rfl, t, 9, c + 2, rfl, by omega, by omega, (k2.mono (by omega)).up hl, by omega, fun r3 H3 a3 b3 k3 u3 => ?_⟩
    have hl3 : H3 l = some (.lst (([1, m, 6, 7, 12, 36, 40, 1 + r1, 1 + r2] : List Int).map V.int)) := u3 _ _ upd_same (k2.ne hl)
    obtain ⟨n, hn, hat⟩ := at_in (ns := [1, m, 6, 7, 12, 36, 40, 1 + r1, 1 + r2]) a3 (by show r3 < 9; omega)
    have hn1 : 1 ≤ n := by
      have := List.mem_of_getElem? hn
      simp only [List.mem_cons, List.not_mem_nil, or_false] at this
      omega
    refine ⟨l, _, r3, .int n, rfl, rfl, SqL.of hl3, hat, m, n, rfl, ?_⟩
    have hb : But t H H3 := ((u1.trans u2).trans (But.of (new_same hl))).trans u3
    split
    · exact q _ _ hn1 (by omega) (k3.mono (by omega)) hb
    · exact q _ _ hm1 (by omega) (k3.mono (by omega)) hb

def spTurn : Sp := fun vs H Q _ => ∃ (T : Addr) (c : Int), vs = [.ref T] ∧ Tank H T c ∧ 0 ≤ c ∧ c < 2 ^ 39 ∧
  ∀ (r : Int) (H' : Hp), -10000000000000000000000000000000000000000 ≤ r → r ≤ 10000000000000000000000000000000000000000 → Tank H' T (c + 3) → But T H H' → Q (.int r) H'
theorem ok_law_drawn_turn (T : Txt K mg) : FnOk P w K mg base CX0 2 T.a_law_drawn_turn T.d_law_drawn_turn ["tank"] spTurn := by
  have G_law_tap := ok_law_tap (P := P) (w := w) (base := base) T
  refine T.F_law_drawn_turn.ok sc_law_drawn_turn (fun vs H Q E h => ?_) (fun cdv A outer s H vs Q E hr h => ?_)
  · obtain ⟨_, _, rfl, _⟩ := h
    rfl
  · obtain ⟨t, c, rfl, hT, hc0, hc, q⟩ := h
    refine ⟨_, (pss_one (ps_ret (pe_op op_mul (pe_call G_law_tap hr (by rfl) T.g_law_tap T.F_law_tap.kp T.b_law_tap .nil pass0 (pa_cons (pv 0) (pa_cons (pe_ix (ixL (K := K) rfl) (pe_lst (pa_cons pe_int (pa_cons pe_int (pa_cons (pe_op op_pow pe_int pe_int) pa_nil)))) (pe_call G_law_tap hr (by rfl) T.g_law_tap T.F_law_tap.kp T.b_law_tap .nil pass0 (pa_cons (pv 0) (pa_cons pe_int pa_nil))) (fun _ _ => rfl)) pa_nil))) (pe_ix (ixL (K := K) rfl) (pe_lst (pa_cons pe_int (pa_cons (pe_un un_neg pe_int) pa_nil))) (pe_call G_law_tap hr (by rfl) T.g_law_tap T.F_law_tap.kp T.b_law_tap .nil pass0 (pa_cons (pv 0) (pa_cons pe_int pa_nil))) (fun _ _ => rfl))))), ?_⟩
    have e40 : (10 : Int) ^ (40 : Int).toNat = 10000000000000000000000000000000000000000 := by decide +kernel
    refine ⟨.ref t, rfl, 10, 40, rfl, rfl, ⟨by decide, by decide, by decide⟩, (by show 3 ≤ sizeLine; decide), fun l hl => ?_⟩
    refine ⟨.ref t, rfl, t, 3, c, rfl, by omega, by omega, hT.up hl, by omega, fun r1 H1 a1 b1 k1 u1 => ?_⟩
    have hl1 : H1 l = some (.lst (([4, 99, 10 ^ (40 : Int).toNat] : List Int).map V.int)) := u1 _ _ upd_same (hT.ne hl)
    obtain ⟨n, hn, hat⟩ := at_in (ns := [4, 99, 10 ^ (40 : Int).toNat]) a1 (by show r1 < 3; omega)
    have hn1 : 4 ≤ n ∧ n ≤ 10000000000000000000000000000000000000000 := by
      have := List.mem_of_getElem? hn
      simp only [List.mem_cons, List.not_mem_nil, or_false, e40] at this
      omega
    refine ⟨l, _, r1, .int n, rfl, rfl, SqL.of hl1, hat, t, n, c + 1, rfl, by omega, by omega, k1, by omega, fun r2 H2 a2 b2 k2 u2 => ?_⟩
    refine ⟨1, rfl, (by show 2 ≤ sizeLine; decide), fun l2 hl2 => ?_⟩
    refine ⟨.ref t, rfl, t, 2, c + 2, rfl, by omega, by omega, (k2.mono (by omega)).up hl2, by omega, fun r3 H3 a3 b3 k3 u3 => ?_⟩
    have hl3 : H3 l2 = some (.lst (([1, -1] : List Int).map V.int)) := u3 _ _ upd_same (k2.ne hl2)
    obtain ⟨d, hd, hat3⟩ := at_in (ns := [1, -1]) a3 (by show r3 < 2; omega)
    have hd1 : d = 1 ∨ d = -1 := by
      have := List.mem_of_getElem? hd
      simp only [List.mem_cons, List.not_mem_nil, or_false] at this
      exact this
    refine ⟨l2, _, r3, .int d, rfl, rfl, SqL.of hl3, hat3, r2, d, rfl, rfl, .inr (by omega), ?_⟩
    have hb : But t H H3 := ((((But.of (new_same hl)).trans u1).trans u2).trans (But.of (new_same hl2))).trans u3
    have lo : -10000000000000000000000000000000000000000 ≤ r2 * d ∧ r2 * d ≤ 10000000000000000000000000000000000000000 := by
      rcases hd1 with rfl | rfl <;> omega
    exact q _ _ lo.1 lo.2 (k3.mono (by omega)) hb

/-! ### _law_turned, _law_mirrored -/
def spLTurned (K : PySem.W.Frag) : Sp := fun vs H Q _ => ∃ (a : Addr) (ns : List Int) (t : Int), vs = [.ref a, .int t] ∧ SqL K H a (ns.map V.int) ∧ 1 ≤ ns.length ∧ ns.length ≤ 1000 ∧
  ∀ (l : Addr) (H' : Hp), Same H H' → H l = none → H' l = some (.lst ((rot ns t).map V.int)) → Q (.ref l) H'
theorem ok_law_turned (T : Txt K mg) : FnOk P w K mg base CX0 1 T.a_law_turned T.d_law_turned ["rim", "by"] (spLTurned K) := by
  refine T.F_law_turned.ok sc_law_turned (fun vs H Q E h => ?_) (fun cdv A outer s H vs Q E hr h => ?_)
  · obtain ⟨_, _, _, rfl, _⟩ := h
    rfl
  · obtain ⟨a, ns, t, rfl, hS, hn1, hn, q⟩ := h
    refine ⟨_, (pss_cons (ps_set (i := 2) sc_law_turned.nd rfl (.inl rfl) (pe_callTy (listL (K := K) rfl) (by rfl) T.n_list (by decide +kernel) (pa_cons (pv 0) pa_nil)))
      (pss_cons (ps_for PassesOwn.never rfl (enumL (K := K) rfl (by rfl) T.n_enumerate (pa_cons (pv 0) pa_nil)) (pg_tupL (K := K) (n := 2) rfl rfl (pgs_cons (pg_name (i := 3) sc_law_turned.nd rfl (.inl rfl)) (pgs_cons (pg_name (i := 4) sc_law_turned.nd rfl (.inl rfl)) pgs_nil))) (pss_one (ps_asg (pv 4) (pg_sub (pv 2) (pe_op op_mod (pe_callTy call_int1 (by rfl) T.n_int (by decide +kernel) (pa_cons (pe_op op_add (pv 3) (pv 1)) pa_nil)) (pe_callB (lenL (K := K) rfl) (by rfl) T.n_len (by decide +kernel) (pa_cons (pv 0) pa_nil))) set_list))))
      (pss_one (ps_ret (pv 2))))), ?_⟩
    refine ⟨.ref a, rfl, a, _, rfl, .inl hS, fun l hl => ?_⟩
    refine ⟨.ref a, rfl, a, _, rfl, (new_same hl).seq hS, for_it (walk_enum (K := K) (xs := ns.map V.int))
      (fun i σ H' => ∃ (ms : List Int) (y3 y4 : Option V), σ = [some (.ref a), some (.int t), some (.ref l), y3, y4] ∧ Same H H' ∧ H' l = some (.lst (ms.map V.int)) ∧ Filled (fun j => (((j : Int) + t) % (ns.length : Int)).toNat) (rot ns t) ms i)
      ⟨ns, none, none, rfl, new_same hl, upd_same, (rot_len ns t).symm, fun p ⟨j, hj, _⟩ => absurd hj (Nat.not_lt_zero _)⟩ (fun i σ H' _ ⟨_, _, _, _, s2, _⟩ => s2.seq hS) (fun i x σ H1 H2 hi hP hY => ?_) (fun σ H1 hP => ?_)⟩
    · obtain ⟨ms, y3, y4, rfl, s1, hl1, hF⟩ := hP
      obtain ⟨p, z1, z2, rfl, hp, rfl, e1, e2⟩ := hY
      have e1 : V.int (i : Int) = z1 := Option.some.inj e1
      subst e1
      obtain ⟨n, hn, rfl⟩ := int_at e2
      have hi' : i < ns.length := by simpa using hi
      have s2 : Same H (upd H1 p (.tup [.int i, .int n])) := s1.trans (new_same hp)
      have hl2 : upd H1 p (.tup [.int i, .int n]) l = some (.lst (ms.map V.int)) := new_same hp _ _ hl1
      have hm := mod_in (i := (i : Int) + t) (show 0 < ns.length by omega)
      refine ⟨p, _, rfl, SqT.of upd_same, rfl, _, _, rfl, _, _, rfl, rfl, ?_⟩
      refine ⟨.int n, rfl, .ref l, rfl, .int i, rfl, .int t, rfl, i, t, rfl, rfl, .inl ⟨_, rfl, .ref a, rfl, a, _, rfl, .inl (s2.seq hS), _, _, rfl, rfl, (by show (0 : Int) < _; rw [List.length_map]; omega), ?_⟩⟩
      refine ⟨l, _, _, (((i : Int) + t) % (ns.length : Int)).toNat, rfl, rfl, hl2, ?_, ?_⟩
      · rw [List.length_map, List.length_map, hF.1, rot_len]
        exact ixN_in hm.1 hm.2
      · refine ⟨ms.set (((i : Int) + t) % (ns.length : Int)).toNat n, _, _, rfl, fun b o e => ?_, ?_, hF.step ?_⟩
        · rw [upd_ne (ne_of_none e hl)]
          exact s2 b o e
        · rw [upd_same, map_set]
        · show (rot ns t)[(((i : Int) + t) % (ns.length : Int)).toNat]? = some n
          rw [rot_back hi', hn]
    · obtain ⟨ms, y3, y4, rfl, s1, hl1, hF⟩ := hP
      have e : ms = rot ns t := hF.done fun p hp => by
        rw [rot_len] at hp
        rw [List.length_map]
        exact rot_on hp
      subst e
      exact ⟨.ref l, rfl, q l H1 s1 hl hl1⟩

def spLMirrored (K : PySem.W.Frag) : Sp := fun vs H Q _ => ∃ (a : Addr) (ns : List Int), vs = [.ref a] ∧ SqL K H a (ns.map V.int) ∧ 1 ≤ ns.length ∧ ns.length ≤ 1000 ∧
  ∀ (l : Addr) (H' : Hp), Same H H' → H l = none → H' l = some (.lst ((mir ns).map V.int)) → Q (.ref l) H'
theorem ok_law_mirrored (T : Txt K mg) : FnOk P w K mg base CX0 1 T.a_law_mirrored T.d_law_mirrored ["rim"] (spLMirrored K) := by
  refine T.F_law_mirrored.ok sc_law_mirrored (fun vs H Q E h => ?_) (fun cdv A outer s H vs Q E hr h => ?_)
  · obtain ⟨_, _, rfl, _⟩ := h
    rfl
  · obtain ⟨a, ns, rfl, hS, hn1, hn, q⟩ := h
    refine ⟨_, (pss_cons (ps_set (i := 1) sc_law_mirrored.nd rfl (.inl rfl) (pe_callTy (listL (K := K) rfl) (by rfl) T.n_list (by decide +kernel) (pa_cons (pv 0) pa_nil)))
      (pss_cons (ps_for PassesOwn.never rfl (enumL (K := K) rfl (by rfl) T.n_enumerate (pa_cons (pv 0) pa_nil)) (pg_tupL (K := K) (n := 2) rfl rfl (pgs_cons (pg_name (i := 2) sc_law_mirrored.nd rfl (.inl rfl)) (pgs_cons (pg_name (i := 3) sc_law_mirrored.nd rfl (.inl rfl)) pgs_nil))) (pss_one (ps_asg (pv 3) (pg_sub (pv 1) (pe_op op_mod (pe_callTy call_int1 (by rfl) T.n_int (by decide +kernel) (pa_cons (pe_op op_sub pe_int (pv 2)) pa_nil)) (pe_callB (lenL (K := K) rfl) (by rfl) T.n_len (by decide +kernel) (pa_cons (pv 0) pa_nil))) set_list))))
      (pss_one (ps_ret (pv 1))))), ?_⟩
    refine ⟨.ref a, rfl, a, _, rfl, .inl hS, fun l hl => ?_⟩
    refine ⟨.ref a, rfl, a, _, rfl, (new_same hl).seq hS, for_it (walk_enum (K := K) (xs := ns.map V.int))
      (fun i σ H' => ∃ (ms : List Int) (y3 y4 : Option V), σ = [some (.ref a), some (.ref l), y3, y4] ∧ Same H H' ∧ H' l = some (.lst (ms.map V.int)) ∧ Filled (fun j => (((0 : Int) - (j : Int)) % (ns.length : Int)).toNat) (mir ns) ms i)
      ⟨ns, none, none, rfl, new_same hl, upd_same, (mir_len ns).symm, fun p ⟨j, hj, _⟩ => absurd hj (Nat.not_lt_zero _)⟩ (fun i σ H' _ ⟨_, _, _, _, s2, _⟩ => s2.seq hS) (fun i x σ H1 H2 hi hP hY => ?_) (fun σ H1 hP => ?_)⟩
    · obtain ⟨ms, y3, y4, rfl, s1, hl1, hF⟩ := hP
      obtain ⟨p, z1, z2, rfl, hp, rfl, e1, e2⟩ := hY
      have e1 : V.int (i : Int) = z1 := Option.some.inj e1
      subst e1
      obtain ⟨n, hn, rfl⟩ := int_at e2
      have hi' : i < ns.length := by simpa using hi
      have s2 : Same H (upd H1 p (.tup [.int i, .int n])) := s1.trans (new_same hp)
      have hl2 : upd H1 p (.tup [.int i, .int n]) l = some (.lst (ms.map V.int)) := new_same hp _ _ hl1
      have hm := mod_in (i := (0 : Int) - (i : Int)) (show 0 < ns.length by omega)
      refine ⟨p, _, rfl, SqT.of upd_same, rfl, _, _, rfl, _, _, rfl, rfl, ?_⟩
      refine ⟨.int n, rfl, .ref l, rfl, .int i, rfl, 0, i, rfl, rfl, .inl ⟨_, rfl, .ref a, rfl, a, _, rfl, .inl (s2.seq hS), _, _, rfl, rfl, (by show (0 : Int) < _; rw [List.length_map]; omega), ?_⟩⟩
      refine ⟨l, _, _, (((0 : Int) - (i : Int)) % (ns.length : Int)).toNat, rfl, rfl, hl2, ?_, ?_⟩
      · rw [List.length_map, List.length_map, hF.1, mir_len]
        exact ixN_in hm.1 hm.2
      · refine ⟨ms.set (((0 : Int) - (i : Int)) % (ns.length : Int)).toNat n, _, _, rfl, fun b o e => ?_, ?_, hF.step ?_⟩
        · rw [upd_ne (ne_of_none e hl)]
          exact s2 b o e
        · rw [upd_same, map_set]
        · show (mir ns)[(((0 : Int) - (i : Int)) % (ns.length : Int)).toNat]? = some n
          rw [mir_back hi', hn]
    · obtain ⟨ms, y3, y4, rfl, s1, hl1, hF⟩ := hP
      have e : ms = mir ns := hF.done fun p hp => by
        rw [mir_len] at hp
        rw [List.length_map]
        exact mir_on hp
      subst e
      exact ⟨.ref l, rfl, q l H1 s1 hl hl1⟩

/-! ### slitdiscs.around -/
def spTurnedList (K : PySem.W.Frag) : Sp := spLTurned K
theorem ok_turned_list (T : Txt K mg) : FnOk P w K mg base CX0 1 T.a_turned_list T.d_turned_list ["items", "turn"] (spTurnedList K) := by
  refine T.F_turned_list.ok sc_turned_list (fun vs H Q E h => ?_) (fun cdv A outer s H vs Q E hr h => ?_)
  · obtain ⟨_, _, _, rfl, _⟩ := h
    rfl
  · obtain ⟨a, ns, t, rfl, hS, hn1, hn, q⟩ := h
    refine ⟨_, (pss_cons (ps_set (i := 2) sc_turned_list.nd rfl (.inr rfl) (pe_callB (lenL (K := K) rfl) (by rfl) T.n_len (by decide +kernel) (pa_cons (pv 0) pa_nil)))
      (pss_one (ps_ret (pe_lc (own := [("slot", 3)]) (g := gName 3) (tt := tYes) (by rfl) sc_turned_list.nd (pi_range1 (by rfl) T.n_range (pa_cons (pv 2) pa_nil)) (blkOk_by (own := [("slot", 3)]) (N := ["items", "turn", "size", "slot"]) (sc := defScope s_turned_list) (by decide +kernel))
        (fun _ _ _ _ _ => (pg_name (i := 3) sc_turned_list.nd rfl (Or.inl rfl))) (fun _ _ _ _ _ => pts_nil) (fun _ _ _ _ _ => (pe_ix (ixL (K := K) rfl) (pv 0) (pe_op op_mod (pe_op op_sub (pv 3) (pv 1)) (pv 2)) (fun _ _ => rfl))))))), ?_⟩
    refine ⟨.ref a, rfl, a, _, rfl, .inl hS, ?_⟩
    rw [List.length_map]
    refine ⟨.int ns.length, rfl, ns.length, rfl, by omega, by omega, fun D hD => lc_range (lo := 0) (n := ((ns.length : Nat) : Int).toNat)
      (fun i H' => Same H H' ∧ H' D = some (.lst (((rot ns t).take i).map V.int))) ⟨new_same hD, upd_same⟩ (fun i H1 hi hP => ⟨rfl, ?_⟩) (fun H1 hP => ?_)⟩
    · obtain ⟨s1, hD1⟩ := hP
      rw [Int.toNat_natCast] at hi
      have hm := mod_in (i := (0 + (i : Int)) - t) (show 0 < ns.length by omega)
      obtain ⟨n, hx, hat⟩ := at_in hm.1 hm.2
      refine ⟨.ref a, rfl, .int (0 + i), rfl, .int t, rfl, 0 + i, t, rfl, rfl, .int ns.length, rfl, _, _, rfl, rfl, (by show (0 : Int) < _; omega), ?_⟩
      refine ⟨a, _, _, .int n, rfl, rfl, s1.seq hS, hat, _, hD1, ?_, ?_, ?_⟩
      · rw [List.length_map, List.length_take]
        exact sz40 (by omega)
      · intro b o e
        rw [upd_ne (ne_of_none e hD)]
        exact s1 b o e
      · rw [upd_same, take_next]
        rw [rot_at hi]
        rw [show (i : Int) - t = 0 + (i : Int) - t by omega, getD_at hx]
    · obtain ⟨s1, hD1⟩ := hP
      rw [Int.toNat_natCast, take_all (by rw [rot_len]; exact Nat.le_refl _)] at hD1
      exact q D H1 s1 hD hD1

def spMirroredList (K : PySem.W.Frag) : Sp := spLMirrored K
theorem ok_mirrored_list (T : Txt K mg) : FnOk P w K mg base CX0 1 T.a_mirrored_list T.d_mirrored_list ["items"] (spMirroredList K) := by
  refine T.F_mirrored_list.ok sc_mirrored_list (fun vs H Q E h => ?_) (fun cdv A outer s H vs Q E hr h => ?_)
  · obtain ⟨_, _, rfl, _⟩ := h
    rfl
  · obtain ⟨a, ns, rfl, hS, hn1, hn, q⟩ := h
    refine ⟨_, (pss_cons (ps_set (i := 1) sc_mirrored_list.nd rfl (.inr rfl) (pe_callB (lenL (K := K) rfl) (by rfl) T.n_len (by decide +kernel) (pa_cons (pv 0) pa_nil)))
      (pss_one (ps_ret (pe_lc (own := [("slot", 2)]) (g := gName 2) (tt := tYes) (by rfl) sc_mirrored_list.nd (pi_range1 (by rfl) T.n_range (pa_cons (pv 1) pa_nil)) (blkOk_by (own := [("slot", 2)]) (N := ["items", "size", "slot"]) (sc := defScope s_mirrored_list) (by decide +kernel))
        (fun _ _ _ _ _ => (pg_name (i := 2) sc_mirrored_list.nd rfl (Or.inl rfl))) (fun _ _ _ _ _ => pts_nil) (fun _ _ _ _ _ => (pe_ix (ixL (K := K) rfl) (pv 0) (pe_op op_mod (pe_un un_neg (pv 2)) (pv 1)) (fun _ _ => rfl))))))), ?_⟩
    refine ⟨.ref a, rfl, a, _, rfl, .inl hS, ?_⟩
    rw [List.length_map]
    refine ⟨.int ns.length, rfl, ns.length, rfl, by omega, by omega, fun D hD => lc_range (lo := 0) (n := ((ns.length : Nat) : Int).toNat)
      (fun i H' => Same H H' ∧ H' D = some (.lst (((mir ns).take i).map V.int))) ⟨new_same hD, upd_same⟩ (fun i H1 hi hP => ⟨rfl, ?_⟩) (fun H1 hP => ?_)⟩
    · obtain ⟨s1, hD1⟩ := hP
      rw [Int.toNat_natCast] at hi
      have hm := mod_in (i := -(0 + (i : Int))) (show 0 < ns.length by omega)
      obtain ⟨n, hx, hat⟩ := at_in hm.1 hm.2
      refine ⟨.ref a, rfl, .int (0 + i), rfl, 0 + i, rfl, .int ns.length, rfl, _, _, rfl, rfl, (by show (0 : Int) < _; omega), ?_⟩
      refine ⟨a, _, _, .int n, rfl, rfl, s1.seq hS, hat, _, hD1, ?_, ?_, ?_⟩
      · rw [List.length_map, List.length_take]
        exact sz40 (by omega)
      · intro b o e
        rw [upd_ne (ne_of_none e hD)]
        exact s1 b o e
      · rw [upd_same, take_next]
        rw [mir_at hi]
        rw [show -(i : Int) = -(0 + (i : Int)) by omega, getD_at hx]
    · obtain ⟨s1, hD1⟩ := hP
      rw [Int.toNat_natCast, take_all (by rw [mir_len]; exact Nat.le_refl _)] at hD1
      exact q D H1 s1 hD hD1

/-! ### slitdiscs.checks, over rims -/
def spIsInt : Sp := fun vs H Q _ => ∃ n : Int, vs = [.int n] ∧ Q (.bl true) H
theorem ok_is_integer (T : Txt K mg) : FnOk P w K mg base CX0 1 T.a_is_integer T.d_is_integer ["value"] spIsInt := by
  refine T.F_is_integer.ok sc_is_integer (fun vs H Q E h => ?_) (fun cdv A outer s H vs Q E hr h => ?_)
  · obtain ⟨_, rfl, _⟩ := h
    rfl
  · obtain ⟨n, rfl, q⟩ := h
    refine ⟨_, (pss_one (ps_ret (pe_and (pe_callB (isiL (K := K) rfl) (by rfl) T.n_isinstance (by decide +kernel) (pa_cons (pv 0) (pa_cons (pe_bltn (v := .ty "int") (u := Value.type "int") rfl T.n_int (by decide +kernel) rfl) pa_nil))) (pe_one (pe_not (pe_callB (isiL (K := K) rfl) (by rfl) T.n_isinstance (by decide +kernel) (pa_cons (pv 0) (pa_cons (pe_bltn (v := .ty "bool") (u := Value.type "bool") rfl T.n_bool (by decide +kernel) rfl) pa_nil)))))))), ?_⟩
    refine ⟨.int n, rfl, .int n, .ty "int", _, _, true, rfl, .ty _, .base (.int n), kit_int_int, true, rfl, iteT ?_⟩
    exact ⟨.int n, rfl, .int n, .ty "bool", _, _, false, rfl, .ty _, .base (.int n), kit_int_bool, false, rfl, q⟩
def spHasSlots (K : PySem.W.Frag) : Sp := fun vs H Q _ => ∃ (a : Addr) (xs : List V), vs = [.ref a] ∧ SqL K H a xs ∧ 1 ≤ xs.length ∧ xs.length ≤ 40 ∧ Q (.bl true) H
theorem ok_has_slots (T : Txt K mg) : FnOk P w K mg base CX0 1 T.a_has_slots T.d_has_slots ["value"] (spHasSlots K) := by
  refine T.F_has_slots.ok sc_has_slots (fun vs H Q E h => ?_) (fun cdv A outer s H vs Q E hr h => ?_)
  · obtain ⟨_, _, rfl, _⟩ := h
    rfl
  · obtain ⟨a, xs, rfl, hS, h1, h40, q⟩ := h
    refine ⟨_, (pss_one (ps_ret (pe_and (pe_callB (isiL (K := K) rfl) (by rfl) T.n_isinstance (by decide +kernel) (pa_cons (pv 0) (pa_cons (pe_bltn (v := .ty "list") (u := Value.type "list") rfl T.n_list (by decide +kernel) rfl) pa_nil))) (pe_one (pe_chain op_le op_le pe_int (pe_callB (lenL (K := K) rfl) (by rfl) T.n_len (by decide +kernel) (pa_cons (pv 0) pa_nil)) (pe_glob (v := .int (40)) rfl T.g_MOST_SLOTS ⟨_, rfl⟩)))))), ?_⟩
    refine ⟨.ref a, rfl, .ref a, .ty "list", _, _, true, rfl, .ty _, tyx_list hS, kit_list_list, true, rfl, iteT ?_⟩
    refine ⟨.ref a, rfl, a, _, rfl, .inl hS, 1, _, rfl, rfl, _, rfl, ?_⟩
    rw [if_pos (decide_eq_true (by omega))]
    refine ⟨_, 40, rfl, rfl, ?_⟩
    show Q (.bl (decide ((xs.length : Int) ≤ 40))) H
    rw [decide_eq_true (show (xs.length : Int) ≤ 40 by omega)]
    exact q
def spWrongLight (K : PySem.W.Frag) : Sp := fun vs H Q _ => ∃ (a : Addr) (ns : List Int) (m : Int), vs = [.ref a, .int m] ∧ SqL K H a (ns.map V.int) ∧ (∀ n ∈ ns, 0 ≤ n ∧ n ≤ m) ∧ ∀ H', Same H H' → Q .non H'
theorem ok_wrong_light (T : Txt K mg) : FnOk P w K mg base CX0 2 T.a_wrong_light T.d_wrong_light ["items", "most"] (spWrongLight K) := by
  have G_is_integer := ok_is_integer (P := P) (w := w) (base := base) T
  refine T.F_wrong_light.ok sc_wrong_light (fun vs H Q E h => ?_) (fun cdv A outer s H vs Q E hr h => ?_)
  · obtain ⟨_, _, _, rfl, _⟩ := h
    rfl
  · obtain ⟨a, ns, m, rfl, hS, hR, q⟩ := h
    refine ⟨_, (pss_cons (ps_for PassesOwn.never rfl (enumL (K := K) rfl (by rfl) T.n_enumerate (pa_cons (pv 0) pa_nil)) (pg_tupL (K := K) (n := 2) rfl rfl (pgs_cons (pg_name (i := 2) sc_wrong_light.nd rfl (.inl rfl)) (pgs_cons (pg_name (i := 3) sc_wrong_light.nd rfl (.inl rfl)) pgs_nil))) (pss_one (ps_if (PW.pt (pw_or (pt_not (pt_val (pe_call G_is_integer hr (by rfl) T.g_is_integer T.F_is_integer.kp T.b_is_integer .nil pass0 (pa_cons (pv 3) pa_nil)))) (pw_or1 (pt_not (pt_chain op_le op_le pe_int (pv 3) (pv 1)))))) (pss_one (ps_ret (pv 2))) pss_nil)))
      (pss_one (ps_ret pe_non))), ?_⟩
    refine ⟨.ref a, rfl, a, _, rfl, hS, for_it (walk_enum (K := K) (xs := ns.map V.int)) (fun i σ H' => ∃ y1 y2 : Option V, σ = [some (.ref a), some (.int m), y1, y2] ∧ Same H H')
      ⟨none, none, rfl, Same.refl H⟩ (fun i σ H' _ ⟨_, _, _, s2⟩ => s2.seq hS) (fun i x σ H1 H2 hi hP hY => ?_) (fun σ H1 hP => ?_)⟩
    · obtain ⟨y1, y2, rfl, s1⟩ := hP
      obtain ⟨p, z1, z2, rfl, hp, rfl, e1, e2⟩ := hY
      obtain ⟨n, hn, rfl⟩ := int_at e2
      have hb := hR n (List.mem_of_getElem? hn)
      refine ⟨p, _, rfl, SqT.of upd_same, rfl, _, _, rfl, _, _, rfl, rfl, ?_⟩
      refine ⟨.int n, rfl, n, rfl, true, rfl, iteF ?_⟩
      refine ⟨.int n, rfl, 0, n, rfl, rfl, _, rfl, ?_⟩
      rw [if_pos (decide_eq_true hb.1)]
      refine ⟨.int m, rfl, n, m, rfl, rfl, _, rfl, iteNS hb.2 ?_⟩
      exact ⟨_, _, rfl, s1.trans (new_same hp)⟩
    · obtain ⟨y1, y2, rfl, s1⟩ := hP
      exact q H1 s1
def spWrongSlot (K : PySem.W.Frag) : Sp := fun vs H Q _ => ∃ (a : Addr) (ns : List Int), vs = [.ref a] ∧ SqL K H a (ns.map V.int) ∧ Rim ns ∧ ∀ H', Same H H' → Q .non H'
theorem ok_wrong_slot (T : Txt K mg) : FnOk P w K mg base CX0 3 T.a_wrong_slot T.d_wrong_slot ["items"] (spWrongSlot K) := by
  have G_wrong_light := ok_wrong_light (P := P) (w := w) (base := base) T
  refine T.F_wrong_slot.ok sc_wrong_slot (fun vs H Q E h => ?_) (fun cdv A outer s H vs Q E hr h => ?_)
  · obtain ⟨_, _, rfl, _⟩ := h
    rfl
  · obtain ⟨a, ns, rfl, hS, hR, q⟩ := h
    refine ⟨_, (pss_one (ps_ret (pe_call G_wrong_light hr (by rfl) T.g_wrong_light T.F_wrong_light.kp T.b_wrong_light .nil pass0 (pa_cons (pv 0) (pa_cons (pe_glob (v := .int (1000000000000000000000000000000)) rfl T.g_MOST_LIGHT ⟨_, rfl⟩) pa_nil))))), ?_⟩
    exact ⟨.ref a, rfl, a, ns, _, rfl, hS, hR.all, q⟩
def spCheckDisc (K : PySem.W.Frag) : Sp := spWrongSlot K
theorem ok_check_disc (T : Txt K mg) : FnOk P w K mg base CX0 4 T.a_check_disc T.d_check_disc ["disc"] (spCheckDisc K) := by
  have G_has_slots := ok_has_slots (P := P) (w := w) (base := base) T
  have G_wrong_slot := ok_wrong_slot (P := P) (w := w) (base := base) T
  refine T.F_check_disc.ok sc_check_disc (fun vs H Q E h => ?_) (fun cdv A outer s H vs Q E hr h => ?_)
  · obtain ⟨_, _, rfl, _⟩ := h
    rfl
  · obtain ⟨a, ns, rfl, hS, hR, q⟩ := h
    refine ⟨_, (pss_cons (ps_if (pt_not (pt_val (pe_call G_has_slots (hr.mono (by decide)) (by rfl) T.g_has_slots T.F_has_slots.kp T.b_has_slots .nil pass0 (pa_cons (pv 0) pa_nil)))) (pss_one ps_never) pss_nil)
      (pss_cons (ps_set (i := 1) sc_check_disc.nd rfl (.inl rfl) (pe_call G_wrong_slot hr (by rfl) T.g_wrong_slot T.F_wrong_slot.kp T.b_wrong_slot .nil pass0 (pa_cons (pv 0) pa_nil)))
      (pss_one (ps_if (pt_cmpR op_notN (pv 1) pe_non (nomark _)) (pss_one ps_never) pss_nil)))), ?_⟩
    refine ⟨.ref a, rfl, a, _, rfl, hS, by rw [List.length_map]; exact hR.pos, by rw [List.length_map]; exact hR.le, true, rfl, iteF ?_⟩
    refine ⟨.ref a, rfl, a, ns, rfl, hS, hR, fun H1 s1 => ?_⟩
    refine ⟨.non, rfl, rfl, _, rfl, iteNS rfl ?_⟩
    exact q H1 s1

def spCheckTurn : Sp := fun vs H Q _ => ∃ n : Int, vs = [.int n] ∧ Q .non H
theorem ok_check_turn (T : Txt K mg) : FnOk P w K mg base CX0 2 T.a_check_turn T.d_check_turn ["turn"] spCheckTurn := by
  have G_is_integer := ok_is_integer (P := P) (w := w) (base := base) T
  refine T.F_check_turn.ok sc_check_turn (fun vs H Q E h => ?_) (fun cdv A outer s H vs Q E hr h => ?_)
  · obtain ⟨_, rfl, _⟩ := h
    rfl
  · obtain ⟨n, rfl, q⟩ := h
    refine ⟨_, (pss_one (ps_if (pt_not (pt_val (pe_call G_is_integer hr (by rfl) T.g_is_integer T.F_is_integer.kp T.b_is_integer .nil pass0 (pa_cons (pv 0) pa_nil)))) (pss_one ps_never) pss_nil)), ?_⟩
    exact ⟨.int n, rfl, n, rfl, true, rfl, iteF q⟩

/-! ### slitdiscs.discs -/
def spTurnedDisc (K : PySem.W.Frag) : Sp := fun vs H Q _ => ∃ (a : Addr) (ns : List Int) (t : Int), vs = [.ref a, .int t] ∧ SqL K H a (ns.map V.int) ∧ Rim ns ∧
  ∀ (l : Addr) (H' : Hp), Same H H' → H l = none → H' l = some (.lst ((rot ns t).map V.int)) → Q (.ref l) H'
theorem ok_turned_disc (T : Txt K mg) : FnOk P w K mg base CX0 5 T.a_turned_disc T.d_turned_disc ["disc", "turn"] (spTurnedDisc K) := by
  have G_check_disc := ok_check_disc (P := P) (w := w) (base := base) T
  have G_check_turn := ok_check_turn (P := P) (w := w) (base := base) T
  have G_turned_list := ok_turned_list (P := P) (w := w) (base := base) T
  refine T.F_turned_disc.ok sc_turned_disc (fun vs H Q E h => ?_) (fun cdv A outer s H vs Q E hr h => ?_)
  · obtain ⟨_, _, _, rfl, _⟩ := h
    rfl
  · obtain ⟨a, ns, t, rfl, hS, hR, q⟩ := h
    refine ⟨_, (pss_cons (ps_expr (pe_call G_check_disc hr (by rfl) T.g_check_disc T.F_check_disc.kp T.b_check_disc .nil pass0 (pa_cons (pv 0) pa_nil)))
      (pss_cons (ps_expr (pe_call G_check_turn (hr.mono (by decide)) (by rfl) T.g_check_turn T.F_check_turn.kp T.b_check_turn .nil pass0 (pa_cons (pv 1) pa_nil)))
      (pss_one (ps_ret (pe_call G_turned_list (hr.mono (by decide)) (by rfl) T.g_turned_list T.F_turned_list.kp T.b_turned_list .nil pass0 (pa_cons (pv 0) (pa_cons (pv 1) pa_nil))))))), ?_⟩
    refine ⟨.ref a, rfl, a, ns, rfl, hS, hR, fun H1 s1 => ?_⟩
    refine ⟨.int t, rfl, t, rfl, ?_⟩
    refine ⟨.ref a, rfl, .int t, rfl, a, ns, t, rfl, s1.seq hS, hR.pos, by have := hR.le; omega, fun l H2 s2 hl hl2 => ?_⟩
    exact q l H2 (s1.trans s2) (s1.free hl) hl2
def spMirroredDisc (K : PySem.W.Frag) : Sp := fun vs H Q _ => ∃ (a : Addr) (ns : List Int), vs = [.ref a] ∧ SqL K H a (ns.map V.int) ∧ Rim ns ∧
  ∀ (l : Addr) (H' : Hp), Same H H' → H l = none → H' l = some (.lst ((mir ns).map V.int)) → Q (.ref l) H'
theorem ok_mirrored_disc (T : Txt K mg) : FnOk P w K mg base CX0 5 T.a_mirrored_disc T.d_mirrored_disc ["disc"] (spMirroredDisc K) := by
  have G_check_disc := ok_check_disc (P := P) (w := w) (base := base) T
  have G_mirrored_list := ok_mirrored_list (P := P) (w := w) (base := base) T
  refine T.F_mirrored_disc.ok sc_mirrored_disc (fun vs H Q E h => ?_) (fun cdv A outer s H vs Q E hr h => ?_)
  · obtain ⟨_, _, rfl, _⟩ := h
    rfl
  · obtain ⟨a, ns, rfl, hS, hR, q⟩ := h
    refine ⟨_, (pss_cons (ps_expr (pe_call G_check_disc hr (by rfl) T.g_check_disc T.F_check_disc.kp T.b_check_disc .nil pass0 (pa_cons (pv 0) pa_nil)))
      (pss_one (ps_ret (pe_call G_mirrored_list (hr.mono (by decide)) (by rfl) T.g_mirrored_list T.F_mirrored_list.kp T.b_mirrored_list .nil pass0 (pa_cons (pv 0) pa_nil))))), ?_⟩
    refine ⟨.ref a, rfl, a, ns, rfl, hS, hR, fun H1 s1 => ?_⟩
    refine ⟨.ref a, rfl, a, ns, rfl, s1.seq hS, hR.pos, by have := hR.le; omega, fun l H2 s2 hl hl2 => ?_⟩
    exact q l H2 (s1.trans s2) (s1.free hl) hl2

/-! ### _law_drawn_rim -/
def spRim : Sp := fun vs H Q _ => ∃ (T : Addr) (n c : Int), vs = [.ref T, .int n] ∧ 1 ≤ n ∧ n ≤ 40 ∧ Tank H T c ∧ 0 ≤ c ∧ c < 2 ^ 38 ∧
  ∀ (l : Addr) (ns : List Int) (H' : Hp), Rim ns → (ns.length : Int) = n → But T H H' → H l = none → H' l = some (.lst (ns.map V.int)) → Tank H' T (c + 60) → Q (.ref l) H'
/-- what holds between the ifs -/
def MidRim (t : Addr) (H : Hp) (n k w e : Int) : L2.St → Hp → Prop := fun σ' H' => ∃ (D : Addr) (ns : List Int) (y5 y6 y7 : Option V),
  σ' = [some (.ref t), some (.int n), some (.int k), some (.int w), some (.ref D), y5, y6, y7] ∧ Rim ns ∧ (ns.length : Int) = n ∧ H D = none ∧ H' D = some (.lst (ns.map V.int)) ∧ But t H H' ∧ Tank H' t e
theorem ok_law_drawn_rim (T : Txt K mg) : FnOk P w K mg base CX0 2 T.a_law_drawn_rim T.d_law_drawn_rim ["tank", "count"] spRim := by
  have G_law_tap := ok_law_tap (P := P) (w := w) (base := base) T
  refine T.F_law_drawn_rim.ok sc_law_drawn_rim (fun vs H Q E h => ?_) (fun cdv A outer s H vs Q E hr h => ?_)
  · obtain ⟨_, _, _, rfl, _⟩ := h
    rfl
  · obtain ⟨t, n, c, rfl, hn1, hn, hT, hc0, hc, q⟩ := h
    have e30 : (10 : Int) ^ (30 : Int).toNat = 1000000000000000000000000000000 := by decide +kernel
    refine ⟨_, (pss_cons (ps_asg (pe_tup (pa_cons (pe_call G_law_tap hr (by rfl) T.g_law_tap T.F_law_tap.kp T.b_law_tap .nil pass0 (pa_cons (pv 0) (pa_cons pe_int pa_nil))) (pa_cons (pe_ix (ixL (K := K) rfl) (pe_lst (pa_cons pe_int (pa_cons pe_int (pa_cons pe_int (pa_cons (pe_op op_add (pe_op op_pow pe_int pe_int) pe_int) pa_nil))))) (pe_call G_law_tap hr (by rfl) T.g_law_tap T.F_law_tap.kp T.b_law_tap .nil pass0 (pa_cons (pv 0) (pa_cons pe_int pa_nil))) (fun _ _ => rfl)) pa_nil))) (pg_tupL (K := K) (n := 2) rfl rfl (pgs_cons (pg_name (i := 2) sc_law_drawn_rim.nd rfl (.inr rfl)) (pgs_cons (pg_name (i := 3) sc_law_drawn_rim.nd rfl (.inr rfl)) pgs_nil))))
      (pss_cons (ps_setLc (i := 4) (own := [("slot_here", 5)]) (g := gName 5) (tt := tYes) (by rfl) sc_law_drawn_rim.nd rfl rfl (sw_true rfl rfl rfl (by decide +kernel)) (pi_range1 (by rfl) T.n_range (pa_cons (pv 1) pa_nil)) (blkOk_by (own := [("slot_here", 5)]) (N := ["tank", "count", "kind", "wide", "rim", "slot_here", "sizes", "size"]) (sc := defScope s_law_drawn_rim) (by decide +kernel))
        (fun _ _ _ _ _ => (pg_name (i := 5) sc_law_drawn_rim.nd rfl (Or.inl rfl))) (fun _ _ _ _ _ => pts_nil) (fun _ _ _ _ _ => (pe_call G_law_tap hr (by rfl) T.g_law_tap T.F_law_tap.kp T.b_law_tap .nil pass0 (pa_cons (pv 0) (pa_cons (pe_ix (ixL (K := K) rfl) (pe_lst (pa_cons pe_int (pa_cons pe_int (pa_cons (pv 3) (pa_cons (pv 3) (pa_cons (pe_op op_add (pe_op op_pow pe_int pe_int) pe_int) (pa_cons pe_int (pa_cons pe_int (pa_cons pe_int pa_nil))))))))) (pv 2) (fun _ _ => rfl)) pa_nil)))))
      (pss_mid (ps_if (pt_cmpR op_eq (pv 2) pe_int (nomark _)) (pss_cons (ps_set (i := 4) sc_law_drawn_rim.nd rfl (.inl rfl) (pe_op op_rep (pe_lst (pa_cons pe_int pa_nil)) (pv 1)))
      (pss_one (ps_asg (pe_op op_add pe_int (pe_call G_law_tap hr (by rfl) T.g_law_tap T.F_law_tap.kp T.b_law_tap .nil pass0 (pa_cons (pv 0) (pa_cons (pe_op op_sub (pv 3) pe_int) pa_nil)))) (pg_sub (pv 4) (pe_call G_law_tap hr (by rfl) T.g_law_tap T.F_law_tap.kp T.b_law_tap .nil pass0 (pa_cons (pv 0) (pa_cons (pv 1) pa_nil))) set_list)))) pss_nil)
      (pss_mid (ps_if (pt_cmpR op_eq (pv 2) pe_int (nomark _)) (pss_one (ps_set (i := 4) sc_law_drawn_rim.nd rfl (.inl rfl) (pe_op op_rep (pe_lst (pa_cons (pe_ix (ixL (K := K) rfl) (pv 4) pe_int (fun _ _ => rfl)) pa_nil)) (pv 1)))) pss_nil)
      (pss_mid (ps_if (pt_cmpR op_eq (pv 2) pe_int (nomark _)) (pss_cons (ps_setLc (i := 6) (own := [("size", 7)]) (g := gName 7) (by rfl) sc_law_drawn_rim.nd rfl rfl (sw_true rfl rfl rfl (by decide +kernel)) (pi_range2 (by rfl) T.n_range (pa_cons pe_int (pa_cons (pe_op op_add (pv 1) pe_int) pa_nil))) (blkOk_by (own := [("size", 7)]) (N := ["tank", "count", "kind", "wide", "rim", "slot_here", "sizes", "size"]) (sc := defScope s_law_drawn_rim) (by decide +kernel))
        (fun _ _ _ _ _ => (pg_name (i := 7) sc_law_drawn_rim.nd rfl (Or.inl rfl))) (fun _ _ _ _ _ => (pts_one (pt_cmpR op_eq (pe_op op_mod (pe_callTy call_int1 (by rfl) T.n_int (by decide +kernel) (pa_cons (pv 1) pa_nil)) (pv 7)) pe_int (nomark _)))) (fun _ _ _ _ _ => (pv 7)))
      (pss_cons (ps_set (i := 7) sc_law_drawn_rim.nd rfl (.inl rfl) (pe_ix (ixL (K := K) rfl) (pv 6) (pe_call G_law_tap hr (by rfl) T.g_law_tap T.F_law_tap.kp T.b_law_tap .nil pass0 (pa_cons (pv 0) (pa_cons (pe_callB (lenL (K := K) rfl) (by rfl) T.n_len (by decide +kernel) (pa_cons (pv 6) pa_nil)) pa_nil))) (fun _ _ => rfl)))
      (pss_one (ps_set (i := 4) sc_law_drawn_rim.nd rfl (.inl rfl) (pe_op op_rep (pe_slice (slL (K := K) rfl) (pv 4) po_none (po_some (pv 7))) (pe_op op_fdivW (pv 1) (pv 7))))))) pss_nil)
      (pss_one (ps_ret (pv 4)))))))), ?_⟩
    obtain ⟨oT, hoT⟩ := hT.some
    -- kind, wide
    refine ⟨.ref t, rfl, t, 8, c, rfl, by omega, by omega, hT, by omega, fun k H1 k0 k8 k1 u1 => ?_⟩
    refine ⟨10, 30, rfl, rfl, ⟨by decide, by decide, by decide⟩, _, 1, rfl, rfl, (by show 4 ≤ sizeLine; decide), fun l hl => ?_⟩
    refine ⟨.ref t, rfl, t, 4, c + 1, rfl, by omega, by omega, k1.up hl, by omega, fun r H2 r0 r4 k2 u2 => ?_⟩
    have hl2 : H2 l = some (.lst (([2, 2, 4, 10 ^ (30 : Int).toNat + 1] : List Int).map V.int)) := u2 _ _ upd_same (k1.ne hl)
    obtain ⟨w, hw, hat⟩ := at_in (ns := [2, 2, 4, 10 ^ (30 : Int).toNat + 1]) r0 (by show r < 4; omega)
    have hw1 : 2 ≤ w ∧ w ≤ 1000000000000000000000000000001 := by
      have := List.mem_of_getElem? hw
      simp only [List.mem_cons, List.not_mem_nil, or_false, e30] at this
      omega
    refine ⟨l, _, r, .int w, rfl, rfl, SqL.of hl2, hat, (by show 2 ≤ sizeLine; decide), fun p hp => ?_⟩
    refine ⟨p, _, rfl, SqT.of upd_same, rfl, _, _, rfl, _, _, rfl, rfl, ?_⟩
    have u3 : But t H (upd H2 p (.tup [.int k, .int w])) := (u1.trans ((But.of (new_same hl)).trans u2)).trans (But.of (new_same hp))
    have k3 : Tank (upd H2 p (.tup [.int k, .int w])) t (c + 2) := (k2.mono (by omega)).up hp
    generalize hH3 : upd H2 p (.tup [.int k, .int w]) = H3 at u3 k3
    -- rim = [..]
    refine ⟨.int n, rfl, n, rfl, by omega, by omega, fun D hD => ?_⟩
    have hHD : H D = none := free_but u3 hoT hD (by obtain ⟨o, e⟩ := k3.some; rw [e]; exact fun z => nomatch z)
    refine lc_range (lo := 0) (n := n.toNat) (fun i H' => But t H H' ∧ Tank H' t (c + 2 + i) ∧ ∃ ms : List Int, H' D = some (.lst (ms.map V.int)) ∧ ms.length = i ∧ ∀ m ∈ ms, 0 ≤ m ∧ m ≤ 1000000000000000000000000000000)
      ⟨u3.trans (But.of (new_same hD)), (k3.mono (by omega)).up hD, [], upd_same, rfl, fun m hm => (List.not_mem_nil hm).elim⟩ (fun i H4 hi hP => ⟨rfl, ?_⟩) (fun H4 hP => ?_)
    · obtain ⟨u4, k4, ms, hD4, hlen, hall⟩ := hP
      refine ⟨.ref t, rfl, .int w, rfl, .int w, rfl, 10, 30, rfl, rfl, ⟨by decide, by decide, by decide⟩, _, 1, rfl, rfl, (by show 8 ≤ sizeLine; decide), fun l2 hl2 => ?_⟩
      obtain ⟨m, hm, hatm⟩ := at_in (ns := [2, 2, w, w, 10 ^ (30 : Int).toNat + 1, 4, 1, 2]) k0 (by show k < 8; omega)
      have hm1 : 1 ≤ m ∧ m ≤ 1000000000000000000000000000001 := by
        have := List.mem_of_getElem? hm
        simp only [List.mem_cons, List.not_mem_nil, or_false, e30] at this
        omega
      refine ⟨.int k, rfl, l2, _, k, .int m, rfl, rfl, SqL.of upd_same, hatm, t, m, c + 2 + i, rfl, by omega, by omega, k4.up hl2, by omega, fun v H5 v0 v1 k5 u5 => ?_⟩
      have hD5 : H5 D = some (.lst (ms.map V.int)) := u5 _ _ (new_same hl2 _ _ hD4) (k3.ne hD)
      refine ⟨_, hD5, by rw [List.length_map]; exact sz40 (by omega), ?_, ?_, ms ++ [v], ?_, by rw [List.length_append]; show ms.length + 1 = i + 1; omega, fun z hz => ?_⟩
      · exact fun b o e ne => by
          rw [upd_ne (ne_of_none e hHD)]
          exact ((u4.trans (But.of (new_same hl2))).trans u5) b o e ne
      · obtain ⟨x, y, z, e, a1, a2, a3, a4, a5⟩ := k5
        exact ⟨x, y, z, by rw [upd_ne (k3.ne hD).symm]; exact e, a1, a2, a3, a4, by omega⟩
      · rw [upd_same, List.map_append]
        rfl
      · rcases List.mem_append.mp hz with h | h
        · exact hall z h
        · have e := List.mem_singleton.mp h
          subst e
          omega
    · obtain ⟨u4, k4, ms, hD4, hlen, hall⟩ := hP
      have hn2 : (ms.length : Int) = n := by omega
      have hR : Rim ms := ⟨by omega, by omega, hall⟩
      have ek : ((n.toNat : Nat) : Int) = n := by omega
      rw [ek] at k4
      -- if kind == 1
      refine ⟨MidRim t H n k w (c + 2 + n + 2), ⟨.int k, rfl, rfl, _, rfl, ite2 (fun _ => ?_) (fun _ => ?_)⟩, fun σ' H5 hM => ?_⟩
      · refine ⟨(by show 1 ≤ sizeLine; decide), fun l3 hl3 => ?_⟩
        refine ⟨.int n, rfl, l3, n, _, rfl, rfl, upd_same, by omega, by omega, (by show 1 * n.toNat ≤ sizeLine; exact sz40' (by omega)), fun p3 hp3 => ?_⟩
        have k5 : Tank (upd (upd H4 l3 (.lst [.int 0])) p3 (.lst (List.replicate n.toNat [V.int 0]).flatten)) t (c + 2 + n) := (k4.up hl3).up hp3
        have u5 : But t H (upd (upd H4 l3 (.lst [.int 0])) p3 (.lst (List.replicate n.toNat [V.int 0]).flatten)) := (u4.trans (But.of (new_same hl3))).trans (But.of (new_same hp3))
        refine ⟨.ref t, rfl, .int w, rfl, w, 1, rfl, rfl, t, w - 1, c + 2 + n, rfl, by omega, by omega, k5, by omega, fun v H6 v0 v1 k6 u6 => ?_⟩
        refine ⟨1, v, rfl, rfl, .ref p3, rfl, .ref t, rfl, .int n, rfl, t, n, c + 2 + n + 1, rfl, by omega, by omega, k6, by omega, fun j H7 j0 j1 k7 u7 => ?_⟩
        have hp7 : H7 p3 = some (.lst ((List.replicate n.toNat (0 : Int)).map V.int)) := u7 _ _ (u6 _ _ (by rw [upd_same, rep_one]) ((k4.up hl3).ne hp3)) ((k4.up hl3).ne hp3)
        have hlenr : ((List.replicate n.toNat (0 : Int)).map V.int).length = n.toNat := by rw [List.length_map, List.length_replicate]
        refine ⟨p3, _, _, j.toNat, rfl, rfl, hp7, ixN_in j0 (by rw [hlenr]; omega), ?_⟩
        have hHp : H p3 = none := free_but (u4.trans (But.of (new_same hl3))) hoT hp3 (by obtain ⟨o, e⟩ := (k4.up hl3).some; rw [e]; exact fun z => nomatch z)
        refine ⟨p3, (List.replicate n.toNat (0 : Int)).set j.toNat (1 + v), _, _, _, rfl, ⟨?_, ?_, fun z hz => ?_⟩, ?_, hHp, ?_, ?_, ?_⟩
        · rw [List.length_set, List.length_replicate]
          omega
        · rw [List.length_set, List.length_replicate]
          omega
        · rcases List.mem_or_eq_of_mem_set hz with h | h
          · rw [(List.mem_replicate.mp h).2]
            omega
          · omega
        · rw [List.length_set, List.length_replicate]
          exact ek
        · rw [upd_same, map_set]
        · exact fun b o e ne => by
            rw [upd_ne (ne_of_none e hHp)]
            exact ((u5.trans u6).trans u7) b o e ne
        · obtain ⟨x, y, z, e, a1, a2, a3, a4, a5⟩ := k7
          exact ⟨x, y, z, by rw [upd_ne ((k4.up hl3).ne hp3).symm]; exact e, a1, a2, a3, a4, by omega⟩
      · exact ⟨D, ms, _, _, _, rfl, hR, hn2, hHD, hD4, u4, k4.mono (by omega)⟩
      -- if kind == 2
      obtain ⟨D5, ns5, y5, y6, y7, rfl, hR5, hn5, hH5, hD5, u5, k5⟩ := hM
      refine ⟨MidRim t H n k w (c + 2 + n + 2), ⟨.int k, rfl, rfl, _, rfl, ite2 (fun _ => ?_) (fun _ => ?_)⟩, fun σ' H6 hM => ?_⟩
      · obtain ⟨m, hm, hat0⟩ := at_in (ns := ns5) (i := 0) (by omega) (by omega)
        have hmb := hR5.all m (List.mem_of_getElem? hm)
        refine ⟨.ref D5, rfl, D5, _, 0, .int m, rfl, rfl, SqL.of hD5, hat0, (by show 1 ≤ sizeLine; decide), fun l3 hl3 => ?_⟩
        refine ⟨.int n, rfl, l3, n, _, rfl, rfl, upd_same, by omega, by omega, (by show 1 * n.toNat ≤ sizeLine; exact sz40' (by omega)), fun p3 hp3 => ?_⟩
        have hHp : H p3 = none := free_but (u5.trans (But.of (new_same hl3))) hoT hp3 (by obtain ⟨o, e⟩ := (k5.up hl3).some; rw [e]; exact fun z => nomatch z)
        refine ⟨p3, List.replicate n.toNat m, _, _, _, rfl, ⟨?_, ?_, fun z hz => ?_⟩, ?_, hHp, by rw [upd_same, rep_one], (u5.trans (But.of (new_same hl3))).trans (But.of (new_same hp3)), (k5.up hl3).up hp3⟩
        · rw [List.length_replicate]
          omega
        · rw [List.length_replicate]
          omega
        · rw [(List.mem_replicate.mp hz).2]
          exact hmb
        · rw [List.length_replicate]
          exact ek
      · exact ⟨D5, ns5, y5, y6, y7, rfl, hR5, hn5, hH5, hD5, u5, k5⟩
      -- if kind == 3
      obtain ⟨D6, ns6, y5, y6, y7, rfl, hR6, hn6, hH6, hD6, u6, k6⟩ := hM
      refine ⟨MidRim t H n k w (c + 2 + n + 3), ⟨.int k, rfl, rfl, _, rfl, ite2 (fun _ => ?_) (fun _ => ?_)⟩, fun σ' H7 hM => ?_⟩
      · refine ⟨.int n, rfl, n, 1, rfl, rfl, 1, n + 1, rfl, ⟨by omega, by omega, by omega, by omega⟩, fun D2 hD2 => ?_⟩
        refine lc_range (lo := 1) (n := (n + 1 - 1).toNat) (fun i H' => Same H6 H' ∧ ∃ ss : List Int, H' D2 = some (.lst (ss.map V.int)) ∧ (∀ s ∈ ss, 1 ≤ s ∧ s ≤ n ∧ n % s = 0) ∧ ss.length ≤ i ∧ (0 < i → 1 ≤ ss.length))
          ⟨new_same hD2, [], upd_same, fun s hs => (List.not_mem_nil hs).elim, Nat.le_refl _, fun z => absurd z (Nat.lt_irrefl _)⟩ (fun i H7 hi hP => ⟨rfl, ?_⟩) (fun H7 hP => ?_)
        · obtain ⟨s7, ss, hD7, hss, hsl, hs0⟩ := hP
          refine ⟨.int n, rfl, .inl ⟨n, rfl, .int (1 + i), rfl, n, 1 + i, rfl, rfl, (by show (0 : Int) < _; omega), rfl, _, rfl, ite2 (fun h => ?_) (fun h => ?_)⟩⟩
          · have hz : n % (1 + (i : Int)) = 0 := V.int.inj (of_decide_eq_true h)
            refine ⟨.int (1 + i), rfl, _, hD7, by rw [List.length_map]; exact sz40 (by omega), fun b o e => ?_, ss ++ [1 + (i : Int)], ?_, fun z hzz => ?_, ?_, fun _ => ?_⟩
            · rw [upd_ne (ne_of_none e hD2)]
              exact s7 b o e
            · rw [upd_same, List.map_append]
              rfl
            · rcases List.mem_append.mp hzz with h | h
              · exact hss z h
              · have e := List.mem_singleton.mp h
                subst e
                exact ⟨by omega, by omega, hz⟩
            · rw [List.length_append]
              show ss.length + 1 ≤ i + 1
              omega
            · rw [List.length_append]
              show 1 ≤ ss.length + 1
              omega
          · refine ⟨s7, ss, hD7, hss, by omega, fun _ => ?_⟩
            rcases Nat.eq_zero_or_pos i with z | z
            · subst z
              exact absurd (decide_eq_true (by show V.int (n % (1 + ((0 : Nat) : Int))) = V.int 0; rw [show n % (1 + ((0 : Nat) : Int)) = 0 by omega])) h
            · exact hs0 z
        · obtain ⟨s7, ss, hD7, hss, hsl, hs0⟩ := hP
          have hs1 := hs0 (by omega)
          have k7 := k6.same s7
          refine ⟨.ref D2, rfl, .ref t, rfl, .ref D2, rfl, D2, _, rfl, .inl (SqL.of hD7), t, _, c + 2 + n + 2, rfl, by rw [List.length_map]; omega, by rw [List.length_map]; omega, k7, by omega, fun v H8 v0 v1 k8 u8 => ?_⟩
          rw [List.length_map] at v1
          obtain ⟨sz, hsz, hats⟩ := at_in v0 v1
          obtain ⟨z1, z2, z3⟩ := hss sz (List.mem_of_getElem? hsz)
          have hD8 : H8 D2 = some (.lst (ss.map V.int)) := u8 _ _ hD7 (k6.ne hD2)
          refine ⟨D2, _, v, .int sz, rfl, rfl, SqL.of hD8, hats, ?_⟩
          have hDt : D6 ≠ t := fun e => by
            rw [e] at hH6
            rw [hH6] at hoT
            cases hoT
          have hR8 : H8 D6 = some (.lst (ns6.map V.int)) := u8 _ _ (s7 _ _ hD6) hDt
          refine ⟨.ref D6, rfl, .int sz, rfl, sz, rfl, D6, _, rfl, SqL.of hR8, fun p3 hp3 => ?_⟩
          have hcut := cut_take ns6 sz (by omega)
          have hdv : n / sz * sz = n := Int.ediv_mul_cancel (Int.dvd_of_emod_eq_zero z3)
          have hq0 : 0 ≤ n / sz := Int.ediv_nonneg (by omega) (by omega)
          have hqn : n / sz ≤ n := Int.ediv_le_self _ (by omega)
          have htl : (ns6.take sz.toNat).length = sz.toNat := by rw [List.length_take]; omega
          have hlen2 : (n / sz).toNat * sz.toNat = n.toNat := by
            have e1 : (((n / sz).toNat * sz.toNat : Nat) : Int) = n := by
              rw [Int.natCast_mul, Int.toNat_of_nonneg hq0, Int.toNat_of_nonneg (by omega), hdv]
            omega
          refine ⟨.int n, rfl, .int sz, rfl, n, sz, rfl, rfl, wide_div (b := 200) (by omega) (by omega) (by decide) (by decide), p3, n / sz, _, rfl, rfl, upd_same, by omega, by omega, ?_, fun p4 hp4 => ?_⟩
          · rw [hcut, List.length_map, htl, Nat.mul_comm, hlen2]
            exact sz40' (by omega)
          · have hHp : H p4 = none := free_but (((u6.trans (But.of s7)).trans u8).trans (But.of (new_same hp3))) hoT hp4 (by obtain ⟨o, e⟩ := (k8.up hp3).some; rw [e]; exact fun z => nomatch z)
            refine ⟨p4, (List.replicate (n / sz).toNat (ns6.take sz.toNat)).flatten, _, _, _, rfl, ⟨?_, ?_, fun z hz => ?_⟩, ?_, hHp, by rw [upd_same, hcut, rep_map], (((u6.trans (But.of s7)).trans u8).trans (But.of (new_same hp3))).trans (But.of (new_same hp4)), ((k8.mono (by omega)).up hp3).up hp4⟩
            · rw [rep_len, htl, hlen2]
              omega
            · rw [rep_len, htl, hlen2]
              omega
            · exact hR6.all z (List.mem_of_mem_take (rep_mem hz))
            · rw [rep_len, htl, hlen2]
              exact ek
      · exact ⟨D6, ns6, y5, y6, y7, rfl, hR6, hn6, hH6, hD6, u6, k6.mono (by omega)⟩
      -- return rim
      obtain ⟨D7, ns7, y5, y6, y7, rfl, hR7, hn7, hH7, hD7, u7, k7⟩ := hM
      exact ⟨.ref D7, rfl, q D7 ns7 H7 hR7 hn7 u7 hH7 hD7 (k7.mono (by omega))⟩

def spLaw (K : PySem.W.Frag) : Sp := fun vs H Q _ => ∃ (a : Addr) (ns : List Int), vs = [.ref a] ∧ SqL K H a (ns.map V.int) ∧ ns.length ≤ 63 ∧ ∀ H', Q (.bl true) H'

/-! ### the law's own look, and the law -/
def spRight02 : Sp := fun vs H Q _ => ∃ (t a : Addr) (ns : List Int) (c : Int), vs = [.ref t, .ref a] ∧ Tank H t c ∧ 0 ≤ c ∧ c < 2 ^ 38 ∧ a ≠ t ∧ H a = some (.lst (ns.map V.int)) ∧ Rim ns ∧
  ∀ H', But t H H' → Tank H' t (c + 3) → Q (.bl true) H'
theorem ok_law_right (T : Txt K mg) : FnG P w K mg base CX0 6 T.a_law_right T.d_law_right ["tank", "rim"] spRight02 := by
  have G_law_drawn_turn := ok_law_drawn_turn (P := P) (w := w) (base := base) T
  have G_law_turned := ok_law_turned (P := P) (w := w) (base := base) T
  have G_law_mirrored := ok_law_mirrored (P := P) (w := w) (base := base) T
  have G_turned_disc := ok_turned_disc (P := P) (w := w) (base := base) T
  have G_mirrored_disc := ok_mirrored_disc (P := P) (w := w) (base := base) T
  refine okG T.F_law_right sc_law_right (fun vs H Q E h => ?_) (fun cdv A outer s H vs Q E hg hr h => ?_)
  · obtain ⟨_, _, _, _, rfl, _⟩ := h
    rfl
  · obtain ⟨t, a, ns, c, rfl, hT, hc0, hc, hat, ha, hR, q⟩ := h
    refine ⟨_, (pss_cons (ps_set (i := 2) sc_law_right.nd rfl (.inl rfl) (pe_callB (reprL (K := K) rfl hg hr) (by rfl) T.n_repr (by decide +kernel) (pa_cons (pv 1) pa_nil)))
      (pss_cons (ps_for PassesOwn.never rfl (pi_tupL (K := K) rfl (pe_tup (pa_cons (pe_call G_law_drawn_turn (hr.mono (by decide)) (by rfl) T.g_law_drawn_turn T.F_law_drawn_turn.kp T.b_law_drawn_turn .nil pass0 (pa_cons (pv 0) pa_nil)) (pa_cons pe_int (pa_cons (pe_callB (lenL (K := K) rfl) (by rfl) T.n_len (by decide +kernel) (pa_cons (pv 1) pa_nil)) (pa_cons (pe_op op_sub pe_int (pe_callB (lenL (K := K) rfl) (by rfl) T.n_len (by decide +kernel) (pa_cons (pv 1) pa_nil))) (pa_cons pe_int (pa_cons (pe_un un_neg pe_int) pa_nil)))))))) (pg_name (i := 3) sc_law_right.nd rfl (.inl rfl)) (pss_cons (ps_par (i := 4) (j := 5) (by rfl) sc_law_right.nd rfl rfl (by decide) rfl rfl (pa_cons (pe_callW G_turned_disc hr rfl T.g_turned_disc T.F_turned_disc.kp (kb_turned_disc_turn_disc T) pass0 (pk_cons (pv 3) (pk_cons (pv 1) pk_nil))) (pa_cons (pe_callB (reprL (K := K) rfl hg hr) (by rfl) T.n_repr (by decide +kernel) (pa_cons (pe_call G_law_turned (hr.mono (by decide)) (by rfl) T.g_law_turned T.F_law_turned.kp T.b_law_turned .nil pass0 (pa_cons (pv 1) (pa_cons (pv 3) pa_nil))) pa_nil)) pa_nil)) (by rfl))
      (pss_cons (ps_if (PW.pt (pw_or (pt_cmpR op_ne (pe_callB (reprL (K := K) rfl hg hr) (by rfl) T.n_repr (by decide +kernel) (pa_cons (pv 4) pa_nil)) (pv 5) (nomark _)) (pw_or (pt_cmpR op_ne (pe_callB (reprL (K := K) rfl hg hr) (by rfl) T.n_repr (by decide +kernel) (pa_cons (pv 1) pa_nil)) (pv 2) (nomark _)) (pw_or1 (pt_cmpR (neD (K := K) rfl hr) (pe_call G_turned_disc hr (by rfl) T.g_turned_disc T.F_turned_disc.kp T.b_turned_disc .nil pass0 (pa_cons (pv 4) (pa_cons (pe_op op_sub pe_int (pv 3)) pa_nil))) (pv 1) (nomark _)))))) (pss_one (ps_ret pe_bl)) pss_nil)
      (pss_cons (ps_expr (pe_bm PySem.F.plainAttrs_list PySem.F.slot_list_append PySem.F.type_list_append mt_append (pv 4) (pa_cons pe_non pa_nil)))
      (pss_one (ps_if (PW.pt (pw_or (pt_cmpR op_ne (pe_callB (reprL (K := K) rfl hg hr) (by rfl) T.n_repr (by decide +kernel) (pa_cons (pe_call G_turned_disc hr (by rfl) T.g_turned_disc T.F_turned_disc.kp T.b_turned_disc .nil pass0 (pa_cons (pv 1) (pa_cons (pv 3) pa_nil))) pa_nil)) (pv 5) (nomark _)) (pw_or1 (pt_cmpR op_ne (pe_callB (reprL (K := K) rfl hg hr) (by rfl) T.n_repr (by decide +kernel) (pa_cons (pv 1) pa_nil)) (pv 2) (nomark _))))) (pss_one (ps_ret pe_bl)) pss_nil))))))
      (pss_cons (ps_par (i := 4) (j := 5) (by rfl) sc_law_right.nd rfl rfl (by decide) rfl rfl (pa_cons (pe_callW G_mirrored_disc hr rfl T.g_mirrored_disc T.F_mirrored_disc.kp (kb_mirrored_disc_disc T) pass0 (pk_cons (pv 1) pk_nil)) (pa_cons (pe_callB (reprL (K := K) rfl hg hr) (by rfl) T.n_repr (by decide +kernel) (pa_cons (pe_call G_law_mirrored (hr.mono (by decide)) (by rfl) T.g_law_mirrored T.F_law_mirrored.kp T.b_law_mirrored .nil pass0 (pa_cons (pv 1) pa_nil)) pa_nil)) pa_nil)) (by rfl))
      (pss_cons (ps_if (PW.pt (pw_or (pt_cmpR op_ne (pe_callB (reprL (K := K) rfl hg hr) (by rfl) T.n_repr (by decide +kernel) (pa_cons (pv 4) pa_nil)) (pv 5) (nomark _)) (pw_or1 (pt_cmpR (neD (K := K) rfl hr) (pe_call G_mirrored_disc hr (by rfl) T.g_mirrored_disc T.F_mirrored_disc.kp T.b_mirrored_disc .nil pass0 (pa_cons (pv 4) pa_nil)) (pv 1) (nomark _))))) (pss_one (ps_ret pe_bl)) pss_nil)
      (pss_cons (ps_expr (pe_bm PySem.F.plainAttrs_list PySem.F.slot_list_append PySem.F.type_list_append mt_append (pv 4) (pa_cons pe_non pa_nil)))
      (pss_one (ps_ret (pe_and (pe_cmpR op_eq (pe_callB (reprL (K := K) rfl hg hr) (by rfl) T.n_repr (by decide +kernel) (pa_cons (pe_call G_mirrored_disc hr (by rfl) T.g_mirrored_disc T.F_mirrored_disc.kp T.b_mirrored_disc .nil pass0 (pa_cons (pv 1) pa_nil)) pa_nil)) (pv 5) (nomark _)) (pe_one (pe_cmpR op_eq (pe_callB (reprL (K := K) rfl hg hr) (by rfl) T.n_repr (by decide +kernel) (pa_cons (pv 1) pa_nil)) (pv 2) (nomark _))))))))))), ?_⟩
    have l40 := hR.le
    have l1 := hR.pos
    -- kept
    refine ⟨.ref a, rfl, a, dI ns, rfl, dp_ints (SqL.of ha), hR.rp.sh, hR.rp.nd, hR.rp.dp, hR.fits, ?_⟩
    -- for by in (..)
    refine ⟨.ref t, rfl, t, c, rfl, hT, hc0, by omega, fun r H1 r0 r1 k1 u1 => ?_⟩
    have ha1 : H1 a = some (.lst (ns.map V.int)) := u1 _ _ ha hat
    refine ⟨.ref a, rfl, a, _, rfl, .inl (SqL.of ha1), .ref a, rfl, a, _, rfl, .inl (SqL.of ha1), 0, _, rfl, rfl, 1, rfl, (by show 6 ≤ sizeLine; decide), fun p hp => ?_⟩
    rw [List.length_map]
    have hap : a ≠ p := ne_of_none ha1 hp
    refine ⟨p, rfl, ⟨_, SqT.of upd_same⟩, for_tup (K := K) (a := p) (xs := ([r, 0, (ns.length : Int), 0 - (ns.length : Int), 1, -1] : List Int).map V.int)
      (fun i σ H' => ∃ y3 y4 y5 : Option V, σ = [some (.ref t), some (.ref a), some (.str (dI ns).shown), y3, y4, y5] ∧ But t (upd H1 p (.tup (([r, 0, (ns.length : Int), 0 - (ns.length : Int), 1, -1] : List Int).map V.int))) H' ∧ Tank H' t (c + 3))
      ⟨none, none, none, rfl, But.refl _ _, k1.up hp⟩ (fun i σ H' _ hP => ?_) (fun i x σ H2 hx hP => ?_) (fun σ H2 hP => ?_)⟩
    · obtain ⟨_, _, _, _, u2, _⟩ := hP
      exact SqT.of (u2 _ _ upd_same (k1.ne hp))
    · obtain ⟨y3, y4, y5, rfl, u2, k2⟩ := hP
      obtain ⟨b, _, rfl⟩ := int_at hx
      have ha2 : H2 a = some (.lst (ns.map V.int)) := u2 _ _ (by rw [upd_ne hap]; exact ha1) hat
      have hRt := hR.rot b
      -- told, due
      refine ⟨.int b, rfl, .ref a, rfl, a, ns, b, rfl, SqL.of ha2, hR, fun l H3 s3 hl hl3 => ?_⟩
      refine ⟨.ref a, rfl, .int b, rfl, a, ns, b, rfl, s3.seq (SqL.of ha2), l1, by omega, fun l2 H4 s4 hl2 hl4 => ?_⟩
      refine ⟨l2, dI (rot ns b), rfl, dp_ints (SqL.of hl4), hRt.rp.sh, hRt.rp.nd, hRt.rp.dp, hRt.fits, _, _, rfl, ?_⟩
      have s24 : Same H2 H4 := s3.trans s4
      have hl4' : H4 l = some (.lst ((rot ns b).map V.int)) := s4 _ _ hl3
      -- if repr(told) != due or ..
      refine ⟨.ref l, rfl, l, dI (rot ns b), rfl, dp_ints (SqL.of hl4'), hRt.rp.sh, hRt.rp.nd, hRt.rp.dp, hRt.fits, .str (dI (rot ns b)).shown, rfl, rfl, _, rfl, iteNS rfl ?_⟩
      refine ⟨.ref a, rfl, a, dI ns, rfl, dp_ints (s24.seq (SqL.of ha2)), hR.rp.sh, hR.rp.nd, hR.rp.dp, hR.fits, .str (dI ns).shown, rfl, rfl, _, rfl, iteNS rfl ?_⟩
      refine ⟨.ref l, rfl, .int b, rfl, 0, b, rfl, rfl, l, rot ns b, 0 - b, rfl, SqL.of hl4', hRt, fun l3 H5 s5 hl5 hl55 => ?_⟩
      rw [rot_rot] at hl55
      refine ⟨.ref a, rfl, dI ns, dI ns, dp_ints (SqL.of hl55), dp_ints ((s24.trans s5).seq (SqL.of ha2)), hR.rp.shaped, hR.rp.shaped, _, rfl, ?_⟩
      rw [hR.rp.refl]
      refine iteF ?_
      -- told.append(None)
      have hl6 : H5 l = some (.lst ((rot ns b).map V.int)) := s5 _ _ hl4'
      refine ⟨.ref l, rfl, .inl ⟨rfl, _, SqL.of hl6⟩, l, _, .non, rfl, rfl, hl6, by rw [List.length_map, rot_len]; exact sz40 (by omega), ?_⟩
      have s26 : Same H2 (upd H5 l (.lst ((rot ns b).map V.int ++ [.non]))) := same_over (s24.trans s5) hl
      -- if repr(turned_disc(rim, by)) != due or ..
      refine ⟨.ref a, rfl, .int b, rfl, a, ns, b, rfl, s26.seq (SqL.of ha2), hR, fun l7 H7 s7 hl7 hl77 => ?_⟩
      refine ⟨l7, dI (rot ns b), rfl, dp_ints (SqL.of hl77), hRt.rp.sh, hRt.rp.nd, hRt.rp.dp, hRt.fits, .str (dI (rot ns b)).shown, rfl, rfl, _, rfl, iteNS rfl ?_⟩
      refine ⟨.ref a, rfl, a, dI ns, rfl, dp_ints ((s26.trans s7).seq (SqL.of ha2)), hR.rp.sh, hR.rp.nd, hR.rp.dp, hR.fits, .str (dI ns).shown, rfl, rfl, _, rfl, iteNS rfl ?_⟩
      exact ⟨_, _, _, rfl, u2.trans (But.of (s26.trans s7)), k2.same (s26.trans s7)⟩
    · obtain ⟨y3, y4, y5, rfl, u2, k2⟩ := hP
      have ha2 : H2 a = some (.lst (ns.map V.int)) := u2 _ _ (by rw [upd_ne hap]; exact ha1) hat
      have hRt := hR.mir
      refine ⟨.ref a, rfl, a, ns, rfl, SqL.of ha2, hR, fun l H3 s3 hl hl3 => ?_⟩
      refine ⟨.ref a, rfl, a, ns, rfl, s3.seq (SqL.of ha2), l1, by omega, fun l2 H4 s4 hl2 hl4 => ?_⟩
      refine ⟨l2, dI (mir ns), rfl, dp_ints (SqL.of hl4), hRt.rp.sh, hRt.rp.nd, hRt.rp.dp, hRt.fits, _, _, rfl, ?_⟩
      have s24 : Same H2 H4 := s3.trans s4
      have hl4' : H4 l = some (.lst ((mir ns).map V.int)) := s4 _ _ hl3
      refine ⟨.ref l, rfl, l, dI (mir ns), rfl, dp_ints (SqL.of hl4'), hRt.rp.sh, hRt.rp.nd, hRt.rp.dp, hRt.fits, .str (dI (mir ns)).shown, rfl, rfl, _, rfl, iteNS rfl ?_⟩
      refine ⟨.ref l, rfl, l, mir ns, rfl, SqL.of hl4', hRt, fun l3 H5 s5 hl5 hl55 => ?_⟩
      rw [mir_mir] at hl55
      refine ⟨.ref a, rfl, dI ns, dI ns, dp_ints (SqL.of hl55), dp_ints ((s24.trans s5).seq (SqL.of ha2)), hR.rp.shaped, hR.rp.shaped, _, rfl, ?_⟩
      rw [hR.rp.refl]
      refine iteF ?_
      have hl6 : H5 l = some (.lst ((mir ns).map V.int)) := s5 _ _ hl4'
      refine ⟨.ref l, rfl, .inl ⟨rfl, _, SqL.of hl6⟩, l, _, .non, rfl, rfl, hl6, by rw [List.length_map, mir_len]; exact sz40 (by omega), ?_⟩
      have s26 : Same H2 (upd H5 l (.lst ((mir ns).map V.int ++ [.non]))) := same_over (s24.trans s5) hl
      refine ⟨.ref a, rfl, a, ns, rfl, s26.seq (SqL.of ha2), hR, fun l7 H7 s7 hl7 hl77 => ?_⟩
      refine ⟨l7, dI (mir ns), rfl, dp_ints (SqL.of hl77), hRt.rp.sh, hRt.rp.nd, hRt.rp.dp, hRt.fits, .str (dI (mir ns)).shown, rfl, rfl, _, rfl, ?_⟩
      rw [if_pos (decide_eq_true rfl)]
      refine ⟨.ref a, rfl, a, dI ns, rfl, dp_ints ((s26.trans s7).seq (SqL.of ha2)), hR.rp.sh, hR.rp.nd, hR.rp.dp, hR.fits, .str (dI ns).shown, rfl, rfl, ?_⟩
      show Q (.bl (decide (V.str (dI ns).shown = V.str (dI ns).shown))) H7
      rw [decide_eq_true rfl]
      exact q H7 (u1.trans ((But.of (new_same hp)).trans (u2.trans (But.of (s26.trans s7))))) (k2.same (s26.trans s7))
theorem ok_law (T : Txt K mg) : FnG P w K mg base CX0 7 T.a_law T.d_law ["script"] (spLaw K) := by
  have G_law_tank := ok_law_tank (P := P) (w := w) (base := base) T
  have G_law_drawn_count := ok_law_drawn_count (P := P) (w := w) (base := base) T
  have G_law_drawn_rim := ok_law_drawn_rim (P := P) (w := w) (base := base) T
  have G_law_right := ok_law_right (P := P) (w := w) (base := base) T
  have G_turned_disc := ok_turned_disc (P := P) (w := w) (base := base) T
  have G_mirrored_disc := ok_mirrored_disc (P := P) (w := w) (base := base) T
  refine okG T.F_law sc_law (fun vs H Q E h => ?_) (fun cdv A outer s H vs Q E hg hr h => ?_)
  · obtain ⟨_, _, rfl, _⟩ := h
    rfl
  · obtain ⟨a, ns, rfl, hS, hlen, q⟩ := h
    refine ⟨_, (pss_cons (ps_for PassesOwn.never rfl (pi_range1 (by rfl) T.n_range (pa_cons (pe_callB (call_max2 rfl) (by rfl) T.n_max (by decide +kernel) (pa_cons pe_int (pa_cons (pe_callB (call_min2 rfl) (by rfl) T.n_min (by decide +kernel) (pa_cons pe_int (pa_cons (pe_callB (lenL (K := K) rfl) (by rfl) T.n_len (by decide +kernel) (pa_cons (pv 0) pa_nil)) pa_nil))) pa_nil))) pa_nil)) (pg_name (i := 1) sc_law.nd rfl (.inl rfl)) (pss_cons (ps_set (i := 2) sc_law.nd rfl (.inl rfl) (pe_call G_law_tank (hr.mono (by decide)) (by rfl) T.g_law_tank T.F_law_tank.kp T.b_law_tank .nil pass0 (pa_cons (pv 0) (pa_cons (pv 1) pa_nil))))
      (pss_one (ps_for PassesOwn.never rfl (pi_range1 (by rfl) T.n_range (pa_cons pe_int pa_nil)) (pg_name (i := 3) sc_law.nd rfl (.inl rfl)) (pss_one (ps_if (pt_not (pt_val (pe_callG G_law_right hg hr (by rfl) T.g_law_right T.F_law_right.kp T.b_law_right .nil pass0 (pa_cons (pv 2) (pa_cons (pe_call G_law_drawn_rim (hr.mono (by decide)) (by rfl) T.g_law_drawn_rim T.F_law_drawn_rim.kp T.b_law_drawn_rim .nil pass0 (pa_cons (pv 2) (pa_cons (pe_call G_law_drawn_count (hr.mono (by decide)) (by rfl) T.g_law_drawn_count T.F_law_drawn_count.kp T.b_law_drawn_count .nil pass0 (pa_cons (pv 2) (pa_cons (pe_ix (ixL (K := K) rfl) (pe_lst (pa_cons pe_int (pa_cons pe_int pa_nil))) (pe_op op_mod (pe_callTy call_int1 (by rfl) T.n_int (by decide +kernel) (pa_cons (pv 3) pa_nil)) pe_int) (fun _ _ => rfl)) pa_nil))) pa_nil))) pa_nil))))) (pss_one (ps_ret pe_bl)) pss_nil))))))
      (pss_cons (ps_set (i := 4) sc_law.nd rfl (.inl rfl) (pe_lst (pa_cons pe_int (pa_cons pe_int (pa_cons pe_int (pa_cons pe_int (pa_cons pe_int (pa_cons pe_int (pa_cons pe_int pa_nil)))))))))
      (pss_cons (ps_set (i := 5) sc_law.nd rfl (.inl rfl) (pe_lst (pa_cons (pe_call G_turned_disc (hr.mono (by decide)) (by rfl) T.g_turned_disc T.F_turned_disc.kp T.b_turned_disc .nil pass0 (pa_cons (pv 4) (pa_cons pe_int pa_nil))) (pa_cons (pe_call G_turned_disc (hr.mono (by decide)) (by rfl) T.g_turned_disc T.F_turned_disc.kp T.b_turned_disc .nil pass0 (pa_cons (pv 4) (pa_cons (pe_op op_pow pe_int pe_int) pa_nil))) (pa_cons (pe_call G_mirrored_disc (hr.mono (by decide)) (by rfl) T.g_mirrored_disc T.F_mirrored_disc.kp T.b_mirrored_disc .nil pass0 (pa_cons (pv 4) pa_nil)) pa_nil)))))
      (pss_one (ps_ret (pe_cmpR (eqD (K := K) rfl hr) (pv 5) (pe_lst (pa_cons (pe_lst (pa_cons pe_int (pa_cons pe_int (pa_cons pe_int (pa_cons pe_int (pa_cons pe_int (pa_cons pe_int (pa_cons pe_int pa_nil)))))))) (pa_cons (pe_lst (pa_cons pe_int (pa_cons pe_int (pa_cons pe_int (pa_cons pe_int (pa_cons pe_int (pa_cons pe_int (pa_cons pe_int pa_nil)))))))) (pa_cons (pe_lst (pa_cons pe_int (pa_cons pe_int (pa_cons pe_int (pa_cons pe_int (pa_cons pe_int (pa_cons pe_int (pa_cons pe_int pa_nil)))))))) pa_nil)))) (nomark _))))))), ?_⟩
    refine ⟨.ref a, rfl, a, _, rfl, .inl hS, 4, _, rfl, 1, _, rfl, _, rfl, ?_, ?_, for_range (lo := 0)
      (fun i σ H' => ∃ y1 y2 y3 : Option V, σ = [some (.ref a), y1, y2, y3, none, none] ∧ Same H H' ∧ i ≤ 4) ⟨none, none, none, rfl, Same.refl H, by omega⟩ (fun i σ H1 hi hP => ?_) (fun σ H1 hP => ?_)⟩
    · split <;> split <;> omega
    · split <;> split <;> omega
    · obtain ⟨y1, y2, y3, rfl, s1, _⟩ := hP
      have hi4 : i < 4 := by
        revert hi
        split <;> split <;> omega
      refine ⟨.ref a, rfl, .int (0 + i), rfl, a, ns, 0 + i, rfl, s1.seq hS, by omega, by omega, fun t H2 s2 ht k2 => ?_⟩
      refine ⟨6, rfl, by decide, by decide, for_range (lo := 0) (n := (6 : Int).toNat) (fun j σ H' => ∃ z3 : Option V, σ = [some (.ref a), some (.int (0 + i)), some (.ref t), z3, none, none] ∧ But t H2 H' ∧ Tank H' t (100 * j))
        ⟨_, rfl, But.refl t H2, k2.mono (by omega)⟩ (fun j σ H3 hj hP => ?_) (fun σ H3 hP => ?_)⟩
      · obtain ⟨z3, rfl, u3, k3⟩ := hP
        have hj6 : j < 6 := hj
        refine ⟨.ref t, rfl, .ref t, rfl, .ref t, rfl, (by show 2 ≤ sizeLine; decide), fun l hl => ?_⟩
        have hm2 := mod_in (i := 0 + (j : Int)) (n := 2) (by decide)
        obtain ⟨m, hm, hat⟩ := at_in (ns := [40, 9]) hm2.1 hm2.2
        have hm1 : 1 ≤ m ∧ m ≤ 40 := by
          have := List.mem_of_getElem? hm
          simp only [List.mem_cons, List.not_mem_nil, or_false] at this
          omega
        refine ⟨.int (0 + j), rfl, .inl ⟨_, rfl, _, 2, rfl, rfl, (by show (0 : Int) < 2; decide), l, _, _, .int m, rfl, rfl, SqL.of upd_same, hat, ?_⟩⟩
        refine ⟨t, m, 100 * j, rfl, hm1.1, hm1.2, k3.up hl, by omega, by omega, fun r H4 r1 r2 k4 u4 => ?_⟩
        refine ⟨t, r, 100 * j + 3, rfl, r1, by omega, k4, by omega, by omega, fun l2 ns2 H5 hR hl2 u5 hf5 hl5 k5 => ?_⟩
        have hlt : l2 ≠ t := fun e => by
          obtain ⟨o, z⟩ := k5.some
          obtain ⟨o4, z4⟩ := k4.some
          rw [e, z4] at hf5
          cases hf5
        refine ⟨t, l2, ns2, 100 * j + 3 + 60, rfl, k5, by omega, by omega, hlt, hl5, hR, fun H6 u6 k6 => ?_⟩
        refine ⟨true, rfl, iteF ?_⟩
        exact ⟨_, rfl, (((u3.trans (But.of (new_same hl))).trans u4).trans u5).trans u6, k6.mono (by omega)⟩
      · obtain ⟨z3, rfl, u3, k3⟩ := hP
        refine ⟨_, _, _, rfl, fun b o e => u3 _ _ (s2 _ _ (s1 _ _ e)) (fun z => ?_), by omega⟩
        have e1 := s1 _ _ e
        rw [z, ht] at e1
        cases e1
    · obtain ⟨y1, y2, y3, rfl, s1, _⟩ := hP
      have hR0 : Rim [1, 1, 0, 1, 0, 0, 0] := ⟨by decide, by decide, by decide⟩
      have e30 : (10 : Int) ^ (30 : Int).toNat = 1000000000000000000000000000000 := by decide +kernel
      refine ⟨(by show 7 ≤ sizeLine; decide), fun l hl => ?_⟩
      have hl0 : (upd H1 l (.lst [.int 1, .int 1, .int 0, .int 1, .int 0, .int 0, .int 0])) l = some (.lst (([1, 1, 0, 1, 0, 0, 0] : List Int).map V.int)) := upd_same
      refine ⟨.ref l, rfl, l, [1, 1, 0, 1, 0, 0, 0], 1, rfl, SqL.of hl0, hR0, fun l1 H2 s2 hl1 hl2 => ?_⟩
      refine ⟨.ref l, rfl, 10, 30, rfl, rfl, ⟨by decide, by decide, by decide⟩, l, [1, 1, 0, 1, 0, 0, 0], _, rfl, s2.seq (SqL.of hl0), hR0, fun l3 H3 s3 hl3 hl33 => ?_⟩
      refine ⟨.ref l, rfl, l, [1, 1, 0, 1, 0, 0, 0], rfl, (s2.trans s3).seq (SqL.of hl0), hR0, fun l4 H4 s4 hl4 hl44 => ?_⟩
      refine ⟨(by show 3 ≤ sizeLine; decide), fun l5 hl5 => ?_⟩
      have x1 : rot [1, 1, 0, 1, 0, 0, 0] 1 = [0, 1, 1, 0, 1, 0, 0] := by decide +kernel
      have x2 : rot [1, 1, 0, 1, 0, 0, 0] (10 ^ (30 : Int).toNat) = [0, 1, 1, 0, 1, 0, 0] := by decide +kernel
      have x3 : mir [1, 1, 0, 1, 0, 0, 0] = [1, 0, 0, 0, 1, 0, 1] := by decide +kernel
      rw [x1] at hl2
      rw [x2] at hl33
      rw [x3] at hl44
      refine ⟨.ref l5, rfl, (by show 7 ≤ sizeLine; decide), fun m1 hm1 => ⟨(by show 7 ≤ sizeLine; decide), fun m2 hm2 => ⟨(by show 7 ≤ sizeLine; decide), fun m3 hm3 => ⟨(by show 3 ≤ sizeLine; decide), fun m4 hm4 => ?_⟩⟩⟩⟩
      have g5 := new_same (o := .lst [.ref l1, .ref l3, .ref l4]) hl5
      have g1 := new_same (o := .lst [.int 0, .int 1, .int 1, .int 0, .int 1, .int 0, .int 0]) hm1
      have g2 := new_same (o := .lst [.int 0, .int 1, .int 1, .int 0, .int 1, .int 0, .int 0]) hm2
      have g3 := new_same (o := .lst [.int 1, .int 0, .int 0, .int 0, .int 1, .int 0, .int 1]) hm3
      have g4 := new_same (o := .lst [.ref m1, .ref m2, .ref m3]) hm4
      have gA := (((g5.trans g1).trans g2).trans g3).trans g4
      have gB := ((g1.trans g2).trans g3).trans g4
      have rA : RP (dI [0, 1, 1, 0, 1, 0, 0]) := rp_ints (by decide +kernel)
      have rB : RP (dI [1, 0, 0, 0, 1, 0, 1]) := rp_ints (by decide +kernel)
      have dA : (dI [0, 1, 1, 0, 1, 0, 0]).depth ≤ 1 := dp_ints_depth (by decide +kernel)
      have dB : (dI [1, 0, 0, 0, 1, 0, 1]).depth ≤ 1 := dp_ints_depth (by decide +kernel)
      have rD : RP (.list [dI [0, 1, 1, 0, 1, 0, 0], dI [0, 1, 1, 0, 1, 0, 0], dI [1, 0, 0, 0, 1, 0, 1]]) := ((RPs.cons rA dA (RPs.cons rA dA (RPs.cons rB dB RPs.nil))).list (by omega)).1
      refine ⟨.list [dI [0, 1, 1, 0, 1, 0, 0], dI [0, 1, 1, 0, 1, 0, 0], dI [1, 0, 0, 0, 1, 0, 1]], .list [dI [0, 1, 1, 0, 1, 0, 0], dI [0, 1, 1, 0, 1, 0, 0], dI [1, 0, 0, 0, 1, 0, 1]],
        .lst (SqL.of (gB _ _ upd_same)) (.cons (dp_ints (SqL.of (gA _ _ (s4 _ _ (s3 _ _ hl2))))) (.cons (dp_ints (SqL.of (gA _ _ (s4 _ _ hl33)))) (.cons (dp_ints (SqL.of (gA _ _ hl44))) .nil))),
        .lst (SqL.of upd_same) (.cons (dp_ints (ns := [0, 1, 1, 0, 1, 0, 0]) (SqL.of (g4 _ _ (g3 _ _ (g2 _ _ upd_same))))) (.cons (dp_ints (ns := [0, 1, 1, 0, 1, 0, 0]) (SqL.of (g4 _ _ (g3 _ _ upd_same)))) (.cons (dp_ints (ns := [1, 0, 0, 0, 1, 0, 1]) (SqL.of (g4 _ _ upd_same))) .nil))), rD.shaped, rD.shaped, ?_⟩
      rw [rD.refl]
      exact q _

end
/-! ### what the top has written, and the end -/
theorem all_mk {l : PySem.W.OpenLaw} {w : World} {K : PySem.W.Frag} {h : Heap} {mg : Str → Option Value} {fa : Addr} (X : K.In h) (G : h.Ns mainGlobals mg) (hfa : mg "law" = some (.ref fa))
    {f0 : Addr} {od0 an0 : Option Addr} {sl0 : Array (Option Value)} {oc0 kV0 dc0 pm0 cd0 ct0 : Value}
    (a0 : PySem.W.nsIn K mainGlobals "turned_list" = some (some (.ref f0))) (l0 : K.lookup f0 = some ⟨oc0, od0, .func (PySem.W.fnOf "turned_list" "turned_list" (defArgs s_turned_list) (defBody s_turned_list) (defScope s_turned_list) .none kV0 dc0 pm0 an0 cd0 ct0), sl0⟩) (c0 : PySem.W.codeIn K cd0 "turned_list" = true) (k0 : PySem.W.keepIn K (.ref f0) = true)
    {f1 : Addr} {od1 an1 : Option Addr} {sl1 : Array (Option Value)} {oc1 kV1 dc1 pm1 cd1 ct1 : Value}
    (a1 : PySem.W.nsIn K mainGlobals "mirrored_list" = some (some (.ref f1))) (l1 : K.lookup f1 = some ⟨oc1, od1, .func (PySem.W.fnOf "mirrored_list" "mirrored_list" (defArgs s_mirrored_list) (defBody s_mirrored_list) (defScope s_mirrored_list) .none kV1 dc1 pm1 an1 cd1 ct1), sl1⟩) (c1 : PySem.W.codeIn K cd1 "mirrored_list" = true) (k1 : PySem.W.keepIn K (.ref f1) = true)
    {f2 : Addr} {od2 an2 : Option Addr} {sl2 : Array (Option Value)} {oc2 kV2 dc2 pm2 cd2 ct2 : Value}
    (a2 : PySem.W.nsIn K mainGlobals "is_integer" = some (some (.ref f2))) (l2 : K.lookup f2 = some ⟨oc2, od2, .func (PySem.W.fnOf "is_integer" "is_integer" (defArgs s_is_integer) (defBody s_is_integer) (defScope s_is_integer) .none kV2 dc2 pm2 an2 cd2 ct2), sl2⟩) (c2 : PySem.W.codeIn K cd2 "is_integer" = true) (k2 : PySem.W.keepIn K (.ref f2) = true)
    {f3 : Addr} {od3 an3 : Option Addr} {sl3 : Array (Option Value)} {oc3 kV3 dc3 pm3 cd3 ct3 : Value}
    (a3 : PySem.W.nsIn K mainGlobals "has_slots" = some (some (.ref f3))) (l3 : K.lookup f3 = some ⟨oc3, od3, .func (PySem.W.fnOf "has_slots" "has_slots" (defArgs s_has_slots) (defBody s_has_slots) (defScope s_has_slots) .none kV3 dc3 pm3 an3 cd3 ct3), sl3⟩) (c3 : PySem.W.codeIn K cd3 "has_slots" = true) (k3 : PySem.W.keepIn K (.ref f3) = true)
    {f4 : Addr} {od4 an4 : Option Addr} {sl4 : Array (Option Value)} {oc4 kV4 dc4 pm4 cd4 ct4 : Value}
    (a4 : PySem.W.nsIn K mainGlobals "wrong_light" = some (some (.ref f4))) (l4 : K.lookup f4 = some ⟨oc4, od4, .func (PySem.W.fnOf "wrong_light" "wrong_light" (defArgs s_wrong_light) (defBody s_wrong_light) (defScope s_wrong_light) .none kV4 dc4 pm4 an4 cd4 ct4), sl4⟩) (c4 : PySem.W.codeIn K cd4 "wrong_light" = true) (k4 : PySem.W.keepIn K (.ref f4) = true)
    {f5 : Addr} {od5 an5 : Option Addr} {sl5 : Array (Option Value)} {oc5 kV5 dc5 pm5 cd5 ct5 : Value}
    (a5 : PySem.W.nsIn K mainGlobals "wrong_slot" = some (some (.ref f5))) (l5 : K.lookup f5 = some ⟨oc5, od5, .func (PySem.W.fnOf "wrong_slot" "wrong_slot" (defArgs s_wrong_slot) (defBody s_wrong_slot) (defScope s_wrong_slot) .none kV5 dc5 pm5 an5 cd5 ct5), sl5⟩) (c5 : PySem.W.codeIn K cd5 "wrong_slot" = true) (k5 : PySem.W.keepIn K (.ref f5) = true)
    {f6 : Addr} {od6 an6 : Option Addr} {sl6 : Array (Option Value)} {oc6 kV6 dc6 pm6 cd6 ct6 : Value}
    (a6 : PySem.W.nsIn K mainGlobals "check_disc" = some (some (.ref f6))) (l6 : K.lookup f6 = some ⟨oc6, od6, .func (PySem.W.fnOf "check_disc" "check_disc" (defArgs s_check_disc) (defBody s_check_disc) (defScope s_check_disc) .none kV6 dc6 pm6 an6 cd6 ct6), sl6⟩) (c6 : PySem.W.codeIn K cd6 "check_disc" = true) (k6 : PySem.W.keepIn K (.ref f6) = true)
    {f7 : Addr} {od7 an7 : Option Addr} {sl7 : Array (Option Value)} {oc7 kV7 dc7 pm7 cd7 ct7 : Value}
    (a7 : PySem.W.nsIn K mainGlobals "check_turn" = some (some (.ref f7))) (l7 : K.lookup f7 = some ⟨oc7, od7, .func (PySem.W.fnOf "check_turn" "check_turn" (defArgs s_check_turn) (defBody s_check_turn) (defScope s_check_turn) .none kV7 dc7 pm7 an7 cd7 ct7), sl7⟩) (c7 : PySem.W.codeIn K cd7 "check_turn" = true) (k7 : PySem.W.keepIn K (.ref f7) = true)
    {f8 : Addr} {od8 an8 : Option Addr} {sl8 : Array (Option Value)} {oc8 kV8 dc8 pm8 cd8 ct8 : Value}
    (a8 : PySem.W.nsIn K mainGlobals "turned_disc" = some (some (.ref f8))) (l8 : K.lookup f8 = some ⟨oc8, od8, .func (PySem.W.fnOf "turned_disc" "turned_disc" (defArgs s_turned_disc) (defBody s_turned_disc) (defScope s_turned_disc) .none kV8 dc8 pm8 an8 cd8 ct8), sl8⟩) (c8 : PySem.W.codeIn K cd8 "turned_disc" = true) (k8 : PySem.W.keepIn K (.ref f8) = true)
    {f9 : Addr} {od9 an9 : Option Addr} {sl9 : Array (Option Value)} {oc9 kV9 dc9 pm9 cd9 ct9 : Value}
    (a9 : PySem.W.nsIn K mainGlobals "mirrored_disc" = some (some (.ref f9))) (l9 : K.lookup f9 = some ⟨oc9, od9, .func (PySem.W.fnOf "mirrored_disc" "mirrored_disc" (defArgs s_mirrored_disc) (defBody s_mirrored_disc) (defScope s_mirrored_disc) .none kV9 dc9 pm9 an9 cd9 ct9), sl9⟩) (c9 : PySem.W.codeIn K cd9 "mirrored_disc" = true) (k9 : PySem.W.keepIn K (.ref f9) = true)
    {f10 : Addr} {od10 an10 : Option Addr} {sl10 : Array (Option Value)} {oc10 kV10 dc10 pm10 cd10 ct10 : Value}
    (a10 : PySem.W.nsIn K mainGlobals "_law_tank" = some (some (.ref f10))) (l10 : K.lookup f10 = some ⟨oc10, od10, .func (PySem.W.fnOf "_law_tank" "_law_tank" (defArgs s_law_tank) (defBody s_law_tank) (defScope s_law_tank) .none kV10 dc10 pm10 an10 cd10 ct10), sl10⟩) (c10 : PySem.W.codeIn K cd10 "_law_tank" = true) (k10 : PySem.W.keepIn K (.ref f10) = true)
    {f11 : Addr} {od11 an11 : Option Addr} {sl11 : Array (Option Value)} {oc11 kV11 dc11 pm11 cd11 ct11 : Value}
    (a11 : PySem.W.nsIn K mainGlobals "_law_tap" = some (some (.ref f11))) (l11 : K.lookup f11 = some ⟨oc11, od11, .func (PySem.W.fnOf "_law_tap" "_law_tap" (defArgs s_law_tap) (defBody s_law_tap) (defScope s_law_tap) .none kV11 dc11 pm11 an11 cd11 ct11), sl11⟩) (c11 : PySem.W.codeIn K cd11 "_law_tap" = true) (k11 : PySem.W.keepIn K (.ref f11) = true)
    {f12 : Addr} {od12 an12 : Option Addr} {sl12 : Array (Option Value)} {oc12 kV12 dc12 pm12 cd12 ct12 : Value}
    (a12 : PySem.W.nsIn K mainGlobals "_law_drawn_count" = some (some (.ref f12))) (l12 : K.lookup f12 = some ⟨oc12, od12, .func (PySem.W.fnOf "_law_drawn_count" "_law_drawn_count" (defArgs s_law_drawn_count) (defBody s_law_drawn_count) (defScope s_law_drawn_count) .none kV12 dc12 pm12 an12 cd12 ct12), sl12⟩) (c12 : PySem.W.codeIn K cd12 "_law_drawn_count" = true) (k12 : PySem.W.keepIn K (.ref f12) = true)
    {f13 : Addr} {od13 an13 : Option Addr} {sl13 : Array (Option Value)} {oc13 kV13 dc13 pm13 cd13 ct13 : Value}
    (a13 : PySem.W.nsIn K mainGlobals "_law_drawn_rim" = some (some (.ref f13))) (l13 : K.lookup f13 = some ⟨oc13, od13, .func (PySem.W.fnOf "_law_drawn_rim" "_law_drawn_rim" (defArgs s_law_drawn_rim) (defBody s_law_drawn_rim) (defScope s_law_drawn_rim) .none kV13 dc13 pm13 an13 cd13 ct13), sl13⟩) (c13 : PySem.W.codeIn K cd13 "_law_drawn_rim" = true) (k13 : PySem.W.keepIn K (.ref f13) = true)
    {f14 : Addr} {od14 an14 : Option Addr} {sl14 : Array (Option Value)} {oc14 kV14 dc14 pm14 cd14 ct14 : Value}
    (a14 : PySem.W.nsIn K mainGlobals "_law_drawn_turn" = some (some (.ref f14))) (l14 : K.lookup f14 = some ⟨oc14, od14, .func (PySem.W.fnOf "_law_drawn_turn" "_law_drawn_turn" (defArgs s_law_drawn_turn) (defBody s_law_drawn_turn) (defScope s_law_drawn_turn) .none kV14 dc14 pm14 an14 cd14 ct14), sl14⟩) (c14 : PySem.W.codeIn K cd14 "_law_drawn_turn" = true) (k14 : PySem.W.keepIn K (.ref f14) = true)
    {f15 : Addr} {od15 an15 : Option Addr} {sl15 : Array (Option Value)} {oc15 kV15 dc15 pm15 cd15 ct15 : Value}
    (a15 : PySem.W.nsIn K mainGlobals "_law_turned" = some (some (.ref f15))) (l15 : K.lookup f15 = some ⟨oc15, od15, .func (PySem.W.fnOf "_law_turned" "_law_turned" (defArgs s_law_turned) (defBody s_law_turned) (defScope s_law_turned) .none kV15 dc15 pm15 an15 cd15 ct15), sl15⟩) (c15 : PySem.W.codeIn K cd15 "_law_turned" = true) (k15 : PySem.W.keepIn K (.ref f15) = true)
    {f16 : Addr} {od16 an16 : Option Addr} {sl16 : Array (Option Value)} {oc16 kV16 dc16 pm16 cd16 ct16 : Value}
    (a16 : PySem.W.nsIn K mainGlobals "_law_mirrored" = some (some (.ref f16))) (l16 : K.lookup f16 = some ⟨oc16, od16, .func (PySem.W.fnOf "_law_mirrored" "_law_mirrored" (defArgs s_law_mirrored) (defBody s_law_mirrored) (defScope s_law_mirrored) .none kV16 dc16 pm16 an16 cd16 ct16), sl16⟩) (c16 : PySem.W.codeIn K cd16 "_law_mirrored" = true) (k16 : PySem.W.keepIn K (.ref f16) = true)
    {f17 : Addr} {od17 an17 : Option Addr} {sl17 : Array (Option Value)} {oc17 kV17 dc17 pm17 cd17 ct17 : Value}
    (a17 : PySem.W.nsIn K mainGlobals "_law_right" = some (some (.ref f17))) (l17 : K.lookup f17 = some ⟨oc17, od17, .func (PySem.W.fnOf "_law_right" "_law_right" (defArgs s_law_right) (defBody s_law_right) (defScope s_law_right) .none kV17 dc17 pm17 an17 cd17 ct17), sl17⟩) (c17 : PySem.W.codeIn K cd17 "_law_right" = true) (k17 : PySem.W.keepIn K (.ref f17) = true)
    {f18 : Addr} {od18 an18 : Option Addr} {sl18 : Array (Option Value)} {oc18 kV18 dc18 pm18 cd18 ct18 : Value}
    (a18 : PySem.W.nsIn K mainGlobals "law" = some (some (.ref f18))) (l18 : K.lookup f18 = some ⟨oc18, od18, .func (PySem.W.fnOf "law" "law" (defArgs s_law) (defBody s_law) (defScope s_law) .none kV18 dc18 pm18 an18 cd18 ct18), sl18⟩) (c18 : PySem.W.codeIn K cd18 "law" = true) (k18 : PySem.W.keepIn K (.ref f18) = true)
    {t_MOST_SLOTS : Tok} (m_MOST_SLOTS : PySem.W.nsIn K mainGlobals "MOST_SLOTS" = some (some (.int (40) t_MOST_SLOTS)))
    {t_MOST_LIGHT : Tok} (m_MOST_LIGHT : PySem.W.nsIn K mainGlobals "MOST_LIGHT" = some (some (.int (1000000000000000000000000000000) t_MOST_LIGHT)))
    (z_abs : PySem.W.nsIn K mainGlobals "abs" = some none)
    (z_bool : PySem.W.nsIn K mainGlobals "bool" = some none)
    (z_enumerate : PySem.W.nsIn K mainGlobals "enumerate" = some none)
    (z_int : PySem.W.nsIn K mainGlobals "int" = some none)
    (z_isinstance : PySem.W.nsIn K mainGlobals "isinstance" = some none)
    (z_len : PySem.W.nsIn K mainGlobals "len" = some none)
    (z_list : PySem.W.nsIn K mainGlobals "list" = some none)
    (z_max : PySem.W.nsIn K mainGlobals "max" = some none)
    (z_min : PySem.W.nsIn K mainGlobals "min" = some none)
    (z_range : PySem.W.nsIn K mainGlobals "range" = some none)
    (z_repr : PySem.W.nsIn K mainGlobals "repr" = some none)
    : ∃ fd : FuncData, (∀ (s : Shared) (u : Value), BindsTo s fd ⟨[u], []⟩ [("script", u)]) ∧ ∀ base : Heap, K.In base → base.Ns mainGlobals mg → FnG l.prog w K mg base CX0 7 fa fd ["script"] (spLaw K) := by
  have e := hfa.symm.trans (PySem.W.mg_of X G a18)
  cases e
  have F0 := fun_mk (st := s_turned_list) l0 c0 k0
  have b0 := F0.binds (ps := ["items", "turn"]) fun _ _ _ _ _ _ us hl => match us, hl with | [_, _], _ => rfl
  have F1 := fun_mk (st := s_mirrored_list) l1 c1 k1
  have b1 := F1.binds (ps := ["items"]) fun _ _ _ _ _ _ us hl => match us, hl with | [_], _ => rfl
  have F2 := fun_mk (st := s_is_integer) l2 c2 k2
  have b2 := F2.binds (ps := ["value"]) fun _ _ _ _ _ _ us hl => match us, hl with | [_], _ => rfl
  have F3 := fun_mk (st := s_has_slots) l3 c3 k3
  have b3 := F3.binds (ps := ["value"]) fun _ _ _ _ _ _ us hl => match us, hl with | [_], _ => rfl
  have F4 := fun_mk (st := s_wrong_light) l4 c4 k4
  have b4 := F4.binds (ps := ["items", "most"]) fun _ _ _ _ _ _ us hl => match us, hl with | [_, _], _ => rfl
  have F5 := fun_mk (st := s_wrong_slot) l5 c5 k5
  have b5 := F5.binds (ps := ["items"]) fun _ _ _ _ _ _ us hl => match us, hl with | [_], _ => rfl
  have F6 := fun_mk (st := s_check_disc) l6 c6 k6
  have b6 := F6.binds (ps := ["disc"]) fun _ _ _ _ _ _ us hl => match us, hl with | [_], _ => rfl
  have F7 := fun_mk (st := s_check_turn) l7 c7 k7
  have b7 := F7.binds (ps := ["turn"]) fun _ _ _ _ _ _ us hl => match us, hl with | [_], _ => rfl
  have F8 := fun_mk (st := s_turned_disc) l8 c8 k8
  have b8 := F8.binds (ps := ["disc", "turn"]) fun _ _ _ _ _ _ us hl => match us, hl with | [_, _], _ => rfl
  have F9 := fun_mk (st := s_mirrored_disc) l9 c9 k9
  have b9 := F9.binds (ps := ["disc"]) fun _ _ _ _ _ _ us hl => match us, hl with | [_], _ => rfl
  have F10 := fun_mk (st := s_law_tank) l10 c10 k10
  have b10 := F10.binds (ps := ["script", "at"]) fun _ _ _ _ _ _ us hl => match us, hl with | [_, _], _ => rfl
  have F11 := fun_mk (st := s_law_tap) l11 c11 k11
  have b11 := F11.binds (ps := ["tank", "many"]) fun _ _ _ _ _ _ us hl => match us, hl with | [_, _], _ => rfl
  have F12 := fun_mk (st := s_law_drawn_count) l12 c12 k12
  have b12 := F12.binds (ps := ["tank", "most"]) fun _ _ _ _ _ _ us hl => match us, hl with | [_, _], _ => rfl
  have F13 := fun_mk (st := s_law_drawn_rim) l13 c13 k13
  have b13 := F13.binds (ps := ["tank", "count"]) fun _ _ _ _ _ _ us hl => match us, hl with | [_, _], _ => rfl
  have F14 := fun_mk (st := s_law_drawn_turn) l14 c14 k14
  have b14 := F14.binds (ps := ["tank"]) fun _ _ _ _ _ _ us hl => match us, hl with | [_], _ => rfl
  have F15 := fun_mk (st := s_law_turned) l15 c15 k15
  have b15 := F15.binds (ps := ["rim", "by"]) fun _ _ _ _ _ _ us hl => match us, hl with | [_, _], _ => rfl
  have F16 := fun_mk (st := s_law_mirrored) l16 c16 k16
  have b16 := F16.binds (ps := ["rim"]) fun _ _ _ _ _ _ us hl => match us, hl with | [_], _ => rfl
  have F17 := fun_mk (st := s_law_right) l17 c17 k17
  have b17 := F17.binds (ps := ["tank", "rim"]) fun _ _ _ _ _ _ us hl => match us, hl with | [_, _], _ => rfl
  have F18 := fun_mk (st := s_law) l18 c18 k18
  exact ⟨_, fun s v => .of_eq rfl, fun base _ _ => ok_law ⟨f0, _, F0, b0, PySem.W.mg_of X G a0, f1, _, F1, b1, PySem.W.mg_of X G a1, f2, _, F2, b2, PySem.W.mg_of X G a2, f3, _, F3, b3, PySem.W.mg_of X G a3, f4, _, F4, b4, PySem.W.mg_of X G a4, f5, _, F5, b5, PySem.W.mg_of X G a5, f6, _, F6, b6, PySem.W.mg_of X G a6, f7, _, F7, b7, PySem.W.mg_of X G a7, f8, _, F8, b8, PySem.W.mg_of X G a8, f9, _, F9, b9, PySem.W.mg_of X G a9, f10, _, F10, b10, PySem.W.mg_of X G a10, f11, _, F11, b11, PySem.W.mg_of X G a11, f12, _, F12, b12, PySem.W.mg_of X G a12, f13, _, F13, b13, PySem.W.mg_of X G a13, f14, _, F14, b14, PySem.W.mg_of X G a14, f15, _, F15, b15, PySem.W.mg_of X G a15, f16, _, F16, b16, PySem.W.mg_of X G a16, f17, _, F17, b17, PySem.W.mg_of X G a17, fa, _, F18, PySem.W.mg_of X G a18, t_MOST_SLOTS, PySem.W.mg_of X G m_MOST_SLOTS, t_MOST_LIGHT, PySem.W.mg_of X G m_MOST_LIGHT, PySem.W.mg_none_of X G z_abs, PySem.W.mg_none_of X G z_bool, PySem.W.mg_none_of X G z_enumerate, PySem.W.mg_none_of X G z_int, PySem.W.mg_none_of X G z_isinstance, PySem.W.mg_none_of X G z_len, PySem.W.mg_none_of X G z_list, PySem.W.mg_none_of X G z_max, PySem.W.mg_none_of X G z_min, PySem.W.mg_none_of X G z_range, PySem.W.mg_none_of X G z_repr⟩⟩
end Sd
open PySem PySem.W PyProof.Rows
set_option maxRecDepth 100000 in
set_option maxHeartbeats 0 in
theorem PySem.Challenge.cw_slitdiscs_k02_turned_and_mirrored_discs_holds : PySem.Challenge.rw_slitdiscs_k02_turned_and_mirrored_discs.Holds := by
  w_on; o_law; k_head; (case hw => w_witness2)
  k_fill
  refine Sd.gwalk (l := PySem.Challenge.rw_slitdiscs_k02_turned_and_mirrored_discs) (n := 63) (k := 7) (x := "script") (sp := Sd.spLaw) rfl (by decide) rfl ⟨rfl, by decide, by decide⟩ (fun w h Y => PySem.W.kIn_of Y) ?F (fun _ _ a ns hl hS => ⟨a, ns, rfl, hS, hl, fun _ => rfl⟩)
  case F =>
    intro w mg fa h KX G hmg
    refine' Sd.all_mk KX G hmg ?a0 ?l0 ?c0 ?k0 ?a1 ?l1 ?c1 ?k1 ?a2 ?l2 ?c2 ?k2 ?a3 ?l3 ?c3 ?k3 ?a4 ?l4 ?c4 ?k4 ?a5 ?l5 ?c5 ?k5 ?a6 ?l6 ?c6 ?k6 ?a7 ?l7 ?c7 ?k7 ?a8 ?l8 ?c8 ?k8 ?a9 ?l9 ?c9 ?k9 ?a10 ?l10 ?c10 ?k10 ?a11 ?l11 ?c11 ?k11 ?a12 ?l12 ?c12 ?k12 ?a13 ?l13 ?c13 ?k13 ?a14 ?l14 ?c14 ?k14 ?a15 ?l15 ?c15 ?k15 ?a16 ?l16 ?c16 ?k16 ?a17 ?l17 ?c17 ?k17 ?a18 ?l18 ?c18 ?k18 ?m_MOST_SLOTS ?m_MOST_LIGHT ?z_abs ?z_bool ?z_enumerate ?z_int ?z_isinstance ?z_len ?z_list ?z_max ?z_min ?z_range ?z_repr
    (case a0 => k_is)
    (case l0 => k_is)
    (case c0 => k_is)
    (case k0 => k_is)
    (case a1 => k_is)
    (case l1 => k_is)
    (case c1 => k_is)
    (case k1 => k_is)
    (case a2 => k_is)
    (case l2 => k_is)
    (case c2 => k_is)
    (case k2 => k_is)
    (case a3 => k_is)
    (case l3 => k_is)
    (case c3 => k_is)
    (case k3 => k_is)
    (case a4 => k_is)
    (case l4 => k_is)
    (case c4 => k_is)
    (case k4 => k_is)
    (case a5 => k_is)
    (case l5 => k_is)
    (case c5 => k_is)
    (case k5 => k_is)
    (case a6 => k_is)
    (case l6 => k_is)
    (case c6 => k_is)
    (case k6 => k_is)
    (case a7 => k_is)
    (case l7 => k_is)
    (case c7 => k_is)
    (case k7 => k_is)
    (case a8 => k_is)
    (case l8 => k_is)
    (case c8 => k_is)
    (case k8 => k_is)
    (case a9 => k_is)
    (case l9 => k_is)
    (case c9 => k_is)
    (case k9 => k_is)
    (case a10 => k_is)
    (case l10 => k_is)
    (case c10 => k_is)
    (case k10 => k_is)
    (case a11 => k_is)
    (case l11 => k_is)
    (case c11 => k_is)
    (case k11 => k_is)
    (case a12 => k_is)
    (case l12 => k_is)
    (case c12 => k_is)
    (case k12 => k_is)
    (case a13 => k_is)
    (case l13 => k_is)
    (case c13 => k_is)
    (case k13 => k_is)
    (case a14 => k_is)
    (case l14 => k_is)
    (case c14 => k_is)
    (case k14 => k_is)
    (case a15 => k_is)
    (case l15 => k_is)
    (case c15 => k_is)
    (case k15 => k_is)
    (case a16 => k_is)
    (case l16 => k_is)
    (case c16 => k_is)
    (case k16 => k_is)
    (case a17 => k_is)
    (case l17 => k_is)
    (case c17 => k_is)
    (case k17 => k_is)
    (case a18 => k_is)
    (case l18 => k_is)
    (case c18 => k_is)
    (case k18 => k_is)
    (case m_MOST_SLOTS => k_is)
    (case m_MOST_LIGHT => k_is)
    (case z_abs => k_is)
    (case z_bool => k_is)
    (case z_enumerate => k_is)
    (case z_int => k_is)
    (case z_isinstance => k_is)
    (case z_len => k_is)
    (case z_list => k_is)
    (case z_max => k_is)
    (case z_min => k_is)
    (case z_range => k_is)
    (case z_repr => k_is)
