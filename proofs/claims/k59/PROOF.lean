import PyProof.Rows.All
import Wide.All
import OpenK.AllK
import Wide.FinOn
import HandS.Comp
import HandS.Ends
import HandS.Iter
import HandS.Words
import HandS.WordsList
import HandS.Walk
import HandS.IsInst
import HandS.Wide
import PyProof.ReprRoads
import PyProof.ReprLen
import KE.DataMinMax
import HandS.Deep
import KE.KRevSl
import PySem.Challenge.RW_slitdiscs_k59_whole_turned_lights
set_option Elab.async false
set_option linter.all false
set_option maxRecDepth 100000
set_option maxHeartbeats 4000000
/-! Own layer over HandS: defs that run where no repr is under way (FnG), repr of data, powers of great ints, calls by keywords alone. -/
namespace Sd
open PySem PySem.Spec PyProof.Rows L2

/-! ### a def called where no repr is under way -/
structure FnG (P : Program) (w : World) (K : PySem.W.Frag) (mg : Str → Option Value) (base : Heap) (C : CXT) (k : Nat) (f : Addr) (fd : FuncData) (ps : List Str) (sp : Sp) : Prop where
  cnt : ∀ {vs H Q E}, sp vs H Q E → vs.length = ps.length
  go : ∀ (A : Around) (out : List Env) (s : Shared) (H : Hp) (ar : Args) (us : List Value) (vs : List V) (Q : VK) (E : XK), A.guards = some [] → Room k A →
    Env0 P w K mg base A out s H → BindsTo s fd ar (ps.zip us) → Vals vs us → sp vs H Q E →
    codeAny (model P w) A (.call (.ref f) ar) (CR C out P w H s Q E) s

section
variable {P : Program} {w : World} {K : PySem.W.Frag} {mg : Str → Option Value} {base : Heap} {C : CXT}
theorem gfn_of {k : Nat} {f : Addr} {nm ql : Str} {pms : Arguments} {bd : List Stmt} {sc : Scope} {v1 v2 v3 v4 cd v5 oc : Value} {an od : Option Addr}
    {osl : Array (Option Value)} {N ps : List Str} {sp : Sp}
    (lk : K.lookup f = some ⟨oc, od, .func (PySem.W.fnOf nm ql pms bd sc v1 v2 v3 v4 an cd v5), osl⟩)
    (hc : PySem.W.codeIn K cd ql = true) (S : FnScope N ps sc)
    (len : ∀ vs H Q E, sp vs H Q E → vs.length = ps.length)
    (hb : ∀ (A : Around) (out : List Env) (s : Shared) (H : Hp) (vs : List V) (Q : VK) (E : XK), A.guards = some [] →
      Room k (A.deeper (envOfC ql sc s.heap.objs.size f cd)) → sp vs H Q E →
      ∃ t, PSs (cxOf C P w K mg base N ql sc f cd A out s H E) bd t ∧ t { nx := fun _ H' => Q .non H', rt := Q } (start N vs) H) :
    FnG P w K mg base C (k + 1) f (PySem.W.fnOf nm ql pms bd sc v1 v2 v3 v4 an cd v5) ps sp := by
  refine ⟨fun h => len _ _ _ _ h, fun A out s H ar us vs Q E hg hr e0 hbd r hsp => ?_⟩
  have n1 := len _ _ _ _ hsp
  have kx : K.In s.heap := e0.mod.kin.keeps fun b o e => (e0.bs b o e).1
  have li : s.heap.NoLimit := e0.mod.nolimit.keeps fun b o e => (e0.bs b o e).1
  refine codeAny_call_function hr.depth (kx _ _ lk) rfl S.co S.gen rfl (PySem.W.codeRec_of kx hc) (hbd _ _ _ _ ?_)
  refine wpAny_newFunctionEnv_cells S.kind (fun ⟨n, v⟩ hy => ?_) fun env he s1 x => ?_
  · rcases S.par n (List.of_mem_zip hy).1 with q | q
    · exact .inl q
    · exact .inr ⟨q, PySem.W.cellsFrom_some _ _ _ (.inl q)⟩
  subst he
  refine ⟨li.keeps x.toInCall.keep, codeAny_func ?_⟩
  obtain ⟨t, ht, hq⟩ := hb A out s H vs Q E hg (hr.deeper _) hsp
  have I0 := inv_start (CX := C) (E := E) S hr.hd e0 n1 r x
  refine wpAny_mono (ht.run [] s1 (start N vs) H _ I0 hq) (fun fl s' hs => ?_) fun e s' hs => hs
  cases fl with
  | next =>
    obtain ⟨σ', H', J, q⟩ := hs
    exact ⟨.non, H', J.os, J.bare, J.base, J.hok, rfl, q⟩
  | ret u =>
    obtain ⟨v, σ', H', J, rv, q⟩ := hs
    exact ⟨v, H', J.os, J.bare, J.base, J.hok, rv, q⟩
  | brk => exact hs.elim fun _ ⟨_, _, q⟩ => False.elim q
  | cont => exact hs.elim fun _ ⟨_, _, q⟩ => False.elim q

/-- as Fun.ok, where no repr is under way -/
theorem okG {x ql : Str} {st : Stmt} {f : Addr} {fd : FuncData} {N ps : List Str} {k : Nat} {sp : Sp} (F : Fun K x ql st f fd) (S : FnScope N ps (defScope st))
    (len : ∀ vs H Q E, sp vs H Q E → vs.length = ps.length)
    (hb : ∀ (cd : Value) (A : Around) (out : List Env) (s : Shared) (H : Hp) (vs : List V) (Q : VK) (E : XK), A.guards = some [] →
      Room k (A.deeper (envOfC ql (defScope st) s.heap.objs.size f cd)) → sp vs H Q E →
      ∃ t, PSs (cxOf CX0 P w K mg base N ql (defScope st) f cd A out s H E).nox (defBody st) t ∧ t { nx := fun _ H' => Q .non H', rt := Q } (start N vs) H) :
    FnG P w K mg base CX0 (k + 1) f fd ps sp := by
  obtain ⟨oc, od, v2, v3, v4, an, cd, v5, osl, rfl, lk, hc⟩ := F.ex
  refine gfn_of lk hc S len fun A out s H vs Q E hg hr hsp => ?_
  obtain ⟨t, h, q⟩ := hb cd A out s H vs Q E hg hr hsp
  exact ⟨t, h.nox, q⟩
end

section
variable {X : Cx} {C : CXT} {k : Nat} {f : Addr} {fd : FuncData} {ps ks : List Str} {sp : Sp} {dvs : List V} {ds : List Value} {E : XK} {x : Str} {p pos : Pos} {e : Expr} {es : List Expr} {kws : List Keyword} {t tk : TA}
theorem endG {pins : List (Addr × Obj)} {σ : L2.St} {H : Hp} {s s' : Shared} {Q : VK} {r : Result} (hx : Passes C X E) (I : Inv X pins σ H s) (h : CR C X.stack X.prog X.w H s Q E r s') :
    (match r with | .ok (.ret u) => EP X pins σ Q u s' | .ok _ => False | .error e => X.xe e s') := by
  cases r with
  | error e => exact hx pins σ H s e s' I h
  | ok fl =>
    cases fl with
    | ret u => exact I.after h
    | next => exact h
    | brk => exact h
    | cont => exact h
theorem goG {pins : List (Addr × Obj)} {σ : L2.St} {H : Hp} {s : Shared} {Q : VK} {us : List Value} {vs : List V} (F : FnG X.prog X.w X.K X.mg X.base C k f fd ps sp) (hA : X.A.guards = some []) (hr : Room k X.A)
    (hb : Binds X.K fd ps ds) (hd : Vals dvs ds) (hx : Passes C X E) (I : Inv X pins σ H s) (r : Vals vs us) (h : sp (vs ++ dvs) H Q E) :
    wpAny (model X.prog X.w) X.A (call (.ref f) us) (EP X pins σ Q) X.xe s := by
  have r2 := r.append hd
  have n2 : (us ++ ds).length = ps.length := r2.length.symm.trans (F.cnt h)
  refine wpAny_call (codeAny_mono (F.go X.A X.stack s H ⟨us, []⟩ _ _ Q E hA hr I.env0 (hb s us I.kIn n2) r2 h) fun r s' hq => ?_)
  have z := endG hx I hq
  cases r with
  | error e => exact z
  | ok fl => cases fl <;> exact z
/-- f(e, ..) where no repr is under way -/
theorem pe_callG (F : FnG X.prog X.w X.K X.mg X.base C k f fd ps sp) (hA : X.A.guards = some []) (hr : Room k X.A) (hg : Gl X x) (hm : X.mg x = some (.ref f)) (hk : PySem.W.keepIn X.K (.ref f) = true)
    (hb : Binds X.K fd ps ds) (hd : Vals dvs ds) (hx : Passes C X E) (ha : PA X (e :: es) t) (hdb : (x == ("__debug__" : Str)) = false := by decide)
    (he : starEach (e :: es) X.env = (false, eval e X.env) :: starEach es X.env := by rfl) (hpl : (backTo pos (starEach es X.env)).any (·.1) = false := by rfl) :
    PE X (.Call (.Name x p) (e :: es) [] pos) (tCall sp dvs E t) := by
  refine ⟨fun pins s σ H Q I h => wpAny_Call_Name_kw (ld_glob I hg hm ?_ hdb)⟩
  refine PySem.W.callWith_K (h₀ := X.base) I.ok.mod.kin hk (thn (ha.run pos pins s σ H _ I h) fun us s1 z => ?_) he hpl
  obtain ⟨vs, H1, I1, r, q⟩ := z
  exact ⟨I1.kIn, goG F hA hr hb hd hx I1 r q⟩
/-- f(k = v, ..): keywords alone -/
def tCallW (sp : Sp) (gV : List V → List V) (E : XK) (tk : TA) : TE := fun σ H Q => tk σ H fun zs H2 => sp (gV zs) H2 Q E
variable {g : List Value → List Value → List Value} {gV : List V → List V → List V}
theorem pe_callW (F : FnOk X.prog X.w X.K X.mg X.base C k f fd ps sp) (hr : Room k X.A) (hg : Gl X x) (hm : X.mg x = some (.ref f)) (hk : PySem.W.keepIn X.K (.ref f) = true) (hb : KBinds X.K fd ps ks g gV) (hx : Passes C X E)
    (hkw : PK X kws tk) (hall : (backToKw pos (keywordEach kws X.env)).all (·.1.isSome) = true := by rfl) (hks : (backToKw pos (keywordEach kws X.env)).filterMap (·.1) = ks := by rfl)
    (hdb : (x == ("__debug__" : Str)) = false := by decide)
    (hpl : ((backTo pos (starEach [] X.env)).any (·.1) || (backToKw pos (keywordEach kws X.env)).any (·.1.isNone)) = false := by rfl) :
    PE X (.Call (.Name x p) [] kws pos) (tCallW sp (gV []) E tk) := by
  refine ⟨fun pins s σ H Q I h => wpAny_Call_Name_kw (ld_glob I hg hm ?_ hdb)⟩
  refine PySem.W.callWith_KW0 (h₀ := X.base) I.ok.mod.kin hk hall (thn (hkw.run pos pins s σ H _ I h) fun ws s2 z => ?_) hpl
  obtain ⟨zs, H2, I2, rz, q2⟩ := z
  refine ⟨I2.kIn, ?_⟩
  rw [hks]
  exact run_fnk F hr hb hx I2 .nil rz q2
end

/-! ### the law's call -/
theorem glaw {P : Program} {w : World} {K : PySem.W.Frag} {mg mb : Str → Option Value} {k : Nat} {fa a : Addr} {fd : FuncData} {x : Str} {sp : Sp} {s1 : Shared} {vs : List Value} {ns : List Int}
    (kx : K.In s1.heap) (hn : s1.heap.Ns mainGlobals mg) (hb : s1.heap.Ns builtinsNs mb) (hbb : ∀ x : Str, x ≠ "__name__" → mb x = bootBuiltins x) (hlim : s1.heap.NoLimit) (hgs : s1.gens = #[])
    (ha : s1.heap.get? a = some { cls := .type "list", data := .seq vs.toArray }) (hi : IntsAre vs ns) (hl : ns.length ≤ sizeLine) (hr : Room k callerA)
    (F : ∀ base : Heap, K.In base → base.Ns mainGlobals mg → FnG P w K mg base CX0 k fa fd [x] sp) (hbind : ∀ (s : Shared) (u : Value), BindsTo s fd ⟨[u], []⟩ [(x, u)])
    (hsp : ∀ H : Hp, SqL K H a (ns.map V.int) → sp [.ref a] H (fun v _ => v = .bl true) E0) :
    codeAny (model P w) callerA (.call (.ref fa) ⟨[.ref a], []⟩) (fun r s' => r = .ok (.ret (.bool true)) ∧ OldK s1.heap s'.heap ∧ s'.os = s1.os ∧ AllBare s'.gens) s1 := by
  have rv := vals_ints hi
  have nv := hi.length
  -- the abstract heap: the script, locked, unless the module itself holds it
  have main : ∀ H : Hp, (∀ b, H b = none ∨ (b = a ∧ H b = some (.frz { cls := .type "list", data := .seq vs.toArray } (.lst (ns.map V.int))))) → (H a ≠ none → K.lookup a = none) →
      SqL K H a (ns.map V.int) → HOk P w H s1.heap →
      codeAny (model P w) callerA (.call (.ref fa) ⟨[.ref a], []⟩) (fun r s' => r = .ok (.ret (.bool true)) ∧ OldK s1.heap s'.heap ∧ s'.os = s1.os ∧ AllBare s'.gens) s1 := by
    intro H hO hK hS hok
    have out : ∀ {b : Addr} {o : Obj}, s1.heap.get? b = some o → (b = a → H b = none) → (hidT s1.heap H).get? b = some o := fun {b o} e n => hidT_get e (by
      rcases hO b with z | ⟨z, _⟩
      · exact z
      · exact n z)
    have dct : ∀ {b : Addr} {m : Str → Option Value}, s1.heap.Ns b m → (hidT s1.heap H).Ns b m := fun {b m} ⟨o, es, ep, e, d, r⟩ => ⟨o, es, ep, out e (fun z => by
      subst z
      rw [ha] at e
      cases e
      cases (show Data.seq vs.toArray _ = Data.dict es ep from d)), d, r⟩
    have kb : K.In (hidT s1.heap H) := fun b o e => out (kx b o e) fun z => by
      subst z
      cases q : H b with
      | none => rfl
      | some u =>
        rw [hK (by rw [q]; exact fun z => nomatch z)] at e
        cases e
    have md : Mod K mg (hidT s1.heap H) := ⟨kb, dct hn, ⟨mb, dct hb, hbb⟩, let ⟨mc, h1, h2⟩ := hlim; ⟨mc, dct h1, h2⟩⟩
    have en : Env0 P w K mg (hidT s1.heap H) callerA [] s1 H := ⟨rfl, md, fun b o e => of_hidT e, Nat.le_of_eq (hidT_size _ _), trivial, fun b z => (List.not_mem_nil z).elim, hok, .of_eq hgs⟩
    refine codeAny_mono ((F _ kb (dct hn)).go callerA [] s1 H ⟨[.ref a], []⟩ [.ref a] [.ref a] _ _ rfl hr en (hbind s1 (.ref a)) (.cons rfl .nil) (hsp H hS)) fun r s' h => ?_
    cases r with
    | error e => exact False.elim h
    | ok fl =>
      cases fl with
      | next => exact False.elim h
      | brk => exact False.elim h
      | cont => exact False.elim h
      | ret u =>
        obtain ⟨v, H', os, br, un, ok', r', q⟩ := h
        cases (show v = .bl true from q)
        cases (show u = Value.bool true from r')
        refine ⟨rfl, OldK.of_keep fun b o e => ?_, os, br⟩
        rcases hO b with z | ⟨_, z⟩
        · exact un.keep b o e z (fun z => (List.not_mem_nil z).elim) (fun z => (List.not_mem_nil z).elim)
        · have e1 := (hok b _ z).1
          have e2 := (ok' b _ (un.frzs b _ _ z)).1
          rw [e] at e1
          cases e1
          exact e2
  cases hk : K.lookup a with
  | some o =>
    have e := kx a o hk
    rw [ha] at e
    cases e
    refine main (fun _ => none) (fun _ => .inl rfl) (fun z => absurd rfl z) (.inr ⟨_, vs.toArray, _, hk, rfl, rfl, rfl, ?_, ?_⟩) fun b u z => nomatch (show (none : Option HO) = some u from z)
    · rw [List.size_toArray, nv]
      exact hl
    · simpa using rv
  | none =>
    refine main (fun b => if b = a then some (.frz { cls := .type "list", data := .seq vs.toArray } (.lst (ns.map V.int))) else none) (fun b => ?_) (fun _ => hk) (.inl (.inr ⟨{ cls := .type "list", data := .seq vs.toArray }, if_pos rfl⟩)) (fun b u z => ?_)
    · by_cases q : b = a
      · exact .inr ⟨q, if_pos q⟩
      · exact .inl (if_neg q)
    · by_cases q : b = a
      · have z2 := (if_pos q).symm.trans z
        cases z2
        subst q
        exact ⟨ha, by rw [List.length_map]; exact hl, vs, _, rv, ha⟩
      · have z2 := (if_neg q).symm.trans z
        cases z2
theorem gwalk {l : PySem.W.OpenLaw} {n k : Nat} {q : Program} {lo : List Str} {XP : (Str → Option Value) → Heap → Prop} {YP : World → Heap → Prop} {d : DefRec} {K : Params → PySem.W.Frag} {sp : PySem.W.Frag → Sp} {x : Str}
    (hn : l.most = some n) (hn2 : n ≤ sizeLine) (hdf : d.params.defaults = []) (hr : Room k callerA) (hY : ∀ (w : World) (h : Heap), YP w h → (K w.params).In h)
    (F : ∀ (w : World) (mg : Str → Option Value) (fa : Addr) (h : Heap), (K w.params).In h → h.Ns mainGlobals mg → mg d.name = some (.ref fa) →
      ∃ fd : FuncData, (∀ (s : Shared) (u : Value), BindsTo s fd ⟨[u], []⟩ [(x, u)]) ∧
        ∀ base : Heap, (K w.params).In base → base.Ns mainGlobals mg → FnG l.prog w (K w.params) mg base CX0 k fa fd [x] (sp (K w.params)))
    (hsp : ∀ (K : PySem.W.Frag) (H : Hp) (a : Addr) (ns : List Int), ns.length ≤ n → SqL K H a (ns.map V.int) → sp K [.ref a] H (fun v _ => v = .bl true) E0) :
    PySem.W.WalkO q lo XP YP l.row.toRowW d [] (fun f vs => PySem.call f vs) := by
  refine Att.attach_call hn hdf fun w s₀ s₁ mg mb fa o pm cd doc a vs ns G Y ho hd hcd hmg hobj hints hlen hg => ?_
  have kx := hY w _ Y
  obtain ⟨fd, hb, hF⟩ := F w mg fa _ kx G.T.g hmg
  exact glaw kx G.T.g G.T.b G.T.builtins G.T.nolimit hg hobj hints (Nat.le_trans hlen hn2) hr hF hb fun H hS => hsp (K w.params) H a ns hlen hS

/-! ### repr of data -/
def rRepr (K : PySem.W.Frag) : List V → Hp → VK → Prop := fun xs H Q => ∃ (a : Addr) (d : PyData), xs = [.ref a] ∧ Dp K H (.ref a) d ∧ d.showable = true ∧ d.hasDict = false ∧ d.depth ≤ 32 ∧ d.shown.length ≤ sizeLine ∧ Q (.str d.shown) H
theorem call_repr {X : Cx} (hA : X.A.guards = some []) {k : Nat} (hr : Room k X.A) : CallR X (.builtin "repr") (rRepr X.K) := by
  intro pins s σ H xs us Q I r h
  obtain ⟨a, d, rfl, hd, h1, h2, h3, h4, q⟩ := h
  cases r with
  | cons r1 r2 =>
    cases r2
    cases r1
    obtain ⟨as, rd⟩ := Dp.reads I d _ _ hd rfl
    have hu := hr.units
    refine repr_of_reads' rd h1 (fun z => by rw [h2] at z; cases z) hA (by omega) (fun _ _ e => e) (fun h' u tk kp => ?_) h4
    exact ⟨.str d.shown, H, I.kept (t' := tk) kp, ⟨u, rfl⟩, q⟩

/-- repr of any data -/
def rReprV (K : PySem.W.Frag) : List V → Hp → VK → Prop := fun xs H Q => ∃ (x : V) (d : PyData), xs = [x] ∧ Dp K H x d ∧ d.showable = true ∧ d.hasDict = false ∧ d.depth ≤ 32 ∧ d.shown.length ≤ sizeLine ∧ Q (.str d.shown) H
theorem reprV {X : Cx} {K : PySem.W.Frag} (hK : X.K = K) (hA : X.A.guards = some []) {k : Nat} (hr : Room k X.A) : CallR X (.builtin "repr") (rReprV K) := by
  subst hK
  intro pins s σ H xs us Q I r h
  obtain ⟨x, d, rfl, hd, h1, h2, h3, h4, q⟩ := h
  have ref : ∀ a : Addr, x = .ref a → wpAny (model X.prog X.w) X.A (call (.builtin "repr") us) (EP X pins σ Q) X.xe s := fun a e => by
    subst e
    exact call_repr hA hr pins s σ H _ us Q I r ⟨a, d, rfl, hd, h1, h2, h3, h4, q⟩
  cases hd with
  | lst _ _ => exact ref _ rfl
  | tup _ _ => exact ref _ rfl
  | non =>
    cases r with
    | cons r1 r2 =>
      cases r2
      cases r1
      exact PySem.P.repr_of_none ⟨.str (PyData.shown .none), H, I.tok _, ⟨_, rfl⟩, q⟩
  | bl b =>
    cases r with
    | cons r1 r2 =>
      cases r2
      cases r1
      cases b with
      | true => exact PySem.P.repr_of_bool ⟨.str (PyData.shown (.bool true)), H, I.tok _, ⟨_, rfl⟩, q⟩
      | false => exact PySem.P.repr_of_bool ⟨.str (PyData.shown (.bool false)), H, I.tok _, ⟨_, rfl⟩, q⟩
  | int i =>
    cases r with
    | cons r1 r2 =>
      cases r2
      obtain ⟨t, rfl⟩ := r1
      have z : i.natAbs.log2 < 1920 := by
        simp only [PyData.showable] at h1
        exact of_decide_eq_true h1
      exact PySem.P.repr_of_int z ⟨.str (PyData.shown (.int i)), H, I.tok _, ⟨_, rfl⟩, q⟩
  | str y =>
    cases r with
    | cons r1 r2 =>
      cases r2
      obtain ⟨t, rfl⟩ := r1
      exact PySem.P.repr_of_str ⟨.str (PyData.shown (.str y)), H, I.tok _, ⟨_, rfl⟩, q⟩ h4

/-! ### a statement, then the rest by a word between them -/
def tMid (t u : TS) : TS := fun D σ H => ∃ M : L2.St → Hp → Prop, t { D with nx := M } σ H ∧ ∀ σ' H', M σ' H' → u D σ' H'
theorem pss_mid {X : Cx} {st : Stmt} {rs : List Stmt} {t u : TS} (h1 : PS X st t) (h2 : PSs X rs u) : PSs X (st :: rs) (tMid t u) :=
  ⟨fun pins s σ H D I ⟨M, hm, hu⟩ => wpAny_execs_cons (thn (h1.run pins s σ H { D with nx := M } I hm) fun f s1 q => by
    cases f with
    | next => exact q.elim fun σ' ⟨H', I', z⟩ => h2.run pins s1 σ' H' D I' (hu σ' H' z)
    | ret v => exact q
    | brk => exact q
    | cont => exact q)⟩

/-! ### rules with the written part named (for blocks of comprehensions) -/
theorem ixL {X : Cx} {K : PySem.W.Frag} (h : X.K = K) : IxR X (rIxL K) := h ▸ ix_list
theorem slL {X : Cx} {K : PySem.W.Frag} (h : X.K = K) : SlR X (rSlL K) := h ▸ sl_list
def rLenL (K : PySem.W.Frag) : List V → Hp → VK → Prop := fun xs H Q => ∃ (p : Addr) (ys : List V), xs = [.ref p] ∧ (SqL K H p ys ∨ SqT K H p ys) ∧ Q (.int ys.length) H
theorem lenL {X : Cx} {K : PySem.W.Frag} (h : X.K = K) : CallR X (.builtin "len") (rLenL K) := h ▸ call_len_seq
theorem sumL {X : Cx} {K : PySem.W.Frag} (h : X.K = K) (hc : X.calm = true) : CallR X (.builtin "sum") (rSum K) := h ▸ cr_sum hc
theorem maxL {X : Cx} {K : PySem.W.Frag} (h : X.K = K) (hc : X.calm = true) : CallR X (.builtin "max") (rMax K) := h ▸ cr_max hc
theorem minL {X : Cx} {K : PySem.W.Frag} (h : X.K = K) (hc : X.calm = true) : CallR X (.builtin "min") (rMin K) := h ▸ cr_min hc
theorem isiL {X : Cx} {K : PySem.W.Frag} (h : X.K = K) : CallR X (.builtin "isinstance") (rIsi K) := h ▸ call_isi
theorem reprL {X : Cx} {K : PySem.W.Frag} (h : X.K = K) (hA : X.A.guards = some []) {k : Nat} (hr : Room k X.A) : CallR X (.builtin "repr") (rRepr K) := h ▸ call_repr hA hr
theorem pg_tupL {X : Cx} {K : PySem.W.Frag} {es : List Expr} {j : Nat} {pos : Pos} {t : TGs} {n : Nat} (h : X.K = K) (hc : X.calm = true) (hs : PGs X es t)
    (hn : (assignEach es X.env).length = n := by rfl) (hst : (assignEach es X.env).findIdx? (·.1) = none := by rfl) : PG X (.Tuple es j pos) (gTup K n t) := h ▸ pg_tup hc hs hn hst
theorem enumL {X : Cx} {K : PySem.W.Frag} {elts : List Expr} {kk : Nat} {tpos p pos : Pos} {e : Expr} {ta : TA} (h : X.K = K) (hg : Gl X "enumerate") (hm : X.mg "enumerate" = none) (ha : PA X [e] ta)
    (hs : starEach [e] X.env = [(false, eval e X.env)] := by rfl) : PI X (.Tuple elts kk tpos) (.Call (.Name "enumerate" p) [e] [] pos) (iEnum K ta) := h ▸ pi_enum hg hm ha hs
theorem zipL {X : Cx} {K : PySem.W.Frag} {elts : List Expr} {kk : Nat} {tpos p pos : Pos} {e e2 : Expr} {ta : TA} (h : X.K = K) (hg : Gl X "zip") (hm : X.mg "zip" = none) (ha : PA X [e, e2] ta)
    (hs : starEach [e, e2] X.env = (false, eval e X.env) :: starEach [e2] X.env := by rfl) (hpl : (backTo pos (starEach [e2] X.env)).any (·.1) = false := by rfl) :
    PI X (.Tuple elts kk tpos) (.Call (.Name "zip" p) [e, e2] [] pos) (iZip K ta) := h ▸ pi_zip hg hm ha hs hpl
theorem pi_tupL {X : Cx} {K : PySem.W.Frag} {tg l : Expr} {tl : TE} (h : X.K = K) (hl : PE X l tl) : PI X tg l (iTup K tl) := h ▸ pi_tup hl
theorem pi_listL {X : Cx} {K : PySem.W.Frag} {tg l : Expr} {tl : TE} (h : X.K = K) (hl : PE X l tl) : PI X tg l (iList K tl) := h ▸ pi_list hl
def rListL (K : PySem.W.Frag) : List V → Hp → VK → Prop := fun xs H Q => ∃ (p : Addr) (ys : List V), xs = [.ref p] ∧ (SqL K H p ys ∨ SqT K H p ys) ∧ ∀ l, H l = none → Q (.ref l) (upd H l (.lst ys))
theorem listL {X : Cx} {K : PySem.W.Frag} (h : X.K = K) : CallR X (.type "list") (rListL K) := h ▸ call_list_of
theorem eqD {X : Cx} {K : PySem.W.Frag} (h : X.K = K) {k : Nat} (hr : Room k X.A) : OpR X (compareOp .Eq) (rEqD K) := h ▸ op_eqD hr.units
theorem neD {X : Cx} {K : PySem.W.Frag} (h : X.K = K) {k : Nat} (hr : Room k X.A) : OpR X (compareOp .NotEq) (rNeD K) := h ▸ op_neD hr.units

/-! ### a power of a great int, the exponent small -/
def CPow3 (i j : Int) : Prop := j = 3 ∧ 0 ≤ i ∧ i.natAbs < 2 ^ 200
theorem op_pow3 {X : Cx} : OpR X (binaryOp .Pow) (rI CPow3 fun i j => .int (i ^ j.toNat)) := opI fun i j t u s Q E hc q => by
  obtain ⟨rfl, h0, h1⟩ := hc
  by_cases e : (i == 0 || i == 1) = true
  · refine PySem.AutoIntOps.pow_1 (by decide) (by decide) e ?_
    have e2 : i ^ (3 : Int).toNat = i := by
      rcases (Bool.or_eq_true _ _).mp e with z | z
      · rw [eq_of_beq z]; rfl
      · rw [eq_of_beq z]; rfl
    rw [e2] at q
    exact q
  · refine PySem.AutoIntOps.pow_4 (by decide) (by decide) e ?_ ?_ q
    · intro z
      have := eq_of_beq z
      omega
    · intro z
      unfold Builtin.Int.intTooBig at z
      have z3 := of_decide_eq_true z
      have b : Builtin.Int.intBits i ≤ 201 := by
        unfold Builtin.Int.intBits
        have y := PySem.Flt.log2_lt_of (show 0 < 200 by decide) h1
        split <;> omega
      have e : bitsLine = 134217728 := by decide
      rw [e] at z3
      omega
end Sd

namespace Sd
open PySem PySem.Spec PyProof.Rows L2

/-! ### heaps -/
/-- all but T is as it was -/
def But (T : Addr) (H H' : Hp) : Prop := ∀ b o, H b = some o → b ≠ T → H' b = some o
theorem But.refl (T : Addr) (H : Hp) : But T H H := fun _ _ h _ => h
theorem But.trans {T : Addr} {H H1 H2 : Hp} (a : But T H H1) (b : But T H1 H2) : But T H H2 := fun c o h n => b c o (a c o h n) n
theorem But.of {T : Addr} {H H' : Hp} (s : Same H H') : But T H H' := fun b o h _ => s b o h
theorem But.lst {T : Addr} {H H' : Hp} {a : Addr} {o : HO} (s : But T H H') (h : H a = some o) (n : a ≠ T) : H' a = some o := s a o h n
theorem new_same {H : Hp} {p : Addr} {o : HO} (h : H p = none) : Same H (upd H p o) := fun b x e => by
  rw [upd_ne (ne_of_none e h)]
  exact e
theorem upd_but {H : Hp} {T : Addr} {o : HO} : But T H (upd H T o) := fun b x e n => by
  rw [upd_ne n]
  exact e
theorem free_but {T : Addr} {H H' : Hp} {p : Addr} {o : HO} (s : But T H H') (hT : H T = some o) (h : H' p = none) (hT' : H' T ≠ none) : H p = none := by
  cases q : H p with
  | none => rfl
  | some u =>
    by_cases e : p = T
    · subst e
      exact absurd h hT'
    · rw [s p u q e] at h
      cases h
/-- the law's tank -/
def Tank (H : Hp) (T : Addr) (c : Int) : Prop := ∃ x y z : Int, H T = some (.lst [.int x, .int y, .int z]) ∧ 0 ≤ x ∧ 0 ≤ y ∧ y < 2 ^ 100 ∧ 0 ≤ z ∧ z ≤ c
theorem Tank.some {H : Hp} {T : Addr} {c : Int} (h : Tank H T c) : ∃ o, H T = some o := let ⟨_, _, _, e, _⟩ := h; ⟨_, e⟩
theorem Tank.same {H H' : Hp} {T : Addr} {c : Int} (h : Tank H T c) (s : Same H H') : Tank H' T c := let ⟨x, y, z, e, r⟩ := h; ⟨x, y, z, s _ _ e, r⟩
theorem Tank.ne {H : Hp} {T p : Addr} {c : Int} (h : Tank H T c) (n : H p = none) : p ≠ T := fun e => by
  obtain ⟨o, q⟩ := h.some
  rw [e, q] at n
  cases n
theorem Tank.up {H : Hp} {T p : Addr} {c : Int} {o : HO} (h : Tank H T c) (n : H p = none) : Tank (upd H p o) T c := h.same (new_same n)
theorem Tank.mono {H : Hp} {T : Addr} {c d : Int} (h : Tank H T c) (l : c ≤ d) : Tank H T d := let ⟨x, y, z, e, a, b, r, f, g⟩ := h; ⟨x, y, z, e, a, b, r, f, by omega⟩

/-! ### lists of ints -/
theorem tyx_list {K : PySem.W.Frag} {H : Hp} {a : Addr} {xs : List V} (h : SqL K H a xs) : TyX K H (.ref a) (.type "list") := by
  rcases h with (h | ⟨o, h⟩) | ⟨o, its, n, hk, hc, _⟩
  · exact .base (.lst h)
  · exact .base (.frz h)
  · exact .kList hk hc
theorem kit_int_int {K : PySem.W.Frag} : PySem.W.kitOne K (.type "int") (.type "int") = some true := kit_ty (by decide +kernel)
theorem kit_int_bool {K : PySem.W.Frag} : PySem.W.kitOne K (.type "int") (.type "bool") = some false := kit_ty (by decide +kernel)
theorem kit_list_list {K : PySem.W.Frag} : PySem.W.kitOne K (.type "list") (.type "list") = some true := kit_ty (by decide +kernel)
/-- a rim: from 1 to 40 numbers from 0 to 10 ** 30 -/
structure Rim (ns : List Int) : Prop where
  pos : 1 ≤ ns.length
  le : ns.length ≤ 40
  all : ∀ n ∈ ns, 0 ≤ n ∧ n ≤ 1000000000000000000000000000000
theorem sz40 {n : Nat} (h : n ≤ 100000) : n < sizeLine := Nat.lt_of_le_of_lt h (by decide)
theorem sz40' {n : Nat} (h : n ≤ 100000) : n ≤ sizeLine := Nat.le_of_lt (sz40 h)
theorem int_at {ns : List Int} {i : Nat} {x : V} (h : (ns.map V.int)[i]? = some x) : ∃ n, ns[i]? = some n ∧ x = .int n := by
  rw [List.getElem?_map] at h
  cases e : ns[i]? with
  | none =>
    rw [e] at h
    cases h
  | some n =>
    rw [e] at h
    exact ⟨n, rfl, (Option.some.inj h).symm⟩
theorem at_int {ns : List Int} {i : Nat} {n : Int} (h : ns[i]? = some n) : (ns.map V.int)[i]? = some (.int n) := by
  rw [List.getElem?_map, h]
  rfl
/-- xs[i] at an int that lies within -/
theorem at_in {ns : List Int} {i : Int} (h0 : 0 ≤ i) (h1 : i < ns.length) : ∃ n, ns[i.toNat]? = some n ∧ atI (ns.map V.int) i = some (.int n) := by
  have h2 : i.toNat < ns.length := by omega
  obtain ⟨j, rfl⟩ : ∃ j : Nat, i = (j : Int) := ⟨i.toNat, by omega⟩
  have h3 : j < ns.length := by omega
  exact ⟨ns[j], List.getElem?_eq_getElem h3, atI_nat (at_int (List.getElem?_eq_getElem h3))⟩
theorem ixN_in {n : Nat} {i : Int} (h0 : 0 ≤ i) (h1 : i < n) : ixN n i = some i.toNat := by
  unfold ixN
  rw [if_pos h0, if_pos h1]

/-! ### turning, mirroring -/
/-- what stands at slot j behind a turn by t -/
def rot (ns : List Int) (t : Int) : List Int := (List.range ns.length).map fun (j : Nat) => ns.getD ((((j : Int) - t) % (ns.length : Int)).toNat) 0
def mir (ns : List Int) : List Int := (List.range ns.length).map fun (j : Nat) => ns.getD (((-(j : Int)) % (ns.length : Int)).toNat) 0
theorem rot_len (ns : List Int) (t : Int) : (rot ns t).length = ns.length := by
  unfold rot
  rw [List.length_map, List.length_range]
theorem mir_len (ns : List Int) : (mir ns).length = ns.length := by
  unfold mir
  rw [List.length_map, List.length_range]
theorem rot_at {ns : List Int} {t : Int} {j : Nat} (h : j < ns.length) : (rot ns t)[j]? = some (ns.getD ((((j : Int) - t) % (ns.length : Int)).toNat) 0) := by
  unfold rot
  rw [List.getElem?_map, List.getElem?_range h]
  rfl
theorem mir_at {ns : List Int} {j : Nat} (h : j < ns.length) : (mir ns)[j]? = some (ns.getD (((-(j : Int)) % (ns.length : Int)).toNat) 0) := by
  unfold mir
  rw [List.getElem?_map, List.getElem?_range h]
  rfl
theorem mod_in {i : Int} {n : Nat} (h : 0 < n) : 0 ≤ i % (n : Int) ∧ i % (n : Int) < n := ⟨Int.emod_nonneg _ (by omega), Int.emod_lt_of_pos _ (by omega)⟩
theorem getD_at {ns : List Int} {j : Nat} {n : Int} (h : ns[j]? = some n) : ns.getD j 0 = n := by
  rw [List.getD_eq_getElem?_getD, h]
  rfl
theorem at_getD {ns : List Int} {j : Nat} (h : j < ns.length) : ns[j]? = some (ns.getD j 0) := by
  rw [List.getD_eq_getElem?_getD, List.getElem?_eq_getElem h]
  rfl
theorem rot_all {ns : List Int} {t : Int} {P : Int → Prop} (h : ∀ n ∈ ns, P n) : ∀ n ∈ rot ns t, P n := fun n hn => by
  unfold rot at hn
  obtain ⟨j, hj, rfl⟩ := List.mem_map.mp hn
  have hj := List.mem_range.mp hj
  have hm := mod_in (i := (j : Int) - t) (show 0 < ns.length by omega)
  exact h _ (List.mem_of_getElem? (at_getD (show (((j : Int) - t) % (ns.length : Int)).toNat < ns.length by omega)))
theorem mir_all {ns : List Int} {P : Int → Prop} (h : ∀ n ∈ ns, P n) : ∀ n ∈ mir ns, P n := fun n hn => by
  unfold mir at hn
  obtain ⟨j, hj, rfl⟩ := List.mem_map.mp hn
  have hj := List.mem_range.mp hj
  have hm := mod_in (i := -(j : Int)) (show 0 < ns.length by omega)
  exact h _ (List.mem_of_getElem? (at_getD (show ((-(j : Int)) % (ns.length : Int)).toNat < ns.length by omega)))
theorem Rim.rot {ns : List Int} (h : Rim ns) (t : Int) : Rim (rot ns t) := ⟨by rw [rot_len]; exact h.pos, by rw [rot_len]; exact h.le, rot_all h.all⟩
theorem Rim.mir {ns : List Int} (h : Rim ns) : Rim (mir ns) := ⟨by rw [mir_len]; exact h.pos, by rw [mir_len]; exact h.le, mir_all h.all⟩
/-- filling slot by slot: found[(i + t) % n] = ns[i] for i below k leaves rot where it was filled -/
theorem rot_back {ns : List Int} {t : Int} {i : Nat} (hi : i < ns.length) : (rot ns t)[((((i : Int) + t) % (ns.length : Int)).toNat)]? = ns[i]? := by
  have hm := mod_in (i := (i : Int) + t) (show 0 < ns.length by omega)
  rw [rot_at (by omega), at_getD hi]
  have e : ((((((i : Int) + t) % (ns.length : Int)).toNat : Nat) : Int) - t) % (ns.length : Int) = (i : Int) := by
    rw [Int.toNat_of_nonneg hm.1, Int.emod_sub_emod]
    rw [show (i : Int) + t - t = (i : Int) by omega]
    exact Int.emod_eq_of_lt (by omega) (by omega)
  rw [e, Int.toNat_natCast]
theorem mir_back {ns : List Int} {i : Nat} (hi : i < ns.length) : (mir ns)[((((0 : Int) - (i : Int)) % (ns.length : Int)).toNat)]? = ns[i]? := by
  have hm := mod_in (i := (0 : Int) - (i : Int)) (show 0 < ns.length by omega)
  rw [mir_at (by omega), at_getD hi]
  have e : (-((((((0 : Int) - (i : Int)) % (ns.length : Int)).toNat : Nat) : Int))) % (ns.length : Int) = (i : Int) := by
    rw [Int.toNat_of_nonneg hm.1]
    rw [show -(((0 : Int) - (i : Int)) % (ns.length : Int)) = 0 - ((0 : Int) - (i : Int)) % (ns.length : Int) by omega, Int.sub_emod_emod]
    rw [show (0 : Int) - (0 - (i : Int)) = (i : Int) by omega]
    exact Int.emod_eq_of_lt (by omega) (by omega)
  rw [e, Int.toNat_natCast]
/-- filled at the places f 0, f 1 .. f (k - 1) as res is -/
def Filled (f : Nat → Nat) (res ms : List Int) (k : Nat) : Prop := ms.length = res.length ∧ ∀ p, (∃ j, j < k ∧ f j = p) → ms[p]? = res[p]?
theorem Filled.step {f : Nat → Nat} {res ms : List Int} {k : Nat} {v : Int} (h : Filled f res ms k) (e : res[f k]? = some v) : Filled f res (ms.set (f k) v) (k + 1) := by
  refine ⟨by rw [List.length_set]; exact h.1, fun p ⟨j, hj, hp⟩ => ?_⟩
  have hk : f k < ms.length := by
    rw [h.1]
    exact (List.getElem?_eq_some_iff.mp e).1
  by_cases q : f k = p
  · subst q
    rw [List.getElem?_set_self hk, e]
  · rw [List.getElem?_set_ne q]
    refine h.2 p ⟨j, ?_, hp⟩
    rcases Nat.lt_or_ge j k with z | z
    · exact z
    · have : j = k := by omega
      subst this
      exact absurd hp q
theorem Filled.done {f : Nat → Nat} {res ms : List Int} {n : Nat} (h : Filled f res ms n) (on : ∀ p, p < res.length → ∃ j, j < n ∧ f j = p) : ms = res := by
  refine List.ext_getElem? fun p => ?_
  by_cases q : p < res.length
  · exact h.2 p (on p q)
  · rw [List.getElem?_eq_none (by rw [h.1]; omega), List.getElem?_eq_none (by omega)]
theorem rot_on {ns : List Int} {t : Int} {p : Nat} (hp : p < ns.length) : ∃ j, j < ns.length ∧ (((j : Int) + t) % (ns.length : Int)).toNat = p := by
  have hm := mod_in (i := (p : Int) - t) (show 0 < ns.length by omega)
  refine ⟨(((p : Int) - t) % (ns.length : Int)).toNat, by omega, ?_⟩
  have e : ((((((p : Int) - t) % (ns.length : Int)).toNat : Nat) : Int) + t) % (ns.length : Int) = (p : Int) := by
    rw [Int.toNat_of_nonneg hm.1, Int.emod_add_emod]
    rw [show (p : Int) - t + t = (p : Int) by omega]
    exact Int.emod_eq_of_lt (by omega) (by omega)
  rw [e, Int.toNat_natCast]
theorem mir_on {ns : List Int} {p : Nat} (hp : p < ns.length) : ∃ j, j < ns.length ∧ (((0 : Int) - (j : Int)) % (ns.length : Int)).toNat = p := by
  have hm := mod_in (i := (0 : Int) - (p : Int)) (show 0 < ns.length by omega)
  refine ⟨(((0 : Int) - (p : Int)) % (ns.length : Int)).toNat, by omega, ?_⟩
  have e : ((0 : Int) - (((((0 : Int) - (p : Int)) % (ns.length : Int)).toNat : Nat) : Int)) % (ns.length : Int) = (p : Int) := by
    rw [Int.toNat_of_nonneg hm.1, Int.sub_emod_emod]
    rw [show (0 : Int) - (0 - (p : Int)) = (p : Int) by omega]
    exact Int.emod_eq_of_lt (by omega) (by omega)
  rw [e, Int.toNat_natCast]
theorem map_set {ns : List Int} {j : Nat} {v : Int} : (ns.map V.int).set j (.int v) = (ns.set j v).map V.int := by
  rw [List.map_set]
theorem take_next {l : List Int} {i : Nat} {v : Int} (h : l[i]? = some v) : (l.take i).map V.int ++ [.int v] = (l.take (i + 1)).map V.int := by
  rw [List.take_add_one, h, List.map_append]
  rfl
theorem take_all {l : List Int} {n : Nat} (h : l.length ≤ n) : l.take n = l := List.take_of_length_le h
theorem rep_one (v : Int) : ∀ k : Nat, (List.replicate k [V.int v]).flatten = (List.replicate k v).map V.int
  | 0 => rfl
  | k + 1 => by
    rw [List.replicate_succ, List.replicate_succ, List.flatten_cons, List.map_cons, rep_one v k]
    rfl
theorem rep_map (ns : List Int) : ∀ k : Nat, (List.replicate k (ns.map V.int)).flatten = ((List.replicate k ns).flatten).map V.int
  | 0 => rfl
  | k + 1 => by
    rw [List.replicate_succ, List.replicate_succ, List.flatten_cons, List.flatten_cons, List.map_append, rep_map ns k]
theorem rep_len (ns : List Int) : ∀ k : Nat, ((List.replicate k ns).flatten).length = k * ns.length
  | 0 => by simp
  | k + 1 => by
    rw [List.replicate_succ, List.flatten_cons, List.length_append, rep_len ns k, Nat.succ_mul, Nat.add_comm]
theorem rep_mem {ns : List Int} {k : Nat} {x : Int} (h : x ∈ (List.replicate k ns).flatten) : x ∈ ns := by
  obtain ⟨l, hl, hx⟩ := List.mem_flatten.mp h
  rw [(List.mem_replicate.mp hl).2] at hx
  exact hx
theorem cut_take (ns : List Int) (s : Int) (h0 : 0 ≤ s) : cutV (ns.map V.int) none (some s) = (ns.take s.toNat).map V.int := by
  obtain ⟨k, rfl⟩ : ∃ k : Nat, s = (k : Int) := ⟨s.toNat, by omega⟩
  unfold cutV
  rw [HT.sIx_none, HT.sIx_nat, Int.toNat_natCast, List.drop_zero, Nat.sub_zero, List.map_take]
  rcases Nat.le_total k (ns.map V.int).length with z | z
  · rw [Nat.min_eq_left z]
  · rw [Nat.min_eq_right z, List.take_of_length_le (Nat.le_refl _), List.take_of_length_le z]

/-! ### data: lists of ints, for repr and == -/
def dI (ns : List Int) : PyData := .list (ns.map PyData.int)
theorem dpAll_ints {K : PySem.W.Frag} {H : Hp} : ∀ ns : List Int, DpAll K H (ns.map V.int) (ns.map PyData.int)
  | [] => .nil
  | n :: ns => .cons (.int n) (dpAll_ints ns)
theorem dp_ints {K : PySem.W.Frag} {H : Hp} {a : Addr} {ns : List Int} (h : SqL K H a (ns.map V.int)) : Dp K H (.ref a) (dI ns) := .lst h (dpAll_ints ns)
/-- what repr and == ask of data -/
structure RP (d : PyData) : Prop where
  sh : d.showable = true
  nd : d.hasDict = false
  cl : d.canLay0 = true
  dp : d.depth ≤ 32
theorem RP.shaped {d : PyData} (h : RP d) : SeqAt.shaped d = true := by
  have := h.dp
  exact Bool.and_eq_true_iff.mpr ⟨h.cl, decide_eq_true (by omega)⟩
theorem RP.refl {d : PyData} (h : RP d) : PyData.eqv d d = true := SeqAt.eqv_refl d h.cl
theorem rp_int {i : Int} (h : i.natAbs < 2 ^ 1000) : RP (.int i) := ⟨by simp only [PyData.showable]; exact decide_eq_true (Nat.lt_trans (PySem.Flt.log2_lt_of (by decide) h) (by decide)), by simp only [PyData.hasDict], by simp only [PyData.canLay0], by simp only [PyData.depth]; omega⟩
/-- all of a list: depth one less -/
structure RPs (k : Nat) (ds : List PyData) : Prop where
  sh : PyData.showableAll ds = true
  nd : PyData.hasDictAll ds = false
  cl : PyData.canLayAll0 ds = true
  dp : PyData.depthAll ds ≤ k
theorem RPs.nil {k : Nat} : RPs k [] := ⟨by simp only [PyData.showableAll], by simp only [PyData.hasDictAll], by simp only [PyData.canLayAll0], by simp only [PyData.depthAll]; omega⟩
theorem RPs.cons {k : Nat} {d : PyData} {ds : List PyData} (h : RP d) (hk : d.depth ≤ k) (hs : RPs k ds) : RPs k (d :: ds) := by
  refine ⟨?_, ?_, ?_, ?_⟩
  · simp only [PyData.showableAll, h.sh, hs.sh, Bool.and_self]
  · simp only [PyData.hasDictAll, h.nd, hs.nd, Bool.or_self]
  · simp only [PyData.canLayAll0, h.cl, hs.cl, Bool.and_self]
  · simp only [PyData.depthAll]
    have := hs.dp
    omega
theorem RPs.list {k : Nat} {ds : List PyData} (h : RPs k ds) (hk : k ≤ 31) : RP (.list ds) ∧ (PyData.list ds).depth ≤ k + 1 := by
  have hd : (PyData.list ds).depth ≤ k + 1 := by
    simp only [PyData.depth]
    have := h.dp
    omega
  refine ⟨⟨?_, ?_, ?_, by omega⟩, hd⟩
  · simp only [PyData.showable, h.sh]
  · simp only [PyData.hasDict, h.nd]
  · simp only [PyData.canLay0, h.cl]
theorem rps_ints : ∀ {ns : List Int}, (∀ n ∈ ns, n.natAbs < 2 ^ 1000) → RPs 0 (ns.map PyData.int)
  | [], _ => RPs.nil
  | n :: ns, h => RPs.cons (rp_int (h n List.mem_cons_self)) (by simp only [PyData.depth]; omega) (rps_ints fun x hx => h x (List.mem_cons_of_mem _ hx))
theorem rp_ints {ns : List Int} (h : ∀ n ∈ ns, n.natAbs < 2 ^ 1000) : RP (dI ns) := ((rps_ints h).list (by omega)).1
theorem dp_ints_depth {ns : List Int} (h : ∀ n ∈ ns, n.natAbs < 2 ^ 1000) : (dI ns).depth ≤ 1 := ((rps_ints h).list (by omega)).2
theorem sum_bound {B : Nat} : ∀ {l : List Nat}, (∀ x ∈ l, x ≤ B) → l.sum ≤ B * l.length
  | [], _ => Nat.zero_le _
  | x :: l, h => by
    have h1 := h x List.mem_cons_self
    have h2 := sum_bound (B := B) (l := l) fun y hy => h y (List.mem_cons_of_mem _ hy)
    rw [List.sum_cons, List.length_cons, Nat.mul_succ]
    omega
theorem shownAll_map (ds : List PyData) : PyData.shownAll ds = ds.map PyData.shown := by
  induction ds with
  | nil => rfl
  | cons d ds ih =>
    simp only [PyData.shownAll, List.map_cons, ih]
/-- how long a list's text is at most, by its items' -/
theorem shown_list {B : Nat} {ds : List PyData} (h : ∀ d ∈ ds, d.shown.length ≤ B) : (PyData.list ds).shown.length ≤ (B + 2) * ds.length + 3 := by
  simp only [PyData.shown]
  have h1 := listText_len_le (PyData.shownAll ds)
  have h2 : ((PyData.shownAll ds).map (·.length)).sum ≤ B * ds.length := by
    rw [shownAll_map, List.map_map]
    have := sum_bound (B := B) (l := ds.map ((fun x => x.length) ∘ PyData.shown)) fun x hx => by
      obtain ⟨d, hd, rfl⟩ := List.mem_map.mp hx
      exact h d hd
    rw [List.length_map] at this
    exact this
  have h3 : (PyData.shownAll ds).length = ds.length := by rw [shownAll_map, List.length_map]
  rw [h3] at h1
  rw [Nat.add_mul]
  omega
theorem shown_int {i : Int} (h : i.natAbs < 2 ^ 1000) : (PyData.int i).shown.length ≤ 1001 := by
  simp only [PyData.shown]
  rw [PySem.ofString_length]
  exact int_text_length_le (by decide) (PySem.Flt.log2_lt_of (by decide) h)
theorem shown_ints {ns : List Int} (h : ∀ n ∈ ns, n.natAbs < 2 ^ 1000) : (dI ns).shown.length ≤ 1003 * ns.length + 3 := by
  have := shown_list (B := 1001) (ds := ns.map PyData.int) fun d hd => by
    obtain ⟨n, hn, rfl⟩ := List.mem_map.mp hd
    exact shown_int (h n hn)
  rw [List.length_map] at this
  exact this
theorem small_abs {n : Int} (h0 : 0 ≤ n) (h1 : n ≤ 1000000000000000000000000000000) : n.natAbs < 2 ^ 1000 := Nat.lt_of_le_of_lt (m := 1000000000000000000000000000000) (by omega) (by decide +kernel)
theorem Rim.abs {ns : List Int} (h : Rim ns) : ∀ n ∈ ns, n.natAbs < 2 ^ 1000 := fun n hn => small_abs (h.all n hn).1 (h.all n hn).2
theorem Rim.rp {ns : List Int} (h : Rim ns) : RP (dI ns) := rp_ints h.abs
theorem Rim.fits {ns : List Int} (h : Rim ns) : (dI ns).shown.length ≤ sizeLine := by
  have := shown_ints h.abs
  have := h.le
  exact sz40' (by omega)
/-- an object that was not there is written -/
theorem same_over {H H4 : Hp} {l : Addr} {o : HO} (s : Same H H4) (n : H l = none) : Same H (upd H4 l o) := fun b x e => by
  rw [upd_ne (ne_of_none e n)]
  exact s b x e
/-- turned back -/
theorem rot_rot {ns : List Int} {t : Int} : rot (rot ns t) (0 - t) = ns := by
  refine List.ext_getElem? fun j => ?_
  by_cases h : j < ns.length
  · rw [rot_at (by rw [rot_len]; exact h), rot_len]
    have hm := mod_in (i := (j : Int) - (0 - t)) (show 0 < ns.length by omega)
    have e := rot_back (t := t) h
    rw [show (j : Int) - (0 - t) = (j : Int) + t by omega]
    rw [show (j : Int) - (0 - t) = (j : Int) + t by omega] at hm
    rw [← e, ← at_getD (by rw [rot_len]; omega)]
  · rw [List.getElem?_eq_none (by rw [rot_len, rot_len]; omega), List.getElem?_eq_none (by omega)]
theorem mir_mir {ns : List Int} : mir (mir ns) = ns := by
  refine List.ext_getElem? fun j => ?_
  by_cases h : j < ns.length
  · rw [mir_at (by rw [mir_len]; exact h), mir_len]
    have hm := mod_in (i := (0 : Int) - (j : Int)) (show 0 < ns.length by omega)
    have e := mir_back h
    rw [show -(j : Int) = (0 : Int) - (j : Int) by omega]
    rw [← e, ← at_getD (by rw [mir_len]; omega)]
  · rw [List.getElem?_eq_none (by rw [mir_len, mir_len]; omega), List.getElem?_eq_none (by omega)]
end Sd

namespace Sd
open PySem PySem.Spec PyProof.Rows L2

/-! ### lights -/
def Ab (k : Nat) (ns : List Int) : Prop := ∀ n ∈ ns, n.natAbs < 2 ^ k
theorem pow_up {a b : Nat} (h : a ≤ b) : (2 : Nat) ^ a ≤ 2 ^ b := Nat.pow_le_pow_right (by decide) h
theorem Ab.mono {k j : Nat} {ns : List Int} (h : Ab k ns) (l : k ≤ j) : Ab j ns := fun n hn => Nat.lt_of_lt_of_le (h n hn) (pow_up l)
theorem Rim.ab {ns : List Int} (h : Rim ns) : Ab 100 ns := fun n hn => by
  have := h.all n hn
  exact Nat.lt_of_le_of_lt (m := 1000000000000000000000000000000) (by omega) (by decide +kernel)
theorem Ab.rot {k : Nat} {ns : List Int} (h : Ab k ns) (t : Int) : Ab k (rot ns t) := rot_all h
theorem Ab.at {k : Nat} {ns : List Int} (h : Ab k ns) {i : Nat} {n : Int} (e : ns[i]? = some n) : n.natAbs < 2 ^ k := h n (List.mem_of_getElem? e)
def prods (ns ms : List Int) : List Int := List.zipWith (· * ·) ns ms
theorem prods_len (ns ms : List Int) : (prods ns ms).length = min ns.length ms.length := List.length_zipWith
theorem prods_at {ns ms : List Int} {i : Nat} {x y : Int} (h1 : ns[i]? = some x) (h2 : ms[i]? = some y) : (prods ns ms)[i]? = some (x * y) := by
  unfold prods
  rw [List.getElem?_zipWith, h1, h2]
theorem prods_ab {a b : Nat} : ∀ {ns ms : List Int}, Ab a ns → Ab b ms → Ab (a + b) (prods ns ms)
  | [], _, _, _ => fun n hn => by
    simp only [prods, List.zipWith_nil_left] at hn
    exact (List.not_mem_nil hn).elim
  | _ :: _, [], _, _ => fun n hn => by
    simp only [prods, List.zipWith_nil_right] at hn
    exact (List.not_mem_nil hn).elim
  | x :: ns, y :: ms, h1, h2 => fun n hn => by
    have hn : n ∈ x * y :: prods ns ms := hn
    rcases List.mem_cons.mp hn with e | e
    · subst e
      exact wide_lt (h1 x List.mem_cons_self) (h2 y List.mem_cons_self)
    · exact prods_ab (fun z hz => h1 z (List.mem_cons_of_mem _ hz)) (fun z hz => h2 z (List.mem_cons_of_mem _ hz)) n e
theorem sum_ab {k : Nat} : ∀ {ns : List Int}, Ab k ns → ns.sum.natAbs ≤ ns.length * 2 ^ k
  | [], _ => Nat.zero_le _
  | x :: ns, h => by
    have h1 := h x List.mem_cons_self
    have h2 := sum_ab (k := k) (ns := ns) fun z hz => h z (List.mem_cons_of_mem _ hz)
    rw [List.sum_cons, List.length_cons, Nat.succ_mul]
    have := Int.natAbs_add_le x ns.sum
    omega
theorem sum_lt {k : Nat} {ns : List Int} (h : Ab k ns) (hl : ns.length < 1024) : ns.sum.natAbs < 2 ^ (k + 10) := by
  have h1 := sum_ab h
  rw [Nat.pow_add]
  refine Nat.lt_of_le_of_lt h1 ?_
  rw [Nat.mul_comm]
  exact Nat.mul_lt_mul_of_pos_left hl (Nat.two_pow_pos k)
/-- the light at a turn -/
def lightV (ns ms : List Int) (t : Int) : Int := (prods ns (rot ms t)).sum
def lightsV (ns ms : List Int) : List Int := (List.range ns.length).map fun (i : Nat) => lightV ns ms (i : Int)
theorem lightsV_len (ns ms : List Int) : (lightsV ns ms).length = ns.length := by
  unfold lightsV
  rw [List.length_map, List.length_range]
theorem lightsV_at {ns ms : List Int} {i : Nat} (h : i < ns.length) : (lightsV ns ms)[i]? = some (lightV ns ms (i : Int)) := by
  unfold lightsV
  rw [List.getElem?_map, List.getElem?_range h]
  rfl
theorem lightV_lt {a b : Nat} {ns ms : List Int} (h1 : Ab a ns) (h2 : Ab b ms) (hl : ns.length < 1024) (t : Int) : (lightV ns ms t).natAbs < 2 ^ (a + b + 10) := by
  refine sum_lt (prods_ab h1 (h2.rot t)) ?_
  rw [prods_len]
  omega
theorem lightsV_ab {a b : Nat} {ns ms : List Int} (h1 : Ab a ns) (h2 : Ab b ms) (hl : ns.length < 1024) : Ab (a + b + 10) (lightsV ns ms) := fun n hn => by
  unfold lightsV at hn
  obtain ⟨i, _, rfl⟩ := List.mem_map.mp hn
  exact lightV_lt h1 h2 hl i
theorem rot_mod (ms : List Int) (t : Int) : rot ms (t % (ms.length : Int)) = rot ms t := by
  unfold rot
  refine List.map_congr_left fun j _ => ?_
  rw [Int.sub_emod_emod]
theorem lightV_mod {ns ms : List Int} (t : Int) : lightV ns ms (t % (ms.length : Int)) = lightV ns ms t := by
  unfold lightV
  rw [rot_mod]
/-- lights[t % n], whatever the turn -/
theorem lights_any {ns ms : List Int} (t : Int) (hl : ns.length = ms.length) (h1 : 1 ≤ ns.length) : atI ((lightsV ns ms).map V.int) (t % (ns.length : Int)) = some (.int (lightV ns ms t)) := by
  have hm := mod_in (i := t) (show 0 < ns.length by omega)
  obtain ⟨n, hn, hat⟩ := at_in (ns := lightsV ns ms) hm.1 (by rw [lightsV_len]; exact hm.2)
  rw [lightsV_at (by omega), Int.toNat_of_nonneg hm.1, hl, lightV_mod] at hn
  rw [hat, ← Option.some.inj hn]
/-! ### the greatest, the places of some -/
theorem max_ex : ∀ {ns : List Int}, 1 ≤ ns.length → ∃ m, m ∈ ns ∧ ∀ y ∈ ns, y ≤ m
  | [], h => absurd h (by decide)
  | [x], _ => ⟨x, List.mem_cons_self, fun y hy => by rw [List.mem_singleton.mp hy]; exact Int.le_refl _⟩
  | x :: z :: ns, _ => by
    obtain ⟨m, hm, hg⟩ := max_ex (ns := z :: ns) (by simp)
    by_cases h : x ≤ m
    · refine ⟨m, List.mem_cons_of_mem _ hm, fun y hy => ?_⟩
      rcases List.mem_cons.mp hy with e | e
      · rw [e]
        exact h
      · exact hg y e
    · refine ⟨x, List.mem_cons_self, fun y hy => ?_⟩
      rcases List.mem_cons.mp hy with e | e
      · rw [e]
        exact Int.le_refl _
      · have := hg y e
        omega
theorem max_one {ns : List Int} {m m' : Int} (h1 : m ∈ ns) (h2 : ∀ y ∈ ns, y ≤ m) (h3 : m' ∈ ns) (h4 : ∀ y ∈ ns, y ≤ m') : m = m' := Int.le_antisymm (h4 _ h1) (h2 _ h3)
/-- the places below k of the items for which p holds -/
def places (p : Int → Bool) (ns : List Int) (k : Nat) : List Int := ((List.range k).filter fun i => p (ns.getD i 0)).map fun (i : Nat) => (i : Int)
theorem places_len (p : Int → Bool) (ns : List Int) (k : Nat) : (places p ns k).length ≤ k := by
  unfold places
  rw [List.length_map]
  refine Nat.le_trans (List.length_filter_le _ _) ?_
  rw [List.length_range]
  exact Nat.le_refl _
theorem places_yes {p : Int → Bool} {ns : List Int} {k : Nat} {n : Int} (h : ns[k]? = some n) (hp : p n = true) : places p ns (k + 1) = places p ns k ++ [(k : Int)] := by
  unfold places
  rw [List.range_succ, List.filter_append, List.map_append]
  have : ([k].filter fun i => p (ns.getD i 0)) = [k] := by
    rw [List.filter_cons, getD_at h, if_pos hp]
    rfl
  rw [this]
  rfl
theorem places_no {p : Int → Bool} {ns : List Int} {k : Nat} {n : Int} (h : ns[k]? = some n) (hp : ¬ p n = true) : places p ns (k + 1) = places p ns k := by
  unfold places
  rw [List.range_succ, List.filter_append, List.map_append]
  have : ([k].filter fun i => p (ns.getD i 0)) = [] := by
    rw [List.filter_cons, getD_at h, if_neg hp]
    rfl
  rw [this]
  simp
theorem places_ab (p : Int → Bool) (ns : List Int) {k : Nat} (h : k < 1000) : Ab 100 (places p ns k) := fun n hn => by
  unfold places at hn
  obtain ⟨i, hi, rfl⟩ := List.mem_map.mp hn
  have := List.mem_range.mp (List.mem_filter.mp hi).1
  exact Nat.lt_of_lt_of_le (m := 1000) (by omega) (by decide)
theorem Ab.rp {k : Nat} {ns : List Int} (h : Ab k ns) (hk : k ≤ 1000) : RP (dI ns) := rp_ints (h.mono hk)
theorem Ab.fits {k : Nat} {ns : List Int} (h : Ab k ns) (hk : k ≤ 1000) (hl : ns.length ≤ 2000) : (dI ns).shown.length ≤ 2100000 := by
  have := shown_ints (h.mono hk)
  omega
theorem fit_le {n : Nat} (h : n ≤ 16000000) : n ≤ sizeLine := Nat.le_trans h (by decide)
/-- some lists of ints, in a list -/
def dL (ls : List (List Int)) : PyData := .list (ls.map dI)
theorem rps_lists {k : Nat} (hk : k ≤ 1000) : ∀ {ls : List (List Int)}, (∀ l ∈ ls, Ab k l) → RPs 1 (ls.map dI)
  | [], _ => RPs.nil
  | l :: ls, h => RPs.cons ((h l List.mem_cons_self).rp hk) (dp_ints_depth ((h l List.mem_cons_self).mono hk)) (rps_lists hk fun x hx => h x (List.mem_cons_of_mem _ hx))
theorem rp_lists {k : Nat} (hk : k ≤ 1000) {ls : List (List Int)} (h : ∀ l ∈ ls, Ab k l) : RP (dL ls) := ((rps_lists hk h).list (by omega)).1
theorem fits_lists {k : Nat} (hk : k ≤ 1000) {ls : List (List Int)} (h : ∀ l ∈ ls, Ab k l) (hl : ∀ l ∈ ls, l.length ≤ 1000) (hn : ls.length ≤ 7) : (dL ls).shown.length ≤ sizeLine := by
  have h1 := shown_list (B := 2100000) (ds := ls.map dI) fun d hd => by
    obtain ⟨l, hm, rfl⟩ := List.mem_map.mp hd
    exact (h l hm).fits hk (by have := hl l hm; omega)
  rw [List.length_map] at h1
  refine fit_le (Nat.le_trans h1 ?_)
  omega
theorem all2 {P : List Int → Prop} {a b : List Int} (h1 : P a) (h2 : P b) : ∀ l ∈ [a, b], P l := fun l hl => by
  simp only [List.mem_cons, List.not_mem_nil, or_false] at hl
  rcases hl with rfl | rfl <;> assumption
theorem all3 {P : List Int → Prop} {a b c : List Int} (h1 : P a) (h2 : P b) (h3 : P c) : ∀ l ∈ [a, b, c], P l := fun l hl => by
  simp only [List.mem_cons, List.not_mem_nil, or_false] at hl
  rcases hl with rfl | rfl | rfl <;> assumption
end Sd

namespace Sd
open PySem PySem.Spec PyProof.Rows L2

/-! ### by steps -/
def stepsV (ns ms : List Int) (f st : Int) (k : Nat) : List Int := (List.range k).map fun (i : Nat) => lightV ns ms (f + st * (i : Int))
theorem stepsV_len (ns ms : List Int) (f st : Int) (k : Nat) : (stepsV ns ms f st k).length = k := by
  unfold stepsV
  rw [List.length_map, List.length_range]
theorem stepsV_at {ns ms : List Int} {f st : Int} {k i : Nat} (h : i < k) : (stepsV ns ms f st k)[i]? = some (lightV ns ms (f + st * (i : Int))) := by
  unfold stepsV
  rw [List.getElem?_map, List.getElem?_range h]
  rfl
/-- the first of them, None if there is none -/
def headV : List Int → V
  | [] => .non
  | x :: _ => .int x
def headD : List Int → PyData
  | [] => .none
  | x :: _ => .int x
theorem places_more (p : Int → Bool) (ns : List Int) (i : Nat) : ∀ d : Nat, ∃ r, places p ns (i + d) = places p ns i ++ r
  | 0 => ⟨[], by simp⟩
  | d + 1 => by
    obtain ⟨r, e⟩ := places_more p ns i d
    refine ⟨r ++ ([i + d].filter fun j => p (ns.getD j 0)).map fun (j : Nat) => (j : Int), ?_⟩
    rw [← List.append_assoc, ← e]
    unfold places
    rw [show i + (d + 1) = (i + d) + 1 from rfl, List.range_succ, List.filter_append, List.map_append]
theorem places_head {p : Int → Bool} {ns : List Int} {i k : Nat} {x : Int} (hx : ns[i]? = some x) (hp : p x = true) (hno : places p ns i = []) (hk : i < k) : headV (places p ns k) = .int i := by
  obtain ⟨r, e⟩ := places_more p ns (i + 1) (k - (i + 1))
  rw [show i + 1 + (k - (i + 1)) = k by omega, places_yes hx hp, hno] at e
  rw [e]
  rfl
theorem places_none {p : Int → Bool} {ns : List Int} {k : Nat} : places p ns k = [] ↔ ∀ i, i < k → ¬ p (ns.getD i 0) = true := by
  unfold places
  rw [List.map_eq_nil_iff, List.filter_eq_nil_iff]
  exact ⟨fun h i hi => h i (List.mem_range.mpr hi), fun h i hi => h i (List.mem_range.mp hi)⟩
theorem places_congr {p : Int → Bool} {ns ms : List Int} {k : Nat} (h : ∀ i, i < k → ns.getD i 0 = ms.getD i 0) : places p ns k = places p ms k := by
  unfold places
  refine congrArg _ (List.filter_congr fun i hi => ?_)
  rw [h i (List.mem_range.mp hi)]
theorem stepsV_getD {ns ms : List Int} {f st : Int} {k i : Nat} (h : i < k) : (stepsV ns ms f st k).getD i 0 = lightV ns ms (f + st * (i : Int)) := getD_at (stepsV_at h)
/-- twice around tells nothing more -/
theorem twice {p : Int → Bool} {ns ms : List Int} {f st : Int} (hl : ns.length = ms.length) : headV (places p (stepsV ns ms f st (2 * ns.length)) (2 * ns.length)) = headV (places p (stepsV ns ms f st ns.length) ns.length) := by
  have e1 : places p (stepsV ns ms f st (2 * ns.length)) ns.length = places p (stepsV ns ms f st ns.length) ns.length :=
    places_congr fun i hi => by rw [stepsV_getD (by omega), stepsV_getD hi]
  obtain ⟨r, e2⟩ := places_more p (stepsV ns ms f st (2 * ns.length)) ns.length ns.length
  rw [show ns.length + ns.length = 2 * ns.length by omega, e1] at e2
  cases e3 : places p (stepsV ns ms f st ns.length) ns.length with
  | cons x xs =>
    rw [e2, e3]
    rfl
  | nil =>
    have h0 := places_none.mp e3
    have h1 : places p (stepsV ns ms f st (2 * ns.length)) (2 * ns.length) = [] := places_none.mpr fun i hi => by
      by_cases hn : i < ns.length
      · have := h0 i hn
        rw [stepsV_getD hn] at this
        rw [stepsV_getD hi]
        exact this
      · have := h0 (i - ns.length) (by omega)
        rw [stepsV_getD (by omega)] at this
        rw [stepsV_getD hi]
        have e4 : lightV ns ms (f + st * (i : Int)) = lightV ns ms (f + st * ((i - ns.length : Nat) : Int)) := by
          rw [← lightV_mod (f + st * (i : Int)), ← lightV_mod (f + st * ((i - ns.length : Nat) : Int)), ← hl]
          have e5 : f + st * (i : Int) = (f + st * ((i - ns.length : Nat) : Int)) + (ns.length : Int) * st := by
            have e6 : (i : Int) = ((i - ns.length : Nat) : Int) + (ns.length : Int) := by omega
            rw [e6, Int.mul_add, Int.mul_comm (ns.length : Int) st]
            have e7 : ((((i - ns.length : Nat) : Int) + (ns.length : Int)) : Int) = (i : Int) := e6.symm
            omega
          rw [e5, Int.add_mul_emod_self_left]
        rw [e4]
        exact this
    rw [h1]
theorem dp_head {K : PySem.W.Frag} {H : Hp} : ∀ l : List Int, Dp K H (headV l) (headD l)
  | [] => .non
  | x :: _ => .int x
theorem rp_head : ∀ {l : List Int}, Ab 100 l → RP (headD l)
  | [], _ => ⟨rfl, rfl, rfl, by decide⟩
  | x :: _, h => rp_int (Nat.lt_of_lt_of_le (h x List.mem_cons_self) (pow_up (by decide)))
theorem fits_head : ∀ {l : List Int}, Ab 100 l → (headD l).shown.length ≤ sizeLine
  | [], _ => by decide +kernel
  | x :: _, h => fit_le (Nat.le_trans (shown_int (Nat.lt_of_lt_of_le (h x List.mem_cons_self) (pow_up (by decide)))) (by decide))
end Sd

namespace Sd
open PySem PySem.Spec PyProof.Rows L2

/-! ### far sums -/
def farV (ns ms : List Int) (f st N : Int) : Int := N / (ns.length : Int) * (stepsV ns ms f st ns.length).sum + ((stepsV ns ms f st ns.length).take (N % (ns.length : Int)).toNat).sum
theorem stepsV_take {ns ms : List Int} {f st : Int} {k r : Nat} (h : r ≤ k) : (stepsV ns ms f st k).take r = stepsV ns ms f st r := by
  unfold stepsV
  rw [← List.map_take, List.take_range, Nat.min_eq_left h]
theorem stepsV_next (ns ms : List Int) (f st : Int) (k : Nat) : (stepsV ns ms f st (k + 1)).sum = (stepsV ns ms f st k).sum + lightV ns ms (f + st * (k : Int)) := by
  unfold stepsV
  rw [List.range_succ, List.map_append, List.sum_append]
  simp
theorem stepsV_add (ns ms : List Int) (f st : Int) (a : Nat) : ∀ b : Nat, (stepsV ns ms f st (a + b)).sum = (stepsV ns ms f st a).sum + (stepsV ns ms (f + st * (a : Int)) st b).sum
  | 0 => by
    show (stepsV ns ms f st a).sum = (stepsV ns ms f st a).sum + 0
    omega
  | b + 1 => by
    rw [show a + (b + 1) = (a + b) + 1 from rfl, stepsV_next, stepsV_next, stepsV_add ns ms f st a b]
    rw [show f + st * (((a + b : Nat)) : Int) = f + st * (a : Int) + st * (b : Int) by rw [Int.natCast_add, Int.mul_add]; omega]
    omega
theorem lightV_congr {ns ms : List Int} {t u : Int} (h : t % (ms.length : Int) = u % (ms.length : Int)) : lightV ns ms t = lightV ns ms u := by
  rw [← lightV_mod t, h, lightV_mod]
theorem stepsV_mod (ns ms : List Int) (f st : Int) (k : Nat) : stepsV ns ms (f % (ms.length : Int)) st k = stepsV ns ms f st k := by
  unfold stepsV
  refine List.map_congr_left fun i _ => lightV_congr ?_
  rw [Int.emod_add_emod]
theorem stepsV_round {ns ms : List Int} (hl : ns.length = ms.length) (f st : Int) (k : Nat) : stepsV ns ms (f + st * (ns.length : Int)) st k = stepsV ns ms f st k := by
  unfold stepsV
  refine List.map_congr_left fun i _ => lightV_congr ?_
  rw [hl, show f + st * (ms.length : Int) + st * (i : Int) = f + st * (i : Int) + st * (ms.length : Int) by omega, Int.add_mul_emod_self_right]
theorem stepsV_rounds {ns ms : List Int} (hl : ns.length = ms.length) (f st : Int) (r : Nat) : ∀ q : Nat, (stepsV ns ms f st (q * ns.length + r)).sum = (q : Int) * (stepsV ns ms f st ns.length).sum + (stepsV ns ms f st r).sum
  | 0 => by simp
  | q + 1 => by
    rw [show (q + 1) * ns.length + r = ns.length + (q * ns.length + r) by rw [Nat.succ_mul]; omega, stepsV_add, stepsV_round hl, stepsV_rounds hl f st r q]
    rw [Int.natCast_succ, Int.add_mul]
    omega
theorem far_eq {ns ms : List Int} (hl : ns.length = ms.length) (h1 : 1 ≤ ns.length) (f st : Int) {N : Int} (h0 : 0 ≤ N) : farV ns ms f st N = (stepsV ns ms f st N.toNat).sum := by
  have hm := mod_in (i := N) (show 0 < ns.length by omega)
  have hq : 0 ≤ N / (ns.length : Int) := Int.ediv_nonneg h0 (by omega)
  have e : N.toNat = (N / (ns.length : Int)).toNat * ns.length + (N % (ns.length : Int)).toNat := by
    have e1 := Int.mul_ediv_add_emod N (ns.length : Int)
    have e2 : (((N / (ns.length : Int)).toNat * ns.length + (N % (ns.length : Int)).toNat : Nat) : Int) = N := by
      rw [Int.natCast_add, Int.natCast_mul, Int.toNat_of_nonneg hq, Int.toNat_of_nonneg hm.1, Int.mul_comm]
      exact e1
    omega
  rw [e, stepsV_rounds hl, Int.toNat_of_nonneg hq]
  unfold farV
  rw [stepsV_take (by omega)]
theorem far_parts {ns ms : List Int} (hl : ns.length = ms.length) (h1 : 1 ≤ ns.length) (f st : Int) {N M : Int} (h0 : 0 ≤ M) (hM : M ≤ N) : farV ns ms f st M + farV ns ms ((f + M * st) % (ns.length : Int)) st (N - M) = farV ns ms f st N := by
  rw [far_eq hl h1 f st h0, far_eq hl h1 _ st (show 0 ≤ N - M by omega), far_eq hl h1 f st (show 0 ≤ N by omega)]
  rw [show N.toNat = M.toNat + (N - M).toNat by omega, stepsV_add, hl, stepsV_mod, Int.toNat_of_nonneg h0, Int.mul_comm st M]
theorem stepsV_ab {a b : Nat} {ns ms : List Int} (h1 : Ab a ns) (h2 : Ab b ms) (hl : ns.length < 1024) (f st : Int) (k : Nat) : Ab (a + b + 10) (stepsV ns ms f st k) := fun n hn => by
  unfold stepsV at hn
  obtain ⟨i, _, rfl⟩ := List.mem_map.mp hn
  exact lightV_lt h1 h2 hl _
theorem steps_sum_lt {ns ms : List Int} (h1 : Ab 100 ns) (h2 : Ab 100 ms) (hl : ns.length < 1024) (f st : Int) (k : Nat) (hk : k < 1024) : (stepsV ns ms f st k).sum.natAbs < 2 ^ 220 :=
  sum_lt (stepsV_ab h1 h2 hl f st k) (by rw [stepsV_len]; exact hk)
theorem far_lt {ns ms : List Int} (h1 : Ab 100 ns) (h2 : Ab 100 ms) (hl : ns.length < 1024) (hp : 1 ≤ ns.length) (f st : Int) {N : Int} (h0 : 0 ≤ N) (hN : N.natAbs < 2 ^ 200) : (farV ns ms f st N).natAbs < 2 ^ 430 := by
  have hm := mod_in (i := N) (show 0 < ns.length by omega)
  have hq : 0 ≤ N / (ns.length : Int) := Int.ediv_nonneg h0 (by omega)
  have hqn : N / (ns.length : Int) ≤ N := Int.ediv_le_self _ h0
  have a1 : (N / (ns.length : Int)).natAbs < 2 ^ 200 := by omega
  have a2 := steps_sum_lt h1 h2 hl f st ns.length hl
  have a3 := wide_lt a1 a2
  unfold farV
  rw [stepsV_take (by omega)]
  have a4 := steps_sum_lt h1 h2 hl f st (N % (ns.length : Int)).toNat (by omega)
  have a5 := Int.natAbs_add_le (N / (ns.length : Int) * (stepsV ns ms f st ns.length).sum) (stepsV ns ms f st (N % (ns.length : Int)).toNat).sum
  have p1 : (2 : Nat) ^ 420 + 2 ^ 220 ≤ 2 ^ 430 := by decide +kernel
  have a3' : (N / (ns.length : Int) * (stepsV ns ms f st ns.length).sum).natAbs < 2 ^ 420 := a3
  exact Nat.lt_of_le_of_lt a5 (Nat.lt_of_lt_of_le (Nat.add_lt_add a3' a4) p1)
end Sd

namespace Sd
open PySem PySem.Spec PyProof.Rows L2

/-! ### lists of ints by their order -/
def LtI (a b : List Int) : Bool := PySem.W.dataLt (dI a) (dI b)
theorem ltI_irr (a : List Int) : LtI a a = false := lex_irrefl _
theorem ltI_trans {a b c : List Int} (h : LtI a b = true) (k : LtI b c = true) : LtI a c = true := lex_trans _ _ _ h k
theorem toks_int (x : Int) : PySem.W.keyToks (.int x) = [.inl x] := by rw [PySem.W.keyToks]
theorem toks_inj : ∀ {a b : List Int}, PySem.W.keyToksAll (a.map PyData.int) = PySem.W.keyToksAll (b.map PyData.int) → a = b
  | [], [], _ => rfl
  | [], y :: b, h => by
    rw [List.map_nil, List.map_cons, PySem.W.toks_all_cons, PySem.W.keyToksAll] at h
    have := (List.cons.inj h).1
    cases this
  | x :: a, [], h => by
    rw [List.map_nil, List.map_cons, PySem.W.toks_all_cons, PySem.W.keyToksAll] at h
    have := (List.cons.inj h).1
    cases this
  | x :: a, y :: b, h => by
    rw [List.map_cons, List.map_cons, PySem.W.toks_all_cons, PySem.W.toks_all_cons, toks_int, toks_int] at h
    have h2 := (List.cons.inj h).2
    have h3 := (List.cons.inj h2).1
    have h4 := (List.cons.inj h2).2
    cases h3
    rw [toks_inj h4]
theorem ltI_total {a b : List Int} (h : LtI a b = false) (k : LtI b a = false) : a = b := by
  have e := lex_total _ _ h k
  unfold dI at e
  rw [PySem.W.keyToks, PySem.W.keyToks] at e
  exact toks_inj e
/-- the least of some lists -/
def LeastI (S : List (List Int)) (m : List Int) : Prop := m ∈ S ∧ ∀ y ∈ S, LtI y m = false
theorem least_one {S : List (List Int)} {m m' : List Int} (h : LeastI S m) (k : LeastI S m') : m = m' := ltI_total (k.2 _ h.1) (h.2 _ k.1)
theorem least_set {S S' : List (List Int)} {m : List Int} (h : LeastI S m) (e : ∀ x, x ∈ S ↔ x ∈ S') : LeastI S' m := ⟨(e _).mp h.1, fun y hy => h.2 y ((e _).mpr hy)⟩
theorem least_le {S : List (List Int)} {m y : List Int} (h : LeastI S m) (hy : y ∈ S) : m = y ∨ LtI m y = true := by
  cases q : LtI m y with
  | true => exact .inr rfl
  | false => exact .inl (ltI_total q (h.2 _ hy))
theorem least_app {S S' : List (List Int)} {a b : List Int} (h : LeastI S a) (k : LeastI S' b) : LeastI (S ++ S') (if LtI b a then b else a) := by
  cases q : LtI b a with
  | true =>
    refine ⟨List.mem_append_right _ k.1, fun y hy => ?_⟩
    rcases List.mem_append.mp hy with hy | hy
    · cases z : LtI y b with
      | false => exact z
      | true =>
        have := ltI_trans z q
        rw [h.2 _ hy] at this
        cases this
    · exact k.2 _ hy
  | false =>
    refine ⟨List.mem_append_left _ h.1, fun y hy => ?_⟩
    rcases List.mem_append.mp hy with hy | hy
    · exact h.2 _ hy
    · cases z : LtI y a with
      | false => exact z
      | true =>
        exfalso
        rcases least_le k hy with e | e
        · rw [e, z] at q
          cases q
        · rw [ltI_trans e z] at q
          cases q
theorem minD_least (x : List Int) (xs : List (List Int)) : ∃ m, PySem.W.minD (dI x) (xs.map dI) = dI m ∧ LeastI (x :: xs) m := by
  have key : ∀ (xs done : List (List Int)) (x : List Int), LeastI done x → ∃ m, PySem.W.minD (dI x) (xs.map dI) = dI m ∧ LeastI (done ++ xs) m := by
    intro xs
    induction xs with
    | nil =>
      intro done x h
      exact ⟨x, rfl, by rw [List.append_nil]; exact h⟩
    | cons y r ih =>
      intro done x h
      have h2 : LeastI (done ++ [y]) (if LtI y x then y else x) := least_app h ⟨List.mem_singleton.mpr rfl, fun z hz => by rw [List.mem_singleton.mp hz]; exact ltI_irr _⟩
      obtain ⟨m, e, hm⟩ := ih _ _ h2
      refine ⟨m, ?_, by rw [List.append_assoc] at hm; exact hm⟩
      rw [← e]
      unfold PySem.W.minD
      rw [List.map_cons, List.foldl_cons]
      have e2 : (if PySem.W.dataLt (dI y) (dI x) then dI y else dI x) = dI (if LtI y x then y else x) := by
        show (if LtI y x = true then dI y else dI x) = dI (if LtI y x then y else x)
        cases LtI y x <;> rfl
      rw [e2]
  exact key xs [x] x ⟨List.mem_singleton.mpr rfl, fun z hz => by rw [List.mem_singleton.mp hz]; exact ltI_irr _⟩

theorem dI_inj {a b : List Int} (h : dI a = dI b) : a = b := by
  unfold dI at h
  have h2 := PyData.list.inj h
  have : ∀ {a b : List Int}, a.map PyData.int = b.map PyData.int → a = b := by
    intro a
    induction a with
    | nil => intro b h; cases b with
      | nil => rfl
      | cons _ _ => cases h
    | cons x a ih => intro b h; cases b with
      | nil => cases h
      | cons y b =>
        rw [List.map_cons, List.map_cons] at h
        have := PyData.int.inj (List.cons.inj h).1
        rw [this, ih (List.cons.inj h).2]
  exact this h2
theorem alike_ints : ∀ a b : List Int, PySem.W.alikeAll (a.map PyData.int) (b.map PyData.int) = true
  | [], _ => by rw [List.map_nil, PySem.W.alikeAll]
  | _ :: _, [] => by rw [List.map_nil, List.map_cons, PySem.W.alikeAll]
  | x :: a, y :: b => by
    rw [List.map_cons, List.map_cons, PySem.W.alikeAll, alike_ints a b, PySem.W.alike]
    rfl
theorem alike_dI (a b : List Int) : PySem.W.alike (dI a) (dI b) = true := by
  unfold dI
  rw [PySem.W.alike]
  exact alike_ints a b
theorem alikeAll_dI (S : List (List Int)) : PySem.W.AlikeAll (S.map dI) := by
  refine ⟨fun x hx y hy => ?_, fun x hx e => ?_⟩
  · obtain ⟨a, _, rfl⟩ := List.mem_map.mp hx
    obtain ⟨b, _, rfl⟩ := List.mem_map.mp hy
    exact alike_dI a b
  · obtain ⟨a, _, rfl⟩ := List.mem_map.mp hx
    unfold dI at e
    cases e
theorem depthAll_ints : ∀ a : List Int, PyData.depthAll (a.map PyData.int) = 0
  | [] => rfl
  | x :: a => by
    show max (PyData.depth (.int x)) (PyData.depthAll (a.map PyData.int)) = 0
    rw [depthAll_ints a]
    simp only [PyData.depth, Nat.max_self]
theorem depth_dI (a : List Int) : (dI a).depth ≤ 1 := by
  unfold dI
  simp only [PyData.depth]
  rw [depthAll_ints]
  exact Nat.le_refl _
theorem depthAll_dI : ∀ S : List (List Int), PyData.depthAll (S.map dI) ≤ 1
  | [] => by show (0 : Nat) ≤ 1; omega
  | a :: S => by
    show max (dI a).depth (PyData.depthAll (S.map dI)) ≤ 1
    have h1 := depth_dI a
    have h2 := depthAll_dI S
    omega

theorem readsAll_kp {h h' : Heap} (k : ∀ c o, h.get? c = some o → h'.get? c = some o) : ∀ {us : List Value} {ds : List PyData} {as : List Addr}, PySem.ReadsAll h us ds as → PySem.ReadsAll h' us ds as
  | _, _, _, .nil => .nil
  | _, _, _, .cons r rs => .cons (PySem.W.reads_keeps k r) (readsAll_kp k rs)
theorem readsAll_ix {h : Heap} : ∀ {us : List Value} {ds : List PyData} {as : List Addr} {i : Nat} {u : Value}, PySem.ReadsAll h us ds as → us[i]? = some u → ∃ d bs, ds[i]? = some d ∧ PySem.Reads h u d bs
  | _, _, _, _, _, .nil, e => by simp at e
  | _, _, _, 0, _, .cons r _, e => by
    have e := Option.some.inj (show some _ = some _ from e)
    subst e
    exact ⟨_, _, rfl, r⟩
  | _, _, _, i + 1, _, .cons _ rs, e => by
    obtain ⟨d, bs, h1, h2⟩ := readsAll_ix (i := i) rs (by simpa using e)
    exact ⟨d, bs, by simpa using h1, h2⟩
theorem vals_ix : ∀ {vs : List V} {us : List Value} {i : Nat} {u : Value}, Vals vs us → us[i]? = some u → ∃ v, vs[i]? = some v ∧ RelV v u
  | _, _, _, _, .nil, e => by simp at e
  | _, _, 0, _, .cons r _, e => by
    have e := Option.some.inj (show some _ = some _ from e)
    subst e
    exact ⟨_, rfl, r⟩
  | _, _, i + 1, _, .cons _ rs, e => by
    obtain ⟨d, h1, h2⟩ := vals_ix (i := i) rs (by simpa using e)
    exact ⟨d, by simpa using h1, h2⟩

/-! ### min(S), S a list of lists of ints -/
def rMinI (K : PySem.W.Frag) : List V → Hp → VK → Prop := fun vs H Q => ∃ (a : Addr) (xs : List V) (S : List (List Int)), vs = [V.ref a] ∧ SqL K H a xs ∧ DpAll K H xs (S.map dI) ∧ 0 < S.length ∧
  ∀ (i : Nat) (v : V) (m : List Int), xs[i]? = some v → S[i]? = some m → LeastI S m → Q v H
theorem cr_minI {X : Cx} {K : PySem.W.Frag} (hK : X.K = K) (hc : X.calm = true) {k : Nat} (hr : Room k X.A) : CallR X (.builtin "min") (rMinI K) := by
  subst hK
  intro pins s σ H vs us Q I r h
  obtain ⟨a, xs, S, rfl, hs, hd, hne, q⟩ := h
  obtain ⟨its, rv, hl, _⟩ := I.list hs
  rw [Vals.ref1 r]
  obtain ⟨as, hR⟩ := Dp.readsAll I _ _ _ hd rv
  cases S with
  | nil => exact absurd hne (Nat.lt_irrefl 0)
  | cons x S =>
    have hu := hr.units
    have hd1 := depthAll_dI (x :: S)
    refine PySem.W.min_list_data (x := dI x) (xs := S.map dI) (as := as) (I.ok.hd hc) hl.isList hR (alikeAll_dI (x :: S)) ?_ fun i v h' tk bs hv hR' kp => ?_
    · have e : PyData.depthAll (dI x :: S.map dI) ≤ 1 := hd1
      omega
    · obtain ⟨m, em, hm⟩ := minD_least x S
      have hv' : its[i]? = some v := by simpa using hv
      obtain ⟨d, cs, hd2, hR2⟩ := readsAll_ix hR hv'
      obtain ⟨y, hy, ry⟩ := vals_ix rv hv'
      obtain ⟨n, hn, e⟩ : ∃ n, (x :: S)[i]? = some n ∧ d = dI n := by
        rw [List.getElem?_map] at hd2
        cases z : (x :: S)[i]? with
        | none =>
          rw [z] at hd2
          cases hd2
        | some n =>
          rw [z] at hd2
          exact ⟨n, rfl, (Option.some.inj hd2).symm⟩
      subst e
      rw [em] at hR'
      have e2 := PySem.W.alike_unique _ _ v _ _ (alike_dI n m) (PySem.W.reads_keeps kp hR2) hR'
      have e3 := dI_inj e2
      subst e3
      exact ⟨y, H, I.kept kp, ry, q i y n hy hn hm⟩
/-! ### min(a, b) of two values, compared where a heap stands -/
section
variable {prog : Program} {w : World} {A : Around} {E : Value → Shared → Prop} {s : Shared}
theorem min_pair {a b : Value} {x y : PyData} {as : List Addr} {Q : Value → Shared → Prop} (hh : A.handled = none) (hR : PySem.ReadsAll s.heap [a, b] [x, y] as) (ha : PySem.W.AlikeAll [x, y]) (hu : A.units + 1 + PyData.depthAll [x, y] < cLine)
    (h : ∀ h' tk, (∀ c o, s.heap.get? c = some o → h'.get? c = some o) → Q (if PySem.W.dataLt y x then b else a) { s with heap := h', toks := tk }) : wpAny (model prog w) A (call (.builtin "min") [a, b]) Q E s := by
  have nm : (toString "min" ++ toString ".loop" : String) = "min.loop" := by decide
  have hT : (s.heap.push { cls := .type "tuple", data := .seq #[a, b] }).IsTuple s.heap.objs.size #[a, b] := ⟨_, Heap.get?_push_size _ rfl, rfl, 0, rfl⟩
  have kp0 : ∀ c o, s.heap.get? c = some o → (s.heap.push { cls := .type "tuple", data := .seq #[a, b] }).get? c = some o := fun c o e => Heap.get?_push_of_some _ e
  have hR2 : PySem.ReadsAll (s.heap.push { cls := .type "tuple", data := .seq #[a, b] }) (#[a, b] : Array Value).toList [x, y] as := readsAll_kp kp0 hR
  refine call_function_tree F.kind_min F.plain_min F.entry_min (F.args_min2 _ _) ?_
  show wpAny _ A.in1 (Builtin.Builtins.bindParams _ _ _ _ >>= _) _ _ s
  refine wpAny_bind (wpAny_of_eq (show Builtin.Builtins.bindParams "min" ["key", "default"] 0 ⟨[], []⟩ = pure [none, none] from rfl) (show wpAny _ A.in1 (newTuple [a, b] >>= _) _ _ s from wpAny_bind (wpAny_newObj_type (wpAny_bind ?_))))
  refine PySem.W.iter_tupleW (A := A.in1) (s := { s with heap := s.heap.push { cls := .type "tuple", data := .seq #[a, b] } }) hh hT fun s₂ e W st hfp hw hk => ?_
  have hS : s₂.heap.objs.size ∉ _ := fun hm => Nat.lt_irrefl _ (hfp _ hm)
  refine wpAny_bind (wpAny_newObj_type ?_)
  rw [nm]
  refine wpAny_pure ⟨plainId_quiet F.plain_min_loop _, codeAny_min_loop_firstH W (s.heap.push { cls := .type "tuple", data := .seq #[a, b] }) hw (fun i j => PySem.W.dataLt ([x, y].getD i .none) ([x, y].getD j .none)) ?_ s₂.heap.objs.size hS (fresh_in hk) _ (show 0 < 2 by decide) (fun c o e => Heap.get?_push_of_some _ (hk c o e)) (W.frame 0 s₂ _ s₂.toks st (Nat.le_refl _) fun c _ o e => Heap.get?_push_of_some _ e) (Heap.get?_push_size _ rfl) fun v s' hP hm => ?_⟩
  · exact PySem.W.cmpIn_lt (A := A.in1) (s := { s with heap := s.heap.push { cls := .type "tuple", data := .seq #[a, b] } }) hR2 ha hu
  · obtain ⟨h', tk, rfl, hk'⟩ := PySem.W.moved_old e rfl (Moved.drop_new (tk := s₂.toks) hm (Nat.le_refl _))
    have q := h h' tk fun c o e => hk' c o (kp0 c o e)
    have ev : v = if PySem.W.dataLt y x then b else a := by
      cases z : PySem.W.dataLt y x with
      | true =>
        have e1 : argBest (fun i j => PySem.W.dataLt ([x, y].getD i .none) ([x, y].getD j .none)) 1 = 1 := if_pos z
        rw [show (#[a, b] : Array Value).size - 1 = 1 from rfl, e1] at hP
        exact (Option.some.inj hP).symm
      | false =>
        have e1 : argBest (fun i j => PySem.W.dataLt ([x, y].getD i .none) ([x, y].getD j .none)) 1 = 0 := if_neg (fun c => by
          have c : PySem.W.dataLt y x = true := c
          rw [z] at c
          cases c)
        rw [show (#[a, b] : Array Value).size - 1 = 1 from rfl, e1] at hP
        exact (Option.some.inj hP).symm
    rw [ev]
    exact q
end
/-- min(a, b) of two lists of ints -/
def rMin2 (K : PySem.W.Frag) : List V → Hp → VK → Prop := fun vs H Q => ∃ (x y : V) (a b : List Int), vs = [x, y] ∧ Dp K H x (dI a) ∧ Dp K H y (dI b) ∧ Q (if LtI b a then y else x) H
theorem cr_min2 {X : Cx} {K : PySem.W.Frag} (hK : X.K = K) (hc : X.calm = true) {k : Nat} (hr : Room k X.A) : CallR X (.builtin "min") (rMin2 K) := by
  subst hK
  intro pins s σ H vs us Q I r h
  obtain ⟨x, y, a, b, rfl, hx, hy, q⟩ := h
  obtain ⟨as, hR⟩ := Dp.readsAll I _ _ _ (.cons hx (.cons hy .nil)) r
  cases r with
  | cons r1 r2 =>
    cases r2 with
    | cons r2 r3 =>
      cases r3
      have hu := hr.units
      have hd1 := depthAll_dI [a, b]
      refine min_pair (I.ok.hd hc) hR (alikeAll_dI [a, b]) ?_ fun h' tk kp => ?_
      · have e : PyData.depthAll [dI a, dI b] ≤ 1 := hd1
        omega
      · have q : Q (if PySem.W.dataLt (dI b) (dI a) then y else x) H := q
        cases z : PySem.W.dataLt (dI b) (dI a) with
        | true =>
          rw [z] at q
          exact ⟨y, H, I.kept kp, r2, q⟩
        | false =>
          rw [z] at q
          exact ⟨x, H, I.kept kp, r1, q⟩
end Sd

namespace Sd
open PySem PySem.Spec PyProof.Rows L2

/-! ### turns, and all that are like -/
theorem ext_getD {a b : List Int} (hl : a.length = b.length) (h : ∀ j, j < a.length → a.getD j 0 = b.getD j 0) : a = b := by
  refine List.ext_getElem? fun j => ?_
  by_cases q : j < a.length
  · rw [at_getD q, at_getD (by omega), h j q]
  · rw [List.getElem?_eq_none (by omega), List.getElem?_eq_none (by omega)]
theorem rot_get {ns : List Int} {t : Int} {j : Nat} (h : j < ns.length) : (rot ns t).getD j 0 = ns.getD ((((j : Int) - t) % (ns.length : Int)).toNat) 0 := getD_at (rot_at h)
theorem mir_get {ns : List Int} {j : Nat} (h : j < ns.length) : (mir ns).getD j 0 = ns.getD (((-(j : Int)) % (ns.length : Int)).toNat) 0 := getD_at (mir_at h)
theorem rot_add (ns : List Int) (s t : Int) : rot (rot ns s) t = rot ns (s + t) := by
  refine ext_getD (by simp only [rot_len]) fun j hj => ?_
  simp only [rot_len] at hj
  have hm := mod_in (i := (j : Int) - t) (show 0 < ns.length by omega)
  rw [rot_get (by rw [rot_len]; exact hj), rot_len, rot_get (by omega), rot_get hj]
  rw [Int.toNat_of_nonneg hm.1, Int.emod_sub_emod]
  rw [show (j : Int) - t - s = (j : Int) - (s + t) by omega]
theorem rot_zero (ns : List Int) : rot ns 0 = ns := by
  refine ext_getD (rot_len _ _) fun j hj => ?_
  rw [rot_len] at hj
  rw [rot_get hj, Int.sub_zero, Int.emod_eq_of_lt (by omega) (by omega), Int.toNat_natCast]
theorem rot_full (ns : List Int) : rot ns (ns.length : Int) = ns := by
  rw [← rot_mod, Int.emod_self, rot_zero]
theorem mir_rot (ns : List Int) (t : Int) : mir (rot ns t) = rot (mir ns) (-t) := by
  refine ext_getD (by simp only [rot_len, mir_len]) fun j hj => ?_
  simp only [rot_len, mir_len] at hj
  have hm := mod_in (i := -(j : Int)) (show 0 < ns.length by omega)
  have hm2 := mod_in (i := (j : Int) - -t) (show 0 < ns.length by omega)
  rw [mir_get (by rw [rot_len]; exact hj), rot_len, rot_get (by omega), rot_get (by rw [mir_len]; exact hj), mir_len, mir_get (by omega)]
  rw [Int.toNat_of_nonneg hm.1, Int.toNat_of_nonneg hm2.1, Int.emod_sub_emod]
  have e : (-(((j : Int) - -t) % (ns.length : Int))) % (ns.length : Int) = (-((j : Int) - -t)) % (ns.length : Int) := by
    rw [← Int.zero_sub, ← Int.zero_sub ((j : Int) - -t), Int.sub_emod_emod]
  rw [e, show -((j : Int) - -t) = -(j : Int) - t by omega]
def turnsL (ns : List Int) : List (List Int) := (List.range ns.length).map fun (t : Nat) => rot ns (t : Int)
def bothL (ns : List Int) : List (List Int) := turnsL ns ++ turnsL (mir ns)
theorem turns_len (ns : List Int) : (turnsL ns).length = ns.length := by
  unfold turnsL
  rw [List.length_map, List.length_range]
theorem mem_turns {ns x : List Int} (h : 1 ≤ ns.length) : x ∈ turnsL ns ↔ ∃ t : Int, x = rot ns t := by
  unfold turnsL
  constructor
  · intro hx
    obtain ⟨t, _, rfl⟩ := List.mem_map.mp hx
    exact ⟨_, rfl⟩
  · intro ⟨t, ht⟩
    have hm := mod_in (i := t) (show 0 < ns.length by omega)
    refine List.mem_map.mpr ⟨(t % (ns.length : Int)).toNat, List.mem_range.mpr (by omega), ?_⟩
    rw [Int.toNat_of_nonneg hm.1, rot_mod, ht]
theorem mem_both {ns x : List Int} (h : 1 ≤ ns.length) : x ∈ bothL ns ↔ ∃ t : Int, x = rot ns t ∨ x = rot (mir ns) t := by
  unfold bothL
  rw [List.mem_append, mem_turns h, mem_turns (by rw [mir_len]; exact h)]
  constructor
  · rintro (⟨t, e⟩ | ⟨t, e⟩)
    · exact ⟨t, .inl e⟩
    · exact ⟨t, .inr e⟩
  · rintro ⟨t, e | e⟩
    · exact .inl ⟨t, e⟩
    · exact .inr ⟨t, e⟩
theorem both_len {ns x : List Int} (h : 1 ≤ ns.length) (hx : x ∈ bothL ns) : x.length = ns.length := by
  obtain ⟨t, rfl | rfl⟩ := (mem_both h).mp hx
  · exact rot_len _ _
  · rw [rot_len, mir_len]
theorem both_sub {ns ms x : List Int} (h : 1 ≤ ns.length) (hm : ms ∈ bothL ns) (hx : x ∈ bothL ms) : x ∈ bothL ns := by
  have hl := both_len h hm
  obtain ⟨s, e⟩ := (mem_both (by omega)).mp hx
  obtain ⟨t, rfl | rfl⟩ := (mem_both h).mp hm
  · rcases e with rfl | rfl
    · rw [rot_add]
      exact (mem_both h).mpr ⟨_, .inl rfl⟩
    · rw [mir_rot, rot_add]
      exact (mem_both h).mpr ⟨_, .inr rfl⟩
  · rcases e with rfl | rfl
    · rw [rot_add]
      exact (mem_both h).mpr ⟨_, .inr rfl⟩
    · rw [mir_rot, mir_mir, rot_add]
      exact (mem_both h).mpr ⟨_, .inl rfl⟩
theorem both_symm {ns ms : List Int} (h : 1 ≤ ns.length) (hm : ms ∈ bothL ns) : ns ∈ bothL ms := by
  have hl := both_len h hm
  obtain ⟨t, rfl | rfl⟩ := (mem_both h).mp hm
  · refine (mem_both (by omega)).mpr ⟨-t, .inl ?_⟩
    rw [rot_add, show t + -t = 0 by omega, rot_zero]
  · refine (mem_both (by omega)).mpr ⟨t, .inr ?_⟩
    rw [mir_rot, mir_mir, rot_add, show -t + t = 0 by omega, rot_zero]
theorem like_iff {ns ms m m' : List Int} (h : 1 ≤ ns.length) (h2 : 1 ≤ ms.length) (hm : LeastI (bothL ns) m) (hm' : LeastI (bothL ms) m') : m = m' ↔ ms ∈ bothL ns := by
  constructor
  · rintro rfl
    exact both_sub h hm.1 (both_symm h2 hm'.1)
  · intro e
    refine least_one hm (least_set hm' fun x => ⟨both_sub h e, both_sub h2 (both_symm h e)⟩)
theorem eqv_dI (a b : List Int) : PyData.eqv (dI a) (dI b) = decide (a = b) := by
  by_cases e : a = b
  · subst e
    rw [decide_eq_true rfl]
    exact PySem.W.eqv_refl_alike _ (alike_dI a a)
  · rw [decide_eq_false e]
    cases q : PyData.eqv (dI a) (dI b) with
    | false => rfl
    | true =>
      exfalso
      have z := (PySem.W.toks_eqv (dI a) (dI b) (alike_dI a b)).1 q
      unfold dI at z
      rw [PySem.W.keyToks, PySem.W.keyToks] at z
      exact e (toks_inj z)
theorem any_dI (S : List (List Int)) (m : List Int) : ((S.map dI).any fun z => PyData.eqv z (dI m)) = decide (m ∈ S) := by
  induction S with
  | nil => simp
  | cons a S ih =>
    rw [List.map_cons, List.any_cons, ih, eqv_dI]
    by_cases e : a = m
    · subst e
      simp
    · have e2 : ¬ m = a := fun z => e z.symm
      simp [e, e2]

/-! ### the turns at which one becomes the other -/
def hits (xs ys : List Int) (o : Int) : Nat → List Int
  | 0 => []
  | k + 1 => hits xs ys o k ++ (if rot xs (o + (k : Int)) = ys then [o + (k : Int)] else [])
theorem hits_yes {xs ys : List Int} {o : Int} {k : Nat} (h : rot xs (o + (k : Int)) = ys) : hits xs ys o (k + 1) = hits xs ys o k ++ [o + (k : Int)] := by
  rw [hits, if_pos h]
theorem hits_no {xs ys : List Int} {o : Int} {k : Nat} (h : ¬ rot xs (o + (k : Int)) = ys) : hits xs ys o (k + 1) = hits xs ys o k := by
  rw [hits, if_neg h, List.append_nil]
theorem hits_more (xs ys : List Int) (o : Int) (k : Nat) : ∀ m, ∃ r, hits xs ys o (k + m) = hits xs ys o k ++ r
  | 0 => ⟨[], by rw [List.append_nil]; rfl⟩
  | m + 1 => by
    obtain ⟨r, e⟩ := hits_more xs ys o k m
    refine ⟨r ++ (if rot xs (o + ((k + m : Nat) : Int)) = ys then [o + ((k + m : Nat) : Int)] else []), ?_⟩
    rw [← List.append_assoc, ← e]
    rfl
theorem hits_head {xs ys : List Int} {o : Int} {k n : Nat} (h0 : hits xs ys o k = []) (h : rot xs (o + (k : Int)) = ys) (hk : k < n) : ∃ r, hits xs ys o n = (o + (k : Int)) :: r := by
  obtain ⟨r, e⟩ := hits_more xs ys o (k + 1) (n - (k + 1))
  rw [show k + 1 + (n - (k + 1)) = n by omega, hits_yes h, h0] at e
  exact ⟨r, e⟩
theorem hits_shift (xs ys : List Int) (o : Int) : ∀ k, hits xs ys o k = (hits (rot xs o) ys 0 k).map (o + ·)
  | 0 => rfl
  | k + 1 => by
    have e : rot (rot xs o) (0 + (k : Int)) = rot xs (o + (k : Int)) := by rw [rot_add, show o + (0 + (k : Int)) = o + (k : Int) by omega]
    by_cases q : rot xs (o + (k : Int)) = ys
    · rw [hits_yes q, hits_yes (by rw [e]; exact q), hits_shift xs ys o k, List.map_append]
      simp
    · rw [hits_no q, hits_no (by rw [e]; exact q), hits_shift xs ys o k]
theorem hits_all {xs ys : List Int} {o : Int} : ∀ {k : Nat}, ∀ t ∈ hits xs ys o k, o ≤ t ∧ t < o + (k : Int)
  | 0, t, h => by cases h
  | k + 1, t, h => by
    rw [hits] at h
    rcases List.mem_append.mp h with h | h
    · have := hits_all t h
      omega
    · split at h
      · have := List.mem_singleton.mp h
        omega
      · cases h
theorem hits_len (xs ys : List Int) (o : Int) : ∀ k, (hits xs ys o k).length ≤ k
  | 0 => Nat.le_refl _
  | k + 1 => by
    have := hits_len xs ys o k
    rw [hits, List.length_append]
    split
    · simp only [List.length_singleton]; omega
    · simp only [List.length_nil]; omega
theorem hits_ab {xs ys : List Int} {o : Int} {k : Nat} (h0 : 0 ≤ o) (ho : o ≤ 10) (hk : k ≤ 1000) : Ab 100 (hits xs ys o k) := fun t ht => by
  have := hits_all t ht
  exact Nat.lt_of_lt_of_le (m := 1100) (by omega) (by decide)
/-- the period -/
def perL (ns : List Int) : List Int := hits ns ns 1 ns.length
theorem per_ex {ns : List Int} (h : 1 ≤ ns.length) : ∃ p r, perL ns = p :: r := by
  unfold perL
  cases e : hits ns ns 1 ns.length with
  | cons p r => exact ⟨p, r, rfl⟩
  | nil =>
    exfalso
    obtain ⟨k, hk⟩ : ∃ k, ns.length = k + 1 := ⟨ns.length - 1, by omega⟩
    rw [hk, hits_yes (by rw [show (1 : Int) + (k : Int) = ((k + 1 : Nat) : Int) by omega, ← hk]; exact rot_full ns)] at e
    have := congrArg List.length e
    simp at this

/-! ### rows of new lists -/
inductive Rows (H H' : Hp) : List V → List (List Int) → Prop
  | nil : Rows H H' [] []
  | cons {l : Addr} {m : List Int} {vs : List V} {S : List (List Int)} : H l = none → H' l = some (.lst (m.map V.int)) → Rows H H' vs S → Rows H H' (.ref l :: vs) (m :: S)
theorem Rows.up {H H1 H2 : Hp} {vs : List V} {S : List (List Int)} (h : Rows H H1 vs S) (s : Same H1 H2) : Rows H H2 vs S := by
  induction h with
  | nil => exact .nil
  | cons a b _ ih => exact .cons a (s _ _ b) ih
theorem Rows.down {H0 H H1 : Hp} {vs : List V} {S : List (List Int)} (h : Rows H H1 vs S) (s : Same H0 H) : Rows H0 H1 vs S := by
  induction h with
  | nil => exact .nil
  | cons a b _ ih => exact .cons (s.free a) b ih
theorem Rows.snoc {H H1 : Hp} {vs : List V} {S : List (List Int)} {l : Addr} {m : List Int} (h : Rows H H1 vs S) (a : H l = none) (b : H1 l = some (.lst (m.map V.int))) : Rows H H1 (vs ++ [.ref l]) (S ++ [m]) := by
  induction h with
  | nil => exact .cons a b .nil
  | cons c d _ ih => exact .cons c d ih
theorem Rows.app {H H1 : Hp} {vs ws : List V} {S T : List (List Int)} (h : Rows H H1 vs S) (k : Rows H H1 ws T) : Rows H H1 (vs ++ ws) (S ++ T) := by
  induction h with
  | nil => exact k
  | cons c d _ ih => exact .cons c d ih
theorem Rows.len {H H1 : Hp} {vs : List V} {S : List (List Int)} (h : Rows H H1 vs S) : vs.length = S.length := by
  induction h with
  | nil => rfl
  | cons _ _ _ ih => rw [List.length_cons, List.length_cons, ih]
theorem Rows.dp {K : PySem.W.Frag} {H H1 : Hp} {vs : List V} {S : List (List Int)} (h : Rows H H1 vs S) : DpAll K H1 vs (S.map dI) := by
  induction h with
  | nil => exact .nil
  | cons _ b _ ih => exact .cons (dp_ints (SqL.of b)) ih
theorem Rows.at {H H1 : Hp} {vs : List V} {S : List (List Int)} (h : Rows H H1 vs S) {i : Nat} {v : V} (hv : vs[i]? = some v) : ∃ l m, v = .ref l ∧ S[i]? = some m ∧ H l = none ∧ H1 l = some (.lst (m.map V.int)) := by
  induction h generalizing i with
  | nil => simp at hv
  | cons a b _ ih =>
    cases i with
    | zero =>
      have e := Option.some.inj (show some _ = some _ from hv)
      subst e
      exact ⟨_, _, rfl, rfl, a, b⟩
    | succ i => exact ih (i := i) (by simpa using hv)
theorem take_map_next {f : Nat → List Int} {n i : Nat} (h : i < n) : ((List.range n).map f).take i ++ [f i] = ((List.range n).map f).take (i + 1) := by
  rw [List.take_add_one, List.getElem?_map, List.getElem?_range h]
  rfl
theorem rows_over {H H1 : Hp} {vs : List V} {S : List (List Int)} {D : Addr} {o : HO} (h : Rows H H1 vs S) (k : ∀ l, V.ref l ∈ vs → l ≠ D) : Rows H (upd H1 D o) vs S := by
  induction h with
  | nil => exact .nil
  | cons a b _ ih => exact .cons a (by rw [upd_ne (k _ List.mem_cons_self)]; exact b) (ih fun l hl => k l (List.mem_cons_of_mem _ hl))
theorem Rows.ne {H H1 : Hp} {vs : List V} {S : List (List Int)} {D : Addr} {o : HO} (h : Rows H H1 vs S) (e : H1 D = some (.lst vs)) : ∀ l, V.ref l ∈ vs → l ≠ D := by
  intro l hl z
  subst z
  have : ∀ {ws : List V} {T : List (List Int)}, Rows H H1 ws T → V.ref l ∈ ws → ∃ m : List Int, H1 l = some (.lst (m.map V.int)) := by
    intro ws T h2
    induction h2 with
    | nil => intro z; cases z
    | cons a b _ ih =>
      intro z
      rcases List.mem_cons.mp z with z | z
      · cases z
        exact ⟨_, b⟩
      · exact ih z
  obtain ⟨m, hm⟩ := this h hl
  rw [e] at hm
  have hm : vs = m.map V.int := by
    have := Option.some.inj hm
    injection this
  rw [hm] at hl
  obtain ⟨i, _, z⟩ := List.mem_map.mp hl
  cases z
theorem Rim.of_both {ns m : List Int} (h : Rim ns) (hm : m ∈ bothL ns) : Rim m := by
  obtain ⟨t, rfl | rfl⟩ := (mem_both h.pos).mp hm
  · exact h.rot t
  · exact h.mir.rot t
theorem tank_free {T : Addr} {H H' : Hp} {c d : Int} {p : Addr} (u : But T H H') (k : Tank H T c) (k' : Tank H' T d) (h : H' p = none) : H p = none := by
  obtain ⟨o, e⟩ := k.some
  obtain ⟨o', e'⟩ := k'.some
  exact free_but u e h (by rw [e']; exact fun z => nomatch z)
/-- one of some new lists -/
def OneOf (H H' : Hp) (T : Addr) (n : Nat) (v : V) : Prop := ∃ (l : Addr) (ms : List Int), v = .ref l ∧ H l = none ∧ l ≠ T ∧ H' l = some (.lst (ms.map V.int)) ∧ Rim ms ∧ ms.length = n
theorem OneOf.but {H H1 H2 : Hp} {T : Addr} {n : Nat} {v : V} (h : OneOf H H1 T n v) (u : But T H1 H2) : OneOf H H2 T n v := by
  obtain ⟨l, ms, e, a, b, c, d, f⟩ := h
  exact ⟨l, ms, e, a, b, u _ _ c b, d, f⟩
theorem at_any {xs : List V} {i : Int} (h0 : 0 ≤ i) (h1 : i < xs.length) : ∃ v, v ∈ xs ∧ atI xs i = some v := by
  obtain ⟨j, rfl⟩ : ∃ j : Nat, i = (j : Int) := ⟨i.toNat, by omega⟩
  have h3 : j < xs.length := by omega
  exact ⟨xs[j], List.getElem_mem h3, atI_nat (List.getElem?_eq_getElem h3)⟩
theorem rows_step {H H1 H2 : Hp} {D l : Addr} {vs : List V} {S : List (List Int)} {i : Nat} {m : List Int} (hD : H D = none) (s1 : Same H H1) (hD1 : H1 D = some (.lst vs)) (hr1 : Rows H H1 vs (S.take i)) (s2 : Same H1 H2) (hl : H1 l = none) (hl2 : H2 l = some (.lst (m.map V.int))) (hi : S[i]? = some m) :
    Same H (upd H2 D (.lst (vs ++ [.ref l]))) ∧ Rows H (upd H2 D (.lst (vs ++ [.ref l]))) (vs ++ [.ref l]) (S.take (i + 1)) := by
  refine ⟨same_over (s1.trans s2) hD, ?_⟩
  have nl : l ≠ D := fun e => by
    rw [e, hD1] at hl
    cases hl
  have hr3 := hr1.up s2
  have hr4 := rows_over (o := .lst (vs ++ [.ref l])) hr3 (hr3.ne (o := .lst vs) (s2 _ _ hD1))
  have := hr4.snoc (s1.free hl) (m := m) (by rw [upd_ne nl]; exact hl2)
  rw [List.take_add_one, hi]
  exact this
theorem turns_at {ns : List Int} {i : Nat} (h : i < ns.length) : (turnsL ns)[i]? = some (rot ns (0 + (i : Int))) := by
  unfold turnsL
  rw [List.getElem?_map, List.getElem?_range h, Int.zero_add]
  rfl
theorem rows_fit {H H1 : Hp} {vs : List V} {S : List (List Int)} {i n : Nat} (h : Rows H H1 vs (S.take i)) (hn : S.length = n) (hk : n ≤ 100000) : vs.length < sizeLine := by
  have := h.len
  rw [List.length_take] at this
  exact sz40 (by omega)
/-- the answers, as data -/
def ansD (p hs : List Int) (m m2 : List Int) (x : Bool) : PyData := .list [headD p, headD hs, dI m, dI m2, .bool x]
theorem rp_bl (x : Bool) : RP (.bool x) := ⟨by simp only [PyData.showable], by simp only [PyData.hasDict], by simp only [PyData.canLay0], by simp only [PyData.depth]; omega⟩
theorem depth_head : ∀ l : List Int, (headD l).depth ≤ 1
  | [] => by simp only [headD, PyData.depth]; omega
  | _ :: _ => by simp only [headD, PyData.depth]; omega
theorem shown_head {l : List Int} (h : Ab 100 l) : (headD l).shown.length ≤ 100000 := by
  cases l with
  | nil => decide +kernel
  | cons x r => exact Nat.le_trans (shown_int (Nat.lt_of_lt_of_le (h x List.mem_cons_self) (pow_up (by decide)))) (by decide)
theorem ansD_rp {p hs m m2 : List Int} {x : Bool} (h1 : Ab 100 p) (h2 : Ab 100 hs) (h3 : Rim m) (h4 : Rim m2) : RP (ansD p hs m m2 x) ∧ (ansD p hs m m2 x).shown.length ≤ sizeLine := by
  have d3 := dp_ints_depth h3.abs
  have d4 := dp_ints_depth h4.abs
  refine ⟨((RPs.cons (rp_head h1) (depth_head p) (RPs.cons (rp_head h2) (depth_head hs) (RPs.cons h3.rp d3 (RPs.cons h4.rp d4 (RPs.cons (rp_bl x) (by simp only [PyData.depth]; omega) RPs.nil))))).list (by omega)).1, ?_⟩
  have e := shown_list (B := 100000) (ds := [headD p, headD hs, dI m, dI m2, .bool x]) fun d hd => by
    simp only [List.mem_cons, List.not_mem_nil, or_false] at hd
    rcases hd with rfl | rfl | rfl | rfl | rfl
    · exact shown_head h1
    · exact shown_head h2
    · have := shown_ints h3.abs
      have := h3.le
      omega
    · have := shown_ints h4.abs
      have := h4.le
      omega
    · cases x <;> decide +kernel
  exact fit_le (Nat.le_trans e (by show (100000 + 2) * 5 + 3 ≤ 16000000; decide))
theorem ansD_dp {K : PySem.W.Frag} {H : Hp} {l a b : Addr} {p hs m m2 : List Int} {x : Bool} (h : SqL K H l [headV p, headV hs, .ref a, .ref b, .bl x]) (ha : SqL K H a (m.map V.int)) (hb : SqL K H b (m2.map V.int)) : Dp K H (.ref l) (ansD p hs m m2 x) :=
  .lst h (.cons (dp_head p) (.cons (dp_head hs) (.cons (dp_ints ha) (.cons (dp_ints hb) (.cons (.bl x) .nil)))))
theorem atI_cons {v : V} {vs : List V} : atI (v :: vs) 0 = some v := atI_nat (j := 0) rfl
theorem perL_ab {ns : List Int} (h : ns.length ≤ 40) : Ab 100 (perL ns) := hits_ab (by decide) (by decide) (by omega)
theorem inD {X : Cx} {K : PySem.W.Frag} (h : X.K = K) {k : Nat} (hr : Room k X.A) : OpR X (compareOp .In) (rInD K) := h ▸ op_inD (by have := hr.un; omega)
end Sd

namespace Sd
open PySem PySem.Spec PyProof.Rows L2

/-! ### lights of turned and of mirrored discs -/
def cutAt (l : List Int) (b : Int) : Nat := ((0 - b) % (l.length : Int)).toNat
theorem on_rot {l : List Int} (b : Int) (h : 1 ≤ l.length) : l.drop (cutAt l b) ++ l.take (cutAt l b) = rot l b := by
  have hm := mod_in (i := 0 - b) (show 0 < l.length by omega)
  have hc : ((cutAt l b : Nat) : Int) = (0 - b) % (l.length : Int) := Int.toNat_of_nonneg hm.1
  generalize cutAt l b = c at hc
  have hcl : c < l.length := by omega
  refine ext_getD ?_ fun j hj => ?_
  · rw [List.length_append, List.length_drop, List.length_take, rot_len]
    omega
  · rw [List.length_append, List.length_drop, List.length_take] at hj
    have hj : j < l.length := by omega
    rw [rot_get hj]
    have e : ((j : Int) - b) % (l.length : Int) = ((c : Int) + j) % (l.length : Int) := by
      rw [hc, Int.emod_add_emod]
      exact congrArg (· % (l.length : Int)) (by omega)
    rw [e]
    rw [List.getD_eq_getElem?_getD, List.getD_eq_getElem?_getD]
    by_cases q : j < l.length - c
    · rw [List.getElem?_append_left (by rw [List.length_drop]; exact q), List.getElem?_drop, Int.emod_eq_of_lt (by omega) (by omega)]
      rw [show ((c : Int) + (j : Int)).toNat = c + j by omega]
    · rw [List.getElem?_append_right (by rw [List.length_drop]; omega), List.length_drop, List.getElem?_take_of_lt (by omega)]
      rw [show ((c : Int) + (j : Int)) = ((j - (l.length - c) : Nat) : Int) + (l.length : Int) by omega, Int.add_emod_right, Int.emod_eq_of_lt (by omega) (by omega), Int.toNat_natCast]
theorem sum_rot (l : List Int) (b : Int) : (rot l b).sum = l.sum := by
  by_cases h : 1 ≤ l.length
  · rw [← on_rot b h, List.sum_append, Int.add_comm, ← List.sum_append, List.take_append_drop]
  · have : l = [] := List.length_eq_zero_iff.mp (by omega)
    subst this
    rfl
theorem mir_cut {l : List Int} (h : 1 ≤ l.length) : l.take 1 ++ (l.drop 1).reverse = mir l := by
  refine ext_getD ?_ fun j hj => ?_
  · rw [List.length_append, List.length_reverse, List.length_drop, List.length_take, mir_len]
    omega
  · rw [List.length_append, List.length_reverse, List.length_drop, List.length_take] at hj
    have hj : j < l.length := by omega
    rw [mir_get hj, List.getD_eq_getElem?_getD, List.getD_eq_getElem?_getD]
    by_cases q : j = 0
    · subst q
      rw [List.getElem?_append_left (by rw [List.length_take]; omega), List.getElem?_take_of_lt (by omega)]
      rw [show (-((0 : Nat) : Int)) % (l.length : Int) = 0 by simp]
      rfl
    · rw [List.getElem?_append_right (by rw [List.length_take]; omega), List.length_take, List.getElem?_reverse (by rw [List.length_drop]; omega), List.length_drop, List.getElem?_drop]
      have e : (-(j : Int)) % (l.length : Int) = (l.length : Int) - j := by
        rw [← Int.add_emod_right, Int.emod_eq_of_lt (by omega) (by omega)]
        omega
      rw [e]
      rw [show 1 + (l.length - 1 - 1 - (j - min 1 l.length)) = ((l.length : Int) - (j : Int)).toNat by omega]
theorem sum_mir (l : List Int) : (mir l).sum = l.sum := by
  by_cases h : 1 ≤ l.length
  · rw [← mir_cut h, List.sum_append, List.sum_reverse, ← List.sum_append, List.take_append_drop]
  · have : l = [] := List.length_eq_zero_iff.mp (by omega)
    subst this
    rfl
theorem prods_get {a b : List Int} {j : Nat} (h1 : j < a.length) (h2 : j < b.length) : (prods a b).getD j 0 = a.getD j 0 * b.getD j 0 := getD_at (prods_at (at_getD h1) (at_getD h2))
theorem prods_rot {a b : List Int} (hl : a.length = b.length) (s : Int) : prods (rot a s) (rot b s) = rot (prods a b) s := by
  have lp : (prods a b).length = a.length := by rw [prods_len]; omega
  refine ext_getD (by rw [prods_len, rot_len, rot_len, rot_len, lp]; omega) fun j hj => ?_
  rw [prods_len, rot_len, rot_len] at hj
  have hm := mod_in (i := (j : Int) - s) (show 0 < a.length by omega)
  rw [prods_get (by rw [rot_len]; omega) (by rw [rot_len]; omega), rot_get (by omega), rot_get (by omega), rot_get (by omega), lp, ← hl, prods_get (by omega) (by omega)]
theorem prods_mir {a b : List Int} (hl : a.length = b.length) : prods (mir a) (mir b) = mir (prods a b) := by
  have lp : (prods a b).length = a.length := by rw [prods_len]; omega
  refine ext_getD (by rw [prods_len, mir_len, mir_len, mir_len, lp]; omega) fun j hj => ?_
  rw [prods_len, mir_len, mir_len] at hj
  have hm := mod_in (i := -(j : Int)) (show 0 < a.length by omega)
  rw [prods_get (by rw [mir_len]; omega) (by rw [mir_len]; omega), mir_get (by omega), mir_get (by omega), mir_get (by omega), lp, ← hl, prods_get (by omega) (by omega)]
theorem prods_comm (a b : List Int) : prods a b = prods b a := by
  unfold prods
  exact List.zipWith_comm_of_comm Int.mul_comm
theorem light_rot2 (ns ms : List Int) (b t : Int) : lightV ns (rot ms b) t = lightV ns ms (t + b) := by
  unfold lightV
  rw [rot_add, Int.add_comm]
theorem light_rot1 {ns ms : List Int} (hl : ns.length = ms.length) (b t : Int) : lightV (rot ns b) ms t = lightV ns ms (t - b) := by
  unfold lightV
  rw [show rot ms t = rot (rot ms (t - b)) b by rw [rot_add, show t - b + b = t by omega], prods_rot (by rw [rot_len]; exact hl), sum_rot]
theorem light_mir {ns ms : List Int} (hl : ns.length = ms.length) (t : Int) : lightV (mir ns) (mir ms) t = lightV ns ms (-t) := by
  unfold lightV
  rw [show rot (mir ms) t = mir (rot ms (-t)) by rw [mir_rot, Int.neg_neg], prods_mir (by rw [rot_len]; exact hl), sum_mir]
theorem light_swap {ns ms : List Int} (hl : ns.length = ms.length) (t : Int) : lightV ms ns t = lightV ns ms (-t) := by
  have e := light_rot1 hl t 0
  rw [show (0 : Int) - t = -t by omega] at e
  rw [← e]
  unfold lightV
  rw [rot_zero, prods_comm]
theorem lights_get {ns ms : List Int} {i : Nat} (h : i < ns.length) : (lightsV ns ms).getD i 0 = lightV ns ms (i : Int) := getD_at (lightsV_at h)
theorem lights_getM {ns ms : List Int} (hl : ns.length = ms.length) (h1 : 1 ≤ ns.length) (t : Int) : (lightsV ns ms).getD ((t % (ns.length : Int)).toNat) 0 = lightV ns ms t := by
  have hm := mod_in (i := t) (show 0 < ns.length by omega)
  rw [lights_get (by omega), Int.toNat_of_nonneg hm.1, hl, lightV_mod]
theorem lights_rotG {ns ms as bs : List Int} (hl : ns.length = ms.length) (ha : as.length = ns.length) (b : Int) (h : ∀ t, lightV as bs t = lightV ns ms (t - b)) : lightsV as bs = rot (lightsV ns ms) b := by
  refine ext_getD (by rw [rot_len, lightsV_len, lightsV_len, ha]) fun j hj => ?_
  rw [lightsV_len] at hj
  rw [lights_get hj, rot_get (by rw [lightsV_len]; omega), lightsV_len, lights_getM hl (by omega), h]
theorem lights_mirG {ns ms as bs : List Int} (hl : ns.length = ms.length) (ha : as.length = ns.length) (h : ∀ t, lightV as bs t = lightV ns ms (-t)) : lightsV as bs = mir (lightsV ns ms) := by
  refine ext_getD (by rw [mir_len, lightsV_len, lightsV_len, ha]) fun j hj => ?_
  rw [lightsV_len] at hj
  rw [lights_get hj, mir_get (by rw [lightsV_len]; omega), lightsV_len, lights_getM hl (by omega), h]
theorem lights_rot2 {ns ms : List Int} (hl : ns.length = ms.length) (b : Int) : lightsV ns (rot ms b) = rot (lightsV ns ms) (0 - b) :=
  lights_rotG hl rfl _ fun t => by rw [light_rot2, show t - (0 - b) = t + b by omega]
theorem lights_rot1 {ns ms : List Int} (hl : ns.length = ms.length) (b : Int) : lightsV (rot ns b) ms = rot (lightsV ns ms) b :=
  lights_rotG hl (rot_len _ _) _ fun t => light_rot1 hl b t
theorem lights_both {ns ms : List Int} (hl : ns.length = ms.length) (b : Int) : lightsV (rot ns b) (rot ms b) = lightsV ns ms := by
  have := lights_rotG (as := rot ns b) (bs := rot ms b) hl (rot_len _ _) 0 fun t => by rw [light_rot2, light_rot1 hl, show t + b - b = t - 0 by omega]
  rw [this, rot_zero]
theorem lights_mir {ns ms : List Int} (hl : ns.length = ms.length) : lightsV (mir ns) (mir ms) = mir (lightsV ns ms) := lights_mirG hl (mir_len _) fun t => light_mir hl t
theorem lights_swap {ns ms : List Int} (hl : ns.length = ms.length) : lightsV ms ns = mir (lightsV ns ms) := lights_mirG hl hl.symm fun t => light_swap hl t
theorem steps_rot2 (ns ms : List Int) (b f st : Int) (k : Nat) : stepsV ns (rot ms b) f st k = stepsV ns ms (f + b) st k := by
  unfold stepsV
  refine List.map_congr_left fun i _ => ?_
  rw [light_rot2, show f + st * (i : Int) + b = f + b + st * (i : Int) by omega]
theorem far_rot2 {ns ms : List Int} (hl : ns.length = ms.length) (b f st N : Int) : farV ns (rot ms b) f st N = farV ns ms ((f + b) % (ns.length : Int)) st N := by
  unfold farV
  rw [steps_rot2, hl, stepsV_mod]

/-! ### the period -/
theorem hits_congr {xs ys xs' ys' : List Int} {o : Int} (h : ∀ t, rot xs t = ys ↔ rot xs' t = ys') : ∀ k, hits xs ys o k = hits xs' ys' o k
  | 0 => rfl
  | k + 1 => by
    by_cases q : rot xs (o + (k : Int)) = ys
    · rw [hits_yes q, hits_yes ((h _).mp q), hits_congr h k]
    · rw [hits_no q, hits_no (fun z => q ((h _).mpr z)), hits_congr h k]
theorem hits_first {xs ys : List Int} {o p : Int} {r : List Int} : ∀ {k : Nat}, hits xs ys o k = p :: r → rot xs p = ys ∧ o ≤ p ∧ p < o + (k : Int) ∧ ∀ t, o ≤ t → t < p → ¬ rot xs t = ys
  | 0, h => by cases h
  | k + 1, h => by
    by_cases q : rot xs (o + (k : Int)) = ys
    · rw [hits_yes q] at h
      cases e : hits xs ys o k with
      | nil =>
        rw [e] at h
        have hp := (List.cons.inj h).1
        subst hp
        refine ⟨q, by omega, by omega, fun t h1 h2 z => ?_⟩
        have : ∀ {k : Nat} {t : Int}, o ≤ t → t < o + (k : Int) → rot xs t = ys → hits xs ys o k ≠ [] := by
            intro k
            induction k with
            | zero => intro t a b _; omega
            | succ k ih =>
              intro t a b z e
              by_cases c : t = o + (k : Int)
              · subst c
                rw [hits_yes z] at e
                have := congrArg List.length e
                simp at this
              · refine ih a (by omega) z ?_
                rw [hits] at e
                exact (List.append_eq_nil_iff.mp e).1
        exact this h1 h2 z e
      | cons p' r' =>
        rw [e] at h
        have hp : p' = p := (List.cons.inj h).1
        subst hp
        obtain ⟨a, b, c, d⟩ := hits_first (k := k) e
        exact ⟨a, b, by omega, d⟩
    · rw [hits_no q] at h
      obtain ⟨a, b, c, d⟩ := hits_first (k := k) h
      exact ⟨a, b, by omega, d⟩
theorem hits_ex {xs ys : List Int} {o t : Int} : ∀ {k : Nat}, o ≤ t → t < o + (k : Int) → rot xs t = ys → ∃ p r, hits xs ys o k = p :: r
  | 0, a, b, _ => by omega
  | k + 1, a, b, z => by
    by_cases c : t = o + (k : Int)
    · subst c
      rw [hits_yes z]
      cases hits xs ys o k with
      | nil => exact ⟨_, _, rfl⟩
      | cons p r => exact ⟨_, _, rfl⟩
    · obtain ⟨p, r, e⟩ := hits_ex (k := k) a (by omega) z
      rw [hits, e]
      exact ⟨_, _, rfl⟩
theorem rot_inj {ns : List Int} {s t : Int} (h : rot ns s = rot ns t) : rot ns (s - t) = ns := by
  have e := congrArg (fun l => rot l (0 - t)) h
  simp only [rot_add] at e
  rw [show t + (0 - t) = 0 by omega, rot_zero, show s + (0 - t) = s - t by omega] at e
  exact e
/-- what the period is -/
structure Per (ns : List Int) (p : Int) : Prop where
  fix : rot ns p = ns
  pos : 1 ≤ p
  le : p ≤ ns.length
  low : ∀ t, 1 ≤ t → t < p → ¬ rot ns t = ns
theorem per_of {ns : List Int} {p : Int} {r : List Int} (h : perL ns = p :: r) : Per ns p := by
  unfold perL at h
  obtain ⟨a, b, c, d⟩ := hits_first h
  exact ⟨a, b, by omega, d⟩
theorem Per.mul {ns : List Int} {p : Int} (h : Per ns p) : ∀ q : Nat, rot ns (p * (q : Int)) = ns
  | 0 => by rw [show p * ((0 : Nat) : Int) = 0 by simp, rot_zero]
  | q + 1 => by
    rw [show p * ((q + 1 : Nat) : Int) = p * (q : Int) + p by rw [Int.natCast_succ, Int.mul_add, Int.mul_one], ← rot_add, h.mul q, h.fix]
theorem Per.mulZ {ns : List Int} {p : Int} (h : Per ns p) (q : Int) : rot ns (p * q) = ns := by
  rcases Int.eq_nat_or_neg q with ⟨k, e | e⟩
  · rw [e]
    exact h.mul k
  · have e2 := rot_inj (ns := ns) (s := 0) (t := p * (k : Int)) (by rw [rot_zero, h.mul k])
    rw [show (0 : Int) - p * (k : Int) = p * q by rw [e, Int.mul_neg]; omega] at e2
    exact e2
theorem Per.mod {ns : List Int} {p : Int} (h : Per ns p) (t : Int) : rot ns (t % p) = rot ns t := by
  have e := Int.mul_ediv_add_emod t p
  have e2 : rot (rot ns (p * (t / p))) (t % p) = rot ns t := by rw [rot_add, e]
  rw [h.mulZ] at e2
  exact e2
theorem Per.zero {ns : List Int} {p : Int} (h : Per ns p) {t : Int} (e : rot ns t = ns) : t % p = 0 := by
  have hp := h.pos
  have a := Int.emod_nonneg t (show p ≠ 0 by omega)
  have b := Int.emod_lt_of_pos t (show 0 < p by omega)
  rw [← h.mod] at e
  by_cases c : 1 ≤ t % p
  · exact absurd e (h.low _ c b)
  · omega
theorem Per.dvd {ns : List Int} {p : Int} (h : Per ns p) : (ns.length : Int) % p = 0 := h.zero (rot_full ns)
/-- the least turn from one to the other lies below the period -/
theorem Per.first {ns ms : List Int} {p q : Int} {r : List Int} {k : Nat} (h : Per ns p) (e : hits ns ms 0 k = q :: r) : 0 ≤ q ∧ q < p ∧ rot ns q = ms := by
  obtain ⟨a, b, _, d⟩ := hits_first e
  have hp := h.pos
  have m0 := Int.emod_nonneg q (show p ≠ 0 by omega)
  have m1 := Int.emod_lt_of_pos q (show 0 < p by omega)
  refine ⟨b, ?_, a⟩
  by_cases c : q < p
  · exact c
  · exact absurd (by rw [h.mod]; exact a) (d (q % p) m0 (by omega))
theorem Per.between {ns : List Int} {p q b : Int} {r : List Int} {k : Nat} (h : Per ns p) (e : hits ns (rot ns b) 0 k = q :: r) : q = b % p := by
  obtain ⟨q0, q1, q2⟩ := h.first e
  have z := h.zero (rot_inj q2)
  have e2 : q % p = b % p := Int.emod_eq_emod_iff_emod_sub_eq_zero.mpr z
  rw [Int.emod_eq_of_lt q0 q1] at e2
  exact e2
theorem per_rot {ns : List Int} (b : Int) : perL (rot ns b) = perL ns := by
  unfold perL
  rw [rot_len]
  refine hits_congr (fun t => ?_) _
  rw [rot_add]
  constructor
  · intro h
    have := rot_inj h
    rw [show b + t - b = t by omega] at this
    exact this
  · intro h
    rw [show b + t = t + b by omega, ← rot_add, h]
theorem per_mir {ns : List Int} : perL (mir ns) = perL ns := by
  unfold perL
  rw [mir_len]
  refine hits_congr (fun t => ?_) _
  have key : ∀ {xs : List Int} {t : Int}, rot xs t = xs → rot (mir xs) t = mir xs := fun {xs t} h => by
    have e := congrArg mir h
    rw [mir_rot] at e
    have e2 := rot_inj (ns := mir xs) (s := 0) (t := -t) (by rw [rot_zero, e])
    rw [show (0 : Int) - -t = t by omega] at e2
    exact e2
  constructor
  · intro h
    have := key h
    rw [mir_mir] at this
    exact this
  · exact key

/-! ### sorted lists -/
theorem sorted_eq : ∀ {a b : List Int}, a.Perm b → a.Pairwise (· ≤ ·) → b.Pairwise (· ≤ ·) → a = b
  | [], b, p, _, _ => (List.nil_perm.mp p).symm
  | x :: a, b, p, ha, hb => by
    cases b with
    | nil => exact absurd p.length_eq (by simp)
    | cons y b =>
      have h1 := List.pairwise_cons.mp ha
      have h2 := List.pairwise_cons.mp hb
      have e : x = y := by
        rcases List.mem_cons.mp (p.mem_iff.mp List.mem_cons_self) with e | e
        · exact e
        · rcases List.mem_cons.mp (p.mem_iff.mpr List.mem_cons_self) with e' | e'
          · exact e'.symm
          · have := h1.1 y e'
            have := h2.1 x e
            omega
      subst e
      rw [sorted_eq p.cons_inv h1.2 h2.2]
theorem perm_mem : ∀ {a b : List Int}, a.Nodup → b.Nodup → (∀ x, x ∈ a ↔ x ∈ b) → a.Perm b
  | [], b, _, _, h => by
    cases b with
    | nil => exact .nil
    | cons y b => exact absurd ((h y).mpr List.mem_cons_self) (List.not_mem_nil)
  | x :: a, b, ha, hb, h => by
    have h1 := List.nodup_cons.mp ha
    have hx : x ∈ b := (h x).mp List.mem_cons_self
    have p := List.perm_cons_erase hx
    refine List.Perm.trans (List.Perm.cons x (perm_mem h1.2 (hb.erase x) fun y => ?_)) p.symm
    rw [hb.mem_erase_iff]
    constructor
    · intro hy
      exact ⟨fun e => h1.1 (by rw [← e]; exact hy), (h y).mp (List.mem_cons_of_mem _ hy)⟩
    · rintro ⟨n, hy⟩
      rcases List.mem_cons.mp ((h y).mpr hy) with e | e
      · exact absurd e n
      · exact e
theorem mem_places {p : Int → Bool} {ns : List Int} {k : Nat} {x : Int} : x ∈ places p ns k ↔ ∃ i : Nat, x = (i : Int) ∧ i < k ∧ p (ns.getD i 0) = true := by
  unfold places
  constructor
  · intro h
    obtain ⟨i, hi, rfl⟩ := List.mem_map.mp h
    have := List.mem_filter.mp hi
    exact ⟨i, rfl, List.mem_range.mp this.1, this.2⟩
  · rintro ⟨i, rfl, h1, h2⟩
    exact List.mem_map.mpr ⟨i, List.mem_filter.mpr ⟨List.mem_range.mpr h1, h2⟩, rfl⟩
theorem places_sorted (p : Int → Bool) (ns : List Int) (k : Nat) : (places p ns k).Pairwise (· < ·) := by
  unfold places
  rw [List.pairwise_map]
  refine List.Pairwise.imp (fun {a b} h => by show (a : Int) < (b : Int); omega) (List.Pairwise.filter _ List.pairwise_lt_range)
theorem nodup_lt {l : List Int} (h : l.Pairwise (· < ·)) : l.Nodup := List.Pairwise.imp (fun {a b} h e => by omega) h
/-- the brightest turns of the turned one -/
theorem brights_rot {ns ms : List Int} (hl : ns.length = ms.length) (h1 : 1 ≤ ns.length) (b m : Int) {s : List Int}
    (hp : s.Perm ((places (fun x => decide (x = m)) (lightsV ns ms) ns.length).map fun one => (one - b) % (ns.length : Int))) (hs : s.Pairwise (· ≤ ·)) :
    places (fun x => decide (x = m)) (lightsV ns (rot ms b)) ns.length = s := by
  refine sorted_eq (List.Perm.trans (perm_mem (nodup_lt (places_sorted _ _ _)) ?_ fun x => ?_) hp.symm) (List.Pairwise.imp (fun {a b} h => by omega) (places_sorted _ _ _)) hs
  · rw [List.Nodup, List.pairwise_map]
    refine List.Pairwise.imp_of_mem (fun {x y} hx hy hxy e => ?_) (places_sorted _ _ _)
    obtain ⟨i, rfl, hi, _⟩ := mem_places.mp hx
    obtain ⟨j, rfl, hj, _⟩ := mem_places.mp hy
    have e2 := Int.emod_eq_emod_iff_emod_sub_eq_zero.mp e
    rw [show (i : Int) - b - ((j : Int) - b) = (i : Int) - j by omega] at e2
    have e3 := Int.emod_eq_emod_iff_emod_sub_eq_zero.mpr e2
    rw [Int.emod_eq_of_lt (by omega) (by omega), Int.emod_eq_of_lt (by omega) (by omega)] at e3
    omega
  · rw [mem_places, List.mem_map]
    constructor
    · rintro ⟨i, rfl, hi, hq⟩
      have hm := mod_in (i := (i : Int) + b) (show 0 < ns.length by omega)
      refine ⟨((i : Int) + b) % (ns.length : Int), mem_places.mpr ⟨(((i : Int) + b) % (ns.length : Int)).toNat, by omega, by omega, ?_⟩, ?_⟩
      · rw [lights_getM hl h1]
        rw [lights_get hi, light_rot2] at hq
        exact hq
      · rw [Int.emod_sub_emod, show (i : Int) + b - b = i by omega, Int.emod_eq_of_lt (by omega) (by omega)]
    · rintro ⟨x', hx, rfl⟩
      obtain ⟨i, rfl, hi, hq⟩ := mem_places.mp hx
      have hm := mod_in (i := (i : Int) - b) (show 0 < ns.length by omega)
      refine ⟨(((i : Int) - b) % (ns.length : Int)).toNat, by omega, by omega, ?_⟩
      rw [lights_get (by omega), Int.toNat_of_nonneg hm.1, light_rot2]
      rw [lights_get hi] at hq
      rw [← lightV_mod, ← hl, Int.emod_add_emod, hl, lightV_mod, show (i : Int) - b + b = i by omega]
      exact hq
end Sd

namespace Sd
open PySem PySem.Spec PyProof.Rows L2

/-! ### x <= y of lists of ints; x in a tuple of such; sorted; x in a list of ints; xs[:0:-1] -/
def rLeI (K : PySem.W.Frag) : R2 := fun x y H Q => ∃ a b, Dp K H x (dI a) ∧ Dp K H y (dI b) ∧ Q (.bl (!LtI b a)) H
theorem op_leI {X : Cx} {K : PySem.W.Frag} (hK : X.K = K) {k : Nat} (hr : Room k X.A) : OpR X (compareOp .LtE) (rLeI K) := by
  subst hK
  intro pins s σ H x y v u Q I rx ry h
  obtain ⟨a, b, hx, hy, q⟩ := h
  obtain ⟨as, r1⟩ := Dp.reads I _ x v hx rx
  obtain ⟨bs, r2⟩ := Dp.reads I _ y u hy ry
  have hu := hr.un
  have h1 := depth_dI a
  refine PySem.W.le_data r1 r2 (alike_dI a b) (by unfold dI; exact fun z => nomatch z) ?_ ⟨.bl _, H, I, rfl, q⟩
  have := Nat.min_le_left (dI a).depth (dI b).depth
  omega
theorem lay_ints : ∀ a : List Int, PyData.canLayAll0 (a.map PyData.int) = true
  | [] => by simp only [List.map_nil, PyData.canLayAll0]
  | x :: a => by simp only [List.map_cons, PyData.canLayAll0, PyData.canLay0, lay_ints a, Bool.and_self]
theorem lay_dI (a : List Int) : (dI a).canLay0 = true := by
  unfold dI
  simp only [PyData.canLay0, lay_ints]
theorem lay_dIs : ∀ S : List (List Int), PyData.canLayAll0 (S.map dI) = true
  | [] => by simp only [List.map_nil, PyData.canLayAll0]
  | x :: a => by simp only [List.map_cons, PyData.canLayAll0, lay_dI, lay_dIs a, Bool.and_self]
def rInT (K : PySem.W.Frag) : R2 := fun x y H Q => ∃ (m : List Int) (S : List (List Int)), Dp K H x (dI m) ∧ Dp K H y (.tuple (S.map dI)) ∧ Q (.bl (decide (m ∈ S))) H
theorem op_inT {X : Cx} {K : PySem.W.Frag} (hK : X.K = K) {k : Nat} (hr : Room k X.A) : OpR X (compareOp .In) (rInT K) := by
  subst hK
  intro pins s σ H x y v u Q I rx ry h
  obtain ⟨m, S, hx, hy, q⟩ := h
  obtain ⟨as, r1⟩ := Dp.reads I _ x v hx rx
  obtain ⟨bs, r2⟩ := Dp.reads I _ y u hy ry
  have hu := hr.un
  have h1 := depthAll_dI S
  refine SeqAt.in_tuple_reads r2 r1 (lay_dIs S) (lay_dI m) ?_ ?_
  · have := Nat.min_le_left (PyData.depthAll (S.map dI)) (dI m).depth
    omega
  · rw [any_dI]
    exact ⟨.bl _, H, I, rfl, q⟩
theorem sortedL {X : Cx} {K : PySem.W.Frag} (h : X.K = K) : CallR X (.builtin "sorted") (rSorted K) := h ▸ cr_sorted
theorem inL {X : Cx} {K : PySem.W.Frag} (h : X.K = K) : OpR X (compareOp .In) (rIn K false) := h ▸ op_in_seq
theorem flat_ints (l : List Int) : (l.map V.int).all flatV = true := by
  rw [List.all_eq_true]
  intro x hx
  obtain ⟨i, _, rfl⟩ := List.mem_map.mp hx
  rfl
theorem inV_int (x : Int) (l : List Int) : inV (.int x) (l.map V.int) = decide (x ∈ l) := by
  unfold inV
  induction l with
  | nil => rfl
  | cons y l ih =>
    rw [List.map_cons, List.any_cons, ih]
    have e : eqV (.int y) (.int x) = decide (x = y) := by
      show (y == x) = decide (x = y)
      by_cases c : x = y
      · subst c
        simp
      · have c2 : ¬ y = x := fun z => c z.symm
        simp [c, c2]
    rw [e]
    by_cases c : x = y
    · simp [c]
    · simp [c]
theorem back_pick (items : Array Value) (h : 1 ≤ items.size) : slicePick items none (some 0) (some (-1)) = (items.toList.drop 1).reverse.toArray := by
  obtain ⟨m, hm⟩ : ∃ m, items.size = m + 1 := ⟨items.size - 1, by omega⟩
  have hb : sliceBounds none (some 0) (some (-1)) items.size = ((items.size : Int) - 1, 0, -1) := by
    simp only [sliceBounds, Option.getD_some]
    refine Prod.ext rfl (Prod.ext ?_ rfl)
    show max (-1) (min (if (0 : Int) < 0 then _ else 0) ((items.size : Int) - 1)) = 0
    rw [if_neg (by omega)]
    omega
  have hr : sliceRange ((items.size : Int) - 1) 0 (-1) = (List.range m).map fun k => items.size - 1 - k := by
    unfold sliceRange
    have h1 : ¬ ((-1 : Int) > 0) := by decide
    rw [if_neg h1]
    have e : (if ((items.size : Int) - 1) > 0 then ((items.size : Int) - 1 - 0 - -1 - 1) / (- -1) else 0) = (m : Int) := by
      rw [show (- -1 : Int) = 1 by decide, Int.ediv_one]
      split <;> omega
    rw [e]
    show (List.range ((m : Int)).toNat).map (fun (k : Nat) => ((items.size : Int) - 1 + -1 * (k : Int)).toNat) = _
    rw [Int.toNat_natCast]
    refine List.map_congr_left fun k hk => ?_
    have := List.mem_range.mp hk
    show ((items.size : Int) - 1 + -1 * (k : Int)).toNat = _
    omega
  have full : ((List.range (m + 1)).map fun k => items.size - 1 - k).filterMap (items[·]?) = items.toList.reverse := by
    rw [← hm, PySem.W.krv_range, List.filterMap_reverse, PySem.W.krv_all]
  rw [List.range_succ, List.map_append, List.filterMap_append] at full
  unfold slicePick
  rw [hb]
  show ((sliceRange ((items.size : Int) - 1) 0 (-1)).filterMap (items[·]?)).toArray = _
  rw [hr]
  refine congrArg List.toArray ?_
  cases hl : items.toList with
  | nil =>
    have := congrArg List.length hl
    rw [Array.length_toList, hm] at this
    exact absurd this (by simp)
  | cons x r =>
    have h0 : items[(0 : Nat)]? = some x := by
      rw [← Array.getElem?_toList, hl]
      rfl
    rw [hl, List.reverse_cons] at full
    have e1 : ([m].map fun k => items.size - 1 - k).filterMap (items[·]?) = [x] := by
      show [items.size - 1 - m].filterMap (items[·]?) = [x]
      rw [show items.size - 1 - m = 0 by omega]
      rw [List.filterMap_cons, h0]
      rfl
    rw [e1] at full
    exact List.append_cancel_right full
def tBack (K : PySem.W.Frag) (te : TE) : TE := fun σ H Q => te σ H fun x H1 => ∃ a xs, x = .ref a ∧ SqL K H1 a xs ∧ 1 ≤ xs.length ∧ ∀ p, H1 p = none → Q (.ref p) (upd H1 p (.lst (xs.drop 1).reverse))
theorem pe_back {X : Cx} {K : PySem.W.Frag} (hK : X.K = K) {e : Expr} {te : TE} {k k2 : Nat} {p1 p2 p3 p4 pos : Pos} (he : PE X e te) :
    PE X (.Subscript e (.Slice none (some (.Constant (.int 0) k2 p4)) (some (.UnaryOp .USub (.Constant (.int 1) k p1) p2)) p3) pos) (tBack K te) := by
  subst hK
  have hst : PO X (some (.UnaryOp .USub (.Constant (.int 1) k p1) p2)) (tPart (tUn (rU fun i => .int (-i)) (tC (.int 1)))) := po_some (pe_un un_neg pe_int)
  have hup : PO X (some (.Constant (.int 0) k2 p4)) (tPart (tC (.int 0))) := po_some pe_int
  refine ⟨fun pins s σ H Q I h => Subscript_ (thn (he.run pins s σ H _ I h) fun v s1 ⟨x, H1, I1, r1, a, xs, ex, hx, h1, q⟩ => ?_)⟩
  subst ex
  cases r1
  refine wpAny_Slice (thn (po_none.run pins s1 σ H1 (fun o G => o = none ∧ G = H1) I1 ⟨rfl, rfl⟩) fun vl s2 ⟨l, H2, I2, pl, el, e2⟩ => thn (hup.run pins s2 σ H2 (fun o G => o = some 0 ∧ G = H2) I2 ⟨0, rfl, rfl, rfl⟩) fun vu s3 ⟨u, H3, I3, pu, eu, e3⟩ =>
    thn (hst.run pins s3 σ H3 (fun o G => o = some (-1) ∧ G = H3) I3 ⟨1, rfl, -1, rfl, rfl, rfl⟩) fun vs s4 ⟨o, H4, I4, ps, eo, e4⟩ => ?_)
  subst el e2 eu e3 eo e4
  have I5 : Inv X pins σ H4 { s4 with heap := s4.heap.push { cls := .type "slice", data := .fields #[vl, vu, vs] } } := I4.kept (t' := s4.toks) fun b ob z => Heap.get?_push_of_some _ z
  obtain ⟨its, r, ht, hz⟩ := I5.list hx
  have hlen := r.length
  show wpAny (model X.prog X.w) X.A (subscriptTail e (.Slice none (some (.Constant (.int 0) k2 p4)) (some (.UnaryOp .USub (.Constant (.int 1) k p1) p2)) p3) (.ref a) (.ref s4.heap.objs.size)) (EP X pins σ Q) X.xe _
  refine tail_any (ops := [.ref a, .ref s4.heap.objs.size]) ht.isList.typeIs PySem.slot_list_getitem.lookup (wpAny_getItem_list_slice ht.isList (Heap.IsSliceOf.new _ vl vu vs) pl pu ps (by decide) ?_ (by rw [List.size_toArray]; omega)) (by with_unfolding_all rfl)
  rw [back_pick _ (by rw [List.size_toArray]; omega)]
  refine ⟨.ref _, _, I5.laid (t' := s4.toks) (o := .lst (xs.drop 1).reverse) (fun b ob z => Heap.get?_push_of_some _ z) (Nat.le_refl _) ⟨?_, _, 0, (r.drop 1).reverse, Heap.get?_push_size _ rfl⟩, rfl, q _ (I5.hok.fresh (Nat.le_refl _))⟩
  rw [List.length_reverse, List.length_drop]
  omega
end Sd

namespace Sd
open PySem PySem.Spec PyProof.Rows L2
def topS (i : Nat) : Stmt := PySem.Challenge.pw_slitdiscs_k59_whole_turned_lights.main.body.getD i (.Pass ⟨0, 0, 0, 0⟩)
abbrev s_turned_list : Stmt := topS 1
theorem sc_turned_list : FnScope ["items", "turn", "size", "slot"] ["items", "turn"] (defScope s_turned_list) := ⟨rfl, rfl, rfl, by decide +kernel, rfl, by decide +kernel, by decide +kernel⟩
abbrev s_mirrored_list : Stmt := topS 2
theorem sc_mirrored_list : FnScope ["items", "size", "slot"] ["items"] (defScope s_mirrored_list) := ⟨rfl, rfl, rfl, by decide +kernel, rfl, by decide +kernel, by decide +kernel⟩
abbrev s_light_between : Stmt := topS 3
theorem sc_light_between : FnScope ["disc", "row", "turn", "under", "over"] ["disc", "row", "turn"] (defScope s_light_between) := ⟨rfl, rfl, rfl, by decide +kernel, rfl, by decide +kernel, by decide +kernel⟩
abbrev s_lights_between : Stmt := topS 4
theorem sc_lights_between : FnScope ["disc", "row", "turn"] ["disc", "row"] (defScope s_lights_between) := ⟨rfl, rfl, rfl, by decide +kernel, rfl, by decide +kernel, by decide +kernel⟩
abbrev s_is_integer : Stmt := topS 13
theorem sc_is_integer : FnScope ["value"] ["value"] (defScope s_is_integer) := ⟨rfl, rfl, rfl, by decide +kernel, rfl, by decide +kernel, by decide +kernel⟩
abbrev s_has_slots : Stmt := topS 14
theorem sc_has_slots : FnScope ["value"] ["value"] (defScope s_has_slots) := ⟨rfl, rfl, rfl, by decide +kernel, rfl, by decide +kernel, by decide +kernel⟩
abbrev s_wrong_light : Stmt := topS 15
theorem sc_wrong_light : FnScope ["items", "most", "index", "item"] ["items", "most"] (defScope s_wrong_light) := ⟨rfl, rfl, rfl, by decide +kernel, rfl, by decide +kernel, by decide +kernel⟩
abbrev s_wrong_slot : Stmt := topS 16
theorem sc_wrong_slot : FnScope ["items"] ["items"] (defScope s_wrong_slot) := ⟨rfl, rfl, rfl, by decide +kernel, rfl, by decide +kernel, by decide +kernel⟩
abbrev s_check_disc : Stmt := topS 17
theorem sc_check_disc : FnScope ["disc", "index"] ["disc"] (defScope s_check_disc) := ⟨rfl, rfl, rfl, by decide +kernel, rfl, by decide +kernel, by decide +kernel⟩
abbrev s_check_discs : Stmt := topS 18
theorem sc_check_discs : FnScope ["disc", "other"] ["disc", "other"] (defScope s_check_discs) := ⟨rfl, rfl, rfl, by decide +kernel, rfl, by decide +kernel, by decide +kernel⟩
abbrev s_check_turn : Stmt := topS 19
theorem sc_check_turn : FnScope ["turn"] ["turn"] (defScope s_check_turn) := ⟨rfl, rfl, rfl, by decide +kernel, rfl, by decide +kernel, by decide +kernel⟩
abbrev s_check_number : Stmt := topS 20
theorem sc_check_number : FnScope ["number"] ["number"] (defScope s_check_number) := ⟨rfl, rfl, rfl, by decide +kernel, rfl, by decide +kernel, by decide +kernel⟩
abbrev s_check_count : Stmt := topS 21
theorem sc_check_count : FnScope ["number"] ["number"] (defScope s_check_count) := ⟨rfl, rfl, rfl, by decide +kernel, rfl, by decide +kernel, by decide +kernel⟩
abbrev s_light_at : Stmt := topS 23
theorem sc_light_at : FnScope ["disc", "other", "turn"] ["disc", "other", "turn"] (defScope s_light_at) := ⟨rfl, rfl, rfl, by decide +kernel, rfl, by decide +kernel, by decide +kernel⟩
abbrev s_all_lights : Stmt := topS 24
theorem sc_all_lights : FnScope ["disc", "other"] ["disc", "other"] (defScope s_all_lights) := ⟨rfl, rfl, rfl, by decide +kernel, rfl, by decide +kernel, by decide +kernel⟩
abbrev s_brightest_turns : Stmt := topS 25
theorem sc_brightest_turns : FnScope ["disc", "other", "lights", "greatest", "turn", "light"] ["disc", "other"] (defScope s_brightest_turns) := ⟨rfl, rfl, rfl, by decide +kernel, rfl, by decide +kernel, by decide +kernel⟩
abbrev s_light_sum : Stmt := topS 26
theorem sc_light_sum : FnScope ["disc", "other", "first", "step", "many", "lights", "rounds", "rest"] ["disc", "other", "first", "step", "many"] (defScope s_light_sum) := ⟨rfl, rfl, rfl, by decide +kernel, rfl, by decide +kernel, by decide +kernel⟩
abbrev s_first_bright : Stmt := topS 27
theorem sc_first_bright : FnScope ["disc", "other", "first", "step", "light", "steps", "present"] ["disc", "other", "first", "step", "light"] (defScope s_first_bright) := ⟨rfl, rfl, rfl, by decide +kernel, rfl, by decide +kernel, by decide +kernel⟩
abbrev s_stepped_lights : Stmt := topS 28
theorem sc_stepped_lights : FnScope ["disc", "other", "first", "step", "lights", "size", "index"] ["disc", "other", "first", "step"] (defScope s_stepped_lights) := ⟨rfl, rfl, rfl, by decide +kernel, rfl, by decide +kernel, by decide +kernel⟩
abbrev s_is_disc : Stmt := topS 30
theorem sc_is_disc : FnScope ["value"] ["value"] (defScope s_is_disc) := ⟨rfl, rfl, rfl, by decide +kernel, rfl, by decide +kernel, by decide +kernel⟩
abbrev s_turned_disc : Stmt := topS 31
theorem sc_turned_disc : FnScope ["disc", "turn"] ["disc", "turn"] (defScope s_turned_disc) := ⟨rfl, rfl, rfl, by decide +kernel, rfl, by decide +kernel, by decide +kernel⟩
abbrev s_mirrored_disc : Stmt := topS 32
theorem sc_mirrored_disc : FnScope ["disc"] ["disc"] (defScope s_mirrored_disc) := ⟨rfl, rfl, rfl, by decide +kernel, rfl, by decide +kernel, by decide +kernel⟩
abbrev s_disc_period : Stmt := topS 33
theorem sc_disc_period : FnScope ["disc"] ["disc"] (defScope s_disc_period) := ⟨rfl, rfl, rfl, by decide +kernel, rfl, by decide +kernel, by decide +kernel⟩
abbrev s_turn_between : Stmt := topS 34
theorem sc_turn_between : FnScope ["disc", "other"] ["disc", "other"] (defScope s_turn_between) := ⟨rfl, rfl, rfl, by decide +kernel, rfl, by decide +kernel, by decide +kernel⟩
abbrev s_least_disc : Stmt := topS 35
theorem sc_least_disc : FnScope ["disc"] ["disc"] (defScope s_least_disc) := ⟨rfl, rfl, rfl, by decide +kernel, rfl, by decide +kernel, by decide +kernel⟩
abbrev s_like_form : Stmt := topS 36
theorem sc_like_form : FnScope ["disc"] ["disc"] (defScope s_like_form) := ⟨rfl, rfl, rfl, by decide +kernel, rfl, by decide +kernel, by decide +kernel⟩
abbrev s_are_like : Stmt := topS 37
theorem sc_are_like : FnScope ["disc", "other"] ["disc", "other"] (defScope s_are_like) := ⟨rfl, rfl, rfl, by decide +kernel, rfl, by decide +kernel, by decide +kernel⟩
abbrev s_first_turn : Stmt := topS 38
theorem sc_first_turn : FnScope ["disc", "other", "turn"] ["disc", "other"] (defScope s_first_turn) := ⟨rfl, rfl, rfl, by decide +kernel, rfl, by decide +kernel, by decide +kernel⟩
abbrev s_least_turned : Stmt := topS 39
theorem sc_least_turned : FnScope ["disc", "turn"] ["disc"] (defScope s_least_turned) := ⟨rfl, rfl, rfl, by decide +kernel, rfl, by decide +kernel, by decide +kernel⟩
abbrev s_least_like : Stmt := topS 40
theorem sc_least_like : FnScope ["disc"] ["disc"] (defScope s_least_like) := ⟨rfl, rfl, rfl, by decide +kernel, rfl, by decide +kernel, by decide +kernel⟩
abbrev s_law_tank : Stmt := topS 42
theorem sc_law_tank : FnScope ["script", "at", "cell"] ["script", "at"] (defScope s_law_tank) := ⟨rfl, rfl, rfl, by decide +kernel, rfl, by decide +kernel, by decide +kernel⟩
abbrev s_law_tap : Stmt := topS 43
theorem sc_law_tap : FnScope ["tank", "many", "drawn", "mixed"] ["tank", "many"] (defScope s_law_tap) := ⟨rfl, rfl, rfl, by decide +kernel, rfl, by decide +kernel, by decide +kernel⟩
abbrev s_law_drawn_count : Stmt := topS 44
theorem sc_law_drawn_count : FnScope ["tank", "most", "some"] ["tank", "most"] (defScope s_law_drawn_count) := ⟨rfl, rfl, rfl, by decide +kernel, rfl, by decide +kernel, by decide +kernel⟩
abbrev s_law_drawn_rim : Stmt := topS 45
theorem sc_law_drawn_rim : FnScope ["tank", "count", "kind", "wide", "rim", "slot_here", "sizes", "size"] ["tank", "count"] (defScope s_law_drawn_rim) := ⟨rfl, rfl, rfl, by decide +kernel, rfl, by decide +kernel, by decide +kernel⟩
abbrev s_law_drawn_turn : Stmt := topS 46
theorem sc_law_drawn_turn : FnScope ["tank"] ["tank"] (defScope s_law_drawn_turn) := ⟨rfl, rfl, rfl, by decide +kernel, rfl, by decide +kernel, by decide +kernel⟩
abbrev s_law_on : Stmt := topS 47
theorem sc_law_on : FnScope ["lights_here", "by", "cut"] ["lights_here", "by"] (defScope s_law_on) := ⟨rfl, rfl, rfl, by decide +kernel, rfl, by decide +kernel, by decide +kernel⟩
abbrev s_law_lights_right : Stmt := topS 48
theorem sc_law_lights_right : FnScope ["tank", "rim", "mate", "lights_here", "by", "far", "other_here", "back", "low", "brights", "one", "told"] ["tank", "rim", "mate"] (defScope s_law_lights_right) := ⟨rfl, rfl, rfl, by decide +kernel, rfl, by decide +kernel, by decide +kernel⟩
abbrev s_law_forms_right : Stmt := topS 49
theorem sc_law_forms_right : FnScope ["tank", "rim", "by", "twin", "size", "least", "told", "form"] ["tank", "rim"] (defScope s_law_forms_right) := ⟨rfl, rfl, rfl, by decide +kernel, rfl, by decide +kernel, by decide +kernel⟩
abbrev s_law : Stmt := topS 50
theorem sc_law : FnScope ["script", "at", "tank", "turn", "rim"] ["script"] (defScope s_law) := ⟨rfl, rfl, rfl, by decide +kernel, rfl, by decide +kernel, by decide +kernel⟩
/-- what the top has written -/
structure Txt (K : PySem.W.Frag) (mg : Str → Option Value) where
  a_turned_list : Addr
  d_turned_list : FuncData
  F_turned_list : Fun K "turned_list" "turned_list" s_turned_list a_turned_list d_turned_list
  b_turned_list : Binds K d_turned_list ["items", "turn"] []
  g_turned_list : mg "turned_list" = some (.ref a_turned_list)
  a_mirrored_list : Addr
  d_mirrored_list : FuncData
  F_mirrored_list : Fun K "mirrored_list" "mirrored_list" s_mirrored_list a_mirrored_list d_mirrored_list
  b_mirrored_list : Binds K d_mirrored_list ["items"] []
  g_mirrored_list : mg "mirrored_list" = some (.ref a_mirrored_list)
  a_light_between : Addr
  d_light_between : FuncData
  F_light_between : Fun K "light_between" "light_between" s_light_between a_light_between d_light_between
  b_light_between : Binds K d_light_between ["disc", "row", "turn"] []
  g_light_between : mg "light_between" = some (.ref a_light_between)
  a_lights_between : Addr
  d_lights_between : FuncData
  F_lights_between : Fun K "lights_between" "lights_between" s_lights_between a_lights_between d_lights_between
  b_lights_between : Binds K d_lights_between ["disc", "row"] []
  g_lights_between : mg "lights_between" = some (.ref a_lights_between)
  a_is_integer : Addr
  d_is_integer : FuncData
  F_is_integer : Fun K "is_integer" "is_integer" s_is_integer a_is_integer d_is_integer
  b_is_integer : Binds K d_is_integer ["value"] []
  g_is_integer : mg "is_integer" = some (.ref a_is_integer)
  a_has_slots : Addr
  d_has_slots : FuncData
  F_has_slots : Fun K "has_slots" "has_slots" s_has_slots a_has_slots d_has_slots
  b_has_slots : Binds K d_has_slots ["value"] []
  g_has_slots : mg "has_slots" = some (.ref a_has_slots)
  a_wrong_light : Addr
  d_wrong_light : FuncData
  F_wrong_light : Fun K "wrong_light" "wrong_light" s_wrong_light a_wrong_light d_wrong_light
  b_wrong_light : Binds K d_wrong_light ["items", "most"] []
  g_wrong_light : mg "wrong_light" = some (.ref a_wrong_light)
  a_wrong_slot : Addr
  d_wrong_slot : FuncData
  F_wrong_slot : Fun K "wrong_slot" "wrong_slot" s_wrong_slot a_wrong_slot d_wrong_slot
  b_wrong_slot : Binds K d_wrong_slot ["items"] []
  g_wrong_slot : mg "wrong_slot" = some (.ref a_wrong_slot)
  a_check_disc : Addr
  d_check_disc : FuncData
  F_check_disc : Fun K "check_disc" "check_disc" s_check_disc a_check_disc d_check_disc
  b_check_disc : Binds K d_check_disc ["disc"] []
  g_check_disc : mg "check_disc" = some (.ref a_check_disc)
  a_check_discs : Addr
  d_check_discs : FuncData
  F_check_discs : Fun K "check_discs" "check_discs" s_check_discs a_check_discs d_check_discs
  b_check_discs : Binds K d_check_discs ["disc", "other"] []
  g_check_discs : mg "check_discs" = some (.ref a_check_discs)
  a_check_turn : Addr
  d_check_turn : FuncData
  F_check_turn : Fun K "check_turn" "check_turn" s_check_turn a_check_turn d_check_turn
  b_check_turn : Binds K d_check_turn ["turn"] []
  g_check_turn : mg "check_turn" = some (.ref a_check_turn)
  a_check_number : Addr
  d_check_number : FuncData
  F_check_number : Fun K "check_number" "check_number" s_check_number a_check_number d_check_number
  b_check_number : Binds K d_check_number ["number"] []
  g_check_number : mg "check_number" = some (.ref a_check_number)
  a_check_count : Addr
  d_check_count : FuncData
  F_check_count : Fun K "check_count" "check_count" s_check_count a_check_count d_check_count
  b_check_count : Binds K d_check_count ["number"] []
  g_check_count : mg "check_count" = some (.ref a_check_count)
  a_light_at : Addr
  d_light_at : FuncData
  F_light_at : Fun K "light_at" "light_at" s_light_at a_light_at d_light_at
  b_light_at : Binds K d_light_at ["disc", "other", "turn"] []
  g_light_at : mg "light_at" = some (.ref a_light_at)
  a_all_lights : Addr
  d_all_lights : FuncData
  F_all_lights : Fun K "all_lights" "all_lights" s_all_lights a_all_lights d_all_lights
  b_all_lights : Binds K d_all_lights ["disc", "other"] []
  g_all_lights : mg "all_lights" = some (.ref a_all_lights)
  a_brightest_turns : Addr
  d_brightest_turns : FuncData
  F_brightest_turns : Fun K "brightest_turns" "brightest_turns" s_brightest_turns a_brightest_turns d_brightest_turns
  b_brightest_turns : Binds K d_brightest_turns ["disc", "other"] []
  g_brightest_turns : mg "brightest_turns" = some (.ref a_brightest_turns)
  a_light_sum : Addr
  d_light_sum : FuncData
  F_light_sum : Fun K "light_sum" "light_sum" s_light_sum a_light_sum d_light_sum
  b_light_sum : Binds K d_light_sum ["disc", "other", "first", "step", "many"] []
  g_light_sum : mg "light_sum" = some (.ref a_light_sum)
  a_first_bright : Addr
  d_first_bright : FuncData
  F_first_bright : Fun K "first_bright" "first_bright" s_first_bright a_first_bright d_first_bright
  b_first_bright : Binds K d_first_bright ["disc", "other", "first", "step", "light"] []
  g_first_bright : mg "first_bright" = some (.ref a_first_bright)
  a_stepped_lights : Addr
  d_stepped_lights : FuncData
  F_stepped_lights : Fun K "_stepped_lights" "_stepped_lights" s_stepped_lights a_stepped_lights d_stepped_lights
  b_stepped_lights : Binds K d_stepped_lights ["disc", "other", "first", "step"] []
  g_stepped_lights : mg "_stepped_lights" = some (.ref a_stepped_lights)
  a_is_disc : Addr
  d_is_disc : FuncData
  F_is_disc : Fun K "is_disc" "is_disc" s_is_disc a_is_disc d_is_disc
  b_is_disc : Binds K d_is_disc ["value"] []
  g_is_disc : mg "is_disc" = some (.ref a_is_disc)
  a_turned_disc : Addr
  d_turned_disc : FuncData
  F_turned_disc : Fun K "turned_disc" "turned_disc" s_turned_disc a_turned_disc d_turned_disc
  b_turned_disc : Binds K d_turned_disc ["disc", "turn"] []
  g_turned_disc : mg "turned_disc" = some (.ref a_turned_disc)
  a_mirrored_disc : Addr
  d_mirrored_disc : FuncData
  F_mirrored_disc : Fun K "mirrored_disc" "mirrored_disc" s_mirrored_disc a_mirrored_disc d_mirrored_disc
  b_mirrored_disc : Binds K d_mirrored_disc ["disc"] []
  g_mirrored_disc : mg "mirrored_disc" = some (.ref a_mirrored_disc)
  a_disc_period : Addr
  d_disc_period : FuncData
  F_disc_period : Fun K "disc_period" "disc_period" s_disc_period a_disc_period d_disc_period
  b_disc_period : Binds K d_disc_period ["disc"] []
  g_disc_period : mg "disc_period" = some (.ref a_disc_period)
  a_turn_between : Addr
  d_turn_between : FuncData
  F_turn_between : Fun K "turn_between" "turn_between" s_turn_between a_turn_between d_turn_between
  b_turn_between : Binds K d_turn_between ["disc", "other"] []
  g_turn_between : mg "turn_between" = some (.ref a_turn_between)
  a_least_disc : Addr
  d_least_disc : FuncData
  F_least_disc : Fun K "least_disc" "least_disc" s_least_disc a_least_disc d_least_disc
  b_least_disc : Binds K d_least_disc ["disc"] []
  g_least_disc : mg "least_disc" = some (.ref a_least_disc)
  a_like_form : Addr
  d_like_form : FuncData
  F_like_form : Fun K "like_form" "like_form" s_like_form a_like_form d_like_form
  b_like_form : Binds K d_like_form ["disc"] []
  g_like_form : mg "like_form" = some (.ref a_like_form)
  a_are_like : Addr
  d_are_like : FuncData
  F_are_like : Fun K "are_like" "are_like" s_are_like a_are_like d_are_like
  b_are_like : Binds K d_are_like ["disc", "other"] []
  g_are_like : mg "are_like" = some (.ref a_are_like)
  a_first_turn : Addr
  d_first_turn : FuncData
  F_first_turn : Fun K "_first_turn" "_first_turn" s_first_turn a_first_turn d_first_turn
  b_first_turn : Binds K d_first_turn ["disc", "other"] []
  g_first_turn : mg "_first_turn" = some (.ref a_first_turn)
  a_least_turned : Addr
  d_least_turned : FuncData
  F_least_turned : Fun K "_least_turned" "_least_turned" s_least_turned a_least_turned d_least_turned
  b_least_turned : Binds K d_least_turned ["disc"] []
  g_least_turned : mg "_least_turned" = some (.ref a_least_turned)
  a_least_like : Addr
  d_least_like : FuncData
  F_least_like : Fun K "_least_like" "_least_like" s_least_like a_least_like d_least_like
  b_least_like : Binds K d_least_like ["disc"] []
  g_least_like : mg "_least_like" = some (.ref a_least_like)
  a_law_tank : Addr
  d_law_tank : FuncData
  F_law_tank : Fun K "_law_tank" "_law_tank" s_law_tank a_law_tank d_law_tank
  b_law_tank : Binds K d_law_tank ["script", "at"] []
  g_law_tank : mg "_law_tank" = some (.ref a_law_tank)
  a_law_tap : Addr
  d_law_tap : FuncData
  F_law_tap : Fun K "_law_tap" "_law_tap" s_law_tap a_law_tap d_law_tap
  b_law_tap : Binds K d_law_tap ["tank", "many"] []
  g_law_tap : mg "_law_tap" = some (.ref a_law_tap)
  a_law_drawn_count : Addr
  d_law_drawn_count : FuncData
  F_law_drawn_count : Fun K "_law_drawn_count" "_law_drawn_count" s_law_drawn_count a_law_drawn_count d_law_drawn_count
  b_law_drawn_count : Binds K d_law_drawn_count ["tank", "most"] []
  g_law_drawn_count : mg "_law_drawn_count" = some (.ref a_law_drawn_count)
  a_law_drawn_rim : Addr
  d_law_drawn_rim : FuncData
  F_law_drawn_rim : Fun K "_law_drawn_rim" "_law_drawn_rim" s_law_drawn_rim a_law_drawn_rim d_law_drawn_rim
  b_law_drawn_rim : Binds K d_law_drawn_rim ["tank", "count"] []
  g_law_drawn_rim : mg "_law_drawn_rim" = some (.ref a_law_drawn_rim)
  a_law_drawn_turn : Addr
  d_law_drawn_turn : FuncData
  F_law_drawn_turn : Fun K "_law_drawn_turn" "_law_drawn_turn" s_law_drawn_turn a_law_drawn_turn d_law_drawn_turn
  b_law_drawn_turn : Binds K d_law_drawn_turn ["tank"] []
  g_law_drawn_turn : mg "_law_drawn_turn" = some (.ref a_law_drawn_turn)
  a_law_on : Addr
  d_law_on : FuncData
  F_law_on : Fun K "_law_on" "_law_on" s_law_on a_law_on d_law_on
  b_law_on : Binds K d_law_on ["lights_here", "by"] []
  g_law_on : mg "_law_on" = some (.ref a_law_on)
  a_law_lights_right : Addr
  d_law_lights_right : FuncData
  F_law_lights_right : Fun K "_law_lights_right" "_law_lights_right" s_law_lights_right a_law_lights_right d_law_lights_right
  b_law_lights_right : Binds K d_law_lights_right ["tank", "rim", "mate"] []
  g_law_lights_right : mg "_law_lights_right" = some (.ref a_law_lights_right)
  a_law_forms_right : Addr
  d_law_forms_right : FuncData
  F_law_forms_right : Fun K "_law_forms_right" "_law_forms_right" s_law_forms_right a_law_forms_right d_law_forms_right
  b_law_forms_right : Binds K d_law_forms_right ["tank", "rim"] []
  g_law_forms_right : mg "_law_forms_right" = some (.ref a_law_forms_right)
  a_law : Addr
  d_law : FuncData
  F_law : Fun K "law" "law" s_law a_law d_law
  g_law : mg "law" = some (.ref a_law)
  t_MOST_SLOTS : Tok
  g_MOST_SLOTS : mg "MOST_SLOTS" = some (.int (40) t_MOST_SLOTS)
  t_MOST_LIGHT : Tok
  g_MOST_LIGHT : mg "MOST_LIGHT" = some (.int (1000000000000000000000000000000) t_MOST_LIGHT)
  n_abs : mg "abs" = none
  n_bool : mg "bool" = none
  n_divmod : mg "divmod" = none
  n_enumerate : mg "enumerate" = none
  n_int : mg "int" = none
  n_isinstance : mg "isinstance" = none
  n_len : mg "len" = none
  n_list : mg "list" = none
  n_max : mg "max" = none
  n_min : mg "min" = none
  n_range : mg "range" = none
  n_sorted : mg "sorted" = none
  n_sum : mg "sum" = none
  n_zip : mg "zip" = none
section
variable {P : Program} {w : World} {K : PySem.W.Frag} {mg : Str → Option Value} {base : Heap}
/-! ### _law_tank, _law_tap -/
def mixA (y z : Int) : Int := (y + 350377 * z) ^ (3 : Int).toNat % 170141183460469231731687303715884105727
theorem mixA_in (y z : Int) : 0 ≤ mixA y z ∧ mixA y z < 170141183460469231731687303715884105727 := ⟨Int.emod_nonneg _ (by decide), Int.emod_lt_of_pos _ (by decide)⟩
def spTap : Sp := fun vs H Q _ => ∃ (T : Addr) (m c : Int), vs = [.ref T, .int m] ∧ 0 < m ∧ m < 2 ^ 200 ∧ Tank H T c ∧ c < 2 ^ 40 ∧
  ∀ (r : Int) (H' : Hp), 0 ≤ r → r < m → Tank H' T (c + 1) → But T H H' → Q (.int r) H'
theorem ok_law_tap (T : Txt K mg) : FnOk P w K mg base CX0 1 T.a_law_tap T.d_law_tap ["tank", "many"] spTap := by
  refine T.F_law_tap.ok sc_law_tap (fun vs H Q E h => ?_) (fun cdv A outer s H vs Q E hr h => ?_)
  · obtain ⟨_, _, _, rfl, _⟩ := h
    rfl
  · obtain ⟨t, m, c, rfl, hm0, hm, ⟨x, y, z, hT, hx, hy0, hy, hz0, hz⟩, hc, q⟩ := h
    refine ⟨_, (pss_cons (ps_if (pt_cmpR op_gt (pe_ix (ixL (K := K) rfl) (pv 0) pe_int (fun _ _ => rfl)) pe_int (nomark _)) (pss_cons (ps_set (i := 2) sc_law_tap.nd rfl (.inl rfl) (pe_op op_mod (pe_callTy call_int1 (by rfl) T.n_int (by decide +kernel) (pa_cons (pe_ix (ixL (K := K) rfl) (pv 0) pe_int (fun _ _ => rfl)) pa_nil)) (pv 1)))
      (pss_cons (ps_asg (pe_op op_fdivW (pe_ix (ixL (K := K) rfl) (pv 0) pe_int (fun _ _ => rfl)) (pv 1)) (pg_sub (pv 0) pe_int set_list))
      (pss_one (ps_ret (pv 2))))) pss_nil)
      (pss_cons (ps_asg (pe_op op_add (pe_ix (ixL (K := K) rfl) (pv 0) pe_int (fun _ _ => rfl)) pe_int) (pg_sub (pv 0) pe_int set_list))
      (pss_cons (ps_set (i := 3) sc_law_tap.nd rfl (.inl rfl) (pe_op op_mod (pe_callTy call_int1 (by rfl) T.n_int (by decide +kernel) (pa_cons (pe_op op_pow3 (pe_op op_add (pe_ix (ixL (K := K) rfl) (pv 0) pe_int (fun _ _ => rfl)) (pe_op op_mul pe_int (pe_ix (ixL (K := K) rfl) (pv 0) pe_int (fun _ _ => rfl)))) pe_int) pa_nil)) pe_int))
      (pss_cons (ps_set (i := 3) sc_law_tap.nd rfl (.inl rfl) (pe_op op_mod (pe_callTy call_int1 (by rfl) T.n_int (by decide +kernel) (pa_cons (pe_op op_pow3 (pe_op op_add (pv 3) (pe_op op_mul pe_int (pe_ix (ixL (K := K) rfl) (pv 0) pe_int (fun _ _ => rfl)))) pe_int) pa_nil)) (pe_op op_add (pe_op op_pow pe_int pe_int) pe_int)))
      (pss_one (ps_ret (pe_op op_mod (pe_callTy call_int1 (by rfl) T.n_int (by decide +kernel) (pa_cons (pe_op op_fdivW (pv 3) pe_int) pa_nil)) (pv 1)))))))), ?_⟩
    refine ⟨.ref t, rfl, t, _, 0, .int x, rfl, rfl, SqL.of hT, rfl, x, 0, rfl, rfl, _, rfl, ite2 (fun h => ?_) (fun h => ?_)⟩
    · have hx1 : 0 < x := of_decide_eq_true h
      refine ⟨.ref t, rfl, t, _, 0, .int x, rfl, rfl, SqL.of hT, rfl, .inl ⟨x, rfl, .int m, rfl, x, m, rfl, rfl, hm0, ?_⟩⟩
      refine ⟨.ref t, rfl, t, _, 0, .int x, rfl, rfl, SqL.of hT, rfl, .int m, rfl, x, m, rfl, rfl, wide_div (b := 200) hm0 (by omega) (by decide) (by decide), ?_⟩
      refine ⟨.ref t, rfl, t, _, 0, 0, rfl, rfl, hT, rfl, ?_⟩
      refine ⟨.int (x % m), rfl, q _ _ (Int.emod_nonneg _ (by omega)) (Int.emod_lt_of_pos _ hm0) ⟨x / m, y, z, upd_same, Int.ediv_nonneg hx (by omega), hy0, hy, hz0, by omega⟩ upd_but⟩
    · refine ⟨.ref t, rfl, t, _, 2, .int z, rfl, rfl, SqL.of hT, rfl, z, 1, rfl, rfl, ?_⟩
      refine ⟨.ref t, rfl, t, _, 2, 2, rfl, rfl, hT, rfl, ?_⟩
      have hT2 : (upd H t (.lst [.int x, .int y, .int (z + 1)])) t = some (.lst [.int x, .int y, .int (z + 1)]) := upd_same
      refine ⟨.ref t, rfl, t, _, 1, .int y, rfl, rfl, SqL.of hT2, rfl, .ref t, rfl, t, _, 2, .int (z + 1), rfl, rfl, SqL.of hT2, rfl, 350377, z + 1, rfl, rfl, .inl ⟨by decide, by decide⟩, ?_⟩
      refine ⟨y, 350377 * (z + 1), rfl, rfl, _, 3, rfl, rfl, ⟨rfl, by omega, by omega⟩, .inl ⟨_, rfl, _, 170141183460469231731687303715884105727, rfl, rfl, (by show (0 : Int) < 170141183460469231731687303715884105727; decide), ?_⟩⟩
      obtain ⟨g0, g1⟩ := mixA_in y (z + 1)
      refine ⟨.int (mixA y (z + 1)), rfl, .ref t, rfl, t, _, 2, .int (z + 1), rfl, rfl, SqL.of hT2, rfl, 27644437, z + 1, rfl, rfl, .inl ⟨by decide, by decide⟩, ?_⟩
      refine ⟨mixA y (z + 1), 27644437 * (z + 1), rfl, rfl, _, 3, rfl, rfl, ⟨rfl, by omega, by omega⟩, .inl ⟨_, rfl, 10, 46, rfl, rfl, ⟨by decide, by decide, by decide⟩, _, 9, rfl, rfl, _, _, rfl, rfl, (by show (0 : Int) < 10 ^ (46 : Int).toNat + 9; decide +kernel), ?_⟩⟩
      refine ⟨_, rfl, _, 524288, rfl, rfl, wide_div (b := 30) (by decide) (by decide) (by decide) (by decide), .inl ⟨_, rfl, .int m, rfl, _, m, rfl, rfl, hm0, ?_⟩⟩
      exact q _ _ (Int.emod_nonneg _ (by omega)) (Int.emod_lt_of_pos _ hm0) ⟨x, y, z + 1, upd_same, hx, hy0, hy, by omega, by omega⟩ upd_but
def spTank (K : PySem.W.Frag) : Sp := fun vs H Q _ => ∃ (a : Addr) (ns : List Int) (i : Int), vs = [.ref a, .int i] ∧ SqL K H a (ns.map V.int) ∧ 0 ≤ i ∧ i < 100 ∧
  ∀ (t : Addr) (H' : Hp), Same H H' → H t = none → Tank H' t 0 → Q (.ref t) H'
theorem ok_law_tank (T : Txt K mg) : FnOk P w K mg base CX0 1 T.a_law_tank T.d_law_tank ["script", "at"] (spTank K) := by
  refine T.F_law_tank.ok sc_law_tank (fun vs H Q E h => ?_) (fun cdv A outer s H vs Q E hr h => ?_)
  · obtain ⟨_, _, _, rfl, _⟩ := h
    rfl
  · obtain ⟨a, ns, i, rfl, hS, hi0, hi, q⟩ := h
    refine ⟨_, (pss_cons (ps_set (i := 2) sc_law_tank.nd rfl (.inl rfl) (pe_ifExp (pt_cmpR op_lt (pv 1) (pe_callB (lenL (K := K) rfl) (by rfl) T.n_len (by decide +kernel) (pa_cons (pv 0) pa_nil)) (nomark _)) (pe_ix (ixL (K := K) rfl) (pv 0) (pv 1) (fun _ _ => rfl)) pe_int))
      (pss_one (ps_ret (pe_lst (pa_cons (pe_callB (call_max2 rfl) (by rfl) T.n_max (by decide +kernel) (pa_cons pe_int (pa_cons (pe_op op_sub (pe_callB call_abs (by rfl) T.n_abs (by decide +kernel) (pa_cons (pv 2) pa_nil)) (pe_op op_pow pe_int pe_int)) pa_nil))) (pa_cons (pe_op op_add (pe_op op_mod (pe_callTy call_int1 (by rfl) T.n_int (by decide +kernel) (pa_cons (pv 2) pa_nil)) pe_int) (pe_op op_mul pe_int (pe_op op_add (pv 1) pe_int))) (pa_cons pe_int pa_nil))))))), ?_⟩
    have fin : ∀ c : Int, (fun σ H' => ∃ y2, σ = [some (.ref a), some (.int i), some y2] ∧ y2 = V.int c ∧ H' = H) [some (.ref a), some (.int i), some (V.int c)] H := fun c => ⟨_, rfl, rfl, rfl⟩
    have key : ∀ c : Int, (0 : Int) ≤ max 0 ((if c < 0 then -c else c) - 10 ^ 18) := fun c => Int.le_max_left _ _
    refine ⟨.int i, rfl, .ref a, rfl, a, _, rfl, .inl hS, i, _, rfl, rfl, _, rfl, ite2 (fun h => ?_) (fun h => ?_)⟩
    · have h1 : i < ns.length := by
        have := of_decide_eq_true h
        rw [List.length_map] at this
        exact this
      obtain ⟨c, hc, hat⟩ := at_in hi0 h1
      refine ⟨.ref a, rfl, .int i, rfl, a, _, i, .int c, rfl, rfl, hS, hat, ?_⟩
      refine ⟨.int c, rfl, c, rfl, 10, 18, rfl, rfl, ⟨by decide, by decide, by decide⟩, _, _, rfl, rfl, 0, _, rfl, ?_⟩
      refine ⟨.int c, rfl, .inl ⟨c, rfl, c, 1000000000000000003, rfl, rfl, (by show (0 : Int) < 1000000000000000003; decide), .int i, rfl, i, 1, rfl, rfl, 104729, i + 1, rfl, rfl, .inl ⟨by decide, by decide⟩, _, _, rfl, rfl, (by show 3 ≤ sizeLine; decide), fun t ht => ?_⟩⟩
      have m0 := Int.emod_nonneg c (show (1000000000000000003 : Int) ≠ 0 by decide)
      have m1 := Int.emod_lt_of_pos c (show (0 : Int) < 1000000000000000003 by decide)
      refine q t _ (new_same ht) ht ⟨_, _, 0, upd_same, ?_, by omega, by omega, by omega, by omega⟩
      split <;> omega
    · refine ⟨.int 0, rfl, 0, rfl, 10, 18, rfl, rfl, ⟨by decide, by decide, by decide⟩, _, _, rfl, rfl, 0, _, rfl, ?_⟩
      refine ⟨.int 0, rfl, .inl ⟨0, rfl, 0, 1000000000000000003, rfl, rfl, (by show (0 : Int) < 1000000000000000003; decide), .int i, rfl, i, 1, rfl, rfl, 104729, i + 1, rfl, rfl, .inl ⟨by decide, by decide⟩, _, _, rfl, rfl, (by show 3 ≤ sizeLine; decide), fun t ht => ?_⟩⟩
      refine q t _ (new_same ht) ht ⟨_, _, 0, upd_same, ?_, by omega, by omega, by omega, by omega⟩
      split <;> omega

/-! ### _law_drawn_count, _law_drawn_turn -/
def spCount : Sp := fun vs H Q _ => ∃ (T : Addr) (m c : Int), vs = [.ref T, .int m] ∧ 1 ≤ m ∧ m ≤ 40 ∧ Tank H T c ∧ 0 ≤ c ∧ c < 2 ^ 39 ∧
  ∀ (r : Int) (H' : Hp), 1 ≤ r → r ≤ m → Tank H' T (c + 3) → But T H H' → Q (.int r) H'
theorem ok_law_drawn_count (T : Txt K mg) : FnOk P w K mg base CX0 2 T.a_law_drawn_count T.d_law_drawn_count ["tank", "most"] spCount := by
  have G_law_tap := ok_law_tap (P := P) (w := w) (base := base) T
  refine T.F_law_drawn_count.ok sc_law_drawn_count (fun vs H Q E h => ?_) (fun cdv A outer s H vs Q E hr h => ?_)
  · obtain ⟨_, _, _, rfl, _⟩ := h
    rfl
  · obtain ⟨t, m, c, rfl, hm1, hm, hT, hc0, hc, q⟩ := h
    refine ⟨_, (pss_cons (ps_set (i := 2) sc_law_drawn_count.nd rfl (.inl rfl) (pe_lst (pa_cons pe_int (pa_cons (pv 1) (pa_cons pe_int (pa_cons pe_int (pa_cons pe_int (pa_cons pe_int (pa_cons pe_int (pa_cons (pe_op op_add pe_int (pe_call G_law_tap hr (by rfl) T.g_law_tap T.F_law_tap.kp T.b_law_tap .nil pass0 (pa_cons (pv 0) (pa_cons (pv 1) pa_nil)))) (pa_cons (pe_op op_add pe_int (pe_call G_law_tap hr (by rfl) T.g_law_tap T.F_law_tap.kp T.b_law_tap .nil pass0 (pa_cons (pv 0) (pa_cons (pv 1) pa_nil)))) pa_nil)))))))))))
      (pss_one (ps_ret (pe_callB (call_min2 rfl) (by rfl) T.n_min (by decide +kernel) (pa_cons (pv 1) (pa_cons (pe_ix (ixL (K := K) rfl) (pv 2) (pe_call G_law_tap hr (by rfl) T.g_law_tap T.F_law_tap.kp T.b_law_tap .nil pass0 (pa_cons (pv 0) (pa_cons pe_int pa_nil))) (fun _ _ => rfl)) pa_nil)))))), ?_⟩
    refine ⟨.int m, rfl, .ref t, rfl, .int m, rfl, t, m, c, rfl, by omega, by omega, hT, by omega, fun r1 H1 a1 b1 k1 u1 => ?_⟩
    refine ⟨1, r1, rfl, rfl, .ref t, rfl, .int m, rfl, t, m, c + 1, rfl, by omega, by omega, k1, by omega, fun r2 H2 a2 b2 k2 u2 => ?_⟩
    refine ⟨1, r2, rfl, rfl, (by show 9 ≤ sizeLine; decide), fun l hl => ?_⟩
    refine ⟨.int m, rfl, .ref l, rfl, .ref t, rfl, t, 9, c + 2, rfl, by omega, by omega, (k2.mono (by omega)).up hl, by omega, fun r3 H3 a3 b3 k3 u3 => ?_⟩
    have hl3 : H3 l = some (.lst (([1, m, 6, 7, 12, 36, 40, 1 + r1, 1 + r2] : List Int).map V.int)) := u3 _ _ upd_same (k2.ne hl)
    obtain ⟨n, hn, hat⟩ := at_in (ns := [1, m, 6, 7, 12, 36, 40, 1 + r1, 1 + r2]) a3 (by show r3 < 9; omega)
    have hn1 : 1 ≤ n := by
      have := List.mem_of_getElem? hn
      simp only [List.mem_cons, List.not_mem_nil, or_false] at this
      omega
    refine ⟨l, _, r3, .int n, rfl, rfl, SqL.of hl3, hat, m, n, rfl, ?_⟩
    have hb : But t H H3 := ((u1.trans u2).trans (But.of (new_same hl))).trans u3
    split
    · exact q _ _ hn1 (by omega) (k3.mono (by omega)) hb
    · exact q _ _ hm1 (by omega) (k3.mono (by omega)) hb

def spTurn : Sp := fun vs H Q _ => ∃ (T : Addr) (c : Int), vs = [.ref T] ∧ Tank H T c ∧ 0 ≤ c ∧ c < 2 ^ 39 ∧
  ∀ (r : Int) (H' : Hp), -10000000000000000000000000000000000000000 ≤ r → r ≤ 10000000000000000000000000000000000000000 → Tank H' T (c + 3) → But T H H' → Q (.int r) H'
theorem ok_law_drawn_turn (T : Txt K mg) : FnOk P w K mg base CX0 2 T.a_law_drawn_turn T.d_law_drawn_turn ["tank"] spTurn := by
  have G_law_tap := ok_law_tap (P := P) (w := w) (base := base) T
  refine T.F_law_drawn_turn.ok sc_law_drawn_turn (fun vs H Q E h => ?_) (fun cdv A outer s H vs Q E hr h => ?_)
  · obtain ⟨_, _, rfl, _⟩ := h
    rfl
  · obtain ⟨t, c, rfl, hT, hc0, hc, q⟩ := h
    refine ⟨_, (pss_one (ps_ret (pe_op op_mul (pe_call G_law_tap hr (by rfl) T.g_law_tap T.F_law_tap.kp T.b_law_tap .nil pass0 (pa_cons (pv 0) (pa_cons (pe_ix (ixL (K := K) rfl) (pe_lst (pa_cons pe_int (pa_cons pe_int (pa_cons (pe_op op_pow pe_int pe_int) pa_nil)))) (pe_call G_law_tap hr (by rfl) T.g_law_tap T.F_law_tap.kp T.b_law_tap .nil pass0 (pa_cons (pv 0) (pa_cons pe_int pa_nil))) (fun _ _ => rfl)) pa_nil))) (pe_ix (ixL (K := K) rfl) (pe_lst (pa_cons pe_int (pa_cons (pe_un un_neg pe_int) pa_nil))) (pe_call G_law_tap hr (by rfl) T.g_law_tap T.F_law_tap.kp T.b_law_tap .nil pass0 (pa_cons (pv 0) (pa_cons pe_int pa_nil))) (fun _ _ => rfl))))), ?_⟩
    have e40 : (10 : Int) ^ (40 : Int).toNat = 10000000000000000000000000000000000000000 := by decide +kernel
    refine ⟨.ref t, rfl, 10, 40, rfl, rfl, ⟨by decide, by decide, by decide⟩, (by show 3 ≤ sizeLine; decide), fun l hl => ?_⟩
    refine ⟨.ref t, rfl, t, 3, c, rfl, by omega, by omega, hT.up hl, by omega, fun r1 H1 a1 b1 k1 u1 => ?_⟩
    have hl1 : H1 l = some (.lst (([4, 99, 10 ^ (40 : Int).toNat] : List Int).map V.int)) := u1 _ _ upd_same (hT.ne hl)
    obtain ⟨n, hn, hat⟩ := at_in (ns := [4, 99, 10 ^ (40 : Int).toNat]) a1 (by show r1 < 3; omega)
    have hn1 : 4 ≤ n ∧ n ≤ 10000000000000000000000000000000000000000 := by
      have := List.mem_of_getElem? hn
      simp only [List.mem_cons, List.not_mem_nil, or_false, e40] at this
      omega
    refine ⟨l, _, r1, .int n, rfl, rfl, SqL.of hl1, hat, t, n, c + 1, rfl, by omega, by omega, k1, by omega, fun r2 H2 a2 b2 k2 u2 => ?_⟩
    refine ⟨1, rfl, (by show 2 ≤ sizeLine; decide), fun l2 hl2 => ?_⟩
    refine ⟨.ref t, rfl, t, 2, c + 2, rfl, by omega, by omega, (k2.mono (by omega)).up hl2, by omega, fun r3 H3 a3 b3 k3 u3 => ?_⟩
    have hl3 : H3 l2 = some (.lst (([1, -1] : List Int).map V.int)) := u3 _ _ upd_same (k2.ne hl2)
    obtain ⟨d, hd, hat3⟩ := at_in (ns := [1, -1]) a3 (by show r3 < 2; omega)
    have hd1 : d = 1 ∨ d = -1 := by
      have := List.mem_of_getElem? hd
      simp only [List.mem_cons, List.not_mem_nil, or_false] at this
      exact this
    refine ⟨l2, _, r3, .int d, rfl, rfl, SqL.of hl3, hat3, r2, d, rfl, rfl, .inr (by omega), ?_⟩
    have hb : But t H H3 := ((((But.of (new_same hl)).trans u1).trans u2).trans (But.of (new_same hl2))).trans u3
    have lo : -10000000000000000000000000000000000000000 ≤ r2 * d ∧ r2 * d ≤ 10000000000000000000000000000000000000000 := by
      rcases hd1 with rfl | rfl <;> omega
    exact q _ _ lo.1 lo.2 (k3.mono (by omega)) hb

/-! ### _law_drawn_rim -/
def spRim : Sp := fun vs H Q _ => ∃ (T : Addr) (n c : Int), vs = [.ref T, .int n] ∧ 1 ≤ n ∧ n ≤ 40 ∧ Tank H T c ∧ 0 ≤ c ∧ c < 2 ^ 38 ∧
  ∀ (l : Addr) (ns : List Int) (H' : Hp), Rim ns → (ns.length : Int) = n → But T H H' → H l = none → H' l = some (.lst (ns.map V.int)) → Tank H' T (c + 60) → Q (.ref l) H'
/-- what holds between the ifs -/
def MidRim (t : Addr) (H : Hp) (n k w e : Int) : L2.St → Hp → Prop := fun σ' H' => ∃ (D : Addr) (ns : List Int) (y5 y6 y7 : Option V),
  σ' = [some (.ref t), some (.int n), some (.int k), some (.int w), some (.ref D), y5, y6, y7] ∧ Rim ns ∧ (ns.length : Int) = n ∧ H D = none ∧ H' D = some (.lst (ns.map V.int)) ∧ But t H H' ∧ Tank H' t e
theorem ok_law_drawn_rim (T : Txt K mg) : FnOk P w K mg base CX0 2 T.a_law_drawn_rim T.d_law_drawn_rim ["tank", "count"] spRim := by
  have G_law_tap := ok_law_tap (P := P) (w := w) (base := base) T
  refine T.F_law_drawn_rim.ok sc_law_drawn_rim (fun vs H Q E h => ?_) (fun cdv A outer s H vs Q E hr h => ?_)
  · obtain ⟨_, _, _, rfl, _⟩ := h
    rfl
  · obtain ⟨t, n, c, rfl, hn1, hn, hT, hc0, hc, q⟩ := h
    have e30 : (10 : Int) ^ (30 : Int).toNat = 1000000000000000000000000000000 := by decide +kernel
    refine ⟨_, (pss_cons (ps_asg (pe_tup (pa_cons (pe_call G_law_tap hr (by rfl) T.g_law_tap T.F_law_tap.kp T.b_law_tap .nil pass0 (pa_cons (pv 0) (pa_cons pe_int pa_nil))) (pa_cons (pe_ix (ixL (K := K) rfl) (pe_lst (pa_cons pe_int (pa_cons pe_int (pa_cons pe_int (pa_cons (pe_op op_add (pe_op op_pow pe_int pe_int) pe_int) pa_nil))))) (pe_call G_law_tap hr (by rfl) T.g_law_tap T.F_law_tap.kp T.b_law_tap .nil pass0 (pa_cons (pv 0) (pa_cons pe_int pa_nil))) (fun _ _ => rfl)) pa_nil))) (pg_tupL (K := K) (n := 2) rfl rfl (pgs_cons (pg_name (i := 2) sc_law_drawn_rim.nd rfl (.inr rfl)) (pgs_cons (pg_name (i := 3) sc_law_drawn_rim.nd rfl (.inr rfl)) pgs_nil))))
      (pss_cons (ps_setLc (i := 4) (own := [("slot_here", 5)]) (g := gName 5) (tt := tYes) (by rfl) sc_law_drawn_rim.nd rfl rfl (sw_true rfl rfl rfl (by decide +kernel)) (pi_range1 (by rfl) T.n_range (pa_cons (pv 1) pa_nil)) (blkOk_by (own := [("slot_here", 5)]) (N := ["tank", "count", "kind", "wide", "rim", "slot_here", "sizes", "size"]) (sc := defScope s_law_drawn_rim) (by decide +kernel))
        (fun _ _ _ _ _ => (pg_name (i := 5) sc_law_drawn_rim.nd rfl (Or.inl rfl))) (fun _ _ _ _ _ => pts_nil) (fun _ _ _ _ _ => (pe_call G_law_tap hr (by rfl) T.g_law_tap T.F_law_tap.kp T.b_law_tap .nil pass0 (pa_cons (pv 0) (pa_cons (pe_ix (ixL (K := K) rfl) (pe_lst (pa_cons pe_int (pa_cons pe_int (pa_cons (pv 3) (pa_cons (pv 3) (pa_cons (pe_op op_add (pe_op op_pow pe_int pe_int) pe_int) (pa_cons pe_int (pa_cons pe_int (pa_cons pe_int pa_nil))))))))) (pv 2) (fun _ _ => rfl)) pa_nil)))))
      (pss_mid (ps_if (pt_cmpR op_eq (pv 2) pe_int (nomark _)) (pss_cons (ps_set (i := 4) sc_law_drawn_rim.nd rfl (.inl rfl) (pe_op op_rep (pe_lst (pa_cons pe_int pa_nil)) (pv 1)))
      (pss_one (ps_asg (pe_op op_add pe_int (pe_call G_law_tap hr (by rfl) T.g_law_tap T.F_law_tap.kp T.b_law_tap .nil pass0 (pa_cons (pv 0) (pa_cons (pe_op op_sub (pv 3) pe_int) pa_nil)))) (pg_sub (pv 4) (pe_call G_law_tap hr (by rfl) T.g_law_tap T.F_law_tap.kp T.b_law_tap .nil pass0 (pa_cons (pv 0) (pa_cons (pv 1) pa_nil))) set_list)))) pss_nil)
      (pss_mid (ps_if (pt_cmpR op_eq (pv 2) pe_int (nomark _)) (pss_one (ps_set (i := 4) sc_law_drawn_rim.nd rfl (.inl rfl) (pe_op op_rep (pe_lst (pa_cons (pe_ix (ixL (K := K) rfl) (pv 4) pe_int (fun _ _ => rfl)) pa_nil)) (pv 1)))) pss_nil)
      (pss_mid (ps_if (pt_cmpR op_eq (pv 2) pe_int (nomark _)) (pss_cons (ps_setLc (i := 6) (own := [("size", 7)]) (g := gName 7) (by rfl) sc_law_drawn_rim.nd rfl rfl (sw_true rfl rfl rfl (by decide +kernel)) (pi_range2 (by rfl) T.n_range (pa_cons pe_int (pa_cons (pe_op op_add (pv 1) pe_int) pa_nil))) (blkOk_by (own := [("size", 7)]) (N := ["tank", "count", "kind", "wide", "rim", "slot_here", "sizes", "size"]) (sc := defScope s_law_drawn_rim) (by decide +kernel))
        (fun _ _ _ _ _ => (pg_name (i := 7) sc_law_drawn_rim.nd rfl (Or.inl rfl))) (fun _ _ _ _ _ => (pts_one (pt_cmpR op_eq (pe_op op_mod (pe_callTy call_int1 (by rfl) T.n_int (by decide +kernel) (pa_cons (pv 1) pa_nil)) (pv 7)) pe_int (nomark _)))) (fun _ _ _ _ _ => (pv 7)))
      (pss_cons (ps_set (i := 7) sc_law_drawn_rim.nd rfl (.inl rfl) (pe_ix (ixL (K := K) rfl) (pv 6) (pe_call G_law_tap hr (by rfl) T.g_law_tap T.F_law_tap.kp T.b_law_tap .nil pass0 (pa_cons (pv 0) (pa_cons (pe_callB (lenL (K := K) rfl) (by rfl) T.n_len (by decide +kernel) (pa_cons (pv 6) pa_nil)) pa_nil))) (fun _ _ => rfl)))
      (pss_one (ps_set (i := 4) sc_law_drawn_rim.nd rfl (.inl rfl) (pe_op op_rep (pe_slice (slL (K := K) rfl) (pv 4) po_none (po_some (pv 7))) (pe_op op_fdivW (pv 1) (pv 7))))))) pss_nil)
      (pss_one (ps_ret (pv 4)))))))), ?_⟩
    obtain ⟨oT, hoT⟩ := hT.some
    -- kind, wide
    refine ⟨.ref t, rfl, t, 8, c, rfl, by omega, by omega, hT, by omega, fun k H1 k0 k8 k1 u1 => ?_⟩
    refine ⟨10, 30, rfl, rfl, ⟨by decide, by decide, by decide⟩, _, 1, rfl, rfl, (by show 4 ≤ sizeLine; decide), fun l hl => ?_⟩
    refine ⟨.ref t, rfl, t, 4, c + 1, rfl, by omega, by omega, k1.up hl, by omega, fun r H2 r0 r4 k2 u2 => ?_⟩
    have hl2 : H2 l = some (.lst (([2, 2, 4, 10 ^ (30 : Int).toNat + 1] : List Int).map V.int)) := u2 _ _ upd_same (k1.ne hl)
    obtain ⟨w, hw, hat⟩ := at_in (ns := [2, 2, 4, 10 ^ (30 : Int).toNat + 1]) r0 (by show r < 4; omega)
    have hw1 : 2 ≤ w ∧ w ≤ 1000000000000000000000000000001 := by
      have := List.mem_of_getElem? hw
      simp only [List.mem_cons, List.not_mem_nil, or_false, e30] at this
      omega
    refine ⟨l, _, r, .int w, rfl, rfl, SqL.of hl2, hat, (by show 2 ≤ sizeLine; decide), fun p hp => ?_⟩
    refine ⟨p, _, rfl, SqT.of upd_same, rfl, _, _, rfl, _, _, rfl, rfl, ?_⟩
    have u3 : But t H (upd H2 p (.tup [.int k, .int w])) := (u1.trans ((But.of (new_same hl)).trans u2)).trans (But.of (new_same hp))
    have k3 : Tank (upd H2 p (.tup [.int k, .int w])) t (c + 2) := (k2.mono (by omega)).up hp
    generalize hH3 : upd H2 p (.tup [.int k, .int w]) = H3 at u3 k3
    -- rim = [..]
    refine ⟨.int n, rfl, n, rfl, by omega, by omega, fun D hD => ?_⟩
    have hHD : H D = none := free_but u3 hoT hD (by obtain ⟨o, e⟩ := k3.some; rw [e]; exact fun z => nomatch z)
    refine lc_range (lo := 0) (n := n.toNat) (fun i H' => But t H H' ∧ Tank H' t (c + 2 + i) ∧ ∃ ms : List Int, H' D = some (.lst (ms.map V.int)) ∧ ms.length = i ∧ ∀ m ∈ ms, 0 ≤ m ∧ m ≤ 1000000000000000000000000000000)
      ⟨u3.trans (But.of (new_same hD)), (k3.mono (by omega)).up hD, [], upd_same, rfl, fun m hm => (List.not_mem_nil hm).elim⟩ (fun i H4 hi hP => ⟨rfl, ?_⟩) (fun H4 hP => ?_)
    · obtain ⟨u4, k4, ms, hD4, hlen, hall⟩ := hP
      refine ⟨.ref t, rfl, .int w, rfl, .int w, rfl, 10, 30, rfl, rfl, ⟨by decide, by decide, by decide⟩, _, 1, rfl, rfl, (by show 8 ≤ sizeLine; decide), fun l2 hl2 => ?_⟩
      obtain ⟨m, hm, hatm⟩ := at_in (ns := [2, 2, w, w, 10 ^ (30 : Int).toNat + 1, 4, 1, 2]) k0 (by show k < 8; omega)
      have hm1 : 1 ≤ m ∧ m ≤ 1000000000000000000000000000001 := by
        have := List.mem_of_getElem? hm
        simp only [List.mem_cons, List.not_mem_nil, or_false, e30] at this
        omega
      refine ⟨.int k, rfl, l2, _, k, .int m, rfl, rfl, SqL.of upd_same, hatm, t, m, c + 2 + i, rfl, by omega, by omega, k4.up hl2, by omega, fun v H5 v0 v1 k5 u5 => ?_⟩
      have hD5 : H5 D = some (.lst (ms.map V.int)) := u5 _ _ (new_same hl2 _ _ hD4) (k3.ne hD)
      refine ⟨_, hD5, by rw [List.length_map]; exact sz40 (by omega), ?_, ?_, ms ++ [v], ?_, by rw [List.length_append]; show ms.length + 1 = i + 1; omega, fun z hz => ?_⟩
      · exact fun b o e ne => by
          rw [upd_ne (ne_of_none e hHD)]
          exact ((u4.trans (But.of (new_same hl2))).trans u5) b o e ne
      · obtain ⟨x, y, z, e, a1, a2, a3, a4, a5⟩ := k5
        exact ⟨x, y, z, by rw [upd_ne (k3.ne hD).symm]; exact e, a1, a2, a3, a4, by omega⟩
      · rw [upd_same, List.map_append]
        rfl
      · rcases List.mem_append.mp hz with h | h
        · exact hall z h
        · have e := List.mem_singleton.mp h
          subst e
          omega
    · obtain ⟨u4, k4, ms, hD4, hlen, hall⟩ := hP
      have hn2 : (ms.length : Int) = n := by omega
      have hR : Rim ms := ⟨by omega, by omega, hall⟩
      have ek : ((n.toNat : Nat) : Int) = n := by omega
      rw [ek] at k4
      -- if kind == 1
      refine ⟨MidRim t H n k w (c + 2 + n + 2), ⟨.int k, rfl, rfl, _, rfl, ite2 (fun _ => ?_) (fun _ => ?_)⟩, fun σ' H5 hM => ?_⟩
      · refine ⟨(by show 1 ≤ sizeLine; decide), fun l3 hl3 => ?_⟩
        refine ⟨.int n, rfl, l3, n, _, rfl, rfl, upd_same, by omega, by omega, (by show 1 * n.toNat ≤ sizeLine; exact sz40' (by omega)), fun p3 hp3 => ?_⟩
        have k5 : Tank (upd (upd H4 l3 (.lst [.int 0])) p3 (.lst (List.replicate n.toNat [V.int 0]).flatten)) t (c + 2 + n) := (k4.up hl3).up hp3
        have u5 : But t H (upd (upd H4 l3 (.lst [.int 0])) p3 (.lst (List.replicate n.toNat [V.int 0]).flatten)) := (u4.trans (But.of (new_same hl3))).trans (But.of (new_same hp3))
        refine ⟨.ref t, rfl, .int w, rfl, w, 1, rfl, rfl, t, w - 1, c + 2 + n, rfl, by omega, by omega, k5, by omega, fun v H6 v0 v1 k6 u6 => ?_⟩
        refine ⟨1, v, rfl, rfl, .ref p3, rfl, .ref t, rfl, .int n, rfl, t, n, c + 2 + n + 1, rfl, by omega, by omega, k6, by omega, fun j H7 j0 j1 k7 u7 => ?_⟩
        have hp7 : H7 p3 = some (.lst ((List.replicate n.toNat (0 : Int)).map V.int)) := u7 _ _ (u6 _ _ (by rw [upd_same, rep_one]) ((k4.up hl3).ne hp3)) ((k4.up hl3).ne hp3)
        have hlenr : ((List.replicate n.toNat (0 : Int)).map V.int).length = n.toNat := by rw [List.length_map, List.length_replicate]
        refine ⟨p3, _, _, j.toNat, rfl, rfl, hp7, ixN_in j0 (by rw [hlenr]; omega), ?_⟩
        have hHp : H p3 = none := free_but (u4.trans (But.of (new_same hl3))) hoT hp3 (by obtain ⟨o, e⟩ := (k4.up hl3).some; rw [e]; exact fun z => nomatch z)
        refine ⟨p3, (List.replicate n.toNat (0 : Int)).set j.toNat (1 + v), _, _, _, rfl, ⟨?_, ?_, fun z hz => ?_⟩, ?_, hHp, ?_, ?_, ?_⟩
        · rw [List.length_set, List.length_replicate]
          omega
        · rw [List.length_set, List.length_replicate]
          omega
        · rcases List.mem_or_eq_of_mem_set hz with h | h
          · rw [(List.mem_replicate.mp h).2]
            omega
          · omega
        · rw [List.length_set, List.length_replicate]
          exact ek
        · rw [upd_same, map_set]
        · exact fun b o e ne => by
            rw [upd_ne (ne_of_none e hHp)]
            exact ((u5.trans u6).trans u7) b o e ne
        · obtain ⟨x, y, z, e, a1, a2, a3, a4, a5⟩ := k7
          exact ⟨x, y, z, by rw [upd_ne ((k4.up hl3).ne hp3).symm]; exact e, a1, a2, a3, a4, by omega⟩
      · exact ⟨D, ms, _, _, _, rfl, hR, hn2, hHD, hD4, u4, k4.mono (by omega)⟩
      -- if kind == 2
      obtain ⟨D5, ns5, y5, y6, y7, rfl, hR5, hn5, hH5, hD5, u5, k5⟩ := hM
      refine ⟨MidRim t H n k w (c + 2 + n + 2), ⟨.int k, rfl, rfl, _, rfl, ite2 (fun _ => ?_) (fun _ => ?_)⟩, fun σ' H6 hM => ?_⟩
      · obtain ⟨m, hm, hat0⟩ := at_in (ns := ns5) (i := 0) (by omega) (by omega)
        have hmb := hR5.all m (List.mem_of_getElem? hm)
        refine ⟨.ref D5, rfl, D5, _, 0, .int m, rfl, rfl, SqL.of hD5, hat0, (by show 1 ≤ sizeLine; decide), fun l3 hl3 => ?_⟩
        refine ⟨.int n, rfl, l3, n, _, rfl, rfl, upd_same, by omega, by omega, (by show 1 * n.toNat ≤ sizeLine; exact sz40' (by omega)), fun p3 hp3 => ?_⟩
        have hHp : H p3 = none := free_but (u5.trans (But.of (new_same hl3))) hoT hp3 (by obtain ⟨o, e⟩ := (k5.up hl3).some; rw [e]; exact fun z => nomatch z)
        refine ⟨p3, List.replicate n.toNat m, _, _, _, rfl, ⟨?_, ?_, fun z hz => ?_⟩, ?_, hHp, by rw [upd_same, rep_one], (u5.trans (But.of (new_same hl3))).trans (But.of (new_same hp3)), (k5.up hl3).up hp3⟩
        · rw [List.length_replicate]
          omega
        · rw [List.length_replicate]
          omega
        · rw [(List.mem_replicate.mp hz).2]
          exact hmb
        · rw [List.length_replicate]
          exact ek
      · exact ⟨D5, ns5, y5, y6, y7, rfl, hR5, hn5, hH5, hD5, u5, k5⟩
      -- if kind == 3
      obtain ⟨D6, ns6, y5, y6, y7, rfl, hR6, hn6, hH6, hD6, u6, k6⟩ := hM
      refine ⟨MidRim t H n k w (c + 2 + n + 3), ⟨.int k, rfl, rfl, _, rfl, ite2 (fun _ => ?_) (fun _ => ?_)⟩, fun σ' H7 hM => ?_⟩
      · refine ⟨.int n, rfl, n, 1, rfl, rfl, 1, n + 1, rfl, ⟨by omega, by omega, by omega, by omega⟩, fun D2 hD2 => ?_⟩
        refine lc_range (lo := 1) (n := (n + 1 - 1).toNat) (fun i H' => Same H6 H' ∧ ∃ ss : List Int, H' D2 = some (.lst (ss.map V.int)) ∧ (∀ s ∈ ss, 1 ≤ s ∧ s ≤ n ∧ n % s = 0) ∧ ss.length ≤ i ∧ (0 < i → 1 ≤ ss.length))
          ⟨new_same hD2, [], upd_same, fun s hs => (List.not_mem_nil hs).elim, Nat.le_refl _, fun z => absurd z (Nat.lt_irrefl _)⟩ (fun i H7 hi hP => ⟨rfl, ?_⟩) (fun H7 hP => ?_)
        · obtain ⟨s7, ss, hD7, hss, hsl, hs0⟩ := hP
          refine ⟨.int n, rfl, .inl ⟨n, rfl, .int (1 + i), rfl, n, 1 + i, rfl, rfl, (by show (0 : Int) < _; omega), rfl, _, rfl, ite2 (fun h => ?_) (fun h => ?_)⟩⟩
          · have hz : n % (1 + (i : Int)) = 0 := V.int.inj (of_decide_eq_true h)
            refine ⟨.int (1 + i), rfl, _, hD7, by rw [List.length_map]; exact sz40 (by omega), fun b o e => ?_, ss ++ [1 + (i : Int)], ?_, fun z hzz => ?_, ?_, fun _ => ?_⟩
            · rw [upd_ne (ne_of_none e hD2)]
              exact s7 b o e
            · rw [upd_same, List.map_append]
              rfl
            · rcases List.mem_append.mp hzz with h | h
              · exact hss z h
              · have e := List.mem_singleton.mp h
                subst e
                exact ⟨by omega, by omega, hz⟩
            · rw [List.length_append]
              show ss.length + 1 ≤ i + 1
              omega
            · rw [List.length_append]
              show 1 ≤ ss.length + 1
              omega
          · refine ⟨s7, ss, hD7, hss, by omega, fun _ => ?_⟩
            rcases Nat.eq_zero_or_pos i with z | z
            · subst z
              exact absurd (decide_eq_true (by show V.int (n % (1 + ((0 : Nat) : Int))) = V.int 0; rw [show n % (1 + ((0 : Nat) : Int)) = 0 by omega])) h
            · exact hs0 z
        · obtain ⟨s7, ss, hD7, hss, hsl, hs0⟩ := hP
          have hs1 := hs0 (by omega)
          have k7 := k6.same s7
          refine ⟨.ref D2, rfl, .ref t, rfl, .ref D2, rfl, D2, _, rfl, .inl (SqL.of hD7), t, _, c + 2 + n + 2, rfl, by rw [List.length_map]; omega, by rw [List.length_map]; omega, k7, by omega, fun v H8 v0 v1 k8 u8 => ?_⟩
          rw [List.length_map] at v1
          obtain ⟨sz, hsz, hats⟩ := at_in v0 v1
          obtain ⟨z1, z2, z3⟩ := hss sz (List.mem_of_getElem? hsz)
          have hD8 : H8 D2 = some (.lst (ss.map V.int)) := u8 _ _ hD7 (k6.ne hD2)
          refine ⟨D2, _, v, .int sz, rfl, rfl, SqL.of hD8, hats, ?_⟩
          have hDt : D6 ≠ t := fun e => by
            rw [e] at hH6
            rw [hH6] at hoT
            cases hoT
          have hR8 : H8 D6 = some (.lst (ns6.map V.int)) := u8 _ _ (s7 _ _ hD6) hDt
          refine ⟨.ref D6, rfl, .int sz, rfl, sz, rfl, D6, _, rfl, SqL.of hR8, fun p3 hp3 => ?_⟩
          have hcut := cut_take ns6 sz (by omega)
          have hdv : n / sz * sz = n := Int.ediv_mul_cancel (Int.dvd_of_emod_eq_zero z3)
          have hq0 : 0 ≤ n / sz := Int.ediv_nonneg (by omega) (by omega)
          have hqn : n / sz ≤ n := Int.ediv_le_self _ (by omega)
          have htl : (ns6.take sz.toNat).length = sz.toNat := by rw [List.length_take]; omega
          have hlen2 : (n / sz).toNat * sz.toNat = n.toNat := by
            have e1 : (((n / sz).toNat * sz.toNat : Nat) : Int) = n := by
              rw [Int.natCast_mul, Int.toNat_of_nonneg hq0, Int.toNat_of_nonneg (by omega), hdv]
            omega
          refine ⟨.int n, rfl, .int sz, rfl, n, sz, rfl, rfl, wide_div (b := 200) (by omega) (by omega) (by decide) (by decide), p3, n / sz, _, rfl, rfl, upd_same, by omega, by omega, ?_, fun p4 hp4 => ?_⟩
          · rw [hcut, List.length_map, htl, Nat.mul_comm, hlen2]
            exact sz40' (by omega)
          · have hHp : H p4 = none := free_but (((u6.trans (But.of s7)).trans u8).trans (But.of (new_same hp3))) hoT hp4 (by obtain ⟨o, e⟩ := (k8.up hp3).some; rw [e]; exact fun z => nomatch z)
            refine ⟨p4, (List.replicate (n / sz).toNat (ns6.take sz.toNat)).flatten, _, _, _, rfl, ⟨?_, ?_, fun z hz => ?_⟩, ?_, hHp, by rw [upd_same, hcut, rep_map], (((u6.trans (But.of s7)).trans u8).trans (But.of (new_same hp3))).trans (But.of (new_same hp4)), ((k8.mono (by omega)).up hp3).up hp4⟩
            · rw [rep_len, htl, hlen2]
              omega
            · rw [rep_len, htl, hlen2]
              omega
            · exact hR6.all z (List.mem_of_mem_take (rep_mem hz))
            · rw [rep_len, htl, hlen2]
              exact ek
      · exact ⟨D6, ns6, y5, y6, y7, rfl, hR6, hn6, hH6, hD6, u6, k6.mono (by omega)⟩
      -- return rim
      obtain ⟨D7, ns7, y5, y6, y7, rfl, hR7, hn7, hH7, hD7, u7, k7⟩ := hM
      exact ⟨.ref D7, rfl, q D7 ns7 H7 hR7 hn7 u7 hH7 hD7 (k7.mono (by omega))⟩

def spLTurned (K : PySem.W.Frag) : Sp := fun vs H Q _ => ∃ (a : Addr) (ns : List Int) (t : Int), vs = [.ref a, .int t] ∧ SqL K H a (ns.map V.int) ∧ 1 ≤ ns.length ∧ ns.length ≤ 1000 ∧
  ∀ (l : Addr) (H' : Hp), Same H H' → H l = none → H' l = some (.lst ((rot ns t).map V.int)) → Q (.ref l) H'
def spLMirrored (K : PySem.W.Frag) : Sp := fun vs H Q _ => ∃ (a : Addr) (ns : List Int), vs = [.ref a] ∧ SqL K H a (ns.map V.int) ∧ 1 ≤ ns.length ∧ ns.length ≤ 1000 ∧
  ∀ (l : Addr) (H' : Hp), Same H H' → H l = none → H' l = some (.lst ((mir ns).map V.int)) → Q (.ref l) H'

/-! ### slitdiscs.around -/
def spTurnedList (K : PySem.W.Frag) : Sp := spLTurned K
theorem ok_turned_list (T : Txt K mg) : FnOk P w K mg base CX0 1 T.a_turned_list T.d_turned_list ["items", "turn"] (spTurnedList K) := by
  refine T.F_turned_list.ok sc_turned_list (fun vs H Q E h => ?_) (fun cdv A outer s H vs Q E hr h => ?_)
  · obtain ⟨_, _, _, rfl, _⟩ := h
    rfl
  · obtain ⟨a, ns, t, rfl, hS, hn1, hn, q⟩ := h
    refine ⟨_, (pss_cons (ps_set (i := 2) sc_turned_list.nd rfl (.inr rfl) (pe_callB (lenL (K := K) rfl) (by rfl) T.n_len (by decide +kernel) (pa_cons (pv 0) pa_nil)))
      (pss_one (ps_ret (pe_lc (own := [("slot", 3)]) (g := gName 3) (tt := tYes) (by rfl) sc_turned_list.nd (pi_range1 (by rfl) T.n_range (pa_cons (pv 2) pa_nil)) (blkOk_by (own := [("slot", 3)]) (N := ["items", "turn", "size", "slot"]) (sc := defScope s_turned_list) (by decide +kernel))
        (fun _ _ _ _ _ => (pg_name (i := 3) sc_turned_list.nd rfl (Or.inl rfl))) (fun _ _ _ _ _ => pts_nil) (fun _ _ _ _ _ => (pe_ix (ixL (K := K) rfl) (pv 0) (pe_op op_mod (pe_op op_sub (pv 3) (pv 1)) (pv 2)) (fun _ _ => rfl))))))), ?_⟩
    refine ⟨.ref a, rfl, a, _, rfl, .inl hS, ?_⟩
    rw [List.length_map]
    refine ⟨.int ns.length, rfl, ns.length, rfl, by omega, by omega, fun D hD => lc_range (lo := 0) (n := ((ns.length : Nat) : Int).toNat)
      (fun i H' => Same H H' ∧ H' D = some (.lst (((rot ns t).take i).map V.int))) ⟨new_same hD, upd_same⟩ (fun i H1 hi hP => ⟨rfl, ?_⟩) (fun H1 hP => ?_)⟩
    · obtain ⟨s1, hD1⟩ := hP
      rw [Int.toNat_natCast] at hi
      have hm := mod_in (i := (0 + (i : Int)) - t) (show 0 < ns.length by omega)
      obtain ⟨n, hx, hat⟩ := at_in hm.1 hm.2
      refine ⟨.ref a, rfl, .int (0 + i), rfl, .int t, rfl, 0 + i, t, rfl, rfl, .int ns.length, rfl, _, _, rfl, rfl, (by show (0 : Int) < _; omega), ?_⟩
      refine ⟨a, _, _, .int n, rfl, rfl, s1.seq hS, hat, _, hD1, ?_, ?_, ?_⟩
      · rw [List.length_map, List.length_take]
        exact sz40 (by omega)
      · intro b o e
        rw [upd_ne (ne_of_none e hD)]
        exact s1 b o e
      · rw [upd_same, take_next]
        rw [rot_at hi]
        rw [show (i : Int) - t = 0 + (i : Int) - t by omega, getD_at hx]
    · obtain ⟨s1, hD1⟩ := hP
      rw [Int.toNat_natCast, take_all (by rw [rot_len]; exact Nat.le_refl _)] at hD1
      exact q D H1 s1 hD hD1

def spMirroredList (K : PySem.W.Frag) : Sp := spLMirrored K
theorem ok_mirrored_list (T : Txt K mg) : FnOk P w K mg base CX0 1 T.a_mirrored_list T.d_mirrored_list ["items"] (spMirroredList K) := by
  refine T.F_mirrored_list.ok sc_mirrored_list (fun vs H Q E h => ?_) (fun cdv A outer s H vs Q E hr h => ?_)
  · obtain ⟨_, _, rfl, _⟩ := h
    rfl
  · obtain ⟨a, ns, rfl, hS, hn1, hn, q⟩ := h
    refine ⟨_, (pss_cons (ps_set (i := 1) sc_mirrored_list.nd rfl (.inr rfl) (pe_callB (lenL (K := K) rfl) (by rfl) T.n_len (by decide +kernel) (pa_cons (pv 0) pa_nil)))
      (pss_one (ps_ret (pe_lc (own := [("slot", 2)]) (g := gName 2) (tt := tYes) (by rfl) sc_mirrored_list.nd (pi_range1 (by rfl) T.n_range (pa_cons (pv 1) pa_nil)) (blkOk_by (own := [("slot", 2)]) (N := ["items", "size", "slot"]) (sc := defScope s_mirrored_list) (by decide +kernel))
        (fun _ _ _ _ _ => (pg_name (i := 2) sc_mirrored_list.nd rfl (Or.inl rfl))) (fun _ _ _ _ _ => pts_nil) (fun _ _ _ _ _ => (pe_ix (ixL (K := K) rfl) (pv 0) (pe_op op_mod (pe_un un_neg (pv 2)) (pv 1)) (fun _ _ => rfl))))))), ?_⟩
    refine ⟨.ref a, rfl, a, _, rfl, .inl hS, ?_⟩
    rw [List.length_map]
    refine ⟨.int ns.length, rfl, ns.length, rfl, by omega, by omega, fun D hD => lc_range (lo := 0) (n := ((ns.length : Nat) : Int).toNat)
      (fun i H' => Same H H' ∧ H' D = some (.lst (((mir ns).take i).map V.int))) ⟨new_same hD, upd_same⟩ (fun i H1 hi hP => ⟨rfl, ?_⟩) (fun H1 hP => ?_)⟩
    · obtain ⟨s1, hD1⟩ := hP
      rw [Int.toNat_natCast] at hi
      have hm := mod_in (i := -(0 + (i : Int))) (show 0 < ns.length by omega)
      obtain ⟨n, hx, hat⟩ := at_in hm.1 hm.2
      refine ⟨.ref a, rfl, .int (0 + i), rfl, 0 + i, rfl, .int ns.length, rfl, _, _, rfl, rfl, (by show (0 : Int) < _; omega), ?_⟩
      refine ⟨a, _, _, .int n, rfl, rfl, s1.seq hS, hat, _, hD1, ?_, ?_, ?_⟩
      · rw [List.length_map, List.length_take]
        exact sz40 (by omega)
      · intro b o e
        rw [upd_ne (ne_of_none e hD)]
        exact s1 b o e
      · rw [upd_same, take_next]
        rw [mir_at hi]
        rw [show -(i : Int) = -(0 + (i : Int)) by omega, getD_at hx]
    · obtain ⟨s1, hD1⟩ := hP
      rw [Int.toNat_natCast, take_all (by rw [mir_len]; exact Nat.le_refl _)] at hD1
      exact q D H1 s1 hD hD1

/-! ### slitdiscs.checks, over rims -/
def spIsInt : Sp := fun vs H Q _ => ∃ n : Int, vs = [.int n] ∧ Q (.bl true) H
theorem ok_is_integer (T : Txt K mg) : FnOk P w K mg base CX0 1 T.a_is_integer T.d_is_integer ["value"] spIsInt := by
  refine T.F_is_integer.ok sc_is_integer (fun vs H Q E h => ?_) (fun cdv A outer s H vs Q E hr h => ?_)
  · obtain ⟨_, rfl, _⟩ := h
    rfl
  · obtain ⟨n, rfl, q⟩ := h
    refine ⟨_, (pss_one (ps_ret (pe_and (pe_callB (isiL (K := K) rfl) (by rfl) T.n_isinstance (by decide +kernel) (pa_cons (pv 0) (pa_cons (pe_bltn (v := .ty "int") (u := Value.type "int") rfl T.n_int (by decide +kernel) rfl) pa_nil))) (pe_one (pe_not (pe_callB (isiL (K := K) rfl) (by rfl) T.n_isinstance (by decide +kernel) (pa_cons (pv 0) (pa_cons (pe_bltn (v := .ty "bool") (u := Value.type "bool") rfl T.n_bool (by decide +kernel) rfl) pa_nil)))))))), ?_⟩
    refine ⟨.int n, rfl, .int n, .ty "int", _, _, true, rfl, .ty _, .base (.int n), kit_int_int, true, rfl, iteT ?_⟩
    exact ⟨.int n, rfl, .int n, .ty "bool", _, _, false, rfl, .ty _, .base (.int n), kit_int_bool, false, rfl, q⟩
def spHasSlots (K : PySem.W.Frag) : Sp := fun vs H Q _ => ∃ (a : Addr) (xs : List V), vs = [.ref a] ∧ SqL K H a xs ∧ 1 ≤ xs.length ∧ xs.length ≤ 40 ∧ Q (.bl true) H
theorem ok_has_slots (T : Txt K mg) : FnOk P w K mg base CX0 1 T.a_has_slots T.d_has_slots ["value"] (spHasSlots K) := by
  refine T.F_has_slots.ok sc_has_slots (fun vs H Q E h => ?_) (fun cdv A outer s H vs Q E hr h => ?_)
  · obtain ⟨_, _, rfl, _⟩ := h
    rfl
  · obtain ⟨a, xs, rfl, hS, h1, h40, q⟩ := h
    refine ⟨_, (pss_one (ps_ret (pe_and (pe_callB (isiL (K := K) rfl) (by rfl) T.n_isinstance (by decide +kernel) (pa_cons (pv 0) (pa_cons (pe_bltn (v := .ty "list") (u := Value.type "list") rfl T.n_list (by decide +kernel) rfl) pa_nil))) (pe_one (pe_chain op_le op_le pe_int (pe_callB (lenL (K := K) rfl) (by rfl) T.n_len (by decide +kernel) (pa_cons (pv 0) pa_nil)) (pe_glob (v := .int (40)) rfl T.g_MOST_SLOTS ⟨_, rfl⟩)))))), ?_⟩
    refine ⟨.ref a, rfl, .ref a, .ty "list", _, _, true, rfl, .ty _, tyx_list hS, kit_list_list, true, rfl, iteT ?_⟩
    refine ⟨.ref a, rfl, a, _, rfl, .inl hS, 1, _, rfl, rfl, _, rfl, ?_⟩
    rw [if_pos (decide_eq_true (by omega))]
    refine ⟨_, 40, rfl, rfl, ?_⟩
    show Q (.bl (decide ((xs.length : Int) ≤ 40))) H
    rw [decide_eq_true (show (xs.length : Int) ≤ 40 by omega)]
    exact q
def spWrongLight (K : PySem.W.Frag) : Sp := fun vs H Q _ => ∃ (a : Addr) (ns : List Int) (m : Int), vs = [.ref a, .int m] ∧ SqL K H a (ns.map V.int) ∧ (∀ n ∈ ns, 0 ≤ n ∧ n ≤ m) ∧ ∀ H', Same H H' → Q .non H'
theorem ok_wrong_light (T : Txt K mg) : FnOk P w K mg base CX0 2 T.a_wrong_light T.d_wrong_light ["items", "most"] (spWrongLight K) := by
  have G_is_integer := ok_is_integer (P := P) (w := w) (base := base) T
  refine T.F_wrong_light.ok sc_wrong_light (fun vs H Q E h => ?_) (fun cdv A outer s H vs Q E hr h => ?_)
  · obtain ⟨_, _, _, rfl, _⟩ := h
    rfl
  · obtain ⟨a, ns, m, rfl, hS, hR, q⟩ := h
    refine ⟨_, (pss_cons (ps_for PassesOwn.never rfl (enumL (K := K) rfl (by rfl) T.n_enumerate (pa_cons (pv 0) pa_nil)) (pg_tupL (K := K) (n := 2) rfl rfl (pgs_cons (pg_name (i := 2) sc_wrong_light.nd rfl (.inl rfl)) (pgs_cons (pg_name (i := 3) sc_wrong_light.nd rfl (.inl rfl)) pgs_nil))) (pss_one (ps_if (PW.pt (pw_or (pt_not (pt_val (pe_call G_is_integer hr (by rfl) T.g_is_integer T.F_is_integer.kp T.b_is_integer .nil pass0 (pa_cons (pv 3) pa_nil)))) (pw_or1 (pt_not (pt_chain op_le op_le pe_int (pv 3) (pv 1)))))) (pss_one (ps_ret (pv 2))) pss_nil)))
      (pss_one (ps_ret pe_non))), ?_⟩
    refine ⟨.ref a, rfl, a, _, rfl, hS, for_it (walk_enum (K := K) (xs := ns.map V.int)) (fun i σ H' => ∃ y1 y2 : Option V, σ = [some (.ref a), some (.int m), y1, y2] ∧ Same H H')
      ⟨none, none, rfl, Same.refl H⟩ (fun i σ H' _ ⟨_, _, _, s2⟩ => s2.seq hS) (fun i x σ H1 H2 hi hP hY => ?_) (fun σ H1 hP => ?_)⟩
    · obtain ⟨y1, y2, rfl, s1⟩ := hP
      obtain ⟨p, z1, z2, rfl, hp, rfl, e1, e2⟩ := hY
      obtain ⟨n, hn, rfl⟩ := int_at e2
      have hb := hR n (List.mem_of_getElem? hn)
      refine ⟨p, _, rfl, SqT.of upd_same, rfl, _, _, rfl, _, _, rfl, rfl, ?_⟩
      refine ⟨.int n, rfl, n, rfl, true, rfl, iteF ?_⟩
      refine ⟨.int n, rfl, 0, n, rfl, rfl, _, rfl, ?_⟩
      rw [if_pos (decide_eq_true hb.1)]
      refine ⟨.int m, rfl, n, m, rfl, rfl, _, rfl, iteNS hb.2 ?_⟩
      exact ⟨_, _, rfl, s1.trans (new_same hp)⟩
    · obtain ⟨y1, y2, rfl, s1⟩ := hP
      exact q H1 s1
def spWrongSlot (K : PySem.W.Frag) : Sp := fun vs H Q _ => ∃ (a : Addr) (ns : List Int), vs = [.ref a] ∧ SqL K H a (ns.map V.int) ∧ Rim ns ∧ ∀ H', Same H H' → Q .non H'
theorem ok_wrong_slot (T : Txt K mg) : FnOk P w K mg base CX0 3 T.a_wrong_slot T.d_wrong_slot ["items"] (spWrongSlot K) := by
  have G_wrong_light := ok_wrong_light (P := P) (w := w) (base := base) T
  refine T.F_wrong_slot.ok sc_wrong_slot (fun vs H Q E h => ?_) (fun cdv A outer s H vs Q E hr h => ?_)
  · obtain ⟨_, _, rfl, _⟩ := h
    rfl
  · obtain ⟨a, ns, rfl, hS, hR, q⟩ := h
    refine ⟨_, (pss_one (ps_ret (pe_call G_wrong_light hr (by rfl) T.g_wrong_light T.F_wrong_light.kp T.b_wrong_light .nil pass0 (pa_cons (pv 0) (pa_cons (pe_glob (v := .int (1000000000000000000000000000000)) rfl T.g_MOST_LIGHT ⟨_, rfl⟩) pa_nil))))), ?_⟩
    exact ⟨.ref a, rfl, a, ns, _, rfl, hS, hR.all, q⟩
def spCheckDisc (K : PySem.W.Frag) : Sp := spWrongSlot K
theorem ok_check_disc (T : Txt K mg) : FnOk P w K mg base CX0 4 T.a_check_disc T.d_check_disc ["disc"] (spCheckDisc K) := by
  have G_has_slots := ok_has_slots (P := P) (w := w) (base := base) T
  have G_wrong_slot := ok_wrong_slot (P := P) (w := w) (base := base) T
  refine T.F_check_disc.ok sc_check_disc (fun vs H Q E h => ?_) (fun cdv A outer s H vs Q E hr h => ?_)
  · obtain ⟨_, _, rfl, _⟩ := h
    rfl
  · obtain ⟨a, ns, rfl, hS, hR, q⟩ := h
    refine ⟨_, (pss_cons (ps_if (pt_not (pt_val (pe_call G_has_slots (hr.mono (by decide)) (by rfl) T.g_has_slots T.F_has_slots.kp T.b_has_slots .nil pass0 (pa_cons (pv 0) pa_nil)))) (pss_one ps_never) pss_nil)
      (pss_cons (ps_set (i := 1) sc_check_disc.nd rfl (.inl rfl) (pe_call G_wrong_slot hr (by rfl) T.g_wrong_slot T.F_wrong_slot.kp T.b_wrong_slot .nil pass0 (pa_cons (pv 0) pa_nil)))
      (pss_one (ps_if (pt_cmpR op_notN (pv 1) pe_non (nomark _)) (pss_one ps_never) pss_nil)))), ?_⟩
    refine ⟨.ref a, rfl, a, _, rfl, hS, by rw [List.length_map]; exact hR.pos, by rw [List.length_map]; exact hR.le, true, rfl, iteF ?_⟩
    refine ⟨.ref a, rfl, a, ns, rfl, hS, hR, fun H1 s1 => ?_⟩
    refine ⟨.non, rfl, rfl, _, rfl, iteNS rfl ?_⟩
    exact q H1 s1

def spCheckTurn : Sp := fun vs H Q _ => ∃ n : Int, vs = [.int n] ∧ Q .non H
theorem ok_check_turn (T : Txt K mg) : FnOk P w K mg base CX0 2 T.a_check_turn T.d_check_turn ["turn"] spCheckTurn := by
  have G_is_integer := ok_is_integer (P := P) (w := w) (base := base) T
  refine T.F_check_turn.ok sc_check_turn (fun vs H Q E h => ?_) (fun cdv A outer s H vs Q E hr h => ?_)
  · obtain ⟨_, rfl, _⟩ := h
    rfl
  · obtain ⟨n, rfl, q⟩ := h
    refine ⟨_, (pss_one (ps_if (pt_not (pt_val (pe_call G_is_integer hr (by rfl) T.g_is_integer T.F_is_integer.kp T.b_is_integer .nil pass0 (pa_cons (pv 0) pa_nil)))) (pss_one ps_never) pss_nil)), ?_⟩
    exact ⟨.int n, rfl, n, rfl, true, rfl, iteF q⟩

def spCheckDiscs (K : PySem.W.Frag) : Sp := fun vs H Q _ => ∃ (a b : Addr) (ns ms : List Int), vs = [.ref a, .ref b] ∧ SqL K H a (ns.map V.int) ∧ SqL K H b (ms.map V.int) ∧ Rim ns ∧ Rim ms ∧ ns.length = ms.length ∧ ∀ H', Same H H' → Q .non H'
theorem ok_check_discs (T : Txt K mg) : FnOk P w K mg base CX0 5 T.a_check_discs T.d_check_discs ["disc", "other"] (spCheckDiscs K) := by
  have G_check_disc := ok_check_disc (P := P) (w := w) (base := base) T
  refine T.F_check_discs.ok sc_check_discs (fun vs H Q E h => ?_) (fun cdv A outer s H vs Q E hr h => ?_)
  · obtain ⟨_, _, _, _, rfl, _⟩ := h
    rfl
  · obtain ⟨a, b, ns, ms, rfl, hS, hS2, hR, hR2, hl, q⟩ := h
    refine ⟨_, (pss_cons (ps_expr (pe_call G_check_disc hr (by rfl) T.g_check_disc T.F_check_disc.kp T.b_check_disc .nil pass0 (pa_cons (pv 0) pa_nil)))
      (pss_cons (ps_expr (pe_call G_check_disc hr (by rfl) T.g_check_disc T.F_check_disc.kp T.b_check_disc .nil pass0 (pa_cons (pv 1) pa_nil)))
      (pss_one (ps_if (pt_cmpR op_ne (pe_callB (lenL (K := K) rfl) (by rfl) T.n_len (by decide +kernel) (pa_cons (pv 1) pa_nil)) (pe_callB (lenL (K := K) rfl) (by rfl) T.n_len (by decide +kernel) (pa_cons (pv 0) pa_nil)) (nomark _)) (pss_one ps_never) pss_nil)))), ?_⟩
    refine ⟨.ref a, rfl, a, ns, rfl, hS, hR, fun H1 s1 => ?_⟩
    refine ⟨.ref b, rfl, b, ms, rfl, s1.seq hS2, hR2, fun H2 s2 => ?_⟩
    refine ⟨.ref b, rfl, b, _, rfl, .inl ((s1.trans s2).seq hS2), .ref a, rfl, a, _, rfl, .inl ((s1.trans s2).seq hS), rfl, _, rfl, iteNS ?_ ?_⟩
    · rw [List.length_map, List.length_map, hl]
    · exact q H2 (s1.trans s2)

theorem ok_check_number (T : Txt K mg) : FnOk P w K mg base CX0 2 T.a_check_number T.d_check_number ["number"] spCheckTurn := by
  have G_is_integer := ok_is_integer (P := P) (w := w) (base := base) T
  refine T.F_check_number.ok sc_check_number (fun vs H Q E h => ?_) (fun cdv A outer s H vs Q E hr h => ?_)
  · obtain ⟨_, rfl, _⟩ := h
    rfl
  · obtain ⟨n, rfl, q⟩ := h
    refine ⟨_, (pss_one (ps_if (pt_not (pt_val (pe_call G_is_integer hr (by rfl) T.g_is_integer T.F_is_integer.kp T.b_is_integer .nil pass0 (pa_cons (pv 0) pa_nil)))) (pss_one ps_never) pss_nil)), ?_⟩
    exact ⟨.int n, rfl, n, rfl, true, rfl, iteF q⟩

/-! ### lights -/
def spLight (K : PySem.W.Frag) : Sp := fun vs H Q _ => ∃ (a b : Addr) (ns ms : List Int) (t : Int), vs = [.ref a, .ref b, .int t] ∧ SqL K H a (ns.map V.int) ∧ SqL K H b (ms.map V.int) ∧
  ns.length = ms.length ∧ 1 ≤ ns.length ∧ ns.length ≤ 40 ∧ Ab 100 ns ∧ Ab 400 ms ∧ ∀ H', Same H H' → Q (.int (lightV ns ms t)) H'
theorem ok_light_between (T : Txt K mg) : FnOk P w K mg base CX0 2 T.a_light_between T.d_light_between ["disc", "row", "turn"] (spLight K) := by
  have G_turned_list := ok_turned_list (P := P) (w := w) (base := base) T
  refine T.F_light_between.ok sc_light_between (fun vs H Q E h => ?_) (fun cdv A outer s H vs Q E hr h => ?_)
  · obtain ⟨_, _, _, _, _, rfl, _⟩ := h
    rfl
  · obtain ⟨a, b, ns, ms, t, rfl, hS, hS2, hl, h1, h40, hA, hB, q⟩ := h
    refine ⟨_, (pss_one (ps_ret (pe_callB (sumL (K := K) rfl rfl) (by rfl) T.n_sum (by decide +kernel) (pa_cons (pe_lc (own := [("under", 3), ("over", 4)]) (tt := tYes) (by rfl) sc_light_between.nd (zipL (K := K) rfl (by rfl) T.n_zip (pa_cons (pv 0) (pa_cons (pe_call G_turned_list hr (by rfl) T.g_turned_list T.F_turned_list.kp T.b_turned_list .nil pass0 (pa_cons (pv 1) (pa_cons (pv 2) pa_nil))) pa_nil))) (blkOk_by (own := [("under", 3), ("over", 4)]) (N := ["disc", "row", "turn", "under", "over"]) (sc := defScope s_light_between) (by decide +kernel))
        (fun _ _ _ _ _ => (pg_tupL (K := K) (n := 2) rfl rfl (pgs_cons (pg_name (i := 3) sc_light_between.nd rfl (.inl rfl)) (pgs_cons (pg_name (i := 4) sc_light_between.nd rfl (.inl rfl)) pgs_nil)))) (fun _ _ _ _ _ => pts_nil) (fun _ _ _ _ _ => (pe_op op_mulW (pv 3) (pv 4)))) pa_nil)))), ?_⟩
    refine ⟨.ref a, rfl, .ref b, rfl, .int t, rfl, b, ms, t, rfl, hS2, by omega, by omega, fun l H1 s1 hl0 hl1 => ?_⟩
    refine ⟨a, l, _, _, rfl, s1.seq hS, SqL.of hl1, fun D hD => ?_⟩
    refine lc_it (walk_zip (K := K) (a := a) (b := l) (xs := ns.map V.int) (ys := (rot ms t).map V.int) (n := ns.length) (by rw [List.length_map, List.length_map, rot_len]; omega))
      (fun i H' => Same H1 H' ∧ H' D = some (.lst (((prods ns (rot ms t)).take i).map V.int))) ⟨new_same hD, upd_same⟩ (fun i H' _ hP => ⟨hP.1.seq (s1.seq hS), hP.1.seq (SqL.of hl1)⟩) (fun i x H2 H3 hi hP hY => ?_) (fun H2 hP => ?_)
    · obtain ⟨s2, hD2⟩ := hP
      obtain ⟨p, z1, z2, rfl, hp, rfl, e1, e2⟩ := hY
      obtain ⟨x, hx, rfl⟩ := int_at e1
      obtain ⟨y, hy, rfl⟩ := int_at e2
      refine ⟨p, _, rfl, SqT.of upd_same, rfl, _, _, rfl, _, _, rfl, rfl, rfl, ?_⟩
      refine ⟨.int x, rfl, .int y, rfl, x, y, rfl, rfl, wide_mul (hA.at hx) ((hB.rot t).at hy) (by decide) (by decide) (by decide), ?_⟩
      have s3 := s2.trans (new_same (o := .tup [.int x, .int y]) hp)
      refine ⟨_, (new_same hp) _ _ hD2, ?_, same_over s3 hD, ?_⟩
      · rw [List.length_map, List.length_take]
        exact sz40 (by omega)
      · rw [upd_same, take_next (prods_at hx hy)]
    · obtain ⟨s2, hD2⟩ := hP
      rw [take_all (by rw [prods_len, rot_len]; omega)] at hD2
      exact ⟨D, _, rfl, SqL.of hD2, q H2 (s1.trans s2)⟩
def spLights (K : PySem.W.Frag) : Sp := fun vs H Q _ => ∃ (a b : Addr) (ns ms : List Int), vs = [.ref a, .ref b] ∧ SqL K H a (ns.map V.int) ∧ SqL K H b (ms.map V.int) ∧
  ns.length = ms.length ∧ 1 ≤ ns.length ∧ ns.length ≤ 40 ∧ Ab 100 ns ∧ Ab 400 ms ∧ ∀ (l : Addr) (H' : Hp), Same H H' → H l = none → H' l = some (.lst ((lightsV ns ms).map V.int)) → Q (.ref l) H'
theorem ok_lights_between (T : Txt K mg) : FnOk P w K mg base CX0 3 T.a_lights_between T.d_lights_between ["disc", "row"] (spLights K) := by
  have G_light_between := ok_light_between (P := P) (w := w) (base := base) T
  refine T.F_lights_between.ok sc_lights_between (fun vs H Q E h => ?_) (fun cdv A outer s H vs Q E hr h => ?_)
  · obtain ⟨_, _, _, _, rfl, _⟩ := h
    rfl
  · obtain ⟨a, b, ns, ms, rfl, hS, hS2, hl, h1, h40, hA, hB, q⟩ := h
    refine ⟨_, (pss_one (ps_ret (pe_lc (own := [("turn", 2)]) (g := gName 2) (tt := tYes) (by rfl) sc_lights_between.nd (pi_range1 (by rfl) T.n_range (pa_cons (pe_callB (lenL (K := K) rfl) (by rfl) T.n_len (by decide +kernel) (pa_cons (pv 0) pa_nil)) pa_nil)) (blkOk_by (own := [("turn", 2)]) (N := ["disc", "row", "turn"]) (sc := defScope s_lights_between) (by decide +kernel))
        (fun _ _ _ _ _ => (pg_name (i := 2) sc_lights_between.nd rfl (Or.inl rfl))) (fun _ _ _ _ _ => pts_nil) (fun _ _ _ _ _ => (pe_call G_light_between hr (by rfl) T.g_light_between T.F_light_between.kp T.b_light_between .nil pass0 (pa_cons (pv 0) (pa_cons (pv 1) (pa_cons (pv 2) pa_nil)))))))), ?_⟩
    refine ⟨.ref a, rfl, a, _, rfl, .inl hS, ?_⟩
    rw [List.length_map]
    refine ⟨ns.length, rfl, by omega, by omega, fun D hD => lc_range (lo := 0) (n := ((ns.length : Nat) : Int).toNat)
      (fun i H' => Same H H' ∧ H' D = some (.lst (((lightsV ns ms).take i).map V.int))) ⟨new_same hD, upd_same⟩ (fun i H1 hi hP => ⟨rfl, ?_⟩) (fun H1 hP => ?_)⟩
    · obtain ⟨s1, hD1⟩ := hP
      rw [Int.toNat_natCast] at hi
      refine ⟨.ref a, rfl, .ref b, rfl, .int (0 + i), rfl, a, b, ns, ms, 0 + i, rfl, s1.seq hS, s1.seq hS2, hl, h1, h40, hA, hB, fun H2 s2 => ?_⟩
      refine ⟨_, s2 _ _ hD1, ?_, same_over (s1.trans s2) hD, ?_⟩
      · rw [List.length_map, List.length_take]
        exact sz40 (by omega)
      · rw [upd_same, take_next]
        rw [lightsV_at hi, Int.zero_add]
    · obtain ⟨s1, hD1⟩ := hP
      rw [Int.toNat_natCast, take_all (by rw [lightsV_len]; exact Nat.le_refl _)] at hD1
      exact q D H1 s1 hD hD1

/-! ### lights by steps -/
def spStepped (K : PySem.W.Frag) : Sp := fun vs H Q _ => ∃ (a b : Addr) (ns ms : List Int) (f st : Int), vs = [.ref a, .ref b, .int f, .int st] ∧ SqL K H a (ns.map V.int) ∧ SqL K H b (ms.map V.int) ∧
  Rim ns ∧ Rim ms ∧ ns.length = ms.length ∧ ∀ (l : Addr) (H' : Hp), Same H H' → H l = none → H' l = some (.lst ((stepsV ns ms f st ns.length).map V.int)) → Q (.ref l) H'
theorem ok_stepped_lights (T : Txt K mg) : FnOk P w K mg base CX0 4 T.a_stepped_lights T.d_stepped_lights ["disc", "other", "first", "step"] (spStepped K) := by
  have G_lights_between := ok_lights_between (P := P) (w := w) (base := base) T
  refine T.F_stepped_lights.ok sc_stepped_lights (fun vs H Q E h => ?_) (fun cdv A outer s H vs Q E hr h => ?_)
  · obtain ⟨_, _, _, _, _, _, rfl, _⟩ := h
    rfl
  · obtain ⟨a, b, ns, ms, f, st, rfl, hS, hS2, hR, hR2, hl, q⟩ := h
    refine ⟨_, (pss_cons (ps_set (i := 4) sc_stepped_lights.nd rfl (.inr rfl) (pe_call G_lights_between hr (by rfl) T.g_lights_between T.F_lights_between.kp T.b_lights_between .nil pass0 (pa_cons (pv 0) (pa_cons (pv 1) pa_nil))))
      (pss_cons (ps_set (i := 5) sc_stepped_lights.nd rfl (.inr rfl) (pe_callB (lenL (K := K) rfl) (by rfl) T.n_len (by decide +kernel) (pa_cons (pv 4) pa_nil)))
      (pss_one (ps_ret (pe_lc (own := [("index", 6)]) (g := gName 6) (tt := tYes) (by rfl) sc_stepped_lights.nd (pi_range1 (by rfl) T.n_range (pa_cons (pv 5) pa_nil)) (blkOk_by (own := [("index", 6)]) (N := ["disc", "other", "first", "step", "lights", "size", "index"]) (sc := defScope s_stepped_lights) (by decide +kernel))
        (fun _ _ _ _ _ => (pg_name (i := 6) sc_stepped_lights.nd rfl (Or.inl rfl))) (fun _ _ _ _ _ => pts_nil) (fun _ _ _ _ _ => (pe_ix (ixL (K := K) rfl) (pv 4) (pe_op op_mod (pe_op op_add (pv 2) (pe_op op_mul (pv 3) (pv 6))) (pv 5)) (fun _ _ => rfl)))))))), ?_⟩
    have l40 := hR.le
    have l1 := hR.pos
    have ll := lightsV_len ns ms
    refine ⟨.ref a, rfl, .ref b, rfl, a, b, ns, ms, rfl, hS, hS2, hl, hR.pos, hR.le, hR.ab, hR2.ab.mono (by decide), fun l H1 s1 h1 e1 => ?_⟩
    refine ⟨.ref l, rfl, l, _, rfl, .inl (SqL.of e1), ?_⟩
    rw [List.length_map, ll]
    refine ⟨.int ns.length, rfl, ns.length, rfl, by omega, by omega, fun D hD => ?_⟩
    rw [Int.toNat_natCast]
    refine lc_range (lo := 0) (n := ns.length) (fun i H' => Same H1 H' ∧ H' D = some (.lst (((stepsV ns ms f st ns.length).take i).map V.int))) ⟨new_same hD, upd_same⟩ (fun i H2 hi hP => ⟨rfl, ?_⟩) (fun H2 hP => ?_)
    · obtain ⟨s2, hD2⟩ := hP
      refine ⟨.ref l, rfl, .int f, rfl, .int st, rfl, .int (0 + i), rfl, st, 0 + i, rfl, rfl, .inr (by omega), f, st * (0 + i), rfl, rfl, .int ns.length, rfl, _, _, rfl, rfl, (by show (0 : Int) < _; omega), l, _, _, .int (lightV ns ms (f + st * (0 + i))), rfl, rfl, s2.seq (SqL.of e1), lights_any _ hl l1, ?_⟩
      refine ⟨_, hD2, ?_, same_over s2 hD, ?_⟩
      · rw [List.length_map, List.length_take]
        exact sz40 (by omega)
      · rw [upd_same, take_next]
        rw [stepsV_at hi, Int.zero_add]
    · obtain ⟨s2, hD2⟩ := hP
      rw [take_all (by rw [stepsV_len]; exact Nat.le_refl _)] at hD2
      exact q D H2 (s1.trans s2) (s1.free hD) hD2

def spCheckCount : Sp := fun vs H Q _ => ∃ n : Int, vs = [.int n] ∧ 0 ≤ n ∧ Q .non H
theorem ok_check_count (T : Txt K mg) : FnOk P w K mg base CX0 3 T.a_check_count T.d_check_count ["number"] spCheckCount := by
  have G_check_number := ok_check_number (P := P) (w := w) (base := base) T
  refine T.F_check_count.ok sc_check_count (fun vs H Q E h => ?_) (fun cdv A outer s H vs Q E hr h => ?_)
  · obtain ⟨_, rfl, _⟩ := h
    rfl
  · obtain ⟨n, rfl, h0, q⟩ := h
    refine ⟨_, (pss_cons (ps_expr (pe_call G_check_number hr (by rfl) T.g_check_number T.F_check_number.kp T.b_check_number .nil pass0 (pa_cons (pv 0) pa_nil)))
      (pss_one (ps_if (pt_cmpR op_lt (pv 0) pe_int (nomark _)) (pss_one ps_never) pss_nil))), ?_⟩
    refine ⟨.int n, rfl, n, rfl, .int n, rfl, n, 0, rfl, rfl, _, rfl, ite2 (fun h => ?_) (fun h => q)⟩
    have := of_decide_eq_true h
    omega

/-! ### slitdiscs.lights -/
def spLightAt (K : PySem.W.Frag) : Sp := fun vs H Q _ => ∃ (a b : Addr) (ns ms : List Int) (t : Int), vs = [.ref a, .ref b, .int t] ∧ SqL K H a (ns.map V.int) ∧ SqL K H b (ms.map V.int) ∧
  Rim ns ∧ Rim ms ∧ ns.length = ms.length ∧ ∀ H', Same H H' → Q (.int (lightV ns ms t)) H'
theorem ok_light_at (T : Txt K mg) : FnOk P w K mg base CX0 6 T.a_light_at T.d_light_at ["disc", "other", "turn"] (spLightAt K) := by
  have G_check_discs := ok_check_discs (P := P) (w := w) (base := base) T
  have G_check_turn := ok_check_turn (P := P) (w := w) (base := base) T
  have G_light_between := ok_light_between (P := P) (w := w) (base := base) T
  refine T.F_light_at.ok sc_light_at (fun vs H Q E h => ?_) (fun cdv A outer s H vs Q E hr h => ?_)
  · obtain ⟨_, _, _, _, _, rfl, _⟩ := h
    rfl
  · obtain ⟨a, b, ns, ms, t, rfl, hS, hS2, hR, hR2, hl, q⟩ := h
    refine ⟨_, (pss_cons (ps_expr (pe_call G_check_discs hr (by rfl) T.g_check_discs T.F_check_discs.kp T.b_check_discs .nil pass0 (pa_cons (pv 0) (pa_cons (pv 1) pa_nil))))
      (pss_cons (ps_expr (pe_call G_check_turn (hr.mono (by decide)) (by rfl) T.g_check_turn T.F_check_turn.kp T.b_check_turn .nil pass0 (pa_cons (pv 2) pa_nil)))
      (pss_one (ps_ret (pe_call G_light_between (hr.mono (by decide)) (by rfl) T.g_light_between T.F_light_between.kp T.b_light_between .nil pass0 (pa_cons (pv 0) (pa_cons (pv 1) (pa_cons (pv 2) pa_nil)))))))), ?_⟩
    refine ⟨.ref a, rfl, .ref b, rfl, a, b, ns, ms, rfl, hS, hS2, hR, hR2, hl, fun H1 s1 => ?_⟩
    refine ⟨.int t, rfl, t, rfl, ?_⟩
    exact ⟨.ref a, rfl, .ref b, rfl, .int t, rfl, a, b, ns, ms, t, rfl, s1.seq hS, s1.seq hS2, hl, hR.pos, hR.le, hR.ab, hR2.ab.mono (by decide), fun H2 s2 => q H2 (s1.trans s2)⟩
def spAllLights (K : PySem.W.Frag) : Sp := fun vs H Q _ => ∃ (a b : Addr) (ns ms : List Int), vs = [.ref a, .ref b] ∧ SqL K H a (ns.map V.int) ∧ SqL K H b (ms.map V.int) ∧
  Rim ns ∧ Rim ms ∧ ns.length = ms.length ∧ ∀ (l : Addr) (H' : Hp), Same H H' → H l = none → H' l = some (.lst ((lightsV ns ms).map V.int)) → Q (.ref l) H'
theorem ok_all_lights (T : Txt K mg) : FnOk P w K mg base CX0 6 T.a_all_lights T.d_all_lights ["disc", "other"] (spAllLights K) := by
  have G_check_discs := ok_check_discs (P := P) (w := w) (base := base) T
  have G_lights_between := ok_lights_between (P := P) (w := w) (base := base) T
  refine T.F_all_lights.ok sc_all_lights (fun vs H Q E h => ?_) (fun cdv A outer s H vs Q E hr h => ?_)
  · obtain ⟨_, _, _, _, rfl, _⟩ := h
    rfl
  · obtain ⟨a, b, ns, ms, rfl, hS, hS2, hR, hR2, hl, q⟩ := h
    refine ⟨_, (pss_cons (ps_expr (pe_call G_check_discs hr (by rfl) T.g_check_discs T.F_check_discs.kp T.b_check_discs .nil pass0 (pa_cons (pv 0) (pa_cons (pv 1) pa_nil))))
      (pss_one (ps_ret (pe_call G_lights_between (hr.mono (by decide)) (by rfl) T.g_lights_between T.F_lights_between.kp T.b_lights_between .nil pass0 (pa_cons (pv 0) (pa_cons (pv 1) pa_nil)))))), ?_⟩
    refine ⟨.ref a, rfl, .ref b, rfl, a, b, ns, ms, rfl, hS, hS2, hR, hR2, hl, fun H1 s1 => ?_⟩
    exact ⟨.ref a, rfl, .ref b, rfl, a, b, ns, ms, rfl, s1.seq hS, s1.seq hS2, hl, hR.pos, hR.le, hR.ab, hR2.ab.mono (by decide), fun l H2 s2 h2 e2 => q l H2 (s1.trans s2) (s1.free h2) e2⟩
def spBright (K : PySem.W.Frag) : Sp := fun vs H Q _ => ∃ (a b : Addr) (ns ms : List Int), vs = [.ref a, .ref b] ∧ SqL K H a (ns.map V.int) ∧ SqL K H b (ms.map V.int) ∧
  Rim ns ∧ Rim ms ∧ ns.length = ms.length ∧ ∀ (m : Int) (l : Addr) (H' : Hp), m ∈ lightsV ns ms → (∀ y ∈ lightsV ns ms, y ≤ m) → Same H H' → H l = none → H' l = some (.lst ((places (fun x => decide (x = m)) (lightsV ns ms) ns.length).map V.int)) → Q (.ref l) H'
theorem ok_brightest_turns (T : Txt K mg) : FnOk P w K mg base CX0 6 T.a_brightest_turns T.d_brightest_turns ["disc", "other"] (spBright K) := by
  have G_check_discs := ok_check_discs (P := P) (w := w) (base := base) T
  have G_lights_between := ok_lights_between (P := P) (w := w) (base := base) T
  refine T.F_brightest_turns.ok sc_brightest_turns (fun vs H Q E h => ?_) (fun cdv A outer s H vs Q E hr h => ?_)
  · obtain ⟨_, _, _, _, rfl, _⟩ := h
    rfl
  · obtain ⟨a, b, ns, ms, rfl, hS, hS2, hR, hR2, hl, q⟩ := h
    refine ⟨_, (pss_cons (ps_expr (pe_call G_check_discs hr (by rfl) T.g_check_discs T.F_check_discs.kp T.b_check_discs .nil pass0 (pa_cons (pv 0) (pa_cons (pv 1) pa_nil))))
      (pss_cons (ps_set (i := 2) sc_brightest_turns.nd rfl (.inl rfl) (pe_call G_lights_between (hr.mono (by decide)) (by rfl) T.g_lights_between T.F_lights_between.kp T.b_lights_between .nil pass0 (pa_cons (pv 0) (pa_cons (pv 1) pa_nil))))
      (pss_cons (ps_set (i := 3) sc_brightest_turns.nd rfl (.inr rfl) (pe_callB (maxL (K := K) rfl rfl) (by rfl) T.n_max (by decide +kernel) (pa_cons (pv 2) pa_nil)))
      (pss_one (ps_ret (pe_lc (own := [("turn", 4), ("light", 5)]) (by rfl) sc_brightest_turns.nd (enumL (K := K) rfl (by rfl) T.n_enumerate (pa_cons (pv 2) pa_nil)) (blkOk_by (own := [("turn", 4), ("light", 5)]) (N := ["disc", "other", "lights", "greatest", "turn", "light"]) (sc := defScope s_brightest_turns) (by decide +kernel))
        (fun _ _ _ _ _ => (pg_tupL (K := K) (n := 2) rfl rfl (pgs_cons (pg_name (i := 4) sc_brightest_turns.nd rfl (.inl rfl)) (pgs_cons (pg_name (i := 5) sc_brightest_turns.nd rfl (.inl rfl)) pgs_nil)))) (fun _ _ _ _ _ => (pts_one (pt_cmpR op_eq (pv 5) (pv 3) (nomark _)))) (fun _ _ _ _ _ => (pv 4)))))))), ?_⟩
    have l40 := hR.le
    have l1 := hR.pos
    refine ⟨.ref a, rfl, .ref b, rfl, a, b, ns, ms, rfl, hS, hS2, hR, hR2, hl, fun H1 s1 => ?_⟩
    refine ⟨.ref a, rfl, .ref b, rfl, a, b, ns, ms, rfl, s1.seq hS, s1.seq hS2, hl, hR.pos, hR.le, hR.ab, hR2.ab.mono (by decide), fun l H2 s2 h2 e2 => ?_⟩
    refine ⟨.ref l, rfl, l, lightsV ns ms, rfl, SqL.of e2, by rw [lightsV_len]; omega, fun m hm hg => ?_⟩
    refine ⟨.ref l, rfl, l, _, rfl, SqL.of e2, fun D hD => ?_⟩
    refine lc_it (walk_enum (K := K) (a := l) (xs := (lightsV ns ms).map V.int)) (fun i H' => Same H2 H' ∧ H' D = some (.lst ((places (fun x => decide (x = m)) (lightsV ns ms) i).map V.int)))
      ⟨new_same hD, upd_same⟩ (fun i H' _ hP => hP.1.seq (SqL.of e2)) (fun i x H3 H4 hi hP hY => ?_) (fun H3 hP => ?_)
    · obtain ⟨s3, hD3⟩ := hP
      obtain ⟨p, z1, z2, rfl, hp, rfl, e1, e4⟩ := hY
      have e1 : V.int (i : Int) = z1 := Option.some.inj e1
      subst e1
      obtain ⟨x, hx, rfl⟩ := int_at e4
      have s4 := s3.trans (new_same (o := .tup [.int i, .int x]) hp)
      refine ⟨p, _, rfl, SqT.of upd_same, rfl, _, _, rfl, _, _, rfl, rfl, rfl, ?_⟩
      refine ⟨.int x, rfl, .int m, rfl, rfl, _, rfl, ite2 (fun h => ?_) (fun h => ?_)⟩
      · have hxm : x = m := V.int.inj (of_decide_eq_true h)
        refine ⟨.int i, rfl, _, (new_same hp) _ _ hD3, ?_, same_over s4 hD, ?_⟩
        · rw [List.length_map]
          rw [List.length_map, lightsV_len] at hi
          exact sz40 (by have := places_len (fun x => decide (x = m)) (lightsV ns ms) i; omega)
        · rw [upd_same, places_yes hx (decide_eq_true hxm), List.map_append]
          rfl
      · have hxm : ¬ decide (x = m) = true := fun z => h (decide_eq_true (congrArg V.int (of_decide_eq_true z)))
        exact ⟨s4, by rw [places_no hx hxm]; exact (new_same hp) _ _ hD3⟩
    · obtain ⟨s3, hD3⟩ := hP
      rw [List.length_map, lightsV_len] at hD3
      exact q m D H3 hm hg ((s1.trans s2).trans s3) ((s1.trans s2).free hD) hD3

def spFar (K : PySem.W.Frag) : Sp := fun vs H Q _ => ∃ (a b : Addr) (ns ms : List Int) (f st N : Int), vs = [.ref a, .ref b, .int f, .int st, .int N] ∧ SqL K H a (ns.map V.int) ∧ SqL K H b (ms.map V.int) ∧
  Rim ns ∧ Rim ms ∧ ns.length = ms.length ∧ 0 ≤ N ∧ N.natAbs < 2 ^ 200 ∧ ∀ (H' : Hp), Same H H' → Q (.int (farV ns ms f st N)) H'
theorem ok_light_sum (T : Txt K mg) : FnOk P w K mg base CX0 6 T.a_light_sum T.d_light_sum ["disc", "other", "first", "step", "many"] (spFar K) := by
  have G_check_discs := ok_check_discs (P := P) (w := w) (base := base) T
  have G_check_turn := ok_check_turn (P := P) (w := w) (base := base) T
  have G_check_count := ok_check_count (P := P) (w := w) (base := base) T
  have G_stepped_lights := ok_stepped_lights (P := P) (w := w) (base := base) T
  refine T.F_light_sum.ok sc_light_sum (fun vs H Q E h => ?_) (fun cdv A outer s H vs Q E hr h => ?_)
  · obtain ⟨_, _, _, _, _, _, _, rfl, _⟩ := h
    rfl
  · obtain ⟨a, b, ns, ms, f, st, N, rfl, hS, hS2, hR, hR2, hl, hN0, hN, q⟩ := h
    refine ⟨_, (pss_cons (ps_expr (pe_call G_check_discs hr (by rfl) T.g_check_discs T.F_check_discs.kp T.b_check_discs .nil pass0 (pa_cons (pv 0) (pa_cons (pv 1) pa_nil))))
      (pss_cons (ps_expr (pe_call G_check_turn (hr.mono (by decide)) (by rfl) T.g_check_turn T.F_check_turn.kp T.b_check_turn .nil pass0 (pa_cons (pv 2) pa_nil)))
      (pss_cons (ps_expr (pe_call G_check_turn (hr.mono (by decide)) (by rfl) T.g_check_turn T.F_check_turn.kp T.b_check_turn .nil pass0 (pa_cons (pv 3) pa_nil)))
      (pss_cons (ps_expr (pe_call G_check_count (hr.mono (by decide)) (by rfl) T.g_check_count T.F_check_count.kp T.b_check_count .nil pass0 (pa_cons (pv 4) pa_nil)))
      (pss_cons (ps_set (i := 5) sc_light_sum.nd rfl (.inl rfl) (pe_call G_stepped_lights (hr.mono (by decide)) (by rfl) T.g_stepped_lights T.F_stepped_lights.kp T.b_stepped_lights .nil pass0 (pa_cons (pv 0) (pa_cons (pv 1) (pa_cons (pv 2) (pa_cons (pv 3) pa_nil))))))
      (pss_cons (ps_asg (pe_callB call_divmod (by rfl) T.n_divmod (by decide +kernel) (pa_cons (pv 4) (pa_cons (pe_callB (lenL (K := K) rfl) (by rfl) T.n_len (by decide +kernel) (pa_cons (pv 5) pa_nil)) pa_nil))) (pg_tupL (K := K) (n := 2) rfl rfl (pgs_cons (pg_name (i := 6) sc_light_sum.nd rfl (.inl rfl)) (pgs_cons (pg_name (i := 7) sc_light_sum.nd rfl (.inl rfl)) pgs_nil))))
      (pss_one (ps_ret (pe_op op_add (pe_op op_mulW (pv 6) (pe_callB (sumL (K := K) rfl rfl) (by rfl) T.n_sum (by decide +kernel) (pa_cons (pv 5) pa_nil))) (pe_callB (sumL (K := K) rfl rfl) (by rfl) T.n_sum (by decide +kernel) (pa_cons (pe_slice (slL (K := K) rfl) (pv 5) po_none (po_some (pv 7))) pa_nil))))))))))), ?_⟩
    have l40 := hR.le
    have l1 := hR.pos
    have ls := stepsV_len ns ms f st ns.length
    have hm := mod_in (i := N) (show 0 < ns.length by omega)
    have hq : 0 ≤ N / (ns.length : Int) := Int.ediv_nonneg hN0 (by omega)
    have hqn : N / (ns.length : Int) ≤ N := Int.ediv_le_self _ hN0
    refine ⟨.ref a, rfl, .ref b, rfl, a, b, ns, ms, rfl, hS, hS2, hR, hR2, hl, fun H1 s1 => ?_⟩
    refine ⟨.int f, rfl, f, rfl, .int st, rfl, st, rfl, .int N, rfl, N, rfl, hN0, ?_⟩
    refine ⟨.ref a, rfl, .ref b, rfl, .int f, rfl, .int st, rfl, a, b, ns, ms, f, st, rfl, s1.seq hS, s1.seq hS2, hR, hR2, hl, fun l H2 s2 h2 e2 => ?_⟩
    refine ⟨.int N, rfl, .ref l, rfl, l, _, rfl, .inl (SqL.of e2), ?_⟩
    rw [List.length_map, ls]
    refine ⟨N, ns.length, rfl, ⟨by omega, by omega⟩, fun p hp => ?_⟩
    refine ⟨p, _, rfl, SqT.of upd_same, rfl, _, _, rfl, _, _, rfl, rfl, ?_⟩
    have s3 := new_same (o := .tup [.int (N / (ns.length : Int)), .int (N % (ns.length : Int))]) hp
    refine ⟨.int (N / (ns.length : Int)), rfl, .ref l, rfl, l, _, rfl, SqL.of (s3 _ _ e2), ?_⟩
    refine ⟨_, _, rfl, rfl, wide_mul (a := 200) (b := 220) (by omega) (steps_sum_lt hR.ab hR2.ab (by omega) f st _ (by omega)) (by decide) (by decide) (by decide), ?_⟩
    refine ⟨.ref l, rfl, .int (N % (ns.length : Int)), rfl, _, rfl, l, _, rfl, SqL.of (s3 _ _ e2), fun p2 hp2 => ?_⟩
    have s4 := new_same (o := .lst (cutV ((stepsV ns ms f st ns.length).map V.int) none (some (N % (ns.length : Int))))) hp2
    refine ⟨p2, (stepsV ns ms f st ns.length).take (N % (ns.length : Int)).toNat, rfl, SqL.of (by rw [upd_same, cut_take _ _ hm.1]), ?_⟩
    exact ⟨_, _, rfl, rfl, q _ (((s1.trans s2).trans s3).trans s4)⟩

def spFirstBright (K : PySem.W.Frag) : Sp := fun vs H Q _ => ∃ (a b : Addr) (ns ms : List Int) (f st m : Int), vs = [.ref a, .ref b, .int f, .int st, .int m] ∧ SqL K H a (ns.map V.int) ∧ SqL K H b (ms.map V.int) ∧
  Rim ns ∧ Rim ms ∧ ns.length = ms.length ∧ ∀ (H' : Hp), Same H H' → Q (headV (places (fun x => decide (m ≤ x)) (stepsV ns ms f st ns.length) ns.length)) H'
theorem ok_first_bright (T : Txt K mg) : FnOk P w K mg base CX0 6 T.a_first_bright T.d_first_bright ["disc", "other", "first", "step", "light"] (spFirstBright K) := by
  have G_check_discs := ok_check_discs (P := P) (w := w) (base := base) T
  have G_check_turn := ok_check_turn (P := P) (w := w) (base := base) T
  have G_check_number := ok_check_number (P := P) (w := w) (base := base) T
  have G_stepped_lights := ok_stepped_lights (P := P) (w := w) (base := base) T
  refine T.F_first_bright.ok sc_first_bright (fun vs H Q E h => ?_) (fun cdv A outer s H vs Q E hr h => ?_)
  · obtain ⟨_, _, _, _, _, _, _, rfl, _⟩ := h
    rfl
  · obtain ⟨a, b, ns, ms, f, st, m, rfl, hS, hS2, hR, hR2, hl, q⟩ := h
    refine ⟨_, (pss_cons (ps_expr (pe_call G_check_discs hr (by rfl) T.g_check_discs T.F_check_discs.kp T.b_check_discs .nil pass0 (pa_cons (pv 0) (pa_cons (pv 1) pa_nil))))
      (pss_cons (ps_expr (pe_call G_check_turn (hr.mono (by decide)) (by rfl) T.g_check_turn T.F_check_turn.kp T.b_check_turn .nil pass0 (pa_cons (pv 2) pa_nil)))
      (pss_cons (ps_expr (pe_call G_check_turn (hr.mono (by decide)) (by rfl) T.g_check_turn T.F_check_turn.kp T.b_check_turn .nil pass0 (pa_cons (pv 3) pa_nil)))
      (pss_cons (ps_expr (pe_call G_check_number (hr.mono (by decide)) (by rfl) T.g_check_number T.F_check_number.kp T.b_check_number .nil pass0 (pa_cons (pv 4) pa_nil)))
      (pss_cons (ps_for PassesOwn.never rfl (enumL (K := K) rfl (by rfl) T.n_enumerate (pa_cons (pe_call G_stepped_lights (hr.mono (by decide)) (by rfl) T.g_stepped_lights T.F_stepped_lights.kp T.b_stepped_lights .nil pass0 (pa_cons (pv 0) (pa_cons (pv 1) (pa_cons (pv 2) (pa_cons (pv 3) pa_nil))))) pa_nil)) (pg_tupL (K := K) (n := 2) rfl rfl (pgs_cons (pg_name (i := 5) sc_first_bright.nd rfl (.inl rfl)) (pgs_cons (pg_name (i := 6) sc_first_bright.nd rfl (.inl rfl)) pgs_nil))) (pss_one (ps_if (pt_cmpR op_ge (pv 6) (pv 4) (nomark _)) (pss_one (ps_ret (pv 5))) pss_nil)))
      (pss_one (ps_ret pe_non))))))), ?_⟩
    refine ⟨.ref a, rfl, .ref b, rfl, a, b, ns, ms, rfl, hS, hS2, hR, hR2, hl, fun H1 s1 => ?_⟩
    refine ⟨.int f, rfl, f, rfl, .int st, rfl, st, rfl, .int m, rfl, m, rfl, ?_⟩
    refine ⟨.ref a, rfl, .ref b, rfl, .int f, rfl, .int st, rfl, a, b, ns, ms, f, st, rfl, s1.seq hS, s1.seq hS2, hR, hR2, hl, fun l H2 s2 h2 e2 => ?_⟩
    refine ⟨l, _, rfl, SqL.of e2, for_it (walk_enum (K := K) (xs := (stepsV ns ms f st ns.length).map V.int))
      (fun i σ H' => ∃ y1 y2 : Option V, σ = [some (.ref a), some (.ref b), some (.int f), some (.int st), some (.int m), y1, y2] ∧ Same H2 H' ∧ places (fun x => decide (m ≤ x)) (stepsV ns ms f st ns.length) i = [])
      ⟨none, none, rfl, Same.refl H2, rfl⟩ (fun i σ H' _ ⟨_, _, _, s3, _⟩ => s3.seq (SqL.of e2)) (fun i x σ H3 H4 hi hP hY => ?_) (fun σ H3 hP => ?_)⟩
    · obtain ⟨y1, y2, rfl, s3, hno⟩ := hP
      obtain ⟨p, z1, z2, rfl, hp, rfl, e3, e4⟩ := hY
      have e3 : V.int (i : Int) = z1 := Option.some.inj e3
      subst e3
      obtain ⟨x, hx, rfl⟩ := int_at e4
      have s4 := s3.trans (new_same (o := .tup [.int i, .int x]) hp)
      refine ⟨p, _, rfl, SqT.of upd_same, rfl, _, _, rfl, _, _, rfl, rfl, ?_⟩
      refine ⟨.int x, rfl, .int m, rfl, x, m, rfl, rfl, _, rfl, ite2 (fun h => ?_) (fun h => ?_)⟩
      · have hh := places_head hx h hno (k := ns.length) (by rw [List.length_map, stepsV_len] at hi; exact hi)
        refine ⟨.int i, rfl, ?_⟩
        have z := q _ ((s1.trans s2).trans s4)
        rw [hh] at z
        exact z
      · refine ⟨_, _, rfl, s4, ?_⟩
        rw [places_no hx h]
        exact hno
    · obtain ⟨y1, y2, rfl, s3, hno⟩ := hP
      rw [List.length_map, stepsV_len] at hno
      have z := q _ ((s1.trans s2).trans s3)
      rw [hno] at z
      exact z

/-! ### slitdiscs.discs -/
def spTurnedDisc (K : PySem.W.Frag) : Sp := fun vs H Q _ => ∃ (a : Addr) (ns : List Int) (t : Int), vs = [.ref a, .int t] ∧ SqL K H a (ns.map V.int) ∧ Rim ns ∧
  ∀ (l : Addr) (H' : Hp), Same H H' → H l = none → H' l = some (.lst ((rot ns t).map V.int)) → Q (.ref l) H'
theorem ok_turned_disc (T : Txt K mg) : FnOk P w K mg base CX0 5 T.a_turned_disc T.d_turned_disc ["disc", "turn"] (spTurnedDisc K) := by
  have G_check_disc := ok_check_disc (P := P) (w := w) (base := base) T
  have G_check_turn := ok_check_turn (P := P) (w := w) (base := base) T
  have G_turned_list := ok_turned_list (P := P) (w := w) (base := base) T
  refine T.F_turned_disc.ok sc_turned_disc (fun vs H Q E h => ?_) (fun cdv A outer s H vs Q E hr h => ?_)
  · obtain ⟨_, _, _, rfl, _⟩ := h
    rfl
  · obtain ⟨a, ns, t, rfl, hS, hR, q⟩ := h
    refine ⟨_, (pss_cons (ps_expr (pe_call G_check_disc hr (by rfl) T.g_check_disc T.F_check_disc.kp T.b_check_disc .nil pass0 (pa_cons (pv 0) pa_nil)))
      (pss_cons (ps_expr (pe_call G_check_turn (hr.mono (by decide)) (by rfl) T.g_check_turn T.F_check_turn.kp T.b_check_turn .nil pass0 (pa_cons (pv 1) pa_nil)))
      (pss_one (ps_ret (pe_call G_turned_list (hr.mono (by decide)) (by rfl) T.g_turned_list T.F_turned_list.kp T.b_turned_list .nil pass0 (pa_cons (pv 0) (pa_cons (pv 1) pa_nil))))))), ?_⟩
    refine ⟨.ref a, rfl, a, ns, rfl, hS, hR, fun H1 s1 => ?_⟩
    refine ⟨.int t, rfl, t, rfl, ?_⟩
    refine ⟨.ref a, rfl, .int t, rfl, a, ns, t, rfl, s1.seq hS, hR.pos, by have := hR.le; omega, fun l H2 s2 hl hl2 => ?_⟩
    exact q l H2 (s1.trans s2) (s1.free hl) hl2
def spMirroredDisc (K : PySem.W.Frag) : Sp := fun vs H Q _ => ∃ (a : Addr) (ns : List Int), vs = [.ref a] ∧ SqL K H a (ns.map V.int) ∧ Rim ns ∧
  ∀ (l : Addr) (H' : Hp), Same H H' → H l = none → H' l = some (.lst ((mir ns).map V.int)) → Q (.ref l) H'
theorem ok_mirrored_disc (T : Txt K mg) : FnOk P w K mg base CX0 5 T.a_mirrored_disc T.d_mirrored_disc ["disc"] (spMirroredDisc K) := by
  have G_check_disc := ok_check_disc (P := P) (w := w) (base := base) T
  have G_mirrored_list := ok_mirrored_list (P := P) (w := w) (base := base) T
  refine T.F_mirrored_disc.ok sc_mirrored_disc (fun vs H Q E h => ?_) (fun cdv A outer s H vs Q E hr h => ?_)
  · obtain ⟨_, _, rfl, _⟩ := h
    rfl
  · obtain ⟨a, ns, rfl, hS, hR, q⟩ := h
    refine ⟨_, (pss_cons (ps_expr (pe_call G_check_disc hr (by rfl) T.g_check_disc T.F_check_disc.kp T.b_check_disc .nil pass0 (pa_cons (pv 0) pa_nil)))
      (pss_one (ps_ret (pe_call G_mirrored_list (hr.mono (by decide)) (by rfl) T.g_mirrored_list T.F_mirrored_list.kp T.b_mirrored_list .nil pass0 (pa_cons (pv 0) pa_nil))))), ?_⟩
    refine ⟨.ref a, rfl, a, ns, rfl, hS, hR, fun H1 s1 => ?_⟩
    refine ⟨.ref a, rfl, a, ns, rfl, s1.seq hS, hR.pos, by have := hR.le; omega, fun l H2 s2 hl hl2 => ?_⟩
    exact q l H2 (s1.trans s2) (s1.free hl) hl2

/-! ### the least turn, the least list -/
def spFirstTurn (K : PySem.W.Frag) : Sp := fun vs H Q _ => ∃ (a b : Addr) (ns ms : List Int), vs = [.ref a, .ref b] ∧ SqL K H a (ns.map V.int) ∧ SqL K H b (ms.map V.int) ∧ Rim ns ∧ Rim ms ∧
  ∀ H', Same H H' → Q (headV (hits ns ms 0 ns.length)) H'
theorem ok_first_turn (T : Txt K mg) : FnOk P w K mg base CX0 2 T.a_first_turn T.d_first_turn ["disc", "other"] (spFirstTurn K) := by
  have G_turned_list := ok_turned_list (P := P) (w := w) (base := base) T
  refine T.F_first_turn.ok sc_first_turn (fun vs H Q E h => ?_) (fun cdv A outer s H vs Q E hr h => ?_)
  · obtain ⟨_, _, _, _, rfl, _⟩ := h
    rfl
  · obtain ⟨a, b, ns, ms, rfl, hS, hS2, hR, hR2, q⟩ := h
    refine ⟨_, (pss_cons (ps_for PassesOwn.never rfl (pi_range1 (by rfl) T.n_range (pa_cons (pe_callB (lenL (K := K) rfl) (by rfl) T.n_len (by decide +kernel) (pa_cons (pv 0) pa_nil)) pa_nil)) (pg_name (i := 2) sc_first_turn.nd rfl (.inl rfl)) (pss_one (ps_if (pt_cmpR (eqD (K := K) rfl hr) (pe_call G_turned_list hr (by rfl) T.g_turned_list T.F_turned_list.kp T.b_turned_list .nil pass0 (pa_cons (pv 0) (pa_cons (pv 2) pa_nil))) (pv 1) (nomark _)) (pss_one (ps_ret (pv 2))) pss_nil)))
      (pss_one (ps_ret pe_non))), ?_⟩
    have l40 := hR.le
    refine ⟨.ref a, rfl, a, _, rfl, .inl hS, ?_⟩
    rw [List.length_map]
    refine ⟨ns.length, rfl, by omega, by omega, for_range (lo := 0) (n := ((ns.length : Nat) : Int).toNat)
      (fun i σ H' => ∃ y : Option V, σ = [some (.ref a), some (.ref b), y] ∧ Same H H' ∧ hits ns ms 0 i = []) ⟨none, rfl, Same.refl H, rfl⟩ (fun i σ H1 hi hP => ?_) (fun σ H1 hP => ?_)⟩
    · obtain ⟨y, rfl, s1, h0⟩ := hP
      rw [Int.toNat_natCast] at hi
      refine ⟨.ref a, rfl, .int (0 + i), rfl, a, ns, 0 + i, rfl, s1.seq hS, hR.pos, by omega, fun l H2 s2 hl hl2 => ?_⟩
      have s12 := s1.trans s2
      refine ⟨.ref b, rfl, dI (rot ns (0 + i)), dI ms, dp_ints (SqL.of hl2), dp_ints (s12.seq hS2), (hR.rot _).rp.shaped, hR2.rp.shaped, ?_⟩
      rw [eqv_dI]
      refine ⟨_, rfl, ite2 (fun h => ?_) (fun h => ?_)⟩
      · have h := of_decide_eq_true h
        obtain ⟨r, e⟩ := hits_head h0 h hi
        have z := q H2 s12
        rw [e] at z
        exact ⟨_, rfl, z⟩
      · have h : ¬ rot ns (0 + (i : Int)) = ms := fun z => h (decide_eq_true z)
        refine ⟨_, rfl, s12, ?_⟩
        rw [hits_no h]
        exact h0
    · obtain ⟨y, rfl, s1, h0⟩ := hP
      rw [Int.toNat_natCast] at h0
      have z := q H1 s1
      rw [h0] at z
      exact z
def spLeastTurned (K : PySem.W.Frag) : Sp := fun vs H Q _ => ∃ (a : Addr) (ns : List Int), vs = [.ref a] ∧ SqL K H a (ns.map V.int) ∧ Rim ns ∧
  ∀ (l : Addr) (m : List Int) (H' : Hp), Same H H' → H l = none → H' l = some (.lst (m.map V.int)) → LeastI (turnsL ns) m → Q (.ref l) H'
theorem ok_least_turned (T : Txt K mg) : FnOk P w K mg base CX0 2 T.a_least_turned T.d_least_turned ["disc"] (spLeastTurned K) := by
  have G_turned_list := ok_turned_list (P := P) (w := w) (base := base) T
  refine T.F_least_turned.ok sc_least_turned (fun vs H Q E h => ?_) (fun cdv A outer s H vs Q E hr h => ?_)
  · obtain ⟨_, _, rfl, _⟩ := h
    rfl
  · obtain ⟨a, ns, rfl, hS, hR, q⟩ := h
    refine ⟨_, (pss_one (ps_ret (pe_callB (cr_minI (K := K) rfl rfl hr) (by rfl) T.n_min (by decide +kernel) (pa_cons (pe_lc (own := [("turn", 1)]) (g := gName 1) (tt := tYes) (by rfl) sc_least_turned.nd (pi_range1 (by rfl) T.n_range (pa_cons (pe_callB (lenL (K := K) rfl) (by rfl) T.n_len (by decide +kernel) (pa_cons (pv 0) pa_nil)) pa_nil)) (blkOk_by (own := [("turn", 1)]) (N := ["disc", "turn"]) (sc := defScope s_least_turned) (by decide +kernel))
        (fun _ _ _ _ _ => (pg_name (i := 1) sc_least_turned.nd rfl (Or.inl rfl))) (fun _ _ _ _ _ => pts_nil) (fun _ _ _ _ _ => (pe_call G_turned_list hr (by rfl) T.g_turned_list T.F_turned_list.kp T.b_turned_list .nil pass0 (pa_cons (pv 0) (pa_cons (pv 1) pa_nil))))) pa_nil)))), ?_⟩
    have l40 := hR.le
    have l1 := hR.pos
    refine ⟨.ref a, rfl, a, _, rfl, .inl hS, ?_⟩
    rw [List.length_map]
    refine ⟨ns.length, rfl, by omega, by omega, fun D hD => lc_range (lo := 0) (n := ((ns.length : Nat) : Int).toNat)
      (fun i H' => ∃ vs, Same H H' ∧ H' D = some (.lst vs) ∧ Rows H H' vs ((turnsL ns).take i)) ⟨[], new_same hD, upd_same, .nil⟩ (fun i H1 hi hP => ⟨rfl, ?_⟩) (fun H1 hP => ?_)⟩
    · obtain ⟨vs, s1, hD1, hr1⟩ := hP
      rw [Int.toNat_natCast] at hi
      refine ⟨.ref a, rfl, .int (0 + i), rfl, a, ns, 0 + i, rfl, s1.seq hS, l1, by omega, fun l H2 s2 hl hl2 => ?_⟩
      refine ⟨vs, s2 _ _ hD1, ?_, vs ++ [.ref l], same_over (s1.trans s2) hD, upd_same, ?_⟩
      · have := hr1.len
        rw [List.length_take, turns_len] at this
        exact sz40 (by omega)
      · have nl : l ≠ D := fun e => by
          rw [e, hD1] at hl
          cases hl
        have e : rot ns (0 + (i : Int)) = (fun (t : Nat) => rot ns (t : Int)) i := by
          show rot ns (0 + (i : Int)) = rot ns (i : Int)
          rw [Int.zero_add]
        have hr2 : Rows H (upd H2 D (.lst (vs ++ [.ref l]))) vs ((turnsL ns).take i) := by
          have hr3 := hr1.up s2
          exact rows_over hr3 (hr3.ne (o := .lst vs) (s2 _ _ hD1))
        have := hr2.snoc (s1.free hl) (m := rot ns (0 + (i : Int))) (by rw [upd_ne nl]; exact hl2)
        rw [e] at this
        unfold turnsL at this
        rw [take_map_next hi] at this
        exact this
    · obtain ⟨vs, s1, hD1, hr1⟩ := hP
      rw [Int.toNat_natCast, List.take_of_length_le (by rw [turns_len]; exact Nat.le_refl _)] at hr1
      refine ⟨D, vs, turnsL ns, rfl, SqL.of hD1, hr1.dp, by rw [turns_len]; omega, fun i v m hv hm hL => ?_⟩
      obtain ⟨l, m', rfl, hm', fl, el⟩ := hr1.at hv
      rw [hm] at hm'
      cases hm'
      exact q l m H1 s1 fl el hL
def spLeastLike (K : PySem.W.Frag) : Sp := fun vs H Q _ => ∃ (a : Addr) (ns : List Int), vs = [.ref a] ∧ SqL K H a (ns.map V.int) ∧ Rim ns ∧
  ∀ (l : Addr) (m : List Int) (H' : Hp), Same H H' → H l = none → H' l = some (.lst (m.map V.int)) → LeastI (bothL ns) m → Q (.ref l) H'
theorem ok_least_like (T : Txt K mg) : FnOk P w K mg base CX0 3 T.a_least_like T.d_least_like ["disc"] (spLeastLike K) := by
  have G_mirrored_list := ok_mirrored_list (P := P) (w := w) (base := base) T
  have G_least_turned := ok_least_turned (P := P) (w := w) (base := base) T
  refine T.F_least_like.ok sc_least_like (fun vs H Q E h => ?_) (fun cdv A outer s H vs Q E hr h => ?_)
  · obtain ⟨_, _, rfl, _⟩ := h
    rfl
  · obtain ⟨a, ns, rfl, hS, hR, q⟩ := h
    refine ⟨_, (pss_one (ps_ret (pe_callB (cr_min2 (K := K) rfl rfl hr) (by rfl) T.n_min (by decide +kernel) (pa_cons (pe_call G_least_turned hr (by rfl) T.g_least_turned T.F_least_turned.kp T.b_least_turned .nil pass0 (pa_cons (pv 0) pa_nil)) (pa_cons (pe_call G_least_turned hr (by rfl) T.g_least_turned T.F_least_turned.kp T.b_least_turned .nil pass0 (pa_cons (pe_call G_mirrored_list (hr.mono (by decide)) (by rfl) T.g_mirrored_list T.F_mirrored_list.kp T.b_mirrored_list .nil pass0 (pa_cons (pv 0) pa_nil)) pa_nil)) pa_nil))))), ?_⟩
    have l40 := hR.le
    refine ⟨.ref a, rfl, a, ns, rfl, hS, hR, fun l1 m1 H1 s1 f1 e1 L1 => ?_⟩
    refine ⟨.ref a, rfl, a, ns, rfl, s1.seq hS, hR.pos, by omega, fun l2 H2 s2 f2 e2 => ?_⟩
    refine ⟨l2, mir ns, rfl, SqL.of e2, hR.mir, fun l3 m3 H3 s3 f3 e3 L3 => ?_⟩
    have s13 := s2.trans s3
    have s03 := s1.trans s13
    have L := least_app L1 L3
    refine ⟨.ref l1, .ref l3, m1, m3, rfl, dp_ints (SqL.of (s13 _ _ e1)), dp_ints (SqL.of e3), ?_⟩
    cases z : LtI m3 m1 with
    | true =>
      rw [z] at L
      exact q l3 m3 H3 s03 ((s1.trans s2).free f3) e3 L
    | false =>
      rw [z] at L
      exact q l1 m1 H3 s03 f1 (s13 _ _ e1) L

/-! ### slitdiscs.discs: periods, least lists, what is like -/
def spPeriod (K : PySem.W.Frag) : Sp := fun vs H Q _ => ∃ (a : Addr) (ns : List Int), vs = [.ref a] ∧ SqL K H a (ns.map V.int) ∧ Rim ns ∧
  ∀ H', Same H H' → Q (headV (perL ns)) H'
theorem ok_disc_period (T : Txt K mg) : FnOk P w K mg base CX0 5 T.a_disc_period T.d_disc_period ["disc"] (spPeriod K) := by
  have G_check_disc := ok_check_disc (P := P) (w := w) (base := base) T
  have G_turned_list := ok_turned_list (P := P) (w := w) (base := base) T
  have G_first_turn := ok_first_turn (P := P) (w := w) (base := base) T
  refine T.F_disc_period.ok sc_disc_period (fun vs H Q E h => ?_) (fun cdv A outer s H vs Q E hr h => ?_)
  · obtain ⟨_, _, rfl, _⟩ := h
    rfl
  · obtain ⟨a, ns, rfl, hS, hR, q⟩ := h
    refine ⟨_, (pss_cons (ps_expr (pe_call G_check_disc hr (by rfl) T.g_check_disc T.F_check_disc.kp T.b_check_disc .nil pass0 (pa_cons (pv 0) pa_nil)))
      (pss_one (ps_ret (pe_op op_add pe_int (pe_call G_first_turn (hr.mono (by decide)) (by rfl) T.g_first_turn T.F_first_turn.kp T.b_first_turn .nil pass0 (pa_cons (pe_call G_turned_list (hr.mono (by decide)) (by rfl) T.g_turned_list T.F_turned_list.kp T.b_turned_list .nil pass0 (pa_cons (pv 0) (pa_cons pe_int pa_nil))) (pa_cons (pv 0) pa_nil))))))), ?_⟩
    have l40 := hR.le
    refine ⟨.ref a, rfl, a, ns, rfl, hS, hR, fun H1 s1 => ?_⟩
    refine ⟨.ref a, rfl, a, ns, 1, rfl, s1.seq hS, hR.pos, by omega, fun l H2 s2 hl hl2 => ?_⟩
    have s12 := s1.trans s2
    refine ⟨.ref a, rfl, l, a, rot ns 1, ns, rfl, SqL.of hl2, s12.seq hS, hR.rot 1, hR, fun H3 s3 => ?_⟩
    obtain ⟨p, r, e⟩ := per_ex hR.pos
    have e2 := e
    unfold perL at e2
    rw [hits_shift] at e2
    rw [rot_len]
    have z := q H3 (s12.trans s3)
    rw [e] at z
    cases y : hits (rot ns 1) ns 0 ns.length with
    | nil =>
      rw [y] at e2
      cases e2
    | cons t u =>
      rw [y, List.map_cons] at e2
      have e3 := (List.cons.inj e2).1
      refine ⟨1, t, rfl, rfl, ?_⟩
      show Q (.int (1 + t)) H3
      rw [show (1 : Int) + t = p from e3]
      exact z
def spBetween (K : PySem.W.Frag) : Sp := fun vs H Q _ => ∃ (a b : Addr) (ns ms : List Int), vs = [.ref a, .ref b] ∧ SqL K H a (ns.map V.int) ∧ SqL K H b (ms.map V.int) ∧ Rim ns ∧ Rim ms ∧ ns.length = ms.length ∧
  ∀ H', Same H H' → Q (headV (hits ns ms 0 ns.length)) H'
theorem ok_turn_between (T : Txt K mg) : FnOk P w K mg base CX0 6 T.a_turn_between T.d_turn_between ["disc", "other"] (spBetween K) := by
  have G_check_discs := ok_check_discs (P := P) (w := w) (base := base) T
  have G_first_turn := ok_first_turn (P := P) (w := w) (base := base) T
  refine T.F_turn_between.ok sc_turn_between (fun vs H Q E h => ?_) (fun cdv A outer s H vs Q E hr h => ?_)
  · obtain ⟨_, _, _, _, rfl, _⟩ := h
    rfl
  · obtain ⟨a, b, ns, ms, rfl, hS, hS2, hR, hR2, hl, q⟩ := h
    refine ⟨_, (pss_cons (ps_expr (pe_call G_check_discs hr (by rfl) T.g_check_discs T.F_check_discs.kp T.b_check_discs .nil pass0 (pa_cons (pv 0) (pa_cons (pv 1) pa_nil))))
      (pss_one (ps_ret (pe_call G_first_turn (hr.mono (by decide)) (by rfl) T.g_first_turn T.F_first_turn.kp T.b_first_turn .nil pass0 (pa_cons (pv 0) (pa_cons (pv 1) pa_nil)))))), ?_⟩
    refine ⟨.ref a, rfl, .ref b, rfl, a, b, ns, ms, rfl, hS, hS2, hR, hR2, hl, fun H1 s1 => ?_⟩
    exact ⟨.ref a, rfl, .ref b, rfl, a, b, ns, ms, rfl, s1.seq hS, s1.seq hS2, hR, hR2, fun H2 s2 => q H2 (s1.trans s2)⟩
theorem ok_least_disc (T : Txt K mg) : FnOk P w K mg base CX0 5 T.a_least_disc T.d_least_disc ["disc"] (spLeastTurned K) := by
  have G_check_disc := ok_check_disc (P := P) (w := w) (base := base) T
  have G_least_turned := ok_least_turned (P := P) (w := w) (base := base) T
  refine T.F_least_disc.ok sc_least_disc (fun vs H Q E h => ?_) (fun cdv A outer s H vs Q E hr h => ?_)
  · obtain ⟨_, _, rfl, _⟩ := h
    rfl
  · obtain ⟨a, ns, rfl, hS, hR, q⟩ := h
    refine ⟨_, (pss_cons (ps_expr (pe_call G_check_disc hr (by rfl) T.g_check_disc T.F_check_disc.kp T.b_check_disc .nil pass0 (pa_cons (pv 0) pa_nil)))
      (pss_one (ps_ret (pe_call G_least_turned (hr.mono (by decide)) (by rfl) T.g_least_turned T.F_least_turned.kp T.b_least_turned .nil pass0 (pa_cons (pv 0) pa_nil))))), ?_⟩
    refine ⟨.ref a, rfl, a, ns, rfl, hS, hR, fun H1 s1 => ?_⟩
    exact ⟨.ref a, rfl, a, ns, rfl, s1.seq hS, hR, fun l m H2 s2 f2 e2 L => q l m H2 (s1.trans s2) (s1.free f2) e2 L⟩
theorem ok_like_form (T : Txt K mg) : FnOk P w K mg base CX0 5 T.a_like_form T.d_like_form ["disc"] (spLeastLike K) := by
  have G_check_disc := ok_check_disc (P := P) (w := w) (base := base) T
  have G_least_like := ok_least_like (P := P) (w := w) (base := base) T
  refine T.F_like_form.ok sc_like_form (fun vs H Q E h => ?_) (fun cdv A outer s H vs Q E hr h => ?_)
  · obtain ⟨_, _, rfl, _⟩ := h
    rfl
  · obtain ⟨a, ns, rfl, hS, hR, q⟩ := h
    refine ⟨_, (pss_cons (ps_expr (pe_call G_check_disc hr (by rfl) T.g_check_disc T.F_check_disc.kp T.b_check_disc .nil pass0 (pa_cons (pv 0) pa_nil)))
      (pss_one (ps_ret (pe_call G_least_like (hr.mono (by decide)) (by rfl) T.g_least_like T.F_least_like.kp T.b_least_like .nil pass0 (pa_cons (pv 0) pa_nil))))), ?_⟩
    refine ⟨.ref a, rfl, a, ns, rfl, hS, hR, fun H1 s1 => ?_⟩
    exact ⟨.ref a, rfl, a, ns, rfl, s1.seq hS, hR, fun l m H2 s2 f2 e2 L => q l m H2 (s1.trans s2) (s1.free f2) e2 L⟩
def spAreLike (K : PySem.W.Frag) : Sp := fun vs H Q _ => ∃ (a b : Addr) (ns ms : List Int), vs = [.ref a, .ref b] ∧ SqL K H a (ns.map V.int) ∧ SqL K H b (ms.map V.int) ∧ Rim ns ∧ Rim ms ∧ ns.length = ms.length ∧
  ∀ H', Same H H' → Q (.bl (decide (ms ∈ bothL ns))) H'
theorem ok_are_like (T : Txt K mg) : FnOk P w K mg base CX0 6 T.a_are_like T.d_are_like ["disc", "other"] (spAreLike K) := by
  have G_check_discs := ok_check_discs (P := P) (w := w) (base := base) T
  have G_least_like := ok_least_like (P := P) (w := w) (base := base) T
  refine T.F_are_like.ok sc_are_like (fun vs H Q E h => ?_) (fun cdv A outer s H vs Q E hr h => ?_)
  · obtain ⟨_, _, _, _, rfl, _⟩ := h
    rfl
  · obtain ⟨a, b, ns, ms, rfl, hS, hS2, hR, hR2, hl, q⟩ := h
    refine ⟨_, (pss_cons (ps_expr (pe_call G_check_discs hr (by rfl) T.g_check_discs T.F_check_discs.kp T.b_check_discs .nil pass0 (pa_cons (pv 0) (pa_cons (pv 1) pa_nil))))
      (pss_one (ps_ret (pe_cmpR (eqD (K := K) rfl hr) (pe_call G_least_like (hr.mono (by decide)) (by rfl) T.g_least_like T.F_least_like.kp T.b_least_like .nil pass0 (pa_cons (pv 0) pa_nil)) (pe_call G_least_like (hr.mono (by decide)) (by rfl) T.g_least_like T.F_least_like.kp T.b_least_like .nil pass0 (pa_cons (pv 1) pa_nil)) (nomark _))))), ?_⟩
    refine ⟨.ref a, rfl, .ref b, rfl, a, b, ns, ms, rfl, hS, hS2, hR, hR2, hl, fun H1 s1 => ?_⟩
    refine ⟨.ref a, rfl, a, ns, rfl, s1.seq hS, hR, fun l1 m1 H2 s2 f1 e1 L1 => ?_⟩
    have s12 := s1.trans s2
    refine ⟨.ref b, rfl, b, ms, rfl, s12.seq hS2, hR2, fun l2 m2 H3 s3 f2 e2 L2 => ?_⟩
    have r1 : Rim m1 := hR.of_both L1.1
    have r2 : Rim m2 := hR2.of_both L2.1
    refine ⟨dI m1, dI m2, dp_ints (SqL.of (s3 _ _ e1)), dp_ints (SqL.of e2), r1.rp.shaped, r2.rp.shaped, ?_⟩
    rw [eqv_dI]
    have z := q H3 (s12.trans s3)
    have e : decide (m1 = m2) = decide (ms ∈ bothL ns) := by
      have := like_iff hR.pos hR2.pos L1 L2
      simp only [this]
    rw [e]
    exact z

def spIsDisc (K : PySem.W.Frag) : Sp := fun vs H Q _ => ∃ (a : Addr) (ns : List Int), vs = [.ref a] ∧ SqL K H a (ns.map V.int) ∧ Rim ns ∧ ∀ H', Same H H' → Q (.bl true) H'
theorem ok_is_disc (T : Txt K mg) : FnOk P w K mg base CX0 4 T.a_is_disc T.d_is_disc ["value"] (spIsDisc K) := by
  have G_has_slots := ok_has_slots (P := P) (w := w) (base := base) T
  have G_wrong_slot := ok_wrong_slot (P := P) (w := w) (base := base) T
  refine T.F_is_disc.ok sc_is_disc (fun vs H Q E h => ?_) (fun cdv A outer s H vs Q E hr h => ?_)
  · obtain ⟨_, _, rfl, _⟩ := h
    rfl
  · obtain ⟨a, ns, rfl, hS, hR, q⟩ := h
    refine ⟨_, (pss_one (ps_ret (pe_and (pe_call G_has_slots (hr.mono (by decide)) (by rfl) T.g_has_slots T.F_has_slots.kp T.b_has_slots .nil pass0 (pa_cons (pv 0) pa_nil)) (pe_one (pe_cmpR op_isN (pe_call G_wrong_slot hr (by rfl) T.g_wrong_slot T.F_wrong_slot.kp T.b_wrong_slot .nil pass0 (pa_cons (pv 0) pa_nil)) pe_non (nomark _)))))), ?_⟩
    refine ⟨.ref a, rfl, a, _, rfl, hS, by rw [List.length_map]; exact hR.pos, by rw [List.length_map]; exact hR.le, true, rfl, iteT ?_⟩
    refine ⟨.ref a, rfl, a, ns, rfl, hS, hR, fun H1 s1 => ?_⟩
    exact ⟨rfl, q H1 s1⟩
theorem cut_drop (ns : List Int) (s : Int) (h0 : 0 ≤ s) : cutV (ns.map V.int) (some s) none = (ns.drop s.toNat).map V.int := by
  obtain ⟨k, rfl⟩ : ∃ k : Nat, s = (k : Int) := ⟨s.toNat, by omega⟩
  unfold cutV
  rw [HT.sIx_none, HT.sIx_nat, Int.toNat_natCast, List.map_drop]
  rcases Nat.le_total k (ns.map V.int).length with z | z
  · rw [Nat.min_eq_left z, List.take_of_length_le (by rw [List.length_drop]; omega)]
  · rw [Nat.min_eq_right z, List.drop_of_length_le (Nat.le_refl _), List.drop_of_length_le z, List.take_nil]
/-! ### lights turned, as the law does it -/
def spOn (K : PySem.W.Frag) : Sp := fun vs H Q _ => ∃ (a : Addr) (ls : List Int) (b : Int), vs = [.ref a, .int b] ∧ SqL K H a (ls.map V.int) ∧ 1 ≤ ls.length ∧ ls.length ≤ 1000 ∧
  ∀ (l : Addr) (H' : Hp), Same H H' → H l = none → H' l = some (.lst ((rot ls b).map V.int)) → Q (.ref l) H'
theorem ok_law_on (T : Txt K mg) : FnOk P w K mg base CX0 1 T.a_law_on T.d_law_on ["lights_here", "by"] (spOn K) := by
  refine T.F_law_on.ok sc_law_on (fun vs H Q E h => ?_) (fun cdv A outer s H vs Q E hr h => ?_)
  · obtain ⟨_, _, _, rfl, _⟩ := h
    rfl
  · obtain ⟨a, ls, b, rfl, hS, h1, hn, q⟩ := h
    refine ⟨_, (pss_cons (ps_set (i := 2) sc_law_on.nd rfl (.inl rfl) (pe_op op_mod (pe_callTy call_int1 (by rfl) T.n_int (by decide +kernel) (pa_cons (pe_op op_sub pe_int (pv 1)) pa_nil)) (pe_callB (lenL (K := K) rfl) (by rfl) T.n_len (by decide +kernel) (pa_cons (pv 0) pa_nil))))
      (pss_one (ps_ret (pe_op op_cat (pe_slice (slL (K := K) rfl) (pv 0) (po_some (pv 2)) po_none) (pe_slice (slL (K := K) rfl) (pv 0) po_none (po_some (pv 2))))))), ?_⟩
    refine ⟨.int b, rfl, 0, b, rfl, rfl, .inl ⟨_, rfl, .ref a, rfl, a, _, rfl, .inl hS, _, _, rfl, rfl, (by show (0 : Int) < _; rw [List.length_map]; omega), ?_⟩⟩
    rw [List.length_map]
    have hm := mod_in (i := 0 - b) (show 0 < ls.length by omega)
    refine ⟨.ref a, rfl, .int ((0 - b) % (ls.length : Int)), rfl, (0 - b) % (ls.length : Int), rfl, a, _, rfl, hS, fun p hp => ?_⟩
    rw [cut_drop ls _ hm.1]
    have s1 := new_same (o := .lst ((ls.drop ((0 - b) % (ls.length : Int)).toNat).map V.int)) hp
    refine ⟨.ref a, rfl, .int ((0 - b) % (ls.length : Int)), rfl, (0 - b) % (ls.length : Int), rfl, a, _, rfl, s1.seq hS, fun p2 hp2 => ?_⟩
    rw [cut_take ls _ hm.1]
    have s2 := new_same (o := .lst ((ls.take ((0 - b) % (ls.length : Int)).toNat).map V.int)) hp2
    refine ⟨p, p2, _, _, rfl, rfl, s2 _ _ upd_same, upd_same, ?_, fun l hl => ?_⟩
    · rw [List.length_map, List.length_map, List.length_drop, List.length_take]
      exact sz40' (by omega)
    · have s3 := (s1.trans s2).trans (new_same (o := .lst ((ls.drop ((0 - b) % (ls.length : Int)).toNat).map V.int ++ (ls.take ((0 - b) % (ls.length : Int)).toNat).map V.int)) hl)
      refine q l _ s3 ((s1.trans s2).free hl) ?_
      rw [upd_same, ← List.map_append]
      exact congrArg (fun z => some (HO.lst (z.map V.int))) (on_rot b h1)

/-! ### the law's look at lights -/
def spLR : Sp := fun vs H Q _ => ∃ (t a b : Addr) (ns ms : List Int) (c : Int), vs = [.ref t, .ref a, .ref b] ∧ Tank H t c ∧ 0 ≤ c ∧ c < 2 ^ 37 ∧ a ≠ t ∧ b ≠ t ∧ H a = some (.lst (ns.map V.int)) ∧ H b = some (.lst (ms.map V.int)) ∧ Rim ns ∧ Rim ms ∧ ns.length = ms.length ∧
  ∀ H', But t H H' → Tank H' t (c + 6) → Q (.bl true) H'
theorem start59 (x y z : V) : L2.start [Str.ofString "tank", Str.ofString "rim", Str.ofString "mate", Str.ofString "lights_here", Str.ofString "by", Str.ofString "far", Str.ofString "other_here", Str.ofString "back", Str.ofString "low", Str.ofString "brights", Str.ofString "one", Str.ofString "told"] [x, y, z] = [some x, some y, some z, none, none, none, none, none, none, none, none, none] := rfl
theorem ok_law_lights_right (T : Txt K mg) : FnOk P w K mg base CX0 7 T.a_law_lights_right T.d_law_lights_right ["tank", "rim", "mate"] spLR := by
  have G_law_drawn_turn := ok_law_drawn_turn (P := P) (w := w) (base := base) T
  have G_all_lights := ok_all_lights (P := P) (w := w) (base := base) T
  have G_turned_disc := ok_turned_disc (P := P) (w := w) (base := base) T
  have G_mirrored_disc := ok_mirrored_disc (P := P) (w := w) (base := base) T
  have G_law_on := ok_law_on (P := P) (w := w) (base := base) T
  have G_light_at := ok_light_at (P := P) (w := w) (base := base) T
  have G_light_sum := ok_light_sum (P := P) (w := w) (base := base) T
  have G_brightest_turns := ok_brightest_turns (P := P) (w := w) (base := base) T
  have G_first_bright := ok_first_bright (P := P) (w := w) (base := base) T
  refine T.F_law_lights_right.ok sc_law_lights_right (fun vs H Q E h => ?_) (fun cdv A outer s H vs Q E hr h => ?_)
  · obtain ⟨_, _, _, _, _, _, rfl, _⟩ := h
    rfl
  · obtain ⟨t, a, b, ns, ms, c, rfl, hT, hc0, hc, hat, hbt, ha, hb, hR, hR2, hl, q⟩ := h
    refine ⟨_, (pss_cons (ps_asg (pe_tup (pa_cons (pe_call G_all_lights hr (by rfl) T.g_all_lights T.F_all_lights.kp T.b_all_lights .nil pass0 (pa_cons (pv 1) (pa_cons (pv 2) pa_nil))) (pa_cons (pe_call G_law_drawn_turn (hr.mono (by decide)) (by rfl) T.g_law_drawn_turn T.F_law_drawn_turn.kp T.b_law_drawn_turn .nil pass0 (pa_cons (pv 0) pa_nil)) (pa_cons (pe_call G_law_drawn_turn (hr.mono (by decide)) (by rfl) T.g_law_drawn_turn T.F_law_drawn_turn.kp T.b_law_drawn_turn .nil pass0 (pa_cons (pv 0) pa_nil)) pa_nil)))) (pg_tupL (K := K) (n := 3) rfl rfl (pgs_cons (pg_name (i := 3) sc_law_lights_right.nd rfl (.inl rfl)) (pgs_cons (pg_name (i := 4) sc_law_lights_right.nd rfl (.inr rfl)) (pgs_cons (pg_name (i := 5) sc_law_lights_right.nd rfl (.inl rfl)) pgs_nil)))))
      (pss_cons (ps_set (i := 6) sc_law_lights_right.nd rfl (.inl rfl) (pe_call G_turned_disc (hr.mono (by decide)) (by rfl) T.g_turned_disc T.F_turned_disc.kp T.b_turned_disc .nil pass0 (pa_cons (pv 2) (pa_cons (pv 4) pa_nil))))
      (pss_cons (ps_if (pt_cmpR (neD (K := K) rfl hr) (pe_call G_all_lights hr (by rfl) T.g_all_lights T.F_all_lights.kp T.b_all_lights .nil pass0 (pa_cons (pv 1) (pa_cons (pv 6) pa_nil))) (pe_call G_law_on (hr.mono (by decide)) (by rfl) T.g_law_on T.F_law_on.kp T.b_law_on .nil pass0 (pa_cons (pv 3) (pa_cons (pe_op op_sub pe_int (pv 4)) pa_nil))) (nomark _)) (pss_one (ps_ret pe_bl)) pss_nil)
      (pss_cons (ps_if (pt_cmpR (neD (K := K) rfl hr) (pe_call G_all_lights hr (by rfl) T.g_all_lights T.F_all_lights.kp T.b_all_lights .nil pass0 (pa_cons (pe_call G_turned_disc (hr.mono (by decide)) (by rfl) T.g_turned_disc T.F_turned_disc.kp T.b_turned_disc .nil pass0 (pa_cons (pv 1) (pa_cons (pv 4) pa_nil))) (pa_cons (pv 2) pa_nil))) (pe_call G_law_on (hr.mono (by decide)) (by rfl) T.g_law_on T.F_law_on.kp T.b_law_on .nil pass0 (pa_cons (pv 3) (pa_cons (pv 4) pa_nil))) (nomark _)) (pss_one (ps_ret pe_bl)) pss_nil)
      (pss_cons (ps_if (pt_cmpR (neD (K := K) rfl hr) (pe_call G_all_lights hr (by rfl) T.g_all_lights T.F_all_lights.kp T.b_all_lights .nil pass0 (pa_cons (pe_call G_turned_disc (hr.mono (by decide)) (by rfl) T.g_turned_disc T.F_turned_disc.kp T.b_turned_disc .nil pass0 (pa_cons (pv 1) (pa_cons (pv 4) pa_nil))) (pa_cons (pv 6) pa_nil))) (pv 3) (nomark _)) (pss_one (ps_ret pe_bl)) pss_nil)
      (pss_cons (ps_set (i := 7) sc_law_lights_right.nd rfl (.inl rfl) (pe_op op_cat (pe_slice (slL (K := K) rfl) (pv 3) po_none (po_some pe_int)) (pe_back (K := K) rfl (pv 3))))
      (pss_cons (ps_if (PW.pt (pw_or (pt_cmpR (neD (K := K) rfl hr) (pe_call G_all_lights hr (by rfl) T.g_all_lights T.F_all_lights.kp T.b_all_lights .nil pass0 (pa_cons (pe_call G_mirrored_disc (hr.mono (by decide)) (by rfl) T.g_mirrored_disc T.F_mirrored_disc.kp T.b_mirrored_disc .nil pass0 (pa_cons (pv 1) pa_nil)) (pa_cons (pe_call G_mirrored_disc (hr.mono (by decide)) (by rfl) T.g_mirrored_disc T.F_mirrored_disc.kp T.b_mirrored_disc .nil pass0 (pa_cons (pv 2) pa_nil)) pa_nil))) (pv 7) (nomark _)) (pw_or1 (pt_cmpR (neD (K := K) rfl hr) (pe_call G_all_lights hr (by rfl) T.g_all_lights T.F_all_lights.kp T.b_all_lights .nil pass0 (pa_cons (pv 2) (pa_cons (pv 1) pa_nil))) (pv 7) (nomark _))))) (pss_one (ps_ret pe_bl)) pss_nil)
      (pss_cons (ps_if (pt_cmpR op_ne (pe_call G_light_at hr (by rfl) T.g_light_at T.F_light_at.kp T.b_light_at .nil pass0 (pa_cons (pv 1) (pa_cons (pv 6) (pa_cons (pv 5) pa_nil)))) (pe_ix (ixL (K := K) rfl) (pv 3) (pe_op op_mod (pe_callTy call_int1 (by rfl) T.n_int (by decide +kernel) (pa_cons (pe_op op_add (pv 5) (pv 4)) pa_nil)) (pe_callB (lenL (K := K) rfl) (by rfl) T.n_len (by decide +kernel) (pa_cons (pv 1) pa_nil))) (fun _ _ => rfl)) (nomark _)) (pss_one (ps_ret pe_bl)) pss_nil)
      (pss_cons (ps_set (i := 8) sc_law_lights_right.nd rfl (.inl rfl) (pe_op op_mod (pe_callTy call_int1 (by rfl) T.n_int (by decide +kernel) (pa_cons (pv 5) pa_nil)) (pe_callB (lenL (K := K) rfl) (by rfl) T.n_len (by decide +kernel) (pa_cons (pv 1) pa_nil))))
      (pss_cons (ps_if (pt_cmpR op_ne (pe_call G_light_sum hr (by rfl) T.g_light_sum T.F_light_sum.kp T.b_light_sum .nil pass0 (pa_cons (pv 1) (pa_cons (pv 6) (pa_cons (pv 8) (pa_cons pe_int (pa_cons pe_int pa_nil)))))) (pe_call G_light_sum hr (by rfl) T.g_light_sum T.F_light_sum.kp T.b_light_sum .nil pass0 (pa_cons (pv 1) (pa_cons (pv 2) (pa_cons (pe_op op_mod (pe_callTy call_int1 (by rfl) T.n_int (by decide +kernel) (pa_cons (pe_op op_add (pv 8) (pv 4)) pa_nil)) (pe_callB (lenL (K := K) rfl) (by rfl) T.n_len (by decide +kernel) (pa_cons (pv 1) pa_nil))) (pa_cons pe_int (pa_cons pe_int pa_nil)))))) (nomark _)) (pss_one (ps_ret pe_bl)) pss_nil)
      (pss_cons (ps_set (i := 9) sc_law_lights_right.nd rfl (.inl rfl) (pe_callB (sortedL (K := K) rfl) (by rfl) T.n_sorted (by decide +kernel) (pa_cons (pe_lc (own := [("one", 10)]) (g := gName 10) (tt := tYes) (by rfl) sc_law_lights_right.nd (pi_listL (K := K) rfl (pe_call G_brightest_turns hr (by rfl) T.g_brightest_turns T.F_brightest_turns.kp T.b_brightest_turns .nil pass0 (pa_cons (pv 1) (pa_cons (pv 2) pa_nil)))) (blkOk_by (own := [("one", 10)]) (N := ["tank", "rim", "mate", "lights_here", "by", "far", "other_here", "back", "low", "brights", "one", "told"]) (sc := defScope s_law_lights_right) (by decide +kernel))
        (fun _ _ _ _ _ => (pg_name (i := 10) sc_law_lights_right.nd rfl (Or.inl rfl))) (fun _ _ _ _ _ => pts_nil) (fun _ _ _ _ _ => (pe_op op_mod (pe_callTy call_int1 (by rfl) T.n_int (by decide +kernel) (pa_cons (pe_op op_sub (pv 10) (pv 4)) pa_nil)) (pe_callB (lenL (K := K) rfl) (by rfl) T.n_len (by decide +kernel) (pa_cons (pv 1) pa_nil))))) pa_nil)))
      (pss_cons (ps_if (pt_cmpR (neD (K := K) rfl hr) (pe_call G_brightest_turns hr (by rfl) T.g_brightest_turns T.F_brightest_turns.kp T.b_brightest_turns .nil pass0 (pa_cons (pv 1) (pa_cons (pv 6) pa_nil))) (pv 9) (nomark _)) (pss_one (ps_ret pe_bl)) pss_nil)
      (pss_cons (ps_set (i := 11) sc_law_lights_right.nd rfl (.inl rfl) (pe_call G_first_bright hr (by rfl) T.g_first_bright T.F_first_bright.kp T.b_first_bright .nil pass0 (pa_cons (pv 1) (pa_cons (pv 6) (pa_cons (pv 8) (pa_cons pe_int (pa_cons (pe_callB (maxL (K := K) rfl rfl) (by rfl) T.n_max (by decide +kernel) (pa_cons (pv 3) pa_nil)) pa_nil)))))))
      (pss_one (ps_ret (pe_and (pe_cmpR (inL (K := K) rfl) (pe_op op_mod (pe_callTy call_int1 (by rfl) T.n_int (by decide +kernel) (pa_cons (pe_op op_add (pv 8) (pv 11)) pa_nil)) (pe_callB (lenL (K := K) rfl) (by rfl) T.n_len (by decide +kernel) (pa_cons (pv 1) pa_nil))) (pv 9) (by with_unfolding_all rfl)) (pe_one (pe_chain op_le op_lt pe_int (pv 11) (pe_callB (lenL (K := K) rfl) (by rfl) T.n_len (by decide +kernel) (pa_cons (pv 1) pa_nil)))))))))))))))))))), ?_⟩
    have l40 := hR.le
    have l1 := hR.pos
    have ab : ∀ {as bs : List Int}, Rim as → Rim bs → RP (dI (lightsV as bs)) := fun h1 h2 => (lightsV_ab h1.ab h2.ab (by have := h1.le; omega)).rp (by decide)
    -- lights_here, by, far
    refine ⟨.ref a, rfl, .ref b, rfl, a, b, ns, ms, rfl, SqL.of ha, SqL.of hb, hR, hR2, hl, fun L H1 s1 fL eL => ?_⟩
    have nL : L ≠ t := hT.ne fL
    have k1 := hT.same s1
    refine ⟨.ref t, rfl, t, c, rfl, k1, by omega, by omega, fun y H2 y0 y1 k2 u2 => ?_⟩
    refine ⟨.ref t, rfl, t, c + 3, rfl, k2, by omega, by omega, fun f H3 f0 f1 k3 u3 => ?_⟩
    refine ⟨(by show 3 ≤ sizeLine; decide), fun p hp => ⟨p, _, rfl, SqT.of upd_same, rfl, _, _, rfl, _, _, rfl, _, _, rfl, rfl, ?_⟩⟩
    have s4 := new_same (o := .tup [.ref L, .int y, .int f]) hp
    have k4 := k3.same s4
    have u4 : But t H (upd H3 p (.tup [.ref L, .int y, .int f])) := (((But.of s1).trans u2).trans u3).trans (But.of s4)
    have a4 := u4 _ _ ha hat
    have b4 := u4 _ _ hb hbt
    have e4 := s4 _ _ (u3 _ _ (u2 _ _ eL nL) nL)
    generalize upd H3 p (.tup [.ref L, .int y, .int f]) = H4 at k4 u4 a4 b4 e4 ⊢
    clear s4 k3 k2 u2 u3 eL k1 s1
    -- other_here
    have hRm := hR2.rot y
    refine ⟨.ref b, rfl, .int y, rfl, b, ms, y, rfl, SqL.of b4, hR2, fun o H5 s5 fo eo => ?_⟩
    have LD := lightsV_len ns ms
    -- if all_lights(rim, other_here) != _law_on(..)
    refine ⟨.ref a, rfl, .ref o, rfl, a, o, ns, rot ms y, rfl, s5.seq (SqL.of a4), SqL.of eo, hR, hRm, by rw [rot_len]; exact hl, fun l6 H6 s6 f6 e6 => ?_⟩
    have s56 := s5.trans s6
    refine ⟨.ref L, rfl, .int y, rfl, 0, y, rfl, rfl, L, lightsV ns ms, 0 - y, rfl, s56.seq (SqL.of e4), by omega, by omega, fun l7 H7 s7 f7 e7 => ?_⟩
    rw [← lights_rot2 hl] at e7
    have s57 := s56.trans s7
    refine ⟨_, _, dp_ints (s7.seq (SqL.of e6)), dp_ints (SqL.of e7), (ab hR hRm).shaped, (ab hR hRm).shaped, _, rfl, ?_⟩
    rw [(ab hR hRm).refl]
    refine iteF ?_
    have eo7 := s7 _ _ (s6 _ _ eo)
    -- if all_lights(turned_disc(rim, by), mate) != ..
    have hRn := hR.rot y
    refine ⟨.ref a, rfl, .int y, rfl, a, ns, y, rfl, s57.seq (SqL.of a4), hR, fun l8 H8 s8 f8 e8 => ?_⟩
    have s58 := s57.trans s8
    refine ⟨.ref b, rfl, l8, b, rot ns y, ms, rfl, SqL.of e8, s58.seq (SqL.of b4), hRn, hR2, by rw [rot_len]; exact hl, fun l9 H9 s9 f9 e9 => ?_⟩
    have s59 := s58.trans s9
    refine ⟨.ref L, rfl, .int y, rfl, L, lightsV ns ms, y, rfl, s59.seq (SqL.of e4), by omega, by omega, fun lA HA sA fA eA => ?_⟩
    rw [← lights_rot1 hl] at eA
    have s5A := s59.trans sA
    refine ⟨_, _, dp_ints (sA.seq (SqL.of e9)), dp_ints (SqL.of eA), (ab hRn hR2).shaped, (ab hRn hR2).shaped, _, rfl, ?_⟩
    rw [(ab hRn hR2).refl]
    refine iteF ?_
    have eoA := sA _ _ (s9 _ _ (s8 _ _ eo7))
    -- if all_lights(turned_disc(rim, by), other_here) != lights_here
    refine ⟨.ref a, rfl, .int y, rfl, a, ns, y, rfl, s5A.seq (SqL.of a4), hR, fun lB HB sB fB eB => ?_⟩
    have s5B := s5A.trans sB
    refine ⟨.ref o, rfl, lB, o, rot ns y, rot ms y, rfl, SqL.of eB, SqL.of (sB _ _ eoA), hRn, hRm, by rw [rot_len, rot_len]; exact hl, fun lC HC sC fC eC => ?_⟩
    rw [lights_both hl] at eC
    have s5C := s5B.trans sC
    refine ⟨.ref L, rfl, _, _, dp_ints (SqL.of eC), dp_ints (s5C.seq (SqL.of e4)), (ab hR hR2).shaped, (ab hR hR2).shaped, _, rfl, ?_⟩
    rw [(ab hR hR2).refl]
    refine iteF ?_
    have eoC := sC _ _ (sB _ _ eoA)
    have e4C := s5C _ _ e4
    -- back
    refine ⟨.ref L, rfl, 1, rfl, L, _, rfl, SqL.of e4C, fun q1 hq1 => ?_⟩
    rw [cut_take (lightsV ns ms) 1 (by decide)]
    have w1 := new_same (o := .lst (((lightsV ns ms).take (1 : Int).toNat).map V.int)) hq1
    refine ⟨.ref L, rfl, L, _, rfl, w1.seq (SqL.of e4C), by rw [List.length_map]; omega, fun q2 hq2 => ?_⟩
    rw [← List.map_drop, ← List.map_reverse]
    have w2 := new_same (o := .lst (((lightsV ns ms).drop 1).reverse.map V.int)) hq2
    refine ⟨q1, q2, _, _, rfl, rfl, w2 _ _ upd_same, upd_same, ?_, fun q3 hq3 => ?_⟩
    · rw [List.length_map, List.length_map, List.length_reverse, List.length_drop, List.length_take]
      exact sz40' (by omega)
    rw [← List.map_append]
    have w3 := new_same (o := .lst (((lightsV ns ms).take (1 : Int).toNat ++ ((lightsV ns ms).drop 1).reverse).map V.int)) hq3
    have g3 : upd (upd (upd HC q1 (.lst (((lightsV ns ms).take (1 : Int).toNat).map V.int))) q2 (.lst (((lightsV ns ms).drop 1).reverse.map V.int))) q3 (.lst (((lightsV ns ms).take (1 : Int).toNat ++ ((lightsV ns ms).drop 1).reverse).map V.int)) q3 = some (.lst ((mir (lightsV ns ms)).map V.int)) := by
      rw [upd_same]
      exact congrArg (fun z => some (HO.lst (z.map V.int))) (mir_cut (l := lightsV ns ms) (by omega))
    have s5D := s5C.trans ((w1.trans w2).trans w3)
    have eoD := ((w1.trans w2).trans w3) _ _ eoC
    generalize upd (upd (upd HC q1 (.lst (((lightsV ns ms).take (1 : Int).toNat).map V.int))) q2 (.lst (((lightsV ns ms).drop 1).reverse.map V.int))) q3 (.lst (((lightsV ns ms).take (1 : Int).toNat ++ ((lightsV ns ms).drop 1).reverse).map V.int)) = HD at g3 s5D eoD ⊢
    clear w1 w2 w3 s5 s6 s7 s8 s9 sA sB sC s56 s57 s58 s59 s5A s5B s5C
    have aD := s5D _ _ a4
    have bD := s5D _ _ b4
    have LD2 := s5D _ _ e4
    -- if all_lights(mirrored, mirrored) != back or all_lights(mate, rim) != back
    refine ⟨.ref a, rfl, a, ns, rfl, SqL.of aD, hR, fun m1 HE sE fE eE => ?_⟩
    refine ⟨.ref b, rfl, b, ms, rfl, sE.seq (SqL.of bD), hR2, fun m2 HF sF fF eF => ?_⟩
    refine ⟨m1, m2, mir ns, mir ms, rfl, sF.seq (SqL.of eE), SqL.of eF, hR.mir, hR2.mir, by rw [mir_len, mir_len]; exact hl, fun m3 HG sG fG eG => ?_⟩
    rw [lights_mir hl] at eG
    have sDG := (sE.trans sF).trans sG
    have rM : RP (dI (mir (lightsV ns ms))) := by
      rw [← lights_mir hl]
      exact ab hR.mir hR2.mir
    refine ⟨.ref q3, rfl, _, _, dp_ints (SqL.of eG), dp_ints (SqL.of (sDG _ _ g3)), rM.shaped, rM.shaped, _, rfl, ?_⟩
    rw [rM.refl]
    refine iteF ?_
    refine ⟨.ref b, rfl, .ref a, rfl, b, a, ms, ns, rfl, SqL.of (sDG _ _ bD), SqL.of (sDG _ _ aD), hR2, hR, hl.symm, fun m4 HH sH fH eH => ?_⟩
    rw [lights_swap hl] at eH
    have sDH := sDG.trans sH
    refine ⟨.ref q3, rfl, _, _, dp_ints (SqL.of eH), dp_ints (SqL.of (sDH _ _ g3)), rM.shaped, rM.shaped, _, rfl, ?_⟩
    rw [rM.refl]
    refine iteF ?_
    have aH := sDH _ _ aD
    have bH := sDH _ _ bD
    have oH := sDH _ _ eoD
    have LH := sDH _ _ LD2
    have k5 := (k4.same s5D).same sDH
    have u5 := (u4.trans (But.of (T := t) s5D)).trans (But.of (T := t) sDH)
    clear sE sF sG sDG sDH sH g3 eG eH aD bD LD2 eoD s5D u4 k4 a4 b4 e4
    simp only [start59, List.set_cons_zero, List.set_cons_succ]
    -- if light_at(..) != lights_here[..]
    refine ⟨.ref a, rfl, .ref o, rfl, .int f, rfl, a, o, ns, rot ms y, f, rfl, SqL.of aH, SqL.of oH, hR, hRm, by rw [rot_len]; exact hl, fun HI sI => ?_⟩
    refine ⟨.ref L, rfl, .int f, rfl, .int y, rfl, f, y, rfl, rfl, .inl ⟨_, rfl, .ref a, rfl, a, _, rfl, .inl (SqL.of (sI _ _ aH)), _, _, rfl, rfl, (by show (0 : Int) < _; rw [List.length_map]; omega), L, _, _, .int (lightV ns ms (f + y)), rfl, rfl, SqL.of (sI _ _ LH), ?_, ?_⟩⟩
    · rw [List.length_map]
      exact lights_any _ hl l1
    rw [light_rot2]
    refine ⟨rfl, _, rfl, iteNS rfl ?_⟩
    have aI := sI _ _ aH
    have bI := sI _ _ bH
    have oI := sI _ _ oH
    have LI := sI _ _ LH
    have k6 := k5.same sI
    have u6 := u5.trans (But.of (T := t) sI)
    clear aH bH oH LH k5 u5
    -- low
    refine ⟨.int f, rfl, .inl ⟨f, rfl, .ref a, rfl, a, _, rfl, .inl (SqL.of aI), _, _, rfl, rfl, (by show (0 : Int) < _; rw [List.length_map]; omega), ?_⟩⟩
    rw [List.length_map]
    show gName 8 (V.int (f % (ns.length : Int))) _ _ _
    have hlow := mod_in (i := f) (show 0 < ns.length by omega)
    generalize f % (ns.length : Int) = low at hlow ⊢
    -- light_sum
    refine ⟨.ref a, rfl, .ref o, rfl, .int low, rfl, a, o, ns, rot ms y, low, 3, 99, rfl, SqL.of aI, SqL.of oI, hR, hRm, by rw [rot_len]; exact hl, by decide, by decide, fun HJ sJ => ?_⟩
    refine ⟨.ref a, rfl, .ref b, rfl, .int low, rfl, .int y, rfl, low, y, rfl, rfl, .inl ⟨_, rfl, .ref a, rfl, a, _, rfl, .inl (SqL.of (sJ _ _ aI)), _, _, rfl, rfl, (by show (0 : Int) < _; rw [List.length_map]; omega), ?_⟩⟩
    rw [List.length_map]
    refine ⟨a, b, ns, ms, _, 3, 99, rfl, SqL.of (sJ _ _ aI), SqL.of (sJ _ _ bI), hR, hR2, hl, by decide, by decide, fun HK sK => ?_⟩
    rw [far_rot2 hl]
    refine ⟨rfl, _, rfl, iteNS rfl ?_⟩
    have sIK := sJ.trans sK
    -- brights
    refine ⟨.ref a, rfl, .ref b, rfl, a, b, ns, ms, rfl, SqL.of (sIK _ _ aI), SqL.of (sIK _ _ bI), hR, hR2, hl, fun m bt HL hm hg sL fL eL => ?_⟩
    have sIL := sIK.trans sL
    refine ⟨bt, rfl, ⟨_, SqL.of eL⟩, fun D hD => ?_⟩
    have plen := places_len (fun x => decide (x = m)) (lightsV ns ms) ns.length
    generalize hpl : places (fun x => decide (x = m)) (lightsV ns ms) ns.length = pl at eL plen
    refine lc_list (K := K) (a := bt) (xs := pl.map V.int) (fun i H' => Same HL H' ∧ H' D = some (.lst (((pl.map fun one => (one - y) % (ns.length : Int)).take i).map V.int)))
      ⟨new_same hD, upd_same⟩ (fun i H' _ hP => SqL.of (hP.1 _ _ eL)) (fun i x HM hx hP => ⟨rfl, ?_⟩) (fun HM hP => ?_)
    · obtain ⟨sM, eM⟩ := hP
      obtain ⟨x, hx', rfl⟩ := int_at hx
      refine ⟨.int x, rfl, .int y, rfl, x, y, rfl, rfl, .inl ⟨_, rfl, .ref a, rfl, a, _, rfl, .inl (SqL.of ((sIL.trans sM) _ _ aI)), _, _, rfl, rfl, (by show (0 : Int) < _; rw [List.length_map]; omega), ?_⟩⟩
      rw [List.length_map]
      refine ⟨_, eM, ?_, same_over sM hD, ?_⟩
      · rw [List.length_map, List.length_take, List.length_map]
        exact sz40 (by omega)
      · rw [upd_same, take_next]
        rw [List.getElem?_map, hx']
        rfl
    obtain ⟨sM, eM⟩ := hP
    rw [take_all (by rw [List.length_map, List.length_map]; exact Nat.le_refl _)] at eM
    refine ⟨D, _, rfl, SqL.of eM, by rw [List.length_map]; omega, fun st D2 hperm hsort hD2 => ?_⟩
    have sN := sM.trans (new_same (o := .lst (st.map V.int)) hD2)
    have sIN := sIL.trans sN
    have gN : upd HM D2 (.lst (st.map V.int)) D2 = some (.lst (st.map V.int)) := upd_same
    generalize upd HM D2 (.lst (st.map V.int)) = HN at sN sIN gN ⊢
    rw [← hpl] at hperm
    have est := brights_rot hl l1 y m hperm hsort
    -- if brightest_turns(rim, other_here) != brights
    refine ⟨.ref a, rfl, .ref o, rfl, a, o, ns, rot ms y, rfl, SqL.of (sIN _ _ aI), SqL.of (sIN _ _ oI), hR, hRm, by rw [rot_len]; exact hl, fun m' bt2 HO hm' hg' sO fO eO => ?_⟩
    have memL : ∀ x, x ∈ lightsV ns (rot ms y) ↔ x ∈ lightsV ns ms := fun x => by
      rw [lights_rot2 hl, ← on_rot (0 - y) (by omega : 1 ≤ (lightsV ns ms).length)]
      rw [List.mem_append, or_comm, ← List.mem_append, List.take_append_drop]
    have em : m' = m := max_one ((memL _).mp hm') (fun z hz => hg' z ((memL z).mpr hz)) hm hg
    subst em
    rw [est] at eO
    have rS : RP (dI st) := by
      rw [← est]
      exact (places_ab _ _ (by omega)).rp (by decide)
    refine ⟨.ref D2, rfl, _, _, dp_ints (SqL.of eO), dp_ints (SqL.of (sO _ _ gN)), rS.shaped, rS.shaped, _, rfl, ?_⟩
    rw [rS.refl]
    refine iteF ?_
    have sIO := sIN.trans sO
    -- told
    refine ⟨.ref a, rfl, .ref o, rfl, .int low, rfl, .ref L, rfl, L, lightsV ns ms, rfl, SqL.of (sIO _ _ LI), by omega, fun mx hx1 hx2 => ?_⟩
    have emx : mx = m' := max_one hx1 hx2 hm hg
    subst emx
    refine ⟨a, o, ns, rot ms y, low, 1, mx, rfl, SqL.of (sIO _ _ aI), SqL.of (sIO _ _ oI), hR, hRm, by rw [rot_len]; exact hl, fun HP sP => ?_⟩
    have hpos : ∃ x r, places (fun x => decide (mx ≤ x)) (stepsV ns (rot ms y) low 1 ns.length) ns.length = x :: r := by
      cases e : places (fun x => decide (mx ≤ x)) (stepsV ns (rot ms y) low 1 ns.length) ns.length with
      | cons x r => exact ⟨x, r, rfl⟩
      | nil =>
        exfalso
        have h0 := places_none.mp e
        obtain ⟨i, hi⟩ := List.mem_iff_getElem?.mp hm
        have hin : i < ns.length := by
          have := (List.getElem?_eq_some_iff.mp hi).1
          omega
        rw [lightsV_at hin] at hi
        have hi := Option.some.inj hi
        have hmm := mod_in (i := (i : Int) - y - low) (show 0 < ns.length by omega)
        refine h0 (((i : Int) - y - low) % (ns.length : Int)).toNat (by omega) (decide_eq_true ?_)
        rw [stepsV_getD (by omega), Int.toNat_of_nonneg hmm.1, light_rot2, ← hi]
        refine Int.le_of_eq (lightV_congr ?_)
        rw [← hl, show low + 1 * (((i : Int) - y - low) % (ns.length : Int)) + y = ((i : Int) - y - low) % (ns.length : Int) + (low + y) by omega, Int.emod_add_emod, show (i : Int) - y - low + (low + y) = i by omega]
    obtain ⟨x, r, ex⟩ := hpos
    rw [ex]
    obtain ⟨i, exi, hi, hq⟩ := mem_places.mp (show x ∈ places (fun x => decide (mx ≤ x)) (stepsV ns (rot ms y) low 1 ns.length) ns.length by rw [ex]; exact List.mem_cons_self)
    subst exi
    have hq := of_decide_eq_true hq
    rw [stepsV_getD hi] at hq
    have hlm := mod_in (i := low + (i : Int)) (show 0 < ns.length by omega)
    have hin : (low + (i : Int)) % (ns.length : Int) ∈ st := by
      rw [← est]
      refine mem_places.mpr ⟨((low + (i : Int)) % (ns.length : Int)).toNat, by omega, by omega, decide_eq_true ?_⟩
      have hll : lightV ns (rot ms y) ((low + (i : Int)) % (ns.length : Int)) = lightV ns (rot ms y) (low + 1 * (i : Int)) := by
        refine lightV_congr ?_
        rw [rot_len, ← hl, Int.emod_emod, Int.one_mul]
      rw [lights_get (by omega), Int.toNat_of_nonneg hlm.1, hll]
      refine Int.le_antisymm (hg _ ((memL _).mp ?_)) hq
      rw [← hll]
      exact List.mem_of_getElem? (by rw [← Int.toNat_of_nonneg hlm.1]; exact lightsV_at (by omega))
    -- return
    refine ⟨.int low, rfl, .int i, rfl, low, i, rfl, rfl, .inl ⟨_, rfl, .ref a, rfl, a, _, rfl, .inl (SqL.of ((sIO.trans sP) _ _ aI)), _, _, rfl, rfl, (by show (0 : Int) < _; rw [List.length_map]; omega), ?_⟩⟩
    rw [List.length_map]
    refine ⟨.ref D2, rfl, D2, st.map V.int, rfl, .inl (SqL.of (sP _ _ (sO _ _ gN))), rfl, flat_ints st, ?_⟩
    rw [if_neg Bool.false_ne_true, inV_int, decide_eq_true hin]
    refine ⟨true, rfl, iteT ?_⟩
    refine ⟨.int i, rfl, 0, i, rfl, rfl, _, rfl, ?_⟩
    rw [if_pos (decide_eq_true (by omega))]
    refine ⟨.ref a, rfl, a, _, rfl, .inl (SqL.of ((sIO.trans sP) _ _ aI)), i, _, rfl, rfl, ?_⟩
    rw [List.length_map]
    show Q (.bl (decide ((i : Int) < (ns.length : Int)))) _
    rw [decide_eq_true (show (i : Int) < (ns.length : Int) by omega)]
    exact q _ (u6.trans (But.of (sIO.trans sP))) ((k6.mono (by omega)).same (sIO.trans sP))

/-! ### the law's look at what is like -/
def spFR : Sp := fun vs H Q _ => ∃ (t a : Addr) (ns : List Int) (c : Int), vs = [.ref t, .ref a] ∧ Tank H t c ∧ 0 ≤ c ∧ c < 2 ^ 37 ∧ a ≠ t ∧ H a = some (.lst (ns.map V.int)) ∧ Rim ns ∧
  ∀ H', But t H H' → Tank H' t (c + 5) → Q (.bl true) H'
theorem ok_law_forms_right (T : Txt K mg) : FnOk P w K mg base CX0 7 T.a_law_forms_right T.d_law_forms_right ["tank", "rim"] spFR := by
  have G_law_tap := ok_law_tap (P := P) (w := w) (base := base) T
  have G_law_drawn_turn := ok_law_drawn_turn (P := P) (w := w) (base := base) T
  have G_turned_disc := ok_turned_disc (P := P) (w := w) (base := base) T
  have G_mirrored_disc := ok_mirrored_disc (P := P) (w := w) (base := base) T
  have G_disc_period := ok_disc_period (P := P) (w := w) (base := base) T
  have G_least_disc := ok_least_disc (P := P) (w := w) (base := base) T
  have G_like_form := ok_like_form (P := P) (w := w) (base := base) T
  have G_are_like := ok_are_like (P := P) (w := w) (base := base) T
  have G_turn_between := ok_turn_between (P := P) (w := w) (base := base) T
  have G_is_disc := ok_is_disc (P := P) (w := w) (base := base) T
  refine T.F_law_forms_right.ok sc_law_forms_right (fun vs H Q E h => ?_) (fun cdv A outer s H vs Q E hr h => ?_)
  · obtain ⟨_, _, _, _, rfl, _⟩ := h
    rfl
  · obtain ⟨t, a, ns, c, rfl, hT, hc0, hc, hat, ha, hR, q⟩ := h
    refine ⟨_, (pss_cons (ps_set (i := 2) sc_law_forms_right.nd rfl (.inl rfl) (pe_call G_law_drawn_turn (hr.mono (by decide)) (by rfl) T.g_law_drawn_turn T.F_law_drawn_turn.kp T.b_law_drawn_turn .nil pass0 (pa_cons (pv 0) pa_nil)))
      (pss_cons (ps_set (i := 3) sc_law_forms_right.nd rfl (.inl rfl) (pe_ix (ixL (K := K) rfl) (pe_lst (pa_cons (pe_call G_turned_disc (hr.mono (by decide)) (by rfl) T.g_turned_disc T.F_turned_disc.kp T.b_turned_disc .nil pass0 (pa_cons (pv 1) (pa_cons (pv 2) pa_nil))) (pa_cons (pe_call G_turned_disc (hr.mono (by decide)) (by rfl) T.g_turned_disc T.F_turned_disc.kp T.b_turned_disc .nil pass0 (pa_cons (pe_call G_mirrored_disc (hr.mono (by decide)) (by rfl) T.g_mirrored_disc T.F_mirrored_disc.kp T.b_mirrored_disc .nil pass0 (pa_cons (pv 1) pa_nil)) (pa_cons (pv 2) pa_nil))) pa_nil))) (pe_call G_law_tap (hr.mono (by decide)) (by rfl) T.g_law_tap T.F_law_tap.kp T.b_law_tap .nil pass0 (pa_cons (pv 0) (pa_cons pe_int pa_nil))) (fun _ _ => rfl)))
      (pss_cons (ps_par (i := 4) (j := 5) (by rfl) sc_law_forms_right.nd rfl rfl (by decide) rfl rfl (pa_cons (pe_call G_disc_period (hr.mono (by decide)) (by rfl) T.g_disc_period T.F_disc_period.kp T.b_disc_period .nil pass0 (pa_cons (pv 1) pa_nil)) (pa_cons (pe_call G_least_disc (hr.mono (by decide)) (by rfl) T.g_least_disc T.F_least_disc.kp T.b_least_disc .nil pass0 (pa_cons (pv 1) pa_nil)) pa_nil)) (by rfl))
      (pss_cons (ps_if (PW.pt (pw_or (pt_cmpR op_ne (pe_call G_disc_period (hr.mono (by decide)) (by rfl) T.g_disc_period T.F_disc_period.kp T.b_disc_period .nil pass0 (pa_cons (pv 3) pa_nil)) (pv 4) (nomark _)) (pw_or (pt_cmpR (neD (K := K) rfl hr) (pe_call G_like_form (hr.mono (by decide)) (by rfl) T.g_like_form T.F_like_form.kp T.b_like_form .nil pass0 (pa_cons (pv 3) pa_nil)) (pe_call G_like_form (hr.mono (by decide)) (by rfl) T.g_like_form T.F_like_form.kp T.b_like_form .nil pass0 (pa_cons (pv 1) pa_nil)) (nomark _)) (pw_or1 (pt_not (pt_val (pe_call G_are_like hr (by rfl) T.g_are_like T.F_are_like.kp T.b_are_like .nil pass0 (pa_cons (pv 1) (pa_cons (pv 3) pa_nil))))))))) (pss_one (ps_ret pe_bl)) pss_nil)
      (pss_cons (ps_if (PW.pt (pw_or (pt_cmpR op_ne (pe_op op_mod (pe_callTy call_int1 (by rfl) T.n_int (by decide +kernel) (pa_cons (pe_callB (lenL (K := K) rfl) (by rfl) T.n_len (by decide +kernel) (pa_cons (pv 1) pa_nil)) pa_nil)) (pv 4)) pe_int (nomark _)) (pw_or (pt_cmpR (neD (K := K) rfl hr) (pe_call G_turned_disc (hr.mono (by decide)) (by rfl) T.g_turned_disc T.F_turned_disc.kp T.b_turned_disc .nil pass0 (pa_cons (pv 1) (pa_cons (pv 4) pa_nil))) (pv 1) (nomark _)) (pw_or1 (pt_not (pt_val (pe_call G_is_disc (hr.mono (by decide)) (by rfl) T.g_is_disc T.F_is_disc.kp T.b_is_disc .nil pass0 (pa_cons (pv 3) pa_nil)))))))) (pss_one (ps_ret pe_bl)) pss_nil)
      (pss_mid (ps_if (PW.pt (pw_and (pt_cmpR op_gt (pv 4) pe_int (nomark _)) (pw_and1 (pt_cmpR (eqD (K := K) rfl hr) (pe_call G_turned_disc (hr.mono (by decide)) (by rfl) T.g_turned_disc T.F_turned_disc.kp T.b_turned_disc .nil pass0 (pa_cons (pv 1) (pa_cons (pe_op op_add pe_int (pe_call G_law_tap (hr.mono (by decide)) (by rfl) T.g_law_tap T.F_law_tap.kp T.b_law_tap .nil pass0 (pa_cons (pv 0) (pa_cons (pe_op op_sub (pv 4) pe_int) pa_nil)))) pa_nil))) (pv 1) (nomark _))))) (pss_one (ps_ret pe_bl)) pss_nil)
      (pss_cons (ps_set (i := 6) sc_law_forms_right.nd rfl (.inl rfl) (pe_call G_turn_between hr (by rfl) T.g_turn_between T.F_turn_between.kp T.b_turn_between .nil pass0 (pa_cons (pv 1) (pa_cons (pv 5) pa_nil))))
      (pss_cons (ps_if (PW.pt (pw_or (pt_cmpR op_isN (pv 6) pe_non (nomark _)) (pw_or (pt_not (pt_chain op_le op_lt pe_int (pv 6) (pv 4))) (pw_or1 (pt_cmpR (neD (K := K) rfl hr) (pe_call G_turned_disc (hr.mono (by decide)) (by rfl) T.g_turned_disc T.F_turned_disc.kp T.b_turned_disc .nil pass0 (pa_cons (pv 1) (pa_cons (pv 6) pa_nil))) (pv 5) (nomark _)))))) (pss_one (ps_ret pe_bl)) pss_nil)
      (pss_cons (ps_if (PW.pt (pw_or (pt_cmpR op_ne (pe_call G_turn_between hr (by rfl) T.g_turn_between T.F_turn_between.kp T.b_turn_between .nil pass0 (pa_cons (pv 1) (pa_cons (pe_call G_turned_disc (hr.mono (by decide)) (by rfl) T.g_turned_disc T.F_turned_disc.kp T.b_turned_disc .nil pass0 (pa_cons (pv 1) (pa_cons (pv 2) pa_nil))) pa_nil))) (pe_op op_mod (pe_callTy call_int1 (by rfl) T.n_int (by decide +kernel) (pa_cons (pv 2) pa_nil)) (pv 4)) (nomark _)) (pw_or1 (pt_cmpR (neD (K := K) rfl hr) (pe_call G_least_disc (hr.mono (by decide)) (by rfl) T.g_least_disc T.F_least_disc.kp T.b_least_disc .nil pass0 (pa_cons (pe_call G_turned_disc (hr.mono (by decide)) (by rfl) T.g_turned_disc T.F_turned_disc.kp T.b_turned_disc .nil pass0 (pa_cons (pv 1) (pa_cons (pv 2) pa_nil))) pa_nil)) (pv 5) (nomark _))))) (pss_one (ps_ret pe_bl)) pss_nil)
      (pss_cons (ps_set (i := 7) sc_law_forms_right.nd rfl (.inl rfl) (pe_call G_like_form (hr.mono (by decide)) (by rfl) T.g_like_form T.F_like_form.kp T.b_like_form .nil pass0 (pa_cons (pv 1) pa_nil)))
      (pss_one (ps_ret (pe_and (pe_cmpR (op_leI (K := K) rfl hr) (pv 7) (pv 5) (nomark _)) (pe_and (pe_call G_are_like hr (by rfl) T.g_are_like T.F_are_like.kp T.b_are_like .nil pass0 (pa_cons (pv 7) (pa_cons (pv 1) pa_nil))) (pe_one (pe_cmpR (op_inT (K := K) rfl hr) (pv 7) (pe_tup (pa_cons (pv 5) (pa_cons (pe_call G_least_disc (hr.mono (by decide)) (by rfl) T.g_least_disc T.F_least_disc.kp T.b_least_disc .nil pass0 (pa_cons (pe_call G_mirrored_disc (hr.mono (by decide)) (by rfl) T.g_mirrored_disc T.F_mirrored_disc.kp T.b_mirrored_disc .nil pass0 (pa_cons (pv 1) pa_nil)) pa_nil)) pa_nil))) (by with_unfolding_all rfl))))))))))))))))), ?_⟩
    have l40 := hR.le
    have l1 := hR.pos
    obtain ⟨p, pr, eP⟩ := per_ex l1
    have PP := per_of eP
    have hp0 := PP.pos
    have hpl := PP.le
    have hv : headV (perL ns) = .int p := by rw [eP]; rfl
    -- by
    refine ⟨.ref t, rfl, t, c, rfl, hT, by omega, by omega, fun y H1 y0 y1 k1 u1 => ?_⟩
    have a1 := u1 _ _ ha hat
    -- twin
    refine ⟨.ref a, rfl, .int y, rfl, a, ns, y, rfl, SqL.of a1, hR, fun x1 H2 s2 f1 e1 => ?_⟩
    refine ⟨.ref a, rfl, a, ns, rfl, s2.seq (SqL.of a1), hR, fun mi H3 s3 fm em => ?_⟩
    refine ⟨.int y, rfl, mi, mir ns, y, rfl, SqL.of em, hR.mir, fun x2 H4 s4 f2 e2 => ?_⟩
    have s14 := (s2.trans s3).trans s4
    refine ⟨(by show 2 ≤ sizeLine; decide), fun S hS => ?_⟩
    have sS := new_same (o := .lst [.ref x1, .ref x2]) hS
    refine ⟨.ref t, rfl, t, 2, c + 3, rfl, by omega, by omega, (k1.same s14).up hS, by omega, fun r H5 r0 r1 k5 u5 => ?_⟩
    have n1 : x1 ≠ t := k1.ne f1
    have n2 : x2 ≠ t := (k1.same (s2.trans s3)).ne f2
    have nS : S ≠ t := (k1.same s14).ne hS
    obtain ⟨v, hvm, hva⟩ := at_any (xs := [V.ref x1, .ref x2]) r0 (by show r < 2; omega)
    have g1 := u5 _ _ (sS _ _ (s4 _ _ (s3 _ _ e1))) n1
    have g2 := u5 _ _ (sS _ _ e2) n2
    obtain ⟨tw, ts, rfl, ntw, etw, hts⟩ : ∃ (tw : Addr) (ts : List Int), v = .ref tw ∧ tw ≠ t ∧ H5 tw = some (.lst (ts.map V.int)) ∧ (ts = rot ns y ∨ ts = rot (mir ns) y) := by
      simp only [List.mem_cons, List.not_mem_nil, or_false] at hvm
      rcases hvm with rfl | rfl
      · exact ⟨x1, _, rfl, n1, g1, .inl rfl⟩
      · exact ⟨x2, _, rfl, n2, g2, .inr rfl⟩
    refine ⟨S, _, r, .ref tw, rfl, rfl, SqL.of (u5 _ _ upd_same nS), hva, ?_⟩
    have u15 : But t H H5 := (u1.trans ((But.of s14).trans (But.of sS))).trans u5
    have a5 := u15 _ _ ha hat
    have hbo : ts ∈ bothL ns := (mem_both l1).mpr ⟨y, hts⟩
    have hRt : Rim ts := hR.of_both hbo
    have hlt : ts.length = ns.length := both_len l1 hbo
    have hpt : perL ts = perL ns := by
      rcases hts with rfl | rfl
      · exact per_rot y
      · rw [per_rot, per_mir]
    have hset : ∀ x, x ∈ bothL ts ↔ x ∈ bothL ns := fun x => ⟨both_sub l1 hbo, both_sub (by omega) (both_symm l1 hbo)⟩
    clear s2 s3 s4 s14 sS g1 g2 e1 e2 em f1 f2 fm a1 k1
    -- size, least
    refine ⟨.ref a, rfl, a, ns, rfl, SqL.of a5, hR, fun H6 s6 => ?_⟩
    rw [hv]
    refine ⟨.ref a, rfl, a, ns, rfl, s6.seq (SqL.of a5), hR, fun le m H7 s7 fe ee Lm => ⟨_, _, rfl, ?_⟩⟩
    have s57 := s6.trans s7
    have a7 := s57 _ _ a5
    have t7 := s57 _ _ etw
    have k7 := k5.same s57
    have u7 := u15.trans (But.of (T := t) s57)
    have nle : le ≠ t := (k5.same s6).ne fe
    have hRm : Rim m := hR.of_both (List.mem_append_left _ Lm.1)
    have hlm : m.length = ns.length := both_len l1 (List.mem_append_left _ Lm.1)
    clear s6 s7 s57 a5 etw k5 u15
    -- if 1
    refine ⟨.ref tw, rfl, tw, ts, rfl, SqL.of t7, hRt, fun H8 s8 => ?_⟩
    rw [hpt, hv]
    refine ⟨.int p, rfl, rfl, _, rfl, iteNS rfl ?_⟩
    refine ⟨.ref tw, rfl, tw, ts, rfl, s8.seq (SqL.of t7), hRt, fun l9 m9 H9 s9 f9 e9 L9 => ?_⟩
    have s79 := s8.trans s9
    refine ⟨.ref a, rfl, a, ns, rfl, s79.seq (SqL.of a7), hR, fun lA mA HA sA fA eA LA => ?_⟩
    have em9 := least_one (least_set L9 hset) LA
    subst em9
    have r9 : Rim m9 := hR.of_both LA.1
    have s7A := s79.trans sA
    refine ⟨_, _, dp_ints (SqL.of (sA _ _ e9)), dp_ints (SqL.of eA), r9.rp.shaped, r9.rp.shaped, _, rfl, ?_⟩
    rw [r9.rp.refl]
    refine iteF ?_
    refine ⟨.ref a, rfl, .ref tw, rfl, a, tw, ns, ts, rfl, s7A.seq (SqL.of a7), s7A.seq (SqL.of t7), hR, hRt, hlt.symm, fun HB sB => ?_⟩
    rw [decide_eq_true hbo]
    refine ⟨true, rfl, iteF ?_⟩
    have s7B := s7A.trans sB
    -- if 2
    refine ⟨.ref a, rfl, a, _, rfl, .inl (s7B.seq (SqL.of a7)), .inl ⟨_, rfl, .int p, rfl, _, _, rfl, rfl, (by show (0 : Int) < p; omega), ?_⟩⟩
    rw [List.length_map]
    refine ⟨rfl, _, rfl, iteNS (congrArg V.int PP.dvd) ?_⟩
    refine ⟨.ref a, rfl, .int p, rfl, a, ns, p, rfl, s7B.seq (SqL.of a7), hR, fun lC HC sC fC eC => ?_⟩
    rw [PP.fix] at eC
    have s7C := s7B.trans sC
    refine ⟨.ref a, rfl, _, _, dp_ints (SqL.of eC), dp_ints (s7C.seq (SqL.of a7)), hR.rp.shaped, hR.rp.shaped, _, rfl, ?_⟩
    rw [hR.rp.refl]
    refine iteF ?_
    refine ⟨.ref tw, rfl, tw, ts, rfl, s7C.seq (SqL.of t7), hRt, fun HD sD => ?_⟩
    refine ⟨true, rfl, iteF ?_⟩
    have s7D := s7C.trans sD
    have aD := s7D _ _ a7
    have leD := s7D _ _ ee
    have kD := k7.same s7D
    have uD := u7.trans (But.of (T := t) s7D)
    clear s8 s9 s79 sA s7A sB s7B sC s7C sD s7D eC e9 eA a7 ee k7 u7
    -- if 3
    refine ⟨fun σ' H' => σ' = [some (.ref t), some (.ref a), some (.int y), some (.ref tw), some (.int p), some (.ref le), none, none] ∧ But t HD H' ∧ Tank H' t (c + 5), ?_, fun σ' HE hM => ?_⟩
    · refine ⟨.int p, rfl, p, 1, rfl, rfl, _, rfl, ite2 (fun h => ?_) (fun h => ?_)⟩
      · have h : p > 1 := of_decide_eq_true h
        refine ⟨.ref a, rfl, .ref t, rfl, .int p, rfl, p, 1, rfl, rfl, t, p - 1, c + 3 + 1, rfl, by omega, by omega, kD, by omega, fun z HE z0 z1 kE uE => ?_⟩
        have aE := uE _ _ aD hat
        refine ⟨1, z, rfl, rfl, a, ns, 1 + z, rfl, SqL.of aE, hR, fun lF HF sF fF eF => ?_⟩
        refine ⟨.ref a, rfl, _, _, dp_ints (SqL.of eF), dp_ints (sF.seq (SqL.of aE)), (hR.rot _).rp.shaped, hR.rp.shaped, ?_⟩
        rw [eqv_dI, decide_eq_false (PP.low (1 + z) (by omega) (by omega))]
        refine ⟨false, rfl, iteF ?_⟩
        exact ⟨rfl, uE.trans (But.of sF), (kE.mono (by omega)).same sF⟩
      · exact ⟨rfl, But.refl t HD, kD.mono (by omega)⟩
    obtain ⟨rfl, uE, kE⟩ := hM
    have aE := uE _ _ aD hat
    have leE := uE _ _ leD nle
    have uE2 := uD.trans uE
    clear aD leD kD uD uE
    -- told
    refine ⟨.ref a, rfl, .ref le, rfl, a, le, ns, m, rfl, SqL.of aE, SqL.of leE, hR, hRm, hlm.symm, fun HF sF => ?_⟩
    obtain ⟨t0, et0⟩ := (mem_turns l1).mp Lm.1
    have hm0 := mod_in (i := t0) (show 0 < ns.length by omega)
    obtain ⟨q0, qr, eq0⟩ := hits_ex (xs := ns) (ys := m) (o := 0) (k := ns.length) hm0.1 (by omega) (by rw [rot_mod, et0])
    obtain ⟨q1, q2, q3⟩ := PP.first eq0
    have hq : headV (hits ns m 0 ns.length) = .int q0 := by rw [eq0]; rfl
    rw [hq]
    -- if 4
    refine ⟨.int q0, rfl, rfl, _, rfl, iteF ?_⟩
    refine ⟨.int q0, rfl, 0, q0, rfl, rfl, _, rfl, ?_⟩
    rw [if_pos (decide_eq_true q1)]
    refine ⟨.int p, rfl, q0, p, rfl, rfl, _, rfl, iteNS q2 ?_⟩
    refine ⟨.ref a, rfl, .int q0, rfl, a, ns, q0, rfl, sF.seq (SqL.of aE), hR, fun lG HG sG fG eG => ?_⟩
    rw [q3] at eG
    have sEG := sF.trans sG
    refine ⟨.ref le, rfl, _, _, dp_ints (SqL.of eG), dp_ints (sEG.seq (SqL.of leE)), hRm.rp.shaped, hRm.rp.shaped, _, rfl, ?_⟩
    rw [hRm.rp.refl]
    refine iteF ?_
    -- if 5
    refine ⟨.ref a, rfl, .ref a, rfl, .int y, rfl, a, ns, y, rfl, sEG.seq (SqL.of aE), hR, fun lH HH sH fH eH => ?_⟩
    have sEH := sEG.trans sH
    refine ⟨a, lH, ns, rot ns y, rfl, sEH.seq (SqL.of aE), SqL.of eH, hR, hR.rot y, (rot_len _ _).symm, fun HI sI => ?_⟩
    have sEI := sEH.trans sI
    have hm1 := mod_in (i := y) (show 0 < ns.length by omega)
    obtain ⟨w0, wr, ew0⟩ := hits_ex (xs := ns) (ys := rot ns y) (o := 0) (k := ns.length) hm1.1 (by omega) (rot_mod ns y)
    have hw : headV (hits ns (rot ns y) 0 ns.length) = .int (y % p) := by rw [ew0, PP.between ew0]; rfl
    rw [hw]
    refine ⟨.int y, rfl, .inl ⟨y, rfl, .int p, rfl, y, p, rfl, rfl, (by show (0 : Int) < p; omega), rfl, _, rfl, iteNS rfl ?_⟩⟩
    refine ⟨.ref a, rfl, .int y, rfl, a, ns, y, rfl, sEI.seq (SqL.of aE), hR, fun lJ HJ sJ fJ eJ => ?_⟩
    refine ⟨lJ, rot ns y, rfl, SqL.of eJ, hR.rot y, fun lK mK HK sK fK eK LK => ?_⟩
    have htset : ∀ x, x ∈ turnsL (rot ns y) ↔ x ∈ turnsL ns := fun x => by
      rw [mem_turns (by rw [rot_len]; exact l1), mem_turns l1]
      constructor
      · rintro ⟨z, rfl⟩
        exact ⟨y + z, rot_add _ _ _⟩
      · rintro ⟨z, rfl⟩
        exact ⟨z - y, by rw [rot_add, show y + (z - y) = z by omega]⟩
    have emK := least_one (least_set LK htset) Lm
    subst emK
    have sEK := (sEI.trans sJ).trans sK
    refine ⟨.ref le, rfl, _, _, dp_ints (SqL.of eK), dp_ints (sEK.seq (SqL.of leE)), hRm.rp.shaped, hRm.rp.shaped, _, rfl, ?_⟩
    rw [hRm.rp.refl]
    refine iteF ?_
    -- form
    refine ⟨.ref a, rfl, a, ns, rfl, sEK.seq (SqL.of aE), hR, fun fo mf HL sL ff ef Lf => ?_⟩
    have sEL := sEK.trans sL
    have hRf : Rim mf := hR.of_both Lf.1
    have hlf := both_len l1 Lf.1
    -- return
    refine ⟨.ref fo, rfl, .ref le, rfl, mf, mK, dp_ints (SqL.of ef), dp_ints (sEL.seq (SqL.of leE)), _, rfl, ?_⟩
    rw [Lf.2 mK (List.mem_append_left _ Lm.1)]
    refine iteT ?_
    refine ⟨.ref fo, rfl, .ref a, rfl, fo, a, mf, ns, rfl, SqL.of ef, sEL.seq (SqL.of aE), hRf, hR, hlf, fun HM sM => ?_⟩
    rw [decide_eq_true (both_symm l1 Lf.1)]
    refine ⟨true, rfl, iteT ?_⟩
    have sEM := sEL.trans sM
    refine ⟨.ref fo, rfl, .ref le, rfl, .ref a, rfl, a, ns, rfl, sEM.seq (SqL.of aE), hR, fun mm HN sN fN eN => ?_⟩
    refine ⟨mm, mir ns, rfl, SqL.of eN, hR.mir, fun lm m3 HO sO fO eO LO => ?_⟩
    have sEO := (sEM.trans sN).trans sO
    refine ⟨(by show 2 ≤ sizeLine; decide), fun tp htp => ?_⟩
    have sT := new_same (o := .tup [.ref le, .ref lm]) htp
    have efO := sT _ _ (sO _ _ (sN _ _ (sM _ _ ef)))
    have leO := sT _ _ (sEO _ _ leE)
    refine ⟨mf, [mK, m3], dp_ints (SqL.of efO), .tup (SqT.of upd_same) (.cons (dp_ints (SqL.of leO)) (.cons (dp_ints (SqL.of (sT _ _ eO))) .nil)), ?_⟩
    have hin : mf ∈ [mK, m3] := by
      have e := least_one Lf (least_app Lm LO)
      cases z : LtI m3 mK with
      | true =>
        rw [z] at e
        rw [e]
        exact List.mem_cons_of_mem _ List.mem_cons_self
      | false =>
        rw [z] at e
        rw [e]
        exact List.mem_cons_self
    rw [decide_eq_true hin]
    exact q _ (uE2.trans ((But.of sEO).trans (But.of sT))) ((kE.same sEO).same sT)

def spLaw (K : PySem.W.Frag) : Sp := fun vs H Q _ => ∃ (a : Addr) (ns : List Int), vs = [.ref a] ∧ SqL K H a (ns.map V.int) ∧ ns.length ≤ 63 ∧ ∀ H', Q (.bl true) H'

theorem ok_law (T : Txt K mg) : FnG P w K mg base CX0 8 T.a_law T.d_law ["script"] (spLaw K) := by
  have G_law_tank := ok_law_tank (P := P) (w := w) (base := base) T
  have G_law_drawn_count := ok_law_drawn_count (P := P) (w := w) (base := base) T
  have G_law_drawn_rim := ok_law_drawn_rim (P := P) (w := w) (base := base) T
  have G_law_lights_right := ok_law_lights_right (P := P) (w := w) (base := base) T
  have G_law_forms_right := ok_law_forms_right (P := P) (w := w) (base := base) T
  refine okG T.F_law sc_law (fun vs H Q E h => ?_) (fun cdv A outer s H vs Q E hg hr h => ?_)
  · obtain ⟨_, _, rfl, _⟩ := h
    rfl
  · obtain ⟨a, ns, rfl, hS, hlen, q⟩ := h
    refine ⟨_, (pss_cons (ps_for PassesOwn.never rfl (pi_range1 (by rfl) T.n_range (pa_cons (pe_callB (call_max2 rfl) (by rfl) T.n_max (by decide +kernel) (pa_cons pe_int (pa_cons (pe_callB (call_min2 rfl) (by rfl) T.n_min (by decide +kernel) (pa_cons pe_int (pa_cons (pe_callB (lenL (K := K) rfl) (by rfl) T.n_len (by decide +kernel) (pa_cons (pv 0) pa_nil)) pa_nil))) pa_nil))) pa_nil)) (pg_name (i := 1) sc_law.nd rfl (.inl rfl)) (pss_cons (ps_set (i := 2) sc_law.nd rfl (.inl rfl) (pe_call G_law_tank (hr.mono (by decide)) (by rfl) T.g_law_tank T.F_law_tank.kp T.b_law_tank .nil pass0 (pa_cons (pv 0) (pa_cons (pv 1) pa_nil))))
      (pss_one (ps_for PassesOwn.never rfl (pi_range1 (by rfl) T.n_range (pa_cons pe_int pa_nil)) (pg_name (i := 3) sc_law.nd rfl (.inl rfl)) (pss_cons (ps_set (i := 4) sc_law.nd rfl (.inl rfl) (pe_call G_law_drawn_rim (hr.mono (by decide)) (by rfl) T.g_law_drawn_rim T.F_law_drawn_rim.kp T.b_law_drawn_rim .nil pass0 (pa_cons (pv 2) (pa_cons (pe_call G_law_drawn_count (hr.mono (by decide)) (by rfl) T.g_law_drawn_count T.F_law_drawn_count.kp T.b_law_drawn_count .nil pass0 (pa_cons (pv 2) (pa_cons (pe_ix (ixL (K := K) rfl) (pe_lst (pa_cons pe_int (pa_cons pe_int (pa_cons pe_int (pa_cons pe_int (pa_cons pe_int pa_nil)))))) (pv 3) (fun _ _ => rfl)) pa_nil))) pa_nil))))
      (pss_one (ps_if (PW.pt (pw_or (pt_not (pt_val (pe_call G_law_lights_right hr (by rfl) T.g_law_lights_right T.F_law_lights_right.kp T.b_law_lights_right .nil pass0 (pa_cons (pv 2) (pa_cons (pv 4) (pa_cons (pe_call G_law_drawn_rim (hr.mono (by decide)) (by rfl) T.g_law_drawn_rim T.F_law_drawn_rim.kp T.b_law_drawn_rim .nil pass0 (pa_cons (pv 2) (pa_cons (pe_callB (lenL (K := K) rfl) (by rfl) T.n_len (by decide +kernel) (pa_cons (pv 4) pa_nil)) pa_nil))) pa_nil)))))) (pw_or1 (pt_not (pt_val (pe_call G_law_forms_right hr (by rfl) T.g_law_forms_right T.F_law_forms_right.kp T.b_law_forms_right .nil pass0 (pa_cons (pv 2) (pa_cons (pv 4) pa_nil)))))))) (pss_one (ps_ret pe_bl)) pss_nil)))))))
      (pss_one (ps_ret pe_bl))), ?_⟩
    refine ⟨.ref a, rfl, a, _, rfl, .inl hS, 3, _, rfl, 1, _, rfl, _, rfl, ?_, ?_, for_range (lo := 0)
      (fun i σ H' => ∃ y1 y2 y3 y4 : Option V, σ = [some (.ref a), y1, y2, y3, y4] ∧ Same H H' ∧ i ≤ 4) ⟨none, none, none, none, rfl, Same.refl H, by omega⟩ (fun i σ H1 hi hP => ?_) (fun σ H1 hP => ?_)⟩
    · split <;> split <;> omega
    · split <;> split <;> omega
    · obtain ⟨y1, y2, y3, y4, rfl, s1, _⟩ := hP
      have hi4 : i < 4 := by
        revert hi
        split <;> split <;> omega
      refine ⟨.ref a, rfl, .int (0 + i), rfl, a, ns, 0 + i, rfl, s1.seq hS, by omega, by omega, fun t H2 s2 ht k2 => ?_⟩
      refine ⟨5, rfl, by decide, by decide, for_range (lo := 0) (n := (5 : Int).toNat) (fun j σ H' => ∃ z3 z4 : Option V, σ = [some (.ref a), some (.int (0 + i)), some (.ref t), z3, z4] ∧ But t H2 H' ∧ Tank H' t (1000 * j))
        ⟨_, _, rfl, But.refl t H2, k2.mono (by omega)⟩ (fun j σ H3 hj hP => ?_) (fun σ H3 hP => ?_)⟩
      · obtain ⟨z3, z4, rfl, u3, k3⟩ := hP
        have hj5 : j < 5 := hj
        -- rim
        refine ⟨.ref t, rfl, .ref t, rfl, (by show 5 ≤ sizeLine; decide), fun l hl => ?_⟩
        obtain ⟨m, hm, hat⟩ := at_in (ns := [40, 12, 20, 6, 9]) (i := 0 + (j : Int)) (by omega) (by show _ < ((5 : Nat) : Int); omega)
        have hm1 : 1 ≤ m ∧ m ≤ 40 := by
          have := List.mem_of_getElem? hm
          simp only [List.mem_cons, List.not_mem_nil, or_false] at this
          omega
        refine ⟨.int (0 + j), rfl, l, _, _, .int m, rfl, rfl, SqL.of upd_same, hat, ?_⟩
        refine ⟨t, m, 1000 * j, rfl, hm1.1, hm1.2, k3.up hl, by omega, by omega, fun r H4 r1 r2 k4 u4 => ?_⟩
        refine ⟨t, r, 1000 * j + 3, rfl, r1, by omega, k4, by omega, by omega, fun l2 ns2 H5 hR hl2 u5 hf5 hl5 k5 => ?_⟩
        have n2 := k4.ne hf5
        -- if
        refine ⟨.ref t, rfl, .ref l2, rfl, .ref t, rfl, .ref l2, rfl, l2, _, rfl, .inl (SqL.of hl5), t, _, 1000 * j + 3 + 60, rfl, by rw [List.length_map]; have := hR.pos; omega, by rw [List.length_map]; have := hR.le; omega, k5, by omega, by omega, fun l3 ns3 H6 hR3 hl3 u6 hf6 hl6 k6 => ?_⟩
        rw [List.length_map] at hl3
        have n3 := k5.ne hf6
        refine ⟨t, l2, l3, ns2, ns3, 1000 * j + 3 + 60 + 60, rfl, k6, by omega, by omega, n2, n3, u6 _ _ hl5 n2, hl6, hR, hR3, by omega, fun H7 u7 k7 => ?_⟩
        refine ⟨true, rfl, iteF ?_⟩
        have g2 := u7 _ _ (u6 _ _ hl5 n2) n2
        refine ⟨.ref t, rfl, .ref l2, rfl, t, l2, ns2, 1000 * j + 3 + 60 + 60 + 6, rfl, k7, by omega, by omega, n2, g2, hR, fun H8 u8 k8 => ?_⟩
        refine ⟨true, rfl, iteF ?_⟩
        exact ⟨_, _, rfl, (((((u3.trans (But.of (new_same hl))).trans u4).trans u5).trans u6).trans u7).trans u8, k8.mono (by omega)⟩
      · obtain ⟨z3, z4, rfl, u3, k3⟩ := hP
        refine ⟨_, _, _, _, rfl, fun b o e => u3 _ _ (s2 _ _ (s1 _ _ e)) (fun z => ?_), by omega⟩
        have e1 := s1 _ _ e
        rw [z, ht] at e1
        cases e1
    · obtain ⟨y1, y2, y3, y4, rfl, s1, _⟩ := hP
      exact q _

end
/-! ### what the top has written, and the end -/
theorem all_mk {l : PySem.W.OpenLaw} {w : World} {K : PySem.W.Frag} {h : Heap} {mg : Str → Option Value} {fa : Addr} (X : K.In h) (G : h.Ns mainGlobals mg) (hfa : mg "law" = some (.ref fa))
    {f0 : Addr} {od0 an0 : Option Addr} {sl0 : Array (Option Value)} {oc0 kV0 dc0 pm0 cd0 ct0 : Value}
    (a0 : PySem.W.nsIn K mainGlobals "turned_list" = some (some (.ref f0))) (l0 : K.lookup f0 = some ⟨oc0, od0, .func (PySem.W.fnOf "turned_list" "turned_list" (defArgs s_turned_list) (defBody s_turned_list) (defScope s_turned_list) .none kV0 dc0 pm0 an0 cd0 ct0), sl0⟩) (c0 : PySem.W.codeIn K cd0 "turned_list" = true) (k0 : PySem.W.keepIn K (.ref f0) = true)
    {f1 : Addr} {od1 an1 : Option Addr} {sl1 : Array (Option Value)} {oc1 kV1 dc1 pm1 cd1 ct1 : Value}
    (a1 : PySem.W.nsIn K mainGlobals "mirrored_list" = some (some (.ref f1))) (l1 : K.lookup f1 = some ⟨oc1, od1, .func (PySem.W.fnOf "mirrored_list" "mirrored_list" (defArgs s_mirrored_list) (defBody s_mirrored_list) (defScope s_mirrored_list) .none kV1 dc1 pm1 an1 cd1 ct1), sl1⟩) (c1 : PySem.W.codeIn K cd1 "mirrored_list" = true) (k1 : PySem.W.keepIn K (.ref f1) = true)
    {f2 : Addr} {od2 an2 : Option Addr} {sl2 : Array (Option Value)} {oc2 kV2 dc2 pm2 cd2 ct2 : Value}
    (a2 : PySem.W.nsIn K mainGlobals "light_between" = some (some (.ref f2))) (l2 : K.lookup f2 = some ⟨oc2, od2, .func (PySem.W.fnOf "light_between" "light_between" (defArgs s_light_between) (defBody s_light_between) (defScope s_light_between) .none kV2 dc2 pm2 an2 cd2 ct2), sl2⟩) (c2 : PySem.W.codeIn K cd2 "light_between" = true) (k2 : PySem.W.keepIn K (.ref f2) = true)
    {f3 : Addr} {od3 an3 : Option Addr} {sl3 : Array (Option Value)} {oc3 kV3 dc3 pm3 cd3 ct3 : Value}
    (a3 : PySem.W.nsIn K mainGlobals "lights_between" = some (some (.ref f3))) (l3 : K.lookup f3 = some ⟨oc3, od3, .func (PySem.W.fnOf "lights_between" "lights_between" (defArgs s_lights_between) (defBody s_lights_between) (defScope s_lights_between) .none kV3 dc3 pm3 an3 cd3 ct3), sl3⟩) (c3 : PySem.W.codeIn K cd3 "lights_between" = true) (k3 : PySem.W.keepIn K (.ref f3) = true)
    {f4 : Addr} {od4 an4 : Option Addr} {sl4 : Array (Option Value)} {oc4 kV4 dc4 pm4 cd4 ct4 : Value}
    (a4 : PySem.W.nsIn K mainGlobals "is_integer" = some (some (.ref f4))) (l4 : K.lookup f4 = some ⟨oc4, od4, .func (PySem.W.fnOf "is_integer" "is_integer" (defArgs s_is_integer) (defBody s_is_integer) (defScope s_is_integer) .none kV4 dc4 pm4 an4 cd4 ct4), sl4⟩) (c4 : PySem.W.codeIn K cd4 "is_integer" = true) (k4 : PySem.W.keepIn K (.ref f4) = true)
    {f5 : Addr} {od5 an5 : Option Addr} {sl5 : Array (Option Value)} {oc5 kV5 dc5 pm5 cd5 ct5 : Value}
    (a5 : PySem.W.nsIn K mainGlobals "has_slots" = some (some (.ref f5))) (l5 : K.lookup f5 = some ⟨oc5, od5, .func (PySem.W.fnOf "has_slots" "has_slots" (defArgs s_has_slots) (defBody s_has_slots) (defScope s_has_slots) .none kV5 dc5 pm5 an5 cd5 ct5), sl5⟩) (c5 : PySem.W.codeIn K cd5 "has_slots" = true) (k5 : PySem.W.keepIn K (.ref f5) = true)
    {f6 : Addr} {od6 an6 : Option Addr} {sl6 : Array (Option Value)} {oc6 kV6 dc6 pm6 cd6 ct6 : Value}
    (a6 : PySem.W.nsIn K mainGlobals "wrong_light" = some (some (.ref f6))) (l6 : K.lookup f6 = some ⟨oc6, od6, .func (PySem.W.fnOf "wrong_light" "wrong_light" (defArgs s_wrong_light) (defBody s_wrong_light) (defScope s_wrong_light) .none kV6 dc6 pm6 an6 cd6 ct6), sl6⟩) (c6 : PySem.W.codeIn K cd6 "wrong_light" = true) (k6 : PySem.W.keepIn K (.ref f6) = true)
    {f7 : Addr} {od7 an7 : Option Addr} {sl7 : Array (Option Value)} {oc7 kV7 dc7 pm7 cd7 ct7 : Value}
    (a7 : PySem.W.nsIn K mainGlobals "wrong_slot" = some (some (.ref f7))) (l7 : K.lookup f7 = some ⟨oc7, od7, .func (PySem.W.fnOf "wrong_slot" "wrong_slot" (defArgs s_wrong_slot) (defBody s_wrong_slot) (defScope s_wrong_slot) .none kV7 dc7 pm7 an7 cd7 ct7), sl7⟩) (c7 : PySem.W.codeIn K cd7 "wrong_slot" = true) (k7 : PySem.W.keepIn K (.ref f7) = true)
    {f8 : Addr} {od8 an8 : Option Addr} {sl8 : Array (Option Value)} {oc8 kV8 dc8 pm8 cd8 ct8 : Value}
    (a8 : PySem.W.nsIn K mainGlobals "check_disc" = some (some (.ref f8))) (l8 : K.lookup f8 = some ⟨oc8, od8, .func (PySem.W.fnOf "check_disc" "check_disc" (defArgs s_check_disc) (defBody s_check_disc) (defScope s_check_disc) .none kV8 dc8 pm8 an8 cd8 ct8), sl8⟩) (c8 : PySem.W.codeIn K cd8 "check_disc" = true) (k8 : PySem.W.keepIn K (.ref f8) = true)
    {f9 : Addr} {od9 an9 : Option Addr} {sl9 : Array (Option Value)} {oc9 kV9 dc9 pm9 cd9 ct9 : Value}
    (a9 : PySem.W.nsIn K mainGlobals "check_discs" = some (some (.ref f9))) (l9 : K.lookup f9 = some ⟨oc9, od9, .func (PySem.W.fnOf "check_discs" "check_discs" (defArgs s_check_discs) (defBody s_check_discs) (defScope s_check_discs) .none kV9 dc9 pm9 an9 cd9 ct9), sl9⟩) (c9 : PySem.W.codeIn K cd9 "check_discs" = true) (k9 : PySem.W.keepIn K (.ref f9) = true)
    {f10 : Addr} {od10 an10 : Option Addr} {sl10 : Array (Option Value)} {oc10 kV10 dc10 pm10 cd10 ct10 : Value}
    (a10 : PySem.W.nsIn K mainGlobals "check_turn" = some (some (.ref f10))) (l10 : K.lookup f10 = some ⟨oc10, od10, .func (PySem.W.fnOf "check_turn" "check_turn" (defArgs s_check_turn) (defBody s_check_turn) (defScope s_check_turn) .none kV10 dc10 pm10 an10 cd10 ct10), sl10⟩) (c10 : PySem.W.codeIn K cd10 "check_turn" = true) (k10 : PySem.W.keepIn K (.ref f10) = true)
    {f11 : Addr} {od11 an11 : Option Addr} {sl11 : Array (Option Value)} {oc11 kV11 dc11 pm11 cd11 ct11 : Value}
    (a11 : PySem.W.nsIn K mainGlobals "check_number" = some (some (.ref f11))) (l11 : K.lookup f11 = some ⟨oc11, od11, .func (PySem.W.fnOf "check_number" "check_number" (defArgs s_check_number) (defBody s_check_number) (defScope s_check_number) .none kV11 dc11 pm11 an11 cd11 ct11), sl11⟩) (c11 : PySem.W.codeIn K cd11 "check_number" = true) (k11 : PySem.W.keepIn K (.ref f11) = true)
    {f12 : Addr} {od12 an12 : Option Addr} {sl12 : Array (Option Value)} {oc12 kV12 dc12 pm12 cd12 ct12 : Value}
    (a12 : PySem.W.nsIn K mainGlobals "check_count" = some (some (.ref f12))) (l12 : K.lookup f12 = some ⟨oc12, od12, .func (PySem.W.fnOf "check_count" "check_count" (defArgs s_check_count) (defBody s_check_count) (defScope s_check_count) .none kV12 dc12 pm12 an12 cd12 ct12), sl12⟩) (c12 : PySem.W.codeIn K cd12 "check_count" = true) (k12 : PySem.W.keepIn K (.ref f12) = true)
    {f13 : Addr} {od13 an13 : Option Addr} {sl13 : Array (Option Value)} {oc13 kV13 dc13 pm13 cd13 ct13 : Value}
    (a13 : PySem.W.nsIn K mainGlobals "light_at" = some (some (.ref f13))) (l13 : K.lookup f13 = some ⟨oc13, od13, .func (PySem.W.fnOf "light_at" "light_at" (defArgs s_light_at) (defBody s_light_at) (defScope s_light_at) .none kV13 dc13 pm13 an13 cd13 ct13), sl13⟩) (c13 : PySem.W.codeIn K cd13 "light_at" = true) (k13 : PySem.W.keepIn K (.ref f13) = true)
    {f14 : Addr} {od14 an14 : Option Addr} {sl14 : Array (Option Value)} {oc14 kV14 dc14 pm14 cd14 ct14 : Value}
    (a14 : PySem.W.nsIn K mainGlobals "all_lights" = some (some (.ref f14))) (l14 : K.lookup f14 = some ⟨oc14, od14, .func (PySem.W.fnOf "all_lights" "all_lights" (defArgs s_all_lights) (defBody s_all_lights) (defScope s_all_lights) .none kV14 dc14 pm14 an14 cd14 ct14), sl14⟩) (c14 : PySem.W.codeIn K cd14 "all_lights" = true) (k14 : PySem.W.keepIn K (.ref f14) = true)
    {f15 : Addr} {od15 an15 : Option Addr} {sl15 : Array (Option Value)} {oc15 kV15 dc15 pm15 cd15 ct15 : Value}
    (a15 : PySem.W.nsIn K mainGlobals "brightest_turns" = some (some (.ref f15))) (l15 : K.lookup f15 = some ⟨oc15, od15, .func (PySem.W.fnOf "brightest_turns" "brightest_turns" (defArgs s_brightest_turns) (defBody s_brightest_turns) (defScope s_brightest_turns) .none kV15 dc15 pm15 an15 cd15 ct15), sl15⟩) (c15 : PySem.W.codeIn K cd15 "brightest_turns" = true) (k15 : PySem.W.keepIn K (.ref f15) = true)
    {f16 : Addr} {od16 an16 : Option Addr} {sl16 : Array (Option Value)} {oc16 kV16 dc16 pm16 cd16 ct16 : Value}
    (a16 : PySem.W.nsIn K mainGlobals "light_sum" = some (some (.ref f16))) (l16 : K.lookup f16 = some ⟨oc16, od16, .func (PySem.W.fnOf "light_sum" "light_sum" (defArgs s_light_sum) (defBody s_light_sum) (defScope s_light_sum) .none kV16 dc16 pm16 an16 cd16 ct16), sl16⟩) (c16 : PySem.W.codeIn K cd16 "light_sum" = true) (k16 : PySem.W.keepIn K (.ref f16) = true)
    {f17 : Addr} {od17 an17 : Option Addr} {sl17 : Array (Option Value)} {oc17 kV17 dc17 pm17 cd17 ct17 : Value}
    (a17 : PySem.W.nsIn K mainGlobals "first_bright" = some (some (.ref f17))) (l17 : K.lookup f17 = some ⟨oc17, od17, .func (PySem.W.fnOf "first_bright" "first_bright" (defArgs s_first_bright) (defBody s_first_bright) (defScope s_first_bright) .none kV17 dc17 pm17 an17 cd17 ct17), sl17⟩) (c17 : PySem.W.codeIn K cd17 "first_bright" = true) (k17 : PySem.W.keepIn K (.ref f17) = true)
    {f18 : Addr} {od18 an18 : Option Addr} {sl18 : Array (Option Value)} {oc18 kV18 dc18 pm18 cd18 ct18 : Value}
    (a18 : PySem.W.nsIn K mainGlobals "_stepped_lights" = some (some (.ref f18))) (l18 : K.lookup f18 = some ⟨oc18, od18, .func (PySem.W.fnOf "_stepped_lights" "_stepped_lights" (defArgs s_stepped_lights) (defBody s_stepped_lights) (defScope s_stepped_lights) .none kV18 dc18 pm18 an18 cd18 ct18), sl18⟩) (c18 : PySem.W.codeIn K cd18 "_stepped_lights" = true) (k18 : PySem.W.keepIn K (.ref f18) = true)
    {f19 : Addr} {od19 an19 : Option Addr} {sl19 : Array (Option Value)} {oc19 kV19 dc19 pm19 cd19 ct19 : Value}
    (a19 : PySem.W.nsIn K mainGlobals "is_disc" = some (some (.ref f19))) (l19 : K.lookup f19 = some ⟨oc19, od19, .func (PySem.W.fnOf "is_disc" "is_disc" (defArgs s_is_disc) (defBody s_is_disc) (defScope s_is_disc) .none kV19 dc19 pm19 an19 cd19 ct19), sl19⟩) (c19 : PySem.W.codeIn K cd19 "is_disc" = true) (k19 : PySem.W.keepIn K (.ref f19) = true)
    {f20 : Addr} {od20 an20 : Option Addr} {sl20 : Array (Option Value)} {oc20 kV20 dc20 pm20 cd20 ct20 : Value}
    (a20 : PySem.W.nsIn K mainGlobals "turned_disc" = some (some (.ref f20))) (l20 : K.lookup f20 = some ⟨oc20, od20, .func (PySem.W.fnOf "turned_disc" "turned_disc" (defArgs s_turned_disc) (defBody s_turned_disc) (defScope s_turned_disc) .none kV20 dc20 pm20 an20 cd20 ct20), sl20⟩) (c20 : PySem.W.codeIn K cd20 "turned_disc" = true) (k20 : PySem.W.keepIn K (.ref f20) = true)
    {f21 : Addr} {od21 an21 : Option Addr} {sl21 : Array (Option Value)} {oc21 kV21 dc21 pm21 cd21 ct21 : Value}
    (a21 : PySem.W.nsIn K mainGlobals "mirrored_disc" = some (some (.ref f21))) (l21 : K.lookup f21 = some ⟨oc21, od21, .func (PySem.W.fnOf "mirrored_disc" "mirrored_disc" (defArgs s_mirrored_disc) (defBody s_mirrored_disc) (defScope s_mirrored_disc) .none kV21 dc21 pm21 an21 cd21 ct21), sl21⟩) (c21 : PySem.W.codeIn K cd21 "mirrored_disc" = true) (k21 : PySem.W.keepIn K (.ref f21) = true)
    {f22 : Addr} {od22 an22 : Option Addr} {sl22 : Array (Option Value)} {oc22 kV22 dc22 pm22 cd22 ct22 : Value}
    (a22 : PySem.W.nsIn K mainGlobals "disc_period" = some (some (.ref f22))) (l22 : K.lookup f22 = some ⟨oc22, od22, .func (PySem.W.fnOf "disc_period" "disc_period" (defArgs s_disc_period) (defBody s_disc_period) (defScope s_disc_period) .none kV22 dc22 pm22 an22 cd22 ct22), sl22⟩) (c22 : PySem.W.codeIn K cd22 "disc_period" = true) (k22 : PySem.W.keepIn K (.ref f22) = true)
    {f23 : Addr} {od23 an23 : Option Addr} {sl23 : Array (Option Value)} {oc23 kV23 dc23 pm23 cd23 ct23 : Value}
    (a23 : PySem.W.nsIn K mainGlobals "turn_between" = some (some (.ref f23))) (l23 : K.lookup f23 = some ⟨oc23, od23, .func (PySem.W.fnOf "turn_between" "turn_between" (defArgs s_turn_between) (defBody s_turn_between) (defScope s_turn_between) .none kV23 dc23 pm23 an23 cd23 ct23), sl23⟩) (c23 : PySem.W.codeIn K cd23 "turn_between" = true) (k23 : PySem.W.keepIn K (.ref f23) = true)
    {f24 : Addr} {od24 an24 : Option Addr} {sl24 : Array (Option Value)} {oc24 kV24 dc24 pm24 cd24 ct24 : Value}
    (a24 : PySem.W.nsIn K mainGlobals "least_disc" = some (some (.ref f24))) (l24 : K.lookup f24 = some ⟨oc24, od24, .func (PySem.W.fnOf "least_disc" "least_disc" (defArgs s_least_disc) (defBody s_least_disc) (defScope s_least_disc) .none kV24 dc24 pm24 an24 cd24 ct24), sl24⟩) (c24 : PySem.W.codeIn K cd24 "least_disc" = true) (k24 : PySem.W.keepIn K (.ref f24) = true)
    {f25 : Addr} {od25 an25 : Option Addr} {sl25 : Array (Option Value)} {oc25 kV25 dc25 pm25 cd25 ct25 : Value}
    (a25 : PySem.W.nsIn K mainGlobals "like_form" = some (some (.ref f25))) (l25 : K.lookup f25 = some ⟨oc25, od25, .func (PySem.W.fnOf "like_form" "like_form" (defArgs s_like_form) (defBody s_like_form) (defScope s_like_form) .none kV25 dc25 pm25 an25 cd25 ct25), sl25⟩) (c25 : PySem.W.codeIn K cd25 "like_form" = true) (k25 : PySem.W.keepIn K (.ref f25) = true)
    {f26 : Addr} {od26 an26 : Option Addr} {sl26 : Array (Option Value)} {oc26 kV26 dc26 pm26 cd26 ct26 : Value}
    (a26 : PySem.W.nsIn K mainGlobals "are_like" = some (some (.ref f26))) (l26 : K.lookup f26 = some ⟨oc26, od26, .func (PySem.W.fnOf "are_like" "are_like" (defArgs s_are_like) (defBody s_are_like) (defScope s_are_like) .none kV26 dc26 pm26 an26 cd26 ct26), sl26⟩) (c26 : PySem.W.codeIn K cd26 "are_like" = true) (k26 : PySem.W.keepIn K (.ref f26) = true)
    {f27 : Addr} {od27 an27 : Option Addr} {sl27 : Array (Option Value)} {oc27 kV27 dc27 pm27 cd27 ct27 : Value}
    (a27 : PySem.W.nsIn K mainGlobals "_first_turn" = some (some (.ref f27))) (l27 : K.lookup f27 = some ⟨oc27, od27, .func (PySem.W.fnOf "_first_turn" "_first_turn" (defArgs s_first_turn) (defBody s_first_turn) (defScope s_first_turn) .none kV27 dc27 pm27 an27 cd27 ct27), sl27⟩) (c27 : PySem.W.codeIn K cd27 "_first_turn" = true) (k27 : PySem.W.keepIn K (.ref f27) = true)
    {f28 : Addr} {od28 an28 : Option Addr} {sl28 : Array (Option Value)} {oc28 kV28 dc28 pm28 cd28 ct28 : Value}
    (a28 : PySem.W.nsIn K mainGlobals "_least_turned" = some (some (.ref f28))) (l28 : K.lookup f28 = some ⟨oc28, od28, .func (PySem.W.fnOf "_least_turned" "_least_turned" (defArgs s_least_turned) (defBody s_least_turned) (defScope s_least_turned) .none kV28 dc28 pm28 an28 cd28 ct28), sl28⟩) (c28 : PySem.W.codeIn K cd28 "_least_turned" = true) (k28 : PySem.W.keepIn K (.ref f28) = true)
    {f29 : Addr} {od29 an29 : Option Addr} {sl29 : Array (Option Value)} {oc29 kV29 dc29 pm29 cd29 ct29 : Value}
    (a29 : PySem.W.nsIn K mainGlobals "_least_like" = some (some (.ref f29))) (l29 : K.lookup f29 = some ⟨oc29, od29, .func (PySem.W.fnOf "_least_like" "_least_like" (defArgs s_least_like) (defBody s_least_like) (defScope s_least_like) .none kV29 dc29 pm29 an29 cd29 ct29), sl29⟩) (c29 : PySem.W.codeIn K cd29 "_least_like" = true) (k29 : PySem.W.keepIn K (.ref f29) = true)
    {f30 : Addr} {od30 an30 : Option Addr} {sl30 : Array (Option Value)} {oc30 kV30 dc30 pm30 cd30 ct30 : Value}
    (a30 : PySem.W.nsIn K mainGlobals "_law_tank" = some (some (.ref f30))) (l30 : K.lookup f30 = some ⟨oc30, od30, .func (PySem.W.fnOf "_law_tank" "_law_tank" (defArgs s_law_tank) (defBody s_law_tank) (defScope s_law_tank) .none kV30 dc30 pm30 an30 cd30 ct30), sl30⟩) (c30 : PySem.W.codeIn K cd30 "_law_tank" = true) (k30 : PySem.W.keepIn K (.ref f30) = true)
    {f31 : Addr} {od31 an31 : Option Addr} {sl31 : Array (Option Value)} {oc31 kV31 dc31 pm31 cd31 ct31 : Value}
    (a31 : PySem.W.nsIn K mainGlobals "_law_tap" = some (some (.ref f31))) (l31 : K.lookup f31 = some ⟨oc31, od31, .func (PySem.W.fnOf "_law_tap" "_law_tap" (defArgs s_law_tap) (defBody s_law_tap) (defScope s_law_tap) .none kV31 dc31 pm31 an31 cd31 ct31), sl31⟩) (c31 : PySem.W.codeIn K cd31 "_law_tap" = true) (k31 : PySem.W.keepIn K (.ref f31) = true)
    {f32 : Addr} {od32 an32 : Option Addr} {sl32 : Array (Option Value)} {oc32 kV32 dc32 pm32 cd32 ct32 : Value}
    (a32 : PySem.W.nsIn K mainGlobals "_law_drawn_count" = some (some (.ref f32))) (l32 : K.lookup f32 = some ⟨oc32, od32, .func (PySem.W.fnOf "_law_drawn_count" "_law_drawn_count" (defArgs s_law_drawn_count) (defBody s_law_drawn_count) (defScope s_law_drawn_count) .none kV32 dc32 pm32 an32 cd32 ct32), sl32⟩) (c32 : PySem.W.codeIn K cd32 "_law_drawn_count" = true) (k32 : PySem.W.keepIn K (.ref f32) = true)
    {f33 : Addr} {od33 an33 : Option Addr} {sl33 : Array (Option Value)} {oc33 kV33 dc33 pm33 cd33 ct33 : Value}
    (a33 : PySem.W.nsIn K mainGlobals "_law_drawn_rim" = some (some (.ref f33))) (l33 : K.lookup f33 = some ⟨oc33, od33, .func (PySem.W.fnOf "_law_drawn_rim" "_law_drawn_rim" (defArgs s_law_drawn_rim) (defBody s_law_drawn_rim) (defScope s_law_drawn_rim) .none kV33 dc33 pm33 an33 cd33 ct33), sl33⟩) (c33 : PySem.W.codeIn K cd33 "_law_drawn_rim" = true) (k33 : PySem.W.keepIn K (.ref f33) = true)
    {f34 : Addr} {od34 an34 : Option Addr} {sl34 : Array (Option Value)} {oc34 kV34 dc34 pm34 cd34 ct34 : Value}
    (a34 : PySem.W.nsIn K mainGlobals "_law_drawn_turn" = some (some (.ref f34))) (l34 : K.lookup f34 = some ⟨oc34, od34, .func (PySem.W.fnOf "_law_drawn_turn" "_law_drawn_turn" (defArgs s_law_drawn_turn) (defBody s_law_drawn_turn) (defScope s_law_drawn_turn) .none kV34 dc34 pm34 an34 cd34 ct34), sl34⟩) (c34 : PySem.W.codeIn K cd34 "_law_drawn_turn" = true) (k34 : PySem.W.keepIn K (.ref f34) = true)
    {f35 : Addr} {od35 an35 : Option Addr} {sl35 : Array (Option Value)} {oc35 kV35 dc35 pm35 cd35 ct35 : Value}
    (a35 : PySem.W.nsIn K mainGlobals "_law_on" = some (some (.ref f35))) (l35 : K.lookup f35 = some ⟨oc35, od35, .func (PySem.W.fnOf "_law_on" "_law_on" (defArgs s_law_on) (defBody s_law_on) (defScope s_law_on) .none kV35 dc35 pm35 an35 cd35 ct35), sl35⟩) (c35 : PySem.W.codeIn K cd35 "_law_on" = true) (k35 : PySem.W.keepIn K (.ref f35) = true)
    {f36 : Addr} {od36 an36 : Option Addr} {sl36 : Array (Option Value)} {oc36 kV36 dc36 pm36 cd36 ct36 : Value}
    (a36 : PySem.W.nsIn K mainGlobals "_law_lights_right" = some (some (.ref f36))) (l36 : K.lookup f36 = some ⟨oc36, od36, .func (PySem.W.fnOf "_law_lights_right" "_law_lights_right" (defArgs s_law_lights_right) (defBody s_law_lights_right) (defScope s_law_lights_right) .none kV36 dc36 pm36 an36 cd36 ct36), sl36⟩) (c36 : PySem.W.codeIn K cd36 "_law_lights_right" = true) (k36 : PySem.W.keepIn K (.ref f36) = true)
    {f37 : Addr} {od37 an37 : Option Addr} {sl37 : Array (Option Value)} {oc37 kV37 dc37 pm37 cd37 ct37 : Value}
    (a37 : PySem.W.nsIn K mainGlobals "_law_forms_right" = some (some (.ref f37))) (l37 : K.lookup f37 = some ⟨oc37, od37, .func (PySem.W.fnOf "_law_forms_right" "_law_forms_right" (defArgs s_law_forms_right) (defBody s_law_forms_right) (defScope s_law_forms_right) .none kV37 dc37 pm37 an37 cd37 ct37), sl37⟩) (c37 : PySem.W.codeIn K cd37 "_law_forms_right" = true) (k37 : PySem.W.keepIn K (.ref f37) = true)
    {f38 : Addr} {od38 an38 : Option Addr} {sl38 : Array (Option Value)} {oc38 kV38 dc38 pm38 cd38 ct38 : Value}
    (a38 : PySem.W.nsIn K mainGlobals "law" = some (some (.ref f38))) (l38 : K.lookup f38 = some ⟨oc38, od38, .func (PySem.W.fnOf "law" "law" (defArgs s_law) (defBody s_law) (defScope s_law) .none kV38 dc38 pm38 an38 cd38 ct38), sl38⟩) (c38 : PySem.W.codeIn K cd38 "law" = true) (k38 : PySem.W.keepIn K (.ref f38) = true)
    {t_MOST_SLOTS : Tok} (m_MOST_SLOTS : PySem.W.nsIn K mainGlobals "MOST_SLOTS" = some (some (.int (40) t_MOST_SLOTS)))
    {t_MOST_LIGHT : Tok} (m_MOST_LIGHT : PySem.W.nsIn K mainGlobals "MOST_LIGHT" = some (some (.int (1000000000000000000000000000000) t_MOST_LIGHT)))
    (z_abs : PySem.W.nsIn K mainGlobals "abs" = some none)
    (z_bool : PySem.W.nsIn K mainGlobals "bool" = some none)
    (z_divmod : PySem.W.nsIn K mainGlobals "divmod" = some none)
    (z_enumerate : PySem.W.nsIn K mainGlobals "enumerate" = some none)
    (z_int : PySem.W.nsIn K mainGlobals "int" = some none)
    (z_isinstance : PySem.W.nsIn K mainGlobals "isinstance" = some none)
    (z_len : PySem.W.nsIn K mainGlobals "len" = some none)
    (z_list : PySem.W.nsIn K mainGlobals "list" = some none)
    (z_max : PySem.W.nsIn K mainGlobals "max" = some none)
    (z_min : PySem.W.nsIn K mainGlobals "min" = some none)
    (z_range : PySem.W.nsIn K mainGlobals "range" = some none)
    (z_sorted : PySem.W.nsIn K mainGlobals "sorted" = some none)
    (z_sum : PySem.W.nsIn K mainGlobals "sum" = some none)
    (z_zip : PySem.W.nsIn K mainGlobals "zip" = some none)
    : ∃ fd : FuncData, (∀ (s : Shared) (u : Value), BindsTo s fd ⟨[u], []⟩ [("script", u)]) ∧ ∀ base : Heap, K.In base → base.Ns mainGlobals mg → FnG l.prog w K mg base CX0 8 fa fd ["script"] (spLaw K) := by
  have e := hfa.symm.trans (PySem.W.mg_of X G a38)
  cases e
  have F0 := fun_mk (st := s_turned_list) l0 c0 k0
  have b0 := F0.binds (ps := ["items", "turn"]) fun _ _ _ _ _ _ us hl => match us, hl with | [_, _], _ => rfl
  have F1 := fun_mk (st := s_mirrored_list) l1 c1 k1
  have b1 := F1.binds (ps := ["items"]) fun _ _ _ _ _ _ us hl => match us, hl with | [_], _ => rfl
  have F2 := fun_mk (st := s_light_between) l2 c2 k2
  have b2 := F2.binds (ps := ["disc", "row", "turn"]) fun _ _ _ _ _ _ us hl => match us, hl with | [_, _, _], _ => rfl
  have F3 := fun_mk (st := s_lights_between) l3 c3 k3
  have b3 := F3.binds (ps := ["disc", "row"]) fun _ _ _ _ _ _ us hl => match us, hl with | [_, _], _ => rfl
  have F4 := fun_mk (st := s_is_integer) l4 c4 k4
  have b4 := F4.binds (ps := ["value"]) fun _ _ _ _ _ _ us hl => match us, hl with | [_], _ => rfl
  have F5 := fun_mk (st := s_has_slots) l5 c5 k5
  have b5 := F5.binds (ps := ["value"]) fun _ _ _ _ _ _ us hl => match us, hl with | [_], _ => rfl
  have F6 := fun_mk (st := s_wrong_light) l6 c6 k6
  have b6 := F6.binds (ps := ["items", "most"]) fun _ _ _ _ _ _ us hl => match us, hl with | [_, _], _ => rfl
  have F7 := fun_mk (st := s_wrong_slot) l7 c7 k7
  have b7 := F7.binds (ps := ["items"]) fun _ _ _ _ _ _ us hl => match us, hl with | [_], _ => rfl
  have F8 := fun_mk (st := s_check_disc) l8 c8 k8
  have b8 := F8.binds (ps := ["disc"]) fun _ _ _ _ _ _ us hl => match us, hl with | [_], _ => rfl
  have F9 := fun_mk (st := s_check_discs) l9 c9 k9
  have b9 := F9.binds (ps := ["disc", "other"]) fun _ _ _ _ _ _ us hl => match us, hl with | [_, _], _ => rfl
  have F10 := fun_mk (st := s_check_turn) l10 c10 k10
  have b10 := F10.binds (ps := ["turn"]) fun _ _ _ _ _ _ us hl => match us, hl with | [_], _ => rfl
  have F11 := fun_mk (st := s_check_number) l11 c11 k11
  have b11 := F11.binds (ps := ["number"]) fun _ _ _ _ _ _ us hl => match us, hl with | [_], _ => rfl
  have F12 := fun_mk (st := s_check_count) l12 c12 k12
  have b12 := F12.binds (ps := ["number"]) fun _ _ _ _ _ _ us hl => match us, hl with | [_], _ => rfl
  have F13 := fun_mk (st := s_light_at) l13 c13 k13
  have b13 := F13.binds (ps := ["disc", "other", "turn"]) fun _ _ _ _ _ _ us hl => match us, hl with | [_, _, _], _ => rfl
  have F14 := fun_mk (st := s_all_lights) l14 c14 k14
  have b14 := F14.binds (ps := ["disc", "other"]) fun _ _ _ _ _ _ us hl => match us, hl with | [_, _], _ => rfl
  have F15 := fun_mk (st := s_brightest_turns) l15 c15 k15
  have b15 := F15.binds (ps := ["disc", "other"]) fun _ _ _ _ _ _ us hl => match us, hl with | [_, _], _ => rfl
  have F16 := fun_mk (st := s_light_sum) l16 c16 k16
  have b16 := F16.binds (ps := ["disc", "other", "first", "step", "many"]) fun _ _ _ _ _ _ us hl => match us, hl with | [_, _, _, _, _], _ => rfl
  have F17 := fun_mk (st := s_first_bright) l17 c17 k17
  have b17 := F17.binds (ps := ["disc", "other", "first", "step", "light"]) fun _ _ _ _ _ _ us hl => match us, hl with | [_, _, _, _, _], _ => rfl
  have F18 := fun_mk (st := s_stepped_lights) l18 c18 k18
  have b18 := F18.binds (ps := ["disc", "other", "first", "step"]) fun _ _ _ _ _ _ us hl => match us, hl with | [_, _, _, _], _ => rfl
  have F19 := fun_mk (st := s_is_disc) l19 c19 k19
  have b19 := F19.binds (ps := ["value"]) fun _ _ _ _ _ _ us hl => match us, hl with | [_], _ => rfl
  have F20 := fun_mk (st := s_turned_disc) l20 c20 k20
  have b20 := F20.binds (ps := ["disc", "turn"]) fun _ _ _ _ _ _ us hl => match us, hl with | [_, _], _ => rfl
  have F21 := fun_mk (st := s_mirrored_disc) l21 c21 k21
  have b21 := F21.binds (ps := ["disc"]) fun _ _ _ _ _ _ us hl => match us, hl with | [_], _ => rfl
  have F22 := fun_mk (st := s_disc_period) l22 c22 k22
  have b22 := F22.binds (ps := ["disc"]) fun _ _ _ _ _ _ us hl => match us, hl with | [_], _ => rfl
  have F23 := fun_mk (st := s_turn_between) l23 c23 k23
  have b23 := F23.binds (ps := ["disc", "other"]) fun _ _ _ _ _ _ us hl => match us, hl with | [_, _], _ => rfl
  have F24 := fun_mk (st := s_least_disc) l24 c24 k24
  have b24 := F24.binds (ps := ["disc"]) fun _ _ _ _ _ _ us hl => match us, hl with | [_], _ => rfl
  have F25 := fun_mk (st := s_like_form) l25 c25 k25
  have b25 := F25.binds (ps := ["disc"]) fun _ _ _ _ _ _ us hl => match us, hl with | [_], _ => rfl
  have F26 := fun_mk (st := s_are_like) l26 c26 k26
  have b26 := F26.binds (ps := ["disc", "other"]) fun _ _ _ _ _ _ us hl => match us, hl with | [_, _], _ => rfl
  have F27 := fun_mk (st := s_first_turn) l27 c27 k27
  have b27 := F27.binds (ps := ["disc", "other"]) fun _ _ _ _ _ _ us hl => match us, hl with | [_, _], _ => rfl
  have F28 := fun_mk (st := s_least_turned) l28 c28 k28
  have b28 := F28.binds (ps := ["disc"]) fun _ _ _ _ _ _ us hl => match us, hl with | [_], _ => rfl
  have F29 := fun_mk (st := s_least_like) l29 c29 k29
  have b29 := F29.binds (ps := ["disc"]) fun _ _ _ _ _ _ us hl => match us, hl with | [_], _ => rfl
  have F30 := fun_mk (st := s_law_tank) l30 c30 k30
  have b30 := F30.binds (ps := ["script", "at"]) fun _ _ _ _ _ _ us hl => match us, hl with | [_, _], _ => rfl
  have F31 := fun_mk (st := s_law_tap) l31 c31 k31
  have b31 := F31.binds (ps := ["tank", "many"]) fun _ _ _ _ _ _ us hl => match us, hl with | [_, _], _ => rfl
  have F32 := fun_mk (st := s_law_drawn_count) l32 c32 k32
  have b32 := F32.binds (ps := ["tank", "most"]) fun _ _ _ _ _ _ us hl => match us, hl with | [_, _], _ => rfl
  have F33 := fun_mk (st := s_law_drawn_rim) l33 c33 k33
  have b33 := F33.binds (ps := ["tank", "count"]) fun _ _ _ _ _ _ us hl => match us, hl with | [_, _], _ => rfl
  have F34 := fun_mk (st := s_law_drawn_turn) l34 c34 k34
  have b34 := F34.binds (ps := ["tank"]) fun _ _ _ _ _ _ us hl => match us, hl with | [_], _ => rfl
  have F35 := fun_mk (st := s_law_on) l35 c35 k35
  have b35 := F35.binds (ps := ["lights_here", "by"]) fun _ _ _ _ _ _ us hl => match us, hl with | [_, _], _ => rfl
  have F36 := fun_mk (st := s_law_lights_right) l36 c36 k36
  have b36 := F36.binds (ps := ["tank", "rim", "mate"]) fun _ _ _ _ _ _ us hl => match us, hl with | [_, _, _], _ => rfl
  have F37 := fun_mk (st := s_law_forms_right) l37 c37 k37
  have b37 := F37.binds (ps := ["tank", "rim"]) fun _ _ _ _ _ _ us hl => match us, hl with | [_, _], _ => rfl
  have F38 := fun_mk (st := s_law) l38 c38 k38
  exact ⟨_, fun s v => .of_eq rfl, fun base _ _ => ok_law ⟨f0, _, F0, b0, PySem.W.mg_of X G a0, f1, _, F1, b1, PySem.W.mg_of X G a1, f2, _, F2, b2, PySem.W.mg_of X G a2, f3, _, F3, b3, PySem.W.mg_of X G a3, f4, _, F4, b4, PySem.W.mg_of X G a4, f5, _, F5, b5, PySem.W.mg_of X G a5, f6, _, F6, b6, PySem.W.mg_of X G a6, f7, _, F7, b7, PySem.W.mg_of X G a7, f8, _, F8, b8, PySem.W.mg_of X G a8, f9, _, F9, b9, PySem.W.mg_of X G a9, f10, _, F10, b10, PySem.W.mg_of X G a10, f11, _, F11, b11, PySem.W.mg_of X G a11, f12, _, F12, b12, PySem.W.mg_of X G a12, f13, _, F13, b13, PySem.W.mg_of X G a13, f14, _, F14, b14, PySem.W.mg_of X G a14, f15, _, F15, b15, PySem.W.mg_of X G a15, f16, _, F16, b16, PySem.W.mg_of X G a16, f17, _, F17, b17, PySem.W.mg_of X G a17, f18, _, F18, b18, PySem.W.mg_of X G a18, f19, _, F19, b19, PySem.W.mg_of X G a19, f20, _, F20, b20, PySem.W.mg_of X G a20, f21, _, F21, b21, PySem.W.mg_of X G a21, f22, _, F22, b22, PySem.W.mg_of X G a22, f23, _, F23, b23, PySem.W.mg_of X G a23, f24, _, F24, b24, PySem.W.mg_of X G a24, f25, _, F25, b25, PySem.W.mg_of X G a25, f26, _, F26, b26, PySem.W.mg_of X G a26, f27, _, F27, b27, PySem.W.mg_of X G a27, f28, _, F28, b28, PySem.W.mg_of X G a28, f29, _, F29, b29, PySem.W.mg_of X G a29, f30, _, F30, b30, PySem.W.mg_of X G a30, f31, _, F31, b31, PySem.W.mg_of X G a31, f32, _, F32, b32, PySem.W.mg_of X G a32, f33, _, F33, b33, PySem.W.mg_of X G a33, f34, _, F34, b34, PySem.W.mg_of X G a34, f35, _, F35, b35, PySem.W.mg_of X G a35, f36, _, F36, b36, PySem.W.mg_of X G a36, f37, _, F37, b37, PySem.W.mg_of X G a37, fa, _, F38, PySem.W.mg_of X G a38, t_MOST_SLOTS, PySem.W.mg_of X G m_MOST_SLOTS, t_MOST_LIGHT, PySem.W.mg_of X G m_MOST_LIGHT, PySem.W.mg_none_of X G z_abs, PySem.W.mg_none_of X G z_bool, PySem.W.mg_none_of X G z_divmod, PySem.W.mg_none_of X G z_enumerate, PySem.W.mg_none_of X G z_int, PySem.W.mg_none_of X G z_isinstance, PySem.W.mg_none_of X G z_len, PySem.W.mg_none_of X G z_list, PySem.W.mg_none_of X G z_max, PySem.W.mg_none_of X G z_min, PySem.W.mg_none_of X G z_range, PySem.W.mg_none_of X G z_sorted, PySem.W.mg_none_of X G z_sum, PySem.W.mg_none_of X G z_zip⟩⟩
end Sd
open PySem PySem.W PyProof.Rows
set_option maxRecDepth 100000 in
set_option maxHeartbeats 0 in
theorem PySem.Challenge.cw_slitdiscs_k59_whole_turned_lights_holds : PySem.Challenge.rw_slitdiscs_k59_whole_turned_lights.Holds := by
  w_on; o_law; k_head; (case hw => w_witness2)
  k_fill
  refine Sd.gwalk (l := PySem.Challenge.rw_slitdiscs_k59_whole_turned_lights) (n := 63) (k := 8) (x := "script") (sp := Sd.spLaw) rfl (by decide) rfl ⟨rfl, by decide, by decide⟩ (fun w h Y => PySem.W.kIn_of Y) ?F (fun _ _ a ns hl hS => ⟨a, ns, rfl, hS, hl, fun _ => rfl⟩)
  case F =>
    intro w mg fa h KX G hmg
    refine' Sd.all_mk KX G hmg ?a0 ?l0 ?c0 ?k0 ?a1 ?l1 ?c1 ?k1 ?a2 ?l2 ?c2 ?k2 ?a3 ?l3 ?c3 ?k3 ?a4 ?l4 ?c4 ?k4 ?a5 ?l5 ?c5 ?k5 ?a6 ?l6 ?c6 ?k6 ?a7 ?l7 ?c7 ?k7 ?a8 ?l8 ?c8 ?k8 ?a9 ?l9 ?c9 ?k9 ?a10 ?l10 ?c10 ?k10 ?a11 ?l11 ?c11 ?k11 ?a12 ?l12 ?c12 ?k12 ?a13 ?l13 ?c13 ?k13 ?a14 ?l14 ?c14 ?k14 ?a15 ?l15 ?c15 ?k15 ?a16 ?l16 ?c16 ?k16 ?a17 ?l17 ?c17 ?k17 ?a18 ?l18 ?c18 ?k18 ?a19 ?l19 ?c19 ?k19 ?a20 ?l20 ?c20 ?k20 ?a21 ?l21 ?c21 ?k21 ?a22 ?l22 ?c22 ?k22 ?a23 ?l23 ?c23 ?k23 ?a24 ?l24 ?c24 ?k24 ?a25 ?l25 ?c25 ?k25 ?a26 ?l26 ?c26 ?k26 ?a27 ?l27 ?c27 ?k27 ?a28 ?l28 ?c28 ?k28 ?a29 ?l29 ?c29 ?k29 ?a30 ?l30 ?c30 ?k30 ?a31 ?l31 ?c31 ?k31 ?a32 ?l32 ?c32 ?k32 ?a33 ?l33 ?c33 ?k33 ?a34 ?l34 ?c34 ?k34 ?a35 ?l35 ?c35 ?k35 ?a36 ?l36 ?c36 ?k36 ?a37 ?l37 ?c37 ?k37 ?a38 ?l38 ?c38 ?k38 ?m_MOST_SLOTS ?m_MOST_LIGHT ?z_abs ?z_bool ?z_divmod ?z_enumerate ?z_int ?z_isinstance ?z_len ?z_list ?z_max ?z_min ?z_range ?z_sorted ?z_sum ?z_zip
    (case a0 => k_is)
    (case l0 => k_is)
    (case c0 => k_is)
    (case k0 => k_is)
    (case a1 => k_is)
    (case l1 => k_is)
    (case c1 => k_is)
    (case k1 => k_is)
    (case a2 => k_is)
    (case l2 => k_is)
    (case c2 => k_is)
    (case k2 => k_is)
    (case a3 => k_is)
    (case l3 => k_is)
    (case c3 => k_is)
    (case k3 => k_is)
    (case a4 => k_is)
    (case l4 => k_is)
    (case c4 => k_is)
    (case k4 => k_is)
    (case a5 => k_is)
    (case l5 => k_is)
    (case c5 => k_is)
    (case k5 => k_is)
    (case a6 => k_is)
    (case l6 => k_is)
    (case c6 => k_is)
    (case k6 => k_is)
    (case a7 => k_is)
    (case l7 => k_is)
    (case c7 => k_is)
    (case k7 => k_is)
    (case a8 => k_is)
    (case l8 => k_is)
    (case c8 => k_is)
    (case k8 => k_is)
    (case a9 => k_is)
    (case l9 => k_is)
    (case c9 => k_is)
    (case k9 => k_is)
    (case a10 => k_is)
    (case l10 => k_is)
    (case c10 => k_is)
    (case k10 => k_is)
    (case a11 => k_is)
    (case l11 => k_is)
    (case c11 => k_is)
    (case k11 => k_is)
    (case a12 => k_is)
    (case l12 => k_is)
    (case c12 => k_is)
    (case k12 => k_is)
    (case a13 => k_is)
    (case l13 => k_is)
    (case c13 => k_is)
    (case k13 => k_is)
    (case a14 => k_is)
    (case l14 => k_is)
    (case c14 => k_is)
    (case k14 => k_is)
    (case a15 => k_is)
    (case l15 => k_is)
    (case c15 => k_is)
    (case k15 => k_is)
    (case a16 => k_is)
    (case l16 => k_is)
    (case c16 => k_is)
    (case k16 => k_is)
    (case a17 => k_is)
    (case l17 => k_is)
    (case c17 => k_is)
    (case k17 => k_is)
    (case a18 => k_is)
    (case l18 => k_is)
    (case c18 => k_is)
    (case k18 => k_is)
    (case a19 => k_is)
    (case l19 => k_is)
    (case c19 => k_is)
    (case k19 => k_is)
    (case a20 => k_is)
    (case l20 => k_is)
    (case c20 => k_is)
    (case k20 => k_is)
    (case a21 => k_is)
    (case l21 => k_is)
    (case c21 => k_is)
    (case k21 => k_is)
    (case a22 => k_is)
    (case l22 => k_is)
    (case c22 => k_is)
    (case k22 => k_is)
    (case a23 => k_is)
    (case l23 => k_is)
    (case c23 => k_is)
    (case k23 => k_is)
    (case a24 => k_is)
    (case l24 => k_is)
    (case c24 => k_is)
    (case k24 => k_is)
    (case a25 => k_is)
    (case l25 => k_is)
    (case c25 => k_is)
    (case k25 => k_is)
    (case a26 => k_is)
    (case l26 => k_is)
    (case c26 => k_is)
    (case k26 => k_is)
    (case a27 => k_is)
    (case l27 => k_is)
    (case c27 => k_is)
    (case k27 => k_is)
    (case a28 => k_is)
    (case l28 => k_is)
    (case c28 => k_is)
    (case k28 => k_is)
    (case a29 => k_is)
    (case l29 => k_is)
    (case c29 => k_is)
    (case k29 => k_is)
    (case a30 => k_is)
    (case l30 => k_is)
    (case c30 => k_is)
    (case k30 => k_is)
    (case a31 => k_is)
    (case l31 => k_is)
    (case c31 => k_is)
    (case k31 => k_is)
    (case a32 => k_is)
    (case l32 => k_is)
    (case c32 => k_is)
    (case k32 => k_is)
    (case a33 => k_is)
    (case l33 => k_is)
    (case c33 => k_is)
    (case k33 => k_is)
    (case a34 => k_is)
    (case l34 => k_is)
    (case c34 => k_is)
    (case k34 => k_is)
    (case a35 => k_is)
    (case l35 => k_is)
    (case c35 => k_is)
    (case k35 => k_is)
    (case a36 => k_is)
    (case l36 => k_is)
    (case c36 => k_is)
    (case k36 => k_is)
    (case a37 => k_is)
    (case l37 => k_is)
    (case c37 => k_is)
    (case k37 => k_is)
    (case a38 => k_is)
    (case l38 => k_is)
    (case c38 => k_is)
    (case k38 => k_is)
    (case m_MOST_SLOTS => k_is)
    (case m_MOST_LIGHT => k_is)
    (case z_abs => k_is)
    (case z_bool => k_is)
    (case z_divmod => k_is)
    (case z_enumerate => k_is)
    (case z_int => k_is)
    (case z_isinstance => k_is)
    (case z_len => k_is)
    (case z_list => k_is)
    (case z_max => k_is)
    (case z_min => k_is)
    (case z_range => k_is)
    (case z_sorted => k_is)
    (case z_sum => k_is)
    (case z_zip => k_is)
