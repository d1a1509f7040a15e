import PyProof.Rows.All
import Wide.All
import OpenK.AllK
import Wide.FinOn
import HandS.Comp
import HandS.Ends
import HandS.Iter
import HandS.Words
import HandS.WordsList
import HandS.Walk
import HandS.IsInst
import HandS.Wide
import PyProof.ReprRoads
import PyProof.ReprLen
import KE.DataMinMax
import HandS.Deep
import HandS.Walk
import HandS.DictComp
import HandS.Iter
import HandS.WordsDict
import HandS.More
import HandS.Style
import HandS.Conv
import PySem.Challenge.RW_slitdiscs_k09_hidden_rows_judged
set_option Elab.async false
set_option linter.all false
set_option maxRecDepth 100000
set_option maxHeartbeats 4000000
/-! Own layer over HandS: defs that run where no repr is under way (FnG), repr of data, powers of great ints, calls by keywords alone. -/
namespace Sd
open PySem PySem.Spec PyProof.Rows L2

/-! ### a def called where no repr is under way -/
structure FnG (P : Program) (w : World) (K : PySem.W.Frag) (mg : Str → Option Value) (base : Heap) (C : CXT) (k : Nat) (f : Addr) (fd : FuncData) (ps : List Str) (sp : Sp) : Prop where
  cnt : ∀ {vs H Q E}, sp vs H Q E → vs.length = ps.length
  go : ∀ (A : Around) (out : List Env) (s : Shared) (H : Hp) (ar : Args) (us : List Value) (vs : List V) (Q : VK) (E : XK), A.guards = some [] → Room k A →
    Env0 P w K mg base A out s H → BindsTo s fd ar (ps.zip us) → Vals vs us → sp vs H Q E →
    codeAny (model P w) A (.call (.ref f) ar) (CR C out P w H s Q E) s

section
variable {P : Program} {w : World} {K : PySem.W.Frag} {mg : Str → Option Value} {base : Heap} {C : CXT}
theorem gfn_of {k : Nat} {f : Addr} {nm ql : Str} {pms : Arguments} {bd : List Stmt} {sc : Scope} {v1 v2 v3 v4 cd v5 oc : Value} {an od : Option Addr}
    {osl : Array (Option Value)} {N ps : List Str} {sp : Sp}
    (lk : K.lookup f = some ⟨oc, od, .func (PySem.W.fnOf nm ql pms bd sc v1 v2 v3 v4 an cd v5), osl⟩)
    (hc : PySem.W.codeIn K cd ql = true) (S : FnScope N ps sc)
    (len : ∀ vs H Q E, sp vs H Q E → vs.length = ps.length)
    (hb : ∀ (A : Around) (out : List Env) (s : Shared) (H : Hp) (vs : List V) (Q : VK) (E : XK), A.guards = some [] →
      Room k (A.deeper (envOfC ql sc s.heap.objs.size f cd)) → sp vs H Q E →
      ∃ t, PSs (cxOf C P w K mg base N ql sc f cd A out s H E) bd t ∧ t { nx := fun _ H' => Q .non H', rt := Q } (start N vs) H) :
    FnG P w K mg base C (k + 1) f (PySem.W.fnOf nm ql pms bd sc v1 v2 v3 v4 an cd v5) ps sp := by
  refine ⟨fun h => len _ _ _ _ h, fun A out s H ar us vs Q E hg hr e0 hbd r hsp => ?_⟩
  have n1 := len _ _ _ _ hsp
  have kx : K.In s.heap := e0.mod.kin.keeps fun b o e => (e0.bs b o e).1
  have li : s.heap.NoLimit := e0.mod.nolimit.keeps fun b o e => (e0.bs b o e).1
  refine codeAny_call_function hr.depth (kx _ _ lk) rfl S.co S.gen rfl (PySem.W.codeRec_of kx hc) (hbd _ _ _ _ ?_)
  refine wpAny_newFunctionEnv_cells S.kind (fun ⟨n, v⟩ hy => ?_) fun env he s1 x => ?_
  · rcases S.par n (List.of_mem_zip hy).1 with q | q
    · exact .inl q
    · exact .inr ⟨q, PySem.W.cellsFrom_some _ _ _ (.inl q)⟩
  subst he
  refine ⟨li.keeps x.toInCall.keep, codeAny_func ?_⟩
  obtain ⟨t, ht, hq⟩ := hb A out s H vs Q E hg (hr.deeper _) hsp
  have I0 := inv_start (CX := C) (E := E) S hr.hd e0 n1 r x
  refine wpAny_mono (ht.run [] s1 (start N vs) H _ I0 hq) (fun fl s' hs => ?_) fun e s' hs => hs
  cases fl with
  | next =>
    obtain ⟨σ', H', J, q⟩ := hs
    exact ⟨.non, H', J.os, J.bare, J.base, J.hok, rfl, q⟩
  | ret u =>
    obtain ⟨v, σ', H', J, rv, q⟩ := hs
    exact ⟨v, H', J.os, J.bare, J.base, J.hok, rv, q⟩
  | brk => exact hs.elim fun _ ⟨_, _, q⟩ => False.elim q
  | cont => exact hs.elim fun _ ⟨_, _, q⟩ => False.elim q

/-- as Fun.ok, where no repr is under way -/
theorem okG {x ql : Str} {st : Stmt} {f : Addr} {fd : FuncData} {N ps : List Str} {k : Nat} {sp : Sp} (F : Fun K x ql st f fd) (S : FnScope N ps (defScope st))
    (len : ∀ vs H Q E, sp vs H Q E → vs.length = ps.length)
    (hb : ∀ (cd : Value) (A : Around) (out : List Env) (s : Shared) (H : Hp) (vs : List V) (Q : VK) (E : XK), A.guards = some [] →
      Room k (A.deeper (envOfC ql (defScope st) s.heap.objs.size f cd)) → sp vs H Q E →
      ∃ t, PSs (cxOf CX0 P w K mg base N ql (defScope st) f cd A out s H E).nox (defBody st) t ∧ t { nx := fun _ H' => Q .non H', rt := Q } (start N vs) H) :
    FnG P w K mg base CX0 (k + 1) f fd ps sp := by
  obtain ⟨oc, od, v2, v3, v4, an, cd, v5, osl, rfl, lk, hc⟩ := F.ex
  refine gfn_of lk hc S len fun A out s H vs Q E hg hr hsp => ?_
  obtain ⟨t, h, q⟩ := hb cd A out s H vs Q E hg hr hsp
  exact ⟨t, h.nox, q⟩
end

section
variable {X : Cx} {C : CXT} {k : Nat} {f : Addr} {fd : FuncData} {ps ks : List Str} {sp : Sp} {dvs : List V} {ds : List Value} {E : XK} {x : Str} {p pos : Pos} {e : Expr} {es : List Expr} {kws : List Keyword} {t tk : TA}
theorem endG {pins : List (Addr × Obj)} {σ : L2.St} {H : Hp} {s s' : Shared} {Q : VK} {r : Result} (hx : Passes C X E) (I : Inv X pins σ H s) (h : CR C X.stack X.prog X.w H s Q E r s') :
    (match r with | .ok (.ret u) => EP X pins σ Q u s' | .ok _ => False | .error e => X.xe e s') := by
  cases r with
  | error e => exact hx pins σ H s e s' I h
  | ok fl =>
    cases fl with
    | ret u => exact I.after h
    | next => exact h
    | brk => exact h
    | cont => exact h
theorem goG {pins : List (Addr × Obj)} {σ : L2.St} {H : Hp} {s : Shared} {Q : VK} {us : List Value} {vs : List V} (F : FnG X.prog X.w X.K X.mg X.base C k f fd ps sp) (hA : X.A.guards = some []) (hr : Room k X.A)
    (hb : Binds X.K fd ps ds) (hd : Vals dvs ds) (hx : Passes C X E) (I : Inv X pins σ H s) (r : Vals vs us) (h : sp (vs ++ dvs) H Q E) :
    wpAny (model X.prog X.w) X.A (call (.ref f) us) (EP X pins σ Q) X.xe s := by
  have r2 := r.append hd
  have n2 : (us ++ ds).length = ps.length := r2.length.symm.trans (F.cnt h)
  refine wpAny_call (codeAny_mono (F.go X.A X.stack s H ⟨us, []⟩ _ _ Q E hA hr I.env0 (hb s us I.kIn n2) r2 h) fun r s' hq => ?_)
  have z := endG hx I hq
  cases r with
  | error e => exact z
  | ok fl => cases fl <;> exact z
/-- f(e, ..) where no repr is under way -/
theorem pe_callG (F : FnG X.prog X.w X.K X.mg X.base C k f fd ps sp) (hA : X.A.guards = some []) (hr : Room k X.A) (hg : Gl X x) (hm : X.mg x = some (.ref f)) (hk : PySem.W.keepIn X.K (.ref f) = true)
    (hb : Binds X.K fd ps ds) (hd : Vals dvs ds) (hx : Passes C X E) (ha : PA X (e :: es) t) (hdb : (x == ("__debug__" : Str)) = false := by decide)
    (he : starEach (e :: es) X.env = (false, eval e X.env) :: starEach es X.env := by rfl) (hpl : (backTo pos (starEach es X.env)).any (·.1) = false := by rfl) :
    PE X (.Call (.Name x p) (e :: es) [] pos) (tCall sp dvs E t) := by
  refine ⟨fun pins s σ H Q I h => wpAny_Call_Name_kw (ld_glob I hg hm ?_ hdb)⟩
  refine PySem.W.callWith_K (h₀ := X.base) I.ok.mod.kin hk (thn (ha.run pos pins s σ H _ I h) fun us s1 z => ?_) he hpl
  obtain ⟨vs, H1, I1, r, q⟩ := z
  exact ⟨I1.kIn, goG F hA hr hb hd hx I1 r q⟩
/-- f(k = v, ..): keywords alone -/
def tCallW (sp : Sp) (gV : List V → List V) (E : XK) (tk : TA) : TE := fun σ H Q => tk σ H fun zs H2 => sp (gV zs) H2 Q E
variable {g : List Value → List Value → List Value} {gV : List V → List V → List V}
theorem pe_callW (F : FnOk X.prog X.w X.K X.mg X.base C k f fd ps sp) (hr : Room k X.A) (hg : Gl X x) (hm : X.mg x = some (.ref f)) (hk : PySem.W.keepIn X.K (.ref f) = true) (hb : KBinds X.K fd ps ks g gV) (hx : Passes C X E)
    (hkw : PK X kws tk) (hall : (backToKw pos (keywordEach kws X.env)).all (·.1.isSome) = true := by rfl) (hks : (backToKw pos (keywordEach kws X.env)).filterMap (·.1) = ks := by rfl)
    (hdb : (x == ("__debug__" : Str)) = false := by decide)
    (hpl : ((backTo pos (starEach [] X.env)).any (·.1) || (backToKw pos (keywordEach kws X.env)).any (·.1.isNone)) = false := by rfl) :
    PE X (.Call (.Name x p) [] kws pos) (tCallW sp (gV []) E tk) := by
  refine ⟨fun pins s σ H Q I h => wpAny_Call_Name_kw (ld_glob I hg hm ?_ hdb)⟩
  refine PySem.W.callWith_KW0 (h₀ := X.base) I.ok.mod.kin hk hall (thn (hkw.run pos pins s σ H _ I h) fun ws s2 z => ?_) hpl
  obtain ⟨zs, H2, I2, rz, q2⟩ := z
  refine ⟨I2.kIn, ?_⟩
  rw [hks]
  exact run_fnk F hr hb hx I2 .nil rz q2
end

/-! ### the law's call -/
theorem glaw {P : Program} {w : World} {K : PySem.W.Frag} {mg mb : Str → Option Value} {k : Nat} {fa a : Addr} {fd : FuncData} {x : Str} {sp : Sp} {s1 : Shared} {vs : List Value} {ns : List Int}
    (kx : K.In s1.heap) (hn : s1.heap.Ns mainGlobals mg) (hb : s1.heap.Ns builtinsNs mb) (hbb : ∀ x : Str, x ≠ "__name__" → mb x = bootBuiltins x) (hlim : s1.heap.NoLimit) (hgs : s1.gens = #[])
    (ha : s1.heap.get? a = some { cls := .type "list", data := .seq vs.toArray }) (hi : IntsAre vs ns) (hl : ns.length ≤ sizeLine) (hr : Room k callerA)
    (F : ∀ base : Heap, K.In base → base.Ns mainGlobals mg → FnG P w K mg base CX0 k fa fd [x] sp) (hbind : ∀ (s : Shared) (u : Value), BindsTo s fd ⟨[u], []⟩ [(x, u)])
    (hsp : ∀ H : Hp, SqL K H a (ns.map V.int) → sp [.ref a] H (fun v _ => v = .bl true) E0) :
    codeAny (model P w) callerA (.call (.ref fa) ⟨[.ref a], []⟩) (fun r s' => r = .ok (.ret (.bool true)) ∧ OldK s1.heap s'.heap ∧ s'.os = s1.os ∧ AllBare s'.gens) s1 := by
  have rv := vals_ints hi
  have nv := hi.length
  -- the abstract heap: the script, locked, unless the module itself holds it
  have main : ∀ H : Hp, (∀ b, H b = none ∨ (b = a ∧ H b = some (.frz { cls := .type "list", data := .seq vs.toArray } (.lst (ns.map V.int))))) → (H a ≠ none → K.lookup a = none) →
      SqL K H a (ns.map V.int) → HOk P w H s1.heap →
      codeAny (model P w) callerA (.call (.ref fa) ⟨[.ref a], []⟩) (fun r s' => r = .ok (.ret (.bool true)) ∧ OldK s1.heap s'.heap ∧ s'.os = s1.os ∧ AllBare s'.gens) s1 := by
    intro H hO hK hS hok
    have out : ∀ {b : Addr} {o : Obj}, s1.heap.get? b = some o → (b = a → H b = none) → (hidT s1.heap H).get? b = some o := fun {b o} e n => hidT_get e (by
      rcases hO b with z | ⟨z, _⟩
      · exact z
      · exact n z)
    have dct : ∀ {b : Addr} {m : Str → Option Value}, s1.heap.Ns b m → (hidT s1.heap H).Ns b m := fun {b m} ⟨o, es, ep, e, d, r⟩ => ⟨o, es, ep, out e (fun z => by
      subst z
      rw [ha] at e
      cases e
      cases (show Data.seq vs.toArray _ = Data.dict es ep from d)), d, r⟩
    have kb : K.In (hidT s1.heap H) := fun b o e => out (kx b o e) fun z => by
      subst z
      cases q : H b with
      | none => rfl
      | some u =>
        rw [hK (by rw [q]; exact fun z => nomatch z)] at e
        cases e
    have md : Mod K mg (hidT s1.heap H) := ⟨kb, dct hn, ⟨mb, dct hb, hbb⟩, let ⟨mc, h1, h2⟩ := hlim; ⟨mc, dct h1, h2⟩⟩
    have en : Env0 P w K mg (hidT s1.heap H) callerA [] s1 H := ⟨rfl, md, fun b o e => of_hidT e, Nat.le_of_eq (hidT_size _ _), trivial, fun b z => (List.not_mem_nil z).elim, hok, .of_eq hgs⟩
    refine codeAny_mono ((F _ kb (dct hn)).go callerA [] s1 H ⟨[.ref a], []⟩ [.ref a] [.ref a] _ _ rfl hr en (hbind s1 (.ref a)) (.cons rfl .nil) (hsp H hS)) fun r s' h => ?_
    cases r with
    | error e => exact False.elim h
    | ok fl =>
      cases fl with
      | next => exact False.elim h
      | brk => exact False.elim h
      | cont => exact False.elim h
      | ret u =>
        obtain ⟨v, H', os, br, un, ok', r', q⟩ := h
        cases (show v = .bl true from q)
        cases (show u = Value.bool true from r')
        refine ⟨rfl, OldK.of_keep fun b o e => ?_, os, br⟩
        rcases hO b with z | ⟨_, z⟩
        · exact un.keep b o e z (fun z => (List.not_mem_nil z).elim) (fun z => (List.not_mem_nil z).elim)
        · have e1 := (hok b _ z).1
          have e2 := (ok' b _ (un.frzs b _ _ z)).1
          rw [e] at e1
          cases e1
          exact e2
  cases hk : K.lookup a with
  | some o =>
    have e := kx a o hk
    rw [ha] at e
    cases e
    refine main (fun _ => none) (fun _ => .inl rfl) (fun z => absurd rfl z) (.inr ⟨_, vs.toArray, _, hk, rfl, rfl, rfl, ?_, ?_⟩) fun b u z => nomatch (show (none : Option HO) = some u from z)
    · rw [List.size_toArray, nv]
      exact hl
    · simpa using rv
  | none =>
    refine main (fun b => if b = a then some (.frz { cls := .type "list", data := .seq vs.toArray } (.lst (ns.map V.int))) else none) (fun b => ?_) (fun _ => hk) (.inl (.inr ⟨{ cls := .type "list", data := .seq vs.toArray }, if_pos rfl⟩)) (fun b u z => ?_)
    · by_cases q : b = a
      · exact .inr ⟨q, if_pos q⟩
      · exact .inl (if_neg q)
    · by_cases q : b = a
      · have z2 := (if_pos q).symm.trans z
        cases z2
        subst q
        exact ⟨ha, by rw [List.length_map]; exact hl, vs, _, rv, ha⟩
      · have z2 := (if_neg q).symm.trans z
        cases z2
theorem gwalk {l : PySem.W.OpenLaw} {n k : Nat} {q : Program} {lo : List Str} {XP : (Str → Option Value) → Heap → Prop} {YP : World → Heap → Prop} {d : DefRec} {K : Params → PySem.W.Frag} {sp : PySem.W.Frag → Sp} {x : Str}
    (hn : l.most = some n) (hn2 : n ≤ sizeLine) (hdf : d.params.defaults = []) (hr : Room k callerA) (hY : ∀ (w : World) (h : Heap), YP w h → (K w.params).In h)
    (F : ∀ (w : World) (mg : Str → Option Value) (fa : Addr) (h : Heap), (K w.params).In h → h.Ns mainGlobals mg → mg d.name = some (.ref fa) →
      ∃ fd : FuncData, (∀ (s : Shared) (u : Value), BindsTo s fd ⟨[u], []⟩ [(x, u)]) ∧
        ∀ base : Heap, (K w.params).In base → base.Ns mainGlobals mg → FnG l.prog w (K w.params) mg base CX0 k fa fd [x] (sp (K w.params)))
    (hsp : ∀ (K : PySem.W.Frag) (H : Hp) (a : Addr) (ns : List Int), ns.length ≤ n → SqL K H a (ns.map V.int) → sp K [.ref a] H (fun v _ => v = .bl true) E0) :
    PySem.W.WalkO q lo XP YP l.row.toRowW d [] (fun f vs => PySem.call f vs) := by
  refine Att.attach_call hn hdf fun w s₀ s₁ mg mb fa o pm cd doc a vs ns G Y ho hd hcd hmg hobj hints hlen hg => ?_
  have kx := hY w _ Y
  obtain ⟨fd, hb, hF⟩ := F w mg fa _ kx G.T.g hmg
  exact glaw kx G.T.g G.T.b G.T.builtins G.T.nolimit hg hobj hints (Nat.le_trans hlen hn2) hr hF hb fun H hS => hsp (K w.params) H a ns hlen hS

/-! ### repr of data -/
def rRepr (K : PySem.W.Frag) : List V → Hp → VK → Prop := fun xs H Q => ∃ (a : Addr) (d : PyData), xs = [.ref a] ∧ Dp K H (.ref a) d ∧ d.showable = true ∧ d.hasDict = false ∧ d.depth ≤ 32 ∧ d.shown.length ≤ sizeLine ∧ Q (.str d.shown) H
theorem call_repr {X : Cx} (hA : X.A.guards = some []) {k : Nat} (hr : Room k X.A) : CallR X (.builtin "repr") (rRepr X.K) := by
  intro pins s σ H xs us Q I r h
  obtain ⟨a, d, rfl, hd, h1, h2, h3, h4, q⟩ := h
  cases r with
  | cons r1 r2 =>
    cases r2
    cases r1
    obtain ⟨as, rd⟩ := Dp.reads I d _ _ hd rfl
    have hu := hr.units
    refine repr_of_reads' rd h1 (fun z => by rw [h2] at z; cases z) hA (by omega) (fun _ _ e => e) (fun h' u tk kp => ?_) h4
    exact ⟨.str d.shown, H, I.kept (t' := tk) kp, ⟨u, rfl⟩, q⟩

/-- repr of any data -/
def rReprV (K : PySem.W.Frag) : List V → Hp → VK → Prop := fun xs H Q => ∃ (x : V) (d : PyData), xs = [x] ∧ Dp K H x d ∧ d.showable = true ∧ d.hasDict = false ∧ d.depth ≤ 32 ∧ d.shown.length ≤ sizeLine ∧ Q (.str d.shown) H
theorem reprV {X : Cx} {K : PySem.W.Frag} (hK : X.K = K) (hA : X.A.guards = some []) {k : Nat} (hr : Room k X.A) : CallR X (.builtin "repr") (rReprV K) := by
  subst hK
  intro pins s σ H xs us Q I r h
  obtain ⟨x, d, rfl, hd, h1, h2, h3, h4, q⟩ := h
  have ref : ∀ a : Addr, x = .ref a → wpAny (model X.prog X.w) X.A (call (.builtin "repr") us) (EP X pins σ Q) X.xe s := fun a e => by
    subst e
    exact call_repr hA hr pins s σ H _ us Q I r ⟨a, d, rfl, hd, h1, h2, h3, h4, q⟩
  cases hd with
  | lst _ _ => exact ref _ rfl
  | tup _ _ => exact ref _ rfl
  | non =>
    cases r with
    | cons r1 r2 =>
      cases r2
      cases r1
      exact PySem.P.repr_of_none ⟨.str (PyData.shown .none), H, I.tok _, ⟨_, rfl⟩, q⟩
  | bl b =>
    cases r with
    | cons r1 r2 =>
      cases r2
      cases r1
      cases b with
      | true => exact PySem.P.repr_of_bool ⟨.str (PyData.shown (.bool true)), H, I.tok _, ⟨_, rfl⟩, q⟩
      | false => exact PySem.P.repr_of_bool ⟨.str (PyData.shown (.bool false)), H, I.tok _, ⟨_, rfl⟩, q⟩
  | int i =>
    cases r with
    | cons r1 r2 =>
      cases r2
      obtain ⟨t, rfl⟩ := r1
      have z : i.natAbs.log2 < 1920 := by
        simp only [PyData.showable] at h1
        exact of_decide_eq_true h1
      exact PySem.P.repr_of_int z ⟨.str (PyData.shown (.int i)), H, I.tok _, ⟨_, rfl⟩, q⟩
  | str y =>
    cases r with
    | cons r1 r2 =>
      cases r2
      obtain ⟨t, rfl⟩ := r1
      exact PySem.P.repr_of_str ⟨.str (PyData.shown (.str y)), H, I.tok _, ⟨_, rfl⟩, q⟩ h4

/-! ### a statement, then the rest by a word between them -/
def tMid (t u : TS) : TS := fun D σ H => ∃ M : L2.St → Hp → Prop, t { D with nx := M } σ H ∧ ∀ σ' H', M σ' H' → u D σ' H'
theorem pss_mid {X : Cx} {st : Stmt} {rs : List Stmt} {t u : TS} (h1 : PS X st t) (h2 : PSs X rs u) : PSs X (st :: rs) (tMid t u) :=
  ⟨fun pins s σ H D I ⟨M, hm, hu⟩ => wpAny_execs_cons (thn (h1.run pins s σ H { D with nx := M } I hm) fun f s1 q => by
    cases f with
    | next => exact q.elim fun σ' ⟨H', I', z⟩ => h2.run pins s1 σ' H' D I' (hu σ' H' z)
    | ret v => exact q
    | brk => exact q
    | cont => exact q)⟩

/-! ### rules with the written part named (for blocks of comprehensions) -/
theorem ixL {X : Cx} {K : PySem.W.Frag} (h : X.K = K) : IxR X (rIxL K) := h ▸ ix_list
theorem slL {X : Cx} {K : PySem.W.Frag} (h : X.K = K) : SlR X (rSlL K) := h ▸ sl_list
def rLenL (K : PySem.W.Frag) : List V → Hp → VK → Prop := fun xs H Q => ∃ (p : Addr) (ys : List V), xs = [.ref p] ∧ (SqL K H p ys ∨ SqT K H p ys) ∧ Q (.int ys.length) H
theorem lenL {X : Cx} {K : PySem.W.Frag} (h : X.K = K) : CallR X (.builtin "len") (rLenL K) := h ▸ call_len_seq
theorem sumL {X : Cx} {K : PySem.W.Frag} (h : X.K = K) (hc : X.calm = true) : CallR X (.builtin "sum") (rSum K) := h ▸ cr_sum hc
theorem maxL {X : Cx} {K : PySem.W.Frag} (h : X.K = K) (hc : X.calm = true) : CallR X (.builtin "max") (rMax K) := h ▸ cr_max hc
theorem minL {X : Cx} {K : PySem.W.Frag} (h : X.K = K) (hc : X.calm = true) : CallR X (.builtin "min") (rMin K) := h ▸ cr_min hc
theorem isiL {X : Cx} {K : PySem.W.Frag} (h : X.K = K) : CallR X (.builtin "isinstance") (rIsi K) := h ▸ call_isi
theorem reprL {X : Cx} {K : PySem.W.Frag} (h : X.K = K) (hA : X.A.guards = some []) {k : Nat} (hr : Room k X.A) : CallR X (.builtin "repr") (rRepr K) := h ▸ call_repr hA hr
theorem pg_tupL {X : Cx} {K : PySem.W.Frag} {es : List Expr} {j : Nat} {pos : Pos} {t : TGs} {n : Nat} (h : X.K = K) (hc : X.calm = true) (hs : PGs X es t)
    (hn : (assignEach es X.env).length = n := by rfl) (hst : (assignEach es X.env).findIdx? (·.1) = none := by rfl) : PG X (.Tuple es j pos) (gTup K n t) := h ▸ pg_tup hc hs hn hst
theorem enumL {X : Cx} {K : PySem.W.Frag} {elts : List Expr} {kk : Nat} {tpos p pos : Pos} {e : Expr} {ta : TA} (h : X.K = K) (hg : Gl X "enumerate") (hm : X.mg "enumerate" = none) (ha : PA X [e] ta)
    (hs : starEach [e] X.env = [(false, eval e X.env)] := by rfl) : PI X (.Tuple elts kk tpos) (.Call (.Name "enumerate" p) [e] [] pos) (iEnum K ta) := h ▸ pi_enum hg hm ha hs
theorem zipL {X : Cx} {K : PySem.W.Frag} {elts : List Expr} {kk : Nat} {tpos p pos : Pos} {e e2 : Expr} {ta : TA} (h : X.K = K) (hg : Gl X "zip") (hm : X.mg "zip" = none) (ha : PA X [e, e2] ta)
    (hs : starEach [e, e2] X.env = (false, eval e X.env) :: starEach [e2] X.env := by rfl) (hpl : (backTo pos (starEach [e2] X.env)).any (·.1) = false := by rfl) :
    PI X (.Tuple elts kk tpos) (.Call (.Name "zip" p) [e, e2] [] pos) (iZip K ta) := h ▸ pi_zip hg hm ha hs hpl
theorem pi_tupL {X : Cx} {K : PySem.W.Frag} {tg l : Expr} {tl : TE} (h : X.K = K) (hl : PE X l tl) : PI X tg l (iTup K tl) := h ▸ pi_tup hl
theorem pi_listL {X : Cx} {K : PySem.W.Frag} {tg l : Expr} {tl : TE} (h : X.K = K) (hl : PE X l tl) : PI X tg l (iList K tl) := h ▸ pi_list hl
def rListL (K : PySem.W.Frag) : List V → Hp → VK → Prop := fun xs H Q => ∃ (p : Addr) (ys : List V), xs = [.ref p] ∧ (SqL K H p ys ∨ SqT K H p ys) ∧ ∀ l, H l = none → Q (.ref l) (upd H l (.lst ys))
theorem listL {X : Cx} {K : PySem.W.Frag} (h : X.K = K) : CallR X (.type "list") (rListL K) := h ▸ call_list_of
theorem eqD {X : Cx} {K : PySem.W.Frag} (h : X.K = K) {k : Nat} (hr : Room k X.A) : OpR X (compareOp .Eq) (rEqD K) := h ▸ op_eqD hr.units
theorem neD {X : Cx} {K : PySem.W.Frag} (h : X.K = K) {k : Nat} (hr : Room k X.A) : OpR X (compareOp .NotEq) (rNeD K) := h ▸ op_neD hr.units

/-! ### a power of a great int, the exponent small -/
def CPow3 (i j : Int) : Prop := j = 3 ∧ 0 ≤ i ∧ i.natAbs < 2 ^ 200
theorem op_pow3 {X : Cx} : OpR X (binaryOp .Pow) (rI CPow3 fun i j => .int (i ^ j.toNat)) := opI fun i j t u s Q E hc q => by
  obtain ⟨rfl, h0, h1⟩ := hc
  by_cases e : (i == 0 || i == 1) = true
  · refine PySem.AutoIntOps.pow_1 (by decide) (by decide) e ?_
    have e2 : i ^ (3 : Int).toNat = i := by
      rcases (Bool.or_eq_true _ _).mp e with z | z
      · rw [eq_of_beq z]; rfl
      · rw [eq_of_beq z]; rfl
    rw [e2] at q
    exact q
  · refine PySem.AutoIntOps.pow_4 (by decide) (by decide) e ?_ ?_ q
    · intro z
      have := eq_of_beq z
      omega
    · intro z
      unfold Builtin.Int.intTooBig at z
      have z3 := of_decide_eq_true z
      have b : Builtin.Int.intBits i ≤ 201 := by
        unfold Builtin.Int.intBits
        have y := PySem.Flt.log2_lt_of (show 0 < 200 by decide) h1
        split <;> omega
      have e : bitsLine = 134217728 := by decide
      rw [e] at z3
      omega
end Sd

namespace Sd
open PySem PySem.Spec PyProof.Rows L2

/-! ### heaps -/
/-- all but T is as it was -/
def But (T : Addr) (H H' : Hp) : Prop := ∀ b o, H b = some o → b ≠ T → H' b = some o
theorem But.refl (T : Addr) (H : Hp) : But T H H := fun _ _ h _ => h
theorem But.trans {T : Addr} {H H1 H2 : Hp} (a : But T H H1) (b : But T H1 H2) : But T H H2 := fun c o h n => b c o (a c o h n) n
theorem But.of {T : Addr} {H H' : Hp} (s : Same H H') : But T H H' := fun b o h _ => s b o h
theorem But.lst {T : Addr} {H H' : Hp} {a : Addr} {o : HO} (s : But T H H') (h : H a = some o) (n : a ≠ T) : H' a = some o := s a o h n
theorem new_same {H : Hp} {p : Addr} {o : HO} (h : H p = none) : Same H (upd H p o) := fun b x e => by
  rw [upd_ne (ne_of_none e h)]
  exact e
theorem upd_but {H : Hp} {T : Addr} {o : HO} : But T H (upd H T o) := fun b x e n => by
  rw [upd_ne n]
  exact e
theorem free_but {T : Addr} {H H' : Hp} {p : Addr} {o : HO} (s : But T H H') (hT : H T = some o) (h : H' p = none) (hT' : H' T ≠ none) : H p = none := by
  cases q : H p with
  | none => rfl
  | some u =>
    by_cases e : p = T
    · subst e
      exact absurd h hT'
    · rw [s p u q e] at h
      cases h
/-- the law's tank -/
def Tank (H : Hp) (T : Addr) (c : Int) : Prop := ∃ x y z : Int, H T = some (.lst [.int x, .int y, .int z]) ∧ 0 ≤ x ∧ 0 ≤ y ∧ y < 2 ^ 100 ∧ 0 ≤ z ∧ z ≤ c
theorem Tank.some {H : Hp} {T : Addr} {c : Int} (h : Tank H T c) : ∃ o, H T = some o := let ⟨_, _, _, e, _⟩ := h; ⟨_, e⟩
theorem Tank.same {H H' : Hp} {T : Addr} {c : Int} (h : Tank H T c) (s : Same H H') : Tank H' T c := let ⟨x, y, z, e, r⟩ := h; ⟨x, y, z, s _ _ e, r⟩
theorem Tank.ne {H : Hp} {T p : Addr} {c : Int} (h : Tank H T c) (n : H p = none) : p ≠ T := fun e => by
  obtain ⟨o, q⟩ := h.some
  rw [e, q] at n
  cases n
theorem Tank.up {H : Hp} {T p : Addr} {c : Int} {o : HO} (h : Tank H T c) (n : H p = none) : Tank (upd H p o) T c := h.same (new_same n)
theorem Tank.mono {H : Hp} {T : Addr} {c d : Int} (h : Tank H T c) (l : c ≤ d) : Tank H T d := let ⟨x, y, z, e, a, b, r, f, g⟩ := h; ⟨x, y, z, e, a, b, r, f, by omega⟩

/-! ### lists of ints -/
theorem tyx_list {K : PySem.W.Frag} {H : Hp} {a : Addr} {xs : List V} (h : SqL K H a xs) : TyX K H (.ref a) (.type "list") := by
  rcases h with (h | ⟨o, h⟩) | ⟨o, its, n, hk, hc, _⟩
  · exact .base (.lst h)
  · exact .base (.frz h)
  · exact .kList hk hc
theorem kit_int_int {K : PySem.W.Frag} : PySem.W.kitOne K (.type "int") (.type "int") = some true := kit_ty (by decide +kernel)
theorem kit_int_bool {K : PySem.W.Frag} : PySem.W.kitOne K (.type "int") (.type "bool") = some false := kit_ty (by decide +kernel)
theorem kit_list_list {K : PySem.W.Frag} : PySem.W.kitOne K (.type "list") (.type "list") = some true := kit_ty (by decide +kernel)
/-- a rim: from 1 to 40 numbers from 0 to 10 ** 30 -/
structure Rim (ns : List Int) : Prop where
  pos : 1 ≤ ns.length
  le : ns.length ≤ 40
  all : ∀ n ∈ ns, 0 ≤ n ∧ n ≤ 1000000000000000000000000000000
theorem sz40 {n : Nat} (h : n ≤ 100000) : n < sizeLine := Nat.lt_of_le_of_lt h (by decide)
theorem sz40' {n : Nat} (h : n ≤ 100000) : n ≤ sizeLine := Nat.le_of_lt (sz40 h)
theorem int_at {ns : List Int} {i : Nat} {x : V} (h : (ns.map V.int)[i]? = some x) : ∃ n, ns[i]? = some n ∧ x = .int n := by
  rw [List.getElem?_map] at h
  cases e : ns[i]? with
  | none =>
    rw [e] at h
    cases h
  | some n =>
    rw [e] at h
    exact ⟨n, rfl, (Option.some.inj h).symm⟩
theorem at_int {ns : List Int} {i : Nat} {n : Int} (h : ns[i]? = some n) : (ns.map V.int)[i]? = some (.int n) := by
  rw [List.getElem?_map, h]
  rfl
/-- xs[i] at an int that lies within -/
theorem at_in {ns : List Int} {i : Int} (h0 : 0 ≤ i) (h1 : i < ns.length) : ∃ n, ns[i.toNat]? = some n ∧ atI (ns.map V.int) i = some (.int n) := by
  have h2 : i.toNat < ns.length := by omega
  obtain ⟨j, rfl⟩ : ∃ j : Nat, i = (j : Int) := ⟨i.toNat, by omega⟩
  have h3 : j < ns.length := by omega
  exact ⟨ns[j], List.getElem?_eq_getElem h3, atI_nat (at_int (List.getElem?_eq_getElem h3))⟩
theorem ixN_in {n : Nat} {i : Int} (h0 : 0 ≤ i) (h1 : i < n) : ixN n i = some i.toNat := by
  unfold ixN
  rw [if_pos h0, if_pos h1]

/-! ### turning, mirroring -/
/-- what stands at slot j behind a turn by t -/
def rot (ns : List Int) (t : Int) : List Int := (List.range ns.length).map fun (j : Nat) => ns.getD ((((j : Int) - t) % (ns.length : Int)).toNat) 0
def mir (ns : List Int) : List Int := (List.range ns.length).map fun (j : Nat) => ns.getD (((-(j : Int)) % (ns.length : Int)).toNat) 0
theorem rot_len (ns : List Int) (t : Int) : (rot ns t).length = ns.length := by
  unfold rot
  rw [List.length_map, List.length_range]
theorem mir_len (ns : List Int) : (mir ns).length = ns.length := by
  unfold mir
  rw [List.length_map, List.length_range]
theorem rot_at {ns : List Int} {t : Int} {j : Nat} (h : j < ns.length) : (rot ns t)[j]? = some (ns.getD ((((j : Int) - t) % (ns.length : Int)).toNat) 0) := by
  unfold rot
  rw [List.getElem?_map, List.getElem?_range h]
  rfl
theorem mir_at {ns : List Int} {j : Nat} (h : j < ns.length) : (mir ns)[j]? = some (ns.getD (((-(j : Int)) % (ns.length : Int)).toNat) 0) := by
  unfold mir
  rw [List.getElem?_map, List.getElem?_range h]
  rfl
theorem mod_in {i : Int} {n : Nat} (h : 0 < n) : 0 ≤ i % (n : Int) ∧ i % (n : Int) < n := ⟨Int.emod_nonneg _ (by omega), Int.emod_lt_of_pos _ (by omega)⟩
theorem getD_at {ns : List Int} {j : Nat} {n : Int} (h : ns[j]? = some n) : ns.getD j 0 = n := by
  rw [List.getD_eq_getElem?_getD, h]
  rfl
theorem at_getD {ns : List Int} {j : Nat} (h : j < ns.length) : ns[j]? = some (ns.getD j 0) := by
  rw [List.getD_eq_getElem?_getD, List.getElem?_eq_getElem h]
  rfl
theorem rot_all {ns : List Int} {t : Int} {P : Int → Prop} (h : ∀ n ∈ ns, P n) : ∀ n ∈ rot ns t, P n := fun n hn => by
  unfold rot at hn
  obtain ⟨j, hj, rfl⟩ := List.mem_map.mp hn
  have hj := List.mem_range.mp hj
  have hm := mod_in (i := (j : Int) - t) (show 0 < ns.length by omega)
  exact h _ (List.mem_of_getElem? (at_getD (show (((j : Int) - t) % (ns.length : Int)).toNat < ns.length by omega)))
theorem mir_all {ns : List Int} {P : Int → Prop} (h : ∀ n ∈ ns, P n) : ∀ n ∈ mir ns, P n := fun n hn => by
  unfold mir at hn
  obtain ⟨j, hj, rfl⟩ := List.mem_map.mp hn
  have hj := List.mem_range.mp hj
  have hm := mod_in (i := -(j : Int)) (show 0 < ns.length by omega)
  exact h _ (List.mem_of_getElem? (at_getD (show ((-(j : Int)) % (ns.length : Int)).toNat < ns.length by omega)))
theorem Rim.rot {ns : List Int} (h : Rim ns) (t : Int) : Rim (rot ns t) := ⟨by rw [rot_len]; exact h.pos, by rw [rot_len]; exact h.le, rot_all h.all⟩
theorem Rim.mir {ns : List Int} (h : Rim ns) : Rim (mir ns) := ⟨by rw [mir_len]; exact h.pos, by rw [mir_len]; exact h.le, mir_all h.all⟩
/-- filling slot by slot: found[(i + t) % n] = ns[i] for i below k leaves rot where it was filled -/
theorem rot_back {ns : List Int} {t : Int} {i : Nat} (hi : i < ns.length) : (rot ns t)[((((i : Int) + t) % (ns.length : Int)).toNat)]? = ns[i]? := by
  have hm := mod_in (i := (i : Int) + t) (show 0 < ns.length by omega)
  rw [rot_at (by omega), at_getD hi]
  have e : ((((((i : Int) + t) % (ns.length : Int)).toNat : Nat) : Int) - t) % (ns.length : Int) = (i : Int) := by
    rw [Int.toNat_of_nonneg hm.1, Int.emod_sub_emod]
    rw [show (i : Int) + t - t = (i : Int) by omega]
    exact Int.emod_eq_of_lt (by omega) (by omega)
  rw [e, Int.toNat_natCast]
theorem mir_back {ns : List Int} {i : Nat} (hi : i < ns.length) : (mir ns)[((((0 : Int) - (i : Int)) % (ns.length : Int)).toNat)]? = ns[i]? := by
  have hm := mod_in (i := (0 : Int) - (i : Int)) (show 0 < ns.length by omega)
  rw [mir_at (by omega), at_getD hi]
  have e : (-((((((0 : Int) - (i : Int)) % (ns.length : Int)).toNat : Nat) : Int))) % (ns.length : Int) = (i : Int) := by
    rw [Int.toNat_of_nonneg hm.1]
    rw [show -(((0 : Int) - (i : Int)) % (ns.length : Int)) = 0 - ((0 : Int) - (i : Int)) % (ns.length : Int) by omega, Int.sub_emod_emod]
    rw [show (0 : Int) - (0 - (i : Int)) = (i : Int) by omega]
    exact Int.emod_eq_of_lt (by omega) (by omega)
  rw [e, Int.toNat_natCast]
/-- filled at the places f 0, f 1 .. f (k - 1) as res is -/
def Filled (f : Nat → Nat) (res ms : List Int) (k : Nat) : Prop := ms.length = res.length ∧ ∀ p, (∃ j, j < k ∧ f j = p) → ms[p]? = res[p]?
theorem Filled.step {f : Nat → Nat} {res ms : List Int} {k : Nat} {v : Int} (h : Filled f res ms k) (e : res[f k]? = some v) : Filled f res (ms.set (f k) v) (k + 1) := by
  refine ⟨by rw [List.length_set]; exact h.1, fun p ⟨j, hj, hp⟩ => ?_⟩
  have hk : f k < ms.length := by
    rw [h.1]
    exact (List.getElem?_eq_some_iff.mp e).1
  by_cases q : f k = p
  · subst q
    rw [List.getElem?_set_self hk, e]
  · rw [List.getElem?_set_ne q]
    refine h.2 p ⟨j, ?_, hp⟩
    rcases Nat.lt_or_ge j k with z | z
    · exact z
    · have : j = k := by omega
      subst this
      exact absurd hp q
theorem Filled.done {f : Nat → Nat} {res ms : List Int} {n : Nat} (h : Filled f res ms n) (on : ∀ p, p < res.length → ∃ j, j < n ∧ f j = p) : ms = res := by
  refine List.ext_getElem? fun p => ?_
  by_cases q : p < res.length
  · exact h.2 p (on p q)
  · rw [List.getElem?_eq_none (by rw [h.1]; omega), List.getElem?_eq_none (by omega)]
theorem rot_on {ns : List Int} {t : Int} {p : Nat} (hp : p < ns.length) : ∃ j, j < ns.length ∧ (((j : Int) + t) % (ns.length : Int)).toNat = p := by
  have hm := mod_in (i := (p : Int) - t) (show 0 < ns.length by omega)
  refine ⟨(((p : Int) - t) % (ns.length : Int)).toNat, by omega, ?_⟩
  have e : ((((((p : Int) - t) % (ns.length : Int)).toNat : Nat) : Int) + t) % (ns.length : Int) = (p : Int) := by
    rw [Int.toNat_of_nonneg hm.1, Int.emod_add_emod]
    rw [show (p : Int) - t + t = (p : Int) by omega]
    exact Int.emod_eq_of_lt (by omega) (by omega)
  rw [e, Int.toNat_natCast]
theorem mir_on {ns : List Int} {p : Nat} (hp : p < ns.length) : ∃ j, j < ns.length ∧ (((0 : Int) - (j : Int)) % (ns.length : Int)).toNat = p := by
  have hm := mod_in (i := (0 : Int) - (p : Int)) (show 0 < ns.length by omega)
  refine ⟨(((0 : Int) - (p : Int)) % (ns.length : Int)).toNat, by omega, ?_⟩
  have e : ((0 : Int) - (((((0 : Int) - (p : Int)) % (ns.length : Int)).toNat : Nat) : Int)) % (ns.length : Int) = (p : Int) := by
    rw [Int.toNat_of_nonneg hm.1, Int.sub_emod_emod]
    rw [show (0 : Int) - (0 - (p : Int)) = (p : Int) by omega]
    exact Int.emod_eq_of_lt (by omega) (by omega)
  rw [e, Int.toNat_natCast]
theorem map_set {ns : List Int} {j : Nat} {v : Int} : (ns.map V.int).set j (.int v) = (ns.set j v).map V.int := by
  rw [List.map_set]
theorem take_next {l : List Int} {i : Nat} {v : Int} (h : l[i]? = some v) : (l.take i).map V.int ++ [.int v] = (l.take (i + 1)).map V.int := by
  rw [List.take_add_one, h, List.map_append]
  rfl
theorem take_all {l : List Int} {n : Nat} (h : l.length ≤ n) : l.take n = l := List.take_of_length_le h
theorem rep_one (v : Int) : ∀ k : Nat, (List.replicate k [V.int v]).flatten = (List.replicate k v).map V.int
  | 0 => rfl
  | k + 1 => by
    rw [List.replicate_succ, List.replicate_succ, List.flatten_cons, List.map_cons, rep_one v k]
    rfl
theorem rep_map (ns : List Int) : ∀ k : Nat, (List.replicate k (ns.map V.int)).flatten = ((List.replicate k ns).flatten).map V.int
  | 0 => rfl
  | k + 1 => by
    rw [List.replicate_succ, List.replicate_succ, List.flatten_cons, List.flatten_cons, List.map_append, rep_map ns k]
theorem rep_len (ns : List Int) : ∀ k : Nat, ((List.replicate k ns).flatten).length = k * ns.length
  | 0 => by simp
  | k + 1 => by
    rw [List.replicate_succ, List.flatten_cons, List.length_append, rep_len ns k, Nat.succ_mul, Nat.add_comm]
theorem rep_mem {ns : List Int} {k : Nat} {x : Int} (h : x ∈ (List.replicate k ns).flatten) : x ∈ ns := by
  obtain ⟨l, hl, hx⟩ := List.mem_flatten.mp h
  rw [(List.mem_replicate.mp hl).2] at hx
  exact hx
theorem cut_take (ns : List Int) (s : Int) (h0 : 0 ≤ s) : cutV (ns.map V.int) none (some s) = (ns.take s.toNat).map V.int := by
  obtain ⟨k, rfl⟩ : ∃ k : Nat, s = (k : Int) := ⟨s.toNat, by omega⟩
  unfold cutV
  rw [HT.sIx_none, HT.sIx_nat, Int.toNat_natCast, List.drop_zero, Nat.sub_zero, List.map_take]
  rcases Nat.le_total k (ns.map V.int).length with z | z
  · rw [Nat.min_eq_left z]
  · rw [Nat.min_eq_right z, List.take_of_length_le (Nat.le_refl _), List.take_of_length_le z]

/-! ### data: lists of ints, for repr and == -/
def dI (ns : List Int) : PyData := .list (ns.map PyData.int)
theorem dpAll_ints {K : PySem.W.Frag} {H : Hp} : ∀ ns : List Int, DpAll K H (ns.map V.int) (ns.map PyData.int)
  | [] => .nil
  | n :: ns => .cons (.int n) (dpAll_ints ns)
theorem dp_ints {K : PySem.W.Frag} {H : Hp} {a : Addr} {ns : List Int} (h : SqL K H a (ns.map V.int)) : Dp K H (.ref a) (dI ns) := .lst h (dpAll_ints ns)
/-- what repr and == ask of data -/
structure RP (d : PyData) : Prop where
  sh : d.showable = true
  nd : d.hasDict = false
  cl : d.canLay0 = true
  dp : d.depth ≤ 32
theorem RP.shaped {d : PyData} (h : RP d) : SeqAt.shaped d = true := by
  have := h.dp
  exact Bool.and_eq_true_iff.mpr ⟨h.cl, decide_eq_true (by omega)⟩
theorem RP.refl {d : PyData} (h : RP d) : PyData.eqv d d = true := SeqAt.eqv_refl d h.cl
theorem rp_int {i : Int} (h : i.natAbs < 2 ^ 1000) : RP (.int i) := ⟨by simp only [PyData.showable]; exact decide_eq_true (Nat.lt_trans (PySem.Flt.log2_lt_of (by decide) h) (by decide)), by simp only [PyData.hasDict], by simp only [PyData.canLay0], by simp only [PyData.depth]; omega⟩
/-- all of a list: depth one less -/
structure RPs (k : Nat) (ds : List PyData) : Prop where
  sh : PyData.showableAll ds = true
  nd : PyData.hasDictAll ds = false
  cl : PyData.canLayAll0 ds = true
  dp : PyData.depthAll ds ≤ k
theorem RPs.nil {k : Nat} : RPs k [] := ⟨by simp only [PyData.showableAll], by simp only [PyData.hasDictAll], by simp only [PyData.canLayAll0], by simp only [PyData.depthAll]; omega⟩
theorem RPs.cons {k : Nat} {d : PyData} {ds : List PyData} (h : RP d) (hk : d.depth ≤ k) (hs : RPs k ds) : RPs k (d :: ds) := by
  refine ⟨?_, ?_, ?_, ?_⟩
  · simp only [PyData.showableAll, h.sh, hs.sh, Bool.and_self]
  · simp only [PyData.hasDictAll, h.nd, hs.nd, Bool.or_self]
  · simp only [PyData.canLayAll0, h.cl, hs.cl, Bool.and_self]
  · simp only [PyData.depthAll]
    have := hs.dp
    omega
theorem RPs.list {k : Nat} {ds : List PyData} (h : RPs k ds) (hk : k ≤ 31) : RP (.list ds) ∧ (PyData.list ds).depth ≤ k + 1 := by
  have hd : (PyData.list ds).depth ≤ k + 1 := by
    simp only [PyData.depth]
    have := h.dp
    omega
  refine ⟨⟨?_, ?_, ?_, by omega⟩, hd⟩
  · simp only [PyData.showable, h.sh]
  · simp only [PyData.hasDict, h.nd]
  · simp only [PyData.canLay0, h.cl]
theorem rps_ints : ∀ {ns : List Int}, (∀ n ∈ ns, n.natAbs < 2 ^ 1000) → RPs 0 (ns.map PyData.int)
  | [], _ => RPs.nil
  | n :: ns, h => RPs.cons (rp_int (h n List.mem_cons_self)) (by simp only [PyData.depth]; omega) (rps_ints fun x hx => h x (List.mem_cons_of_mem _ hx))
theorem rp_ints {ns : List Int} (h : ∀ n ∈ ns, n.natAbs < 2 ^ 1000) : RP (dI ns) := ((rps_ints h).list (by omega)).1
theorem dp_ints_depth {ns : List Int} (h : ∀ n ∈ ns, n.natAbs < 2 ^ 1000) : (dI ns).depth ≤ 1 := ((rps_ints h).list (by omega)).2
theorem sum_bound {B : Nat} : ∀ {l : List Nat}, (∀ x ∈ l, x ≤ B) → l.sum ≤ B * l.length
  | [], _ => Nat.zero_le _
  | x :: l, h => by
    have h1 := h x List.mem_cons_self
    have h2 := sum_bound (B := B) (l := l) fun y hy => h y (List.mem_cons_of_mem _ hy)
    rw [List.sum_cons, List.length_cons, Nat.mul_succ]
    omega
theorem shownAll_map (ds : List PyData) : PyData.shownAll ds = ds.map PyData.shown := by
  induction ds with
  | nil => rfl
  | cons d ds ih =>
    simp only [PyData.shownAll, List.map_cons, ih]
/-- how long a list's text is at most, by its items' -/
theorem shown_list {B : Nat} {ds : List PyData} (h : ∀ d ∈ ds, d.shown.length ≤ B) : (PyData.list ds).shown.length ≤ (B + 2) * ds.length + 3 := by
  simp only [PyData.shown]
  have h1 := listText_len_le (PyData.shownAll ds)
  have h2 : ((PyData.shownAll ds).map (·.length)).sum ≤ B * ds.length := by
    rw [shownAll_map, List.map_map]
    have := sum_bound (B := B) (l := ds.map ((fun x => x.length) ∘ PyData.shown)) fun x hx => by
      obtain ⟨d, hd, rfl⟩ := List.mem_map.mp hx
      exact h d hd
    rw [List.length_map] at this
    exact this
  have h3 : (PyData.shownAll ds).length = ds.length := by rw [shownAll_map, List.length_map]
  rw [h3] at h1
  rw [Nat.add_mul]
  omega
theorem shown_int {i : Int} (h : i.natAbs < 2 ^ 1000) : (PyData.int i).shown.length ≤ 1001 := by
  simp only [PyData.shown]
  rw [PySem.ofString_length]
  exact int_text_length_le (by decide) (PySem.Flt.log2_lt_of (by decide) h)
theorem shown_ints {ns : List Int} (h : ∀ n ∈ ns, n.natAbs < 2 ^ 1000) : (dI ns).shown.length ≤ 1003 * ns.length + 3 := by
  have := shown_list (B := 1001) (ds := ns.map PyData.int) fun d hd => by
    obtain ⟨n, hn, rfl⟩ := List.mem_map.mp hd
    exact shown_int (h n hn)
  rw [List.length_map] at this
  exact this
theorem small_abs {n : Int} (h0 : 0 ≤ n) (h1 : n ≤ 1000000000000000000000000000000) : n.natAbs < 2 ^ 1000 := Nat.lt_of_le_of_lt (m := 1000000000000000000000000000000) (by omega) (by decide +kernel)
theorem Rim.abs {ns : List Int} (h : Rim ns) : ∀ n ∈ ns, n.natAbs < 2 ^ 1000 := fun n hn => small_abs (h.all n hn).1 (h.all n hn).2
theorem Rim.rp {ns : List Int} (h : Rim ns) : RP (dI ns) := rp_ints h.abs
theorem Rim.fits {ns : List Int} (h : Rim ns) : (dI ns).shown.length ≤ sizeLine := by
  have := shown_ints h.abs
  have := h.le
  exact sz40' (by omega)
/-- an object that was not there is written -/
theorem same_over {H H4 : Hp} {l : Addr} {o : HO} (s : Same H H4) (n : H l = none) : Same H (upd H4 l o) := fun b x e => by
  rw [upd_ne (ne_of_none e n)]
  exact s b x e
/-- turned back -/
theorem rot_rot {ns : List Int} {t : Int} : rot (rot ns t) (0 - t) = ns := by
  refine List.ext_getElem? fun j => ?_
  by_cases h : j < ns.length
  · rw [rot_at (by rw [rot_len]; exact h), rot_len]
    have hm := mod_in (i := (j : Int) - (0 - t)) (show 0 < ns.length by omega)
    have e := rot_back (t := t) h
    rw [show (j : Int) - (0 - t) = (j : Int) + t by omega]
    rw [show (j : Int) - (0 - t) = (j : Int) + t by omega] at hm
    rw [← e, ← at_getD (by rw [rot_len]; omega)]
  · rw [List.getElem?_eq_none (by rw [rot_len, rot_len]; omega), List.getElem?_eq_none (by omega)]
theorem mir_mir {ns : List Int} : mir (mir ns) = ns := by
  refine List.ext_getElem? fun j => ?_
  by_cases h : j < ns.length
  · rw [mir_at (by rw [mir_len]; exact h), mir_len]
    have hm := mod_in (i := (0 : Int) - (j : Int)) (show 0 < ns.length by omega)
    have e := mir_back h
    rw [show -(j : Int) = (0 : Int) - (j : Int) by omega]
    rw [← e, ← at_getD (by rw [mir_len]; omega)]
  · rw [List.getElem?_eq_none (by rw [mir_len, mir_len]; omega), List.getElem?_eq_none (by omega)]
end Sd

namespace Sd
open PySem PySem.Spec PyProof.Rows L2

/-! ### lights -/
def Ab (k : Nat) (ns : List Int) : Prop := ∀ n ∈ ns, n.natAbs < 2 ^ k
theorem pow_up {a b : Nat} (h : a ≤ b) : (2 : Nat) ^ a ≤ 2 ^ b := Nat.pow_le_pow_right (by decide) h
theorem Ab.mono {k j : Nat} {ns : List Int} (h : Ab k ns) (l : k ≤ j) : Ab j ns := fun n hn => Nat.lt_of_lt_of_le (h n hn) (pow_up l)
theorem Rim.ab {ns : List Int} (h : Rim ns) : Ab 100 ns := fun n hn => by
  have := h.all n hn
  exact Nat.lt_of_le_of_lt (m := 1000000000000000000000000000000) (by omega) (by decide +kernel)
theorem Ab.rot {k : Nat} {ns : List Int} (h : Ab k ns) (t : Int) : Ab k (rot ns t) := rot_all h
theorem Ab.at {k : Nat} {ns : List Int} (h : Ab k ns) {i : Nat} {n : Int} (e : ns[i]? = some n) : n.natAbs < 2 ^ k := h n (List.mem_of_getElem? e)
def prods (ns ms : List Int) : List Int := List.zipWith (· * ·) ns ms
theorem prods_len (ns ms : List Int) : (prods ns ms).length = min ns.length ms.length := List.length_zipWith
theorem prods_at {ns ms : List Int} {i : Nat} {x y : Int} (h1 : ns[i]? = some x) (h2 : ms[i]? = some y) : (prods ns ms)[i]? = some (x * y) := by
  unfold prods
  rw [List.getElem?_zipWith, h1, h2]
theorem prods_ab {a b : Nat} : ∀ {ns ms : List Int}, Ab a ns → Ab b ms → Ab (a + b) (prods ns ms)
  | [], _, _, _ => fun n hn => by
    simp only [prods, List.zipWith_nil_left] at hn
    exact (List.not_mem_nil hn).elim
  | _ :: _, [], _, _ => fun n hn => by
    simp only [prods, List.zipWith_nil_right] at hn
    exact (List.not_mem_nil hn).elim
  | x :: ns, y :: ms, h1, h2 => fun n hn => by
    have hn : n ∈ x * y :: prods ns ms := hn
    rcases List.mem_cons.mp hn with e | e
    · subst e
      exact wide_lt (h1 x List.mem_cons_self) (h2 y List.mem_cons_self)
    · exact prods_ab (fun z hz => h1 z (List.mem_cons_of_mem _ hz)) (fun z hz => h2 z (List.mem_cons_of_mem _ hz)) n e
theorem sum_ab {k : Nat} : ∀ {ns : List Int}, Ab k ns → ns.sum.natAbs ≤ ns.length * 2 ^ k
  | [], _ => Nat.zero_le _
  | x :: ns, h => by
    have h1 := h x List.mem_cons_self
    have h2 := sum_ab (k := k) (ns := ns) fun z hz => h z (List.mem_cons_of_mem _ hz)
    rw [List.sum_cons, List.length_cons, Nat.succ_mul]
    have := Int.natAbs_add_le x ns.sum
    omega
theorem sum_lt {k : Nat} {ns : List Int} (h : Ab k ns) (hl : ns.length < 1024) : ns.sum.natAbs < 2 ^ (k + 10) := by
  have h1 := sum_ab h
  rw [Nat.pow_add]
  refine Nat.lt_of_le_of_lt h1 ?_
  rw [Nat.mul_comm]
  exact Nat.mul_lt_mul_of_pos_left hl (Nat.two_pow_pos k)
/-- the light at a turn -/
def lightV (ns ms : List Int) (t : Int) : Int := (prods ns (rot ms t)).sum
def lightsV (ns ms : List Int) : List Int := (List.range ns.length).map fun (i : Nat) => lightV ns ms (i : Int)
theorem lightsV_len (ns ms : List Int) : (lightsV ns ms).length = ns.length := by
  unfold lightsV
  rw [List.length_map, List.length_range]
theorem lightsV_at {ns ms : List Int} {i : Nat} (h : i < ns.length) : (lightsV ns ms)[i]? = some (lightV ns ms (i : Int)) := by
  unfold lightsV
  rw [List.getElem?_map, List.getElem?_range h]
  rfl
theorem lightV_lt {a b : Nat} {ns ms : List Int} (h1 : Ab a ns) (h2 : Ab b ms) (hl : ns.length < 1024) (t : Int) : (lightV ns ms t).natAbs < 2 ^ (a + b + 10) := by
  refine sum_lt (prods_ab h1 (h2.rot t)) ?_
  rw [prods_len]
  omega
theorem lightsV_ab {a b : Nat} {ns ms : List Int} (h1 : Ab a ns) (h2 : Ab b ms) (hl : ns.length < 1024) : Ab (a + b + 10) (lightsV ns ms) := fun n hn => by
  unfold lightsV at hn
  obtain ⟨i, _, rfl⟩ := List.mem_map.mp hn
  exact lightV_lt h1 h2 hl i
theorem rot_mod (ms : List Int) (t : Int) : rot ms (t % (ms.length : Int)) = rot ms t := by
  unfold rot
  refine List.map_congr_left fun j _ => ?_
  rw [Int.sub_emod_emod]
theorem lightV_mod {ns ms : List Int} (t : Int) : lightV ns ms (t % (ms.length : Int)) = lightV ns ms t := by
  unfold lightV
  rw [rot_mod]
/-- lights[t % n], whatever the turn -/
theorem lights_any {ns ms : List Int} (t : Int) (hl : ns.length = ms.length) (h1 : 1 ≤ ns.length) : atI ((lightsV ns ms).map V.int) (t % (ns.length : Int)) = some (.int (lightV ns ms t)) := by
  have hm := mod_in (i := t) (show 0 < ns.length by omega)
  obtain ⟨n, hn, hat⟩ := at_in (ns := lightsV ns ms) hm.1 (by rw [lightsV_len]; exact hm.2)
  rw [lightsV_at (by omega), Int.toNat_of_nonneg hm.1, hl, lightV_mod] at hn
  rw [hat, ← Option.some.inj hn]
/-! ### the greatest, the places of some -/
theorem max_ex : ∀ {ns : List Int}, 1 ≤ ns.length → ∃ m, m ∈ ns ∧ ∀ y ∈ ns, y ≤ m
  | [], h => absurd h (by decide)
  | [x], _ => ⟨x, List.mem_cons_self, fun y hy => by rw [List.mem_singleton.mp hy]; exact Int.le_refl _⟩
  | x :: z :: ns, _ => by
    obtain ⟨m, hm, hg⟩ := max_ex (ns := z :: ns) (by simp)
    by_cases h : x ≤ m
    · refine ⟨m, List.mem_cons_of_mem _ hm, fun y hy => ?_⟩
      rcases List.mem_cons.mp hy with e | e
      · rw [e]
        exact h
      · exact hg y e
    · refine ⟨x, List.mem_cons_self, fun y hy => ?_⟩
      rcases List.mem_cons.mp hy with e | e
      · rw [e]
        exact Int.le_refl _
      · have := hg y e
        omega
theorem max_one {ns : List Int} {m m' : Int} (h1 : m ∈ ns) (h2 : ∀ y ∈ ns, y ≤ m) (h3 : m' ∈ ns) (h4 : ∀ y ∈ ns, y ≤ m') : m = m' := Int.le_antisymm (h4 _ h1) (h2 _ h3)
/-- the places below k of the items for which p holds -/
def places (p : Int → Bool) (ns : List Int) (k : Nat) : List Int := ((List.range k).filter fun i => p (ns.getD i 0)).map fun (i : Nat) => (i : Int)
theorem places_len (p : Int → Bool) (ns : List Int) (k : Nat) : (places p ns k).length ≤ k := by
  unfold places
  rw [List.length_map]
  refine Nat.le_trans (List.length_filter_le _ _) ?_
  rw [List.length_range]
  exact Nat.le_refl _
theorem places_yes {p : Int → Bool} {ns : List Int} {k : Nat} {n : Int} (h : ns[k]? = some n) (hp : p n = true) : places p ns (k + 1) = places p ns k ++ [(k : Int)] := by
  unfold places
  rw [List.range_succ, List.filter_append, List.map_append]
  have : ([k].filter fun i => p (ns.getD i 0)) = [k] := by
    rw [List.filter_cons, getD_at h, if_pos hp]
    rfl
  rw [this]
  rfl
theorem places_no {p : Int → Bool} {ns : List Int} {k : Nat} {n : Int} (h : ns[k]? = some n) (hp : ¬ p n = true) : places p ns (k + 1) = places p ns k := by
  unfold places
  rw [List.range_succ, List.filter_append, List.map_append]
  have : ([k].filter fun i => p (ns.getD i 0)) = [] := by
    rw [List.filter_cons, getD_at h, if_neg hp]
    rfl
  rw [this]
  simp
theorem places_ab (p : Int → Bool) (ns : List Int) {k : Nat} (h : k < 1000) : Ab 100 (places p ns k) := fun n hn => by
  unfold places at hn
  obtain ⟨i, hi, rfl⟩ := List.mem_map.mp hn
  have := List.mem_range.mp (List.mem_filter.mp hi).1
  exact Nat.lt_of_lt_of_le (m := 1000) (by omega) (by decide)
theorem Ab.rp {k : Nat} {ns : List Int} (h : Ab k ns) (hk : k ≤ 1000) : RP (dI ns) := rp_ints (h.mono hk)
theorem Ab.fits {k : Nat} {ns : List Int} (h : Ab k ns) (hk : k ≤ 1000) (hl : ns.length ≤ 2000) : (dI ns).shown.length ≤ 2100000 := by
  have := shown_ints (h.mono hk)
  omega
theorem fit_le {n : Nat} (h : n ≤ 16000000) : n ≤ sizeLine := Nat.le_trans h (by decide)
/-- some lists of ints, in a list -/
def dL (ls : List (List Int)) : PyData := .list (ls.map dI)
theorem rps_lists {k : Nat} (hk : k ≤ 1000) : ∀ {ls : List (List Int)}, (∀ l ∈ ls, Ab k l) → RPs 1 (ls.map dI)
  | [], _ => RPs.nil
  | l :: ls, h => RPs.cons ((h l List.mem_cons_self).rp hk) (dp_ints_depth ((h l List.mem_cons_self).mono hk)) (rps_lists hk fun x hx => h x (List.mem_cons_of_mem _ hx))
theorem rp_lists {k : Nat} (hk : k ≤ 1000) {ls : List (List Int)} (h : ∀ l ∈ ls, Ab k l) : RP (dL ls) := ((rps_lists hk h).list (by omega)).1
theorem fits_lists {k : Nat} (hk : k ≤ 1000) {ls : List (List Int)} (h : ∀ l ∈ ls, Ab k l) (hl : ∀ l ∈ ls, l.length ≤ 1000) (hn : ls.length ≤ 7) : (dL ls).shown.length ≤ sizeLine := by
  have h1 := shown_list (B := 2100000) (ds := ls.map dI) fun d hd => by
    obtain ⟨l, hm, rfl⟩ := List.mem_map.mp hd
    exact (h l hm).fits hk (by have := hl l hm; omega)
  rw [List.length_map] at h1
  refine fit_le (Nat.le_trans h1 ?_)
  omega
theorem all2 {P : List Int → Prop} {a b : List Int} (h1 : P a) (h2 : P b) : ∀ l ∈ [a, b], P l := fun l hl => by
  simp only [List.mem_cons, List.not_mem_nil, or_false] at hl
  rcases hl with rfl | rfl <;> assumption
theorem all3 {P : List Int → Prop} {a b c : List Int} (h1 : P a) (h2 : P b) (h3 : P c) : ∀ l ∈ [a, b, c], P l := fun l hl => by
  simp only [List.mem_cons, List.not_mem_nil, or_false] at hl
  rcases hl with rfl | rfl | rfl <;> assumption
end Sd

namespace Sd
open PySem PySem.Spec PyProof.Rows L2

/-! ### by steps -/
def stepsV (ns ms : List Int) (f st : Int) (k : Nat) : List Int := (List.range k).map fun (i : Nat) => lightV ns ms (f + st * (i : Int))
theorem stepsV_len (ns ms : List Int) (f st : Int) (k : Nat) : (stepsV ns ms f st k).length = k := by
  unfold stepsV
  rw [List.length_map, List.length_range]
theorem stepsV_at {ns ms : List Int} {f st : Int} {k i : Nat} (h : i < k) : (stepsV ns ms f st k)[i]? = some (lightV ns ms (f + st * (i : Int))) := by
  unfold stepsV
  rw [List.getElem?_map, List.getElem?_range h]
  rfl
/-- the first of them, None if there is none -/
def headV : List Int → V
  | [] => .non
  | x :: _ => .int x
def headD : List Int → PyData
  | [] => .none
  | x :: _ => .int x
theorem places_more (p : Int → Bool) (ns : List Int) (i : Nat) : ∀ d : Nat, ∃ r, places p ns (i + d) = places p ns i ++ r
  | 0 => ⟨[], by simp⟩
  | d + 1 => by
    obtain ⟨r, e⟩ := places_more p ns i d
    refine ⟨r ++ ([i + d].filter fun j => p (ns.getD j 0)).map fun (j : Nat) => (j : Int), ?_⟩
    rw [← List.append_assoc, ← e]
    unfold places
    rw [show i + (d + 1) = (i + d) + 1 from rfl, List.range_succ, List.filter_append, List.map_append]
theorem places_head {p : Int → Bool} {ns : List Int} {i k : Nat} {x : Int} (hx : ns[i]? = some x) (hp : p x = true) (hno : places p ns i = []) (hk : i < k) : headV (places p ns k) = .int i := by
  obtain ⟨r, e⟩ := places_more p ns (i + 1) (k - (i + 1))
  rw [show i + 1 + (k - (i + 1)) = k by omega, places_yes hx hp, hno] at e
  rw [e]
  rfl
theorem places_none {p : Int → Bool} {ns : List Int} {k : Nat} : places p ns k = [] ↔ ∀ i, i < k → ¬ p (ns.getD i 0) = true := by
  unfold places
  rw [List.map_eq_nil_iff, List.filter_eq_nil_iff]
  exact ⟨fun h i hi => h i (List.mem_range.mpr hi), fun h i hi => h i (List.mem_range.mp hi)⟩
theorem places_congr {p : Int → Bool} {ns ms : List Int} {k : Nat} (h : ∀ i, i < k → ns.getD i 0 = ms.getD i 0) : places p ns k = places p ms k := by
  unfold places
  refine congrArg _ (List.filter_congr fun i hi => ?_)
  rw [h i (List.mem_range.mp hi)]
theorem stepsV_getD {ns ms : List Int} {f st : Int} {k i : Nat} (h : i < k) : (stepsV ns ms f st k).getD i 0 = lightV ns ms (f + st * (i : Int)) := getD_at (stepsV_at h)
/-- twice around tells nothing more -/
theorem twice {p : Int → Bool} {ns ms : List Int} {f st : Int} (hl : ns.length = ms.length) : headV (places p (stepsV ns ms f st (2 * ns.length)) (2 * ns.length)) = headV (places p (stepsV ns ms f st ns.length) ns.length) := by
  have e1 : places p (stepsV ns ms f st (2 * ns.length)) ns.length = places p (stepsV ns ms f st ns.length) ns.length :=
    places_congr fun i hi => by rw [stepsV_getD (by omega), stepsV_getD hi]
  obtain ⟨r, e2⟩ := places_more p (stepsV ns ms f st (2 * ns.length)) ns.length ns.length
  rw [show ns.length + ns.length = 2 * ns.length by omega, e1] at e2
  cases e3 : places p (stepsV ns ms f st ns.length) ns.length with
  | cons x xs =>
    rw [e2, e3]
    rfl
  | nil =>
    have h0 := places_none.mp e3
    have h1 : places p (stepsV ns ms f st (2 * ns.length)) (2 * ns.length) = [] := places_none.mpr fun i hi => by
      by_cases hn : i < ns.length
      · have := h0 i hn
        rw [stepsV_getD hn] at this
        rw [stepsV_getD hi]
        exact this
      · have := h0 (i - ns.length) (by omega)
        rw [stepsV_getD (by omega)] at this
        rw [stepsV_getD hi]
        have e4 : lightV ns ms (f + st * (i : Int)) = lightV ns ms (f + st * ((i - ns.length : Nat) : Int)) := by
          rw [← lightV_mod (f + st * (i : Int)), ← lightV_mod (f + st * ((i - ns.length : Nat) : Int)), ← hl]
          have e5 : f + st * (i : Int) = (f + st * ((i - ns.length : Nat) : Int)) + (ns.length : Int) * st := by
            have e6 : (i : Int) = ((i - ns.length : Nat) : Int) + (ns.length : Int) := by omega
            rw [e6, Int.mul_add, Int.mul_comm (ns.length : Int) st]
            have e7 : ((((i - ns.length : Nat) : Int) + (ns.length : Int)) : Int) = (i : Int) := e6.symm
            omega
          rw [e5, Int.add_mul_emod_self_left]
        rw [e4]
        exact this
    rw [h1]
theorem dp_head {K : PySem.W.Frag} {H : Hp} : ∀ l : List Int, Dp K H (headV l) (headD l)
  | [] => .non
  | x :: _ => .int x
theorem rp_head : ∀ {l : List Int}, Ab 100 l → RP (headD l)
  | [], _ => ⟨rfl, rfl, rfl, by decide⟩
  | x :: _, h => rp_int (Nat.lt_of_lt_of_le (h x List.mem_cons_self) (pow_up (by decide)))
theorem fits_head : ∀ {l : List Int}, Ab 100 l → (headD l).shown.length ≤ sizeLine
  | [], _ => by decide +kernel
  | x :: _, h => fit_le (Nat.le_trans (shown_int (Nat.lt_of_lt_of_le (h x List.mem_cons_self) (pow_up (by decide)))) (by decide))
end Sd

namespace Sd
open PySem PySem.Spec PyProof.Rows L2

/-! ### lists of ints by their order -/
def LtI (a b : List Int) : Bool := PySem.W.dataLt (dI a) (dI b)
theorem ltI_irr (a : List Int) : LtI a a = false := lex_irrefl _
theorem ltI_trans {a b c : List Int} (h : LtI a b = true) (k : LtI b c = true) : LtI a c = true := lex_trans _ _ _ h k
theorem toks_int (x : Int) : PySem.W.keyToks (.int x) = [.inl x] := by rw [PySem.W.keyToks]
theorem toks_inj : ∀ {a b : List Int}, PySem.W.keyToksAll (a.map PyData.int) = PySem.W.keyToksAll (b.map PyData.int) → a = b
  | [], [], _ => rfl
  | [], y :: b, h => by
    rw [List.map_nil, List.map_cons, PySem.W.toks_all_cons, PySem.W.keyToksAll] at h
    have := (List.cons.inj h).1
    cases this
  | x :: a, [], h => by
    rw [List.map_nil, List.map_cons, PySem.W.toks_all_cons, PySem.W.keyToksAll] at h
    have := (List.cons.inj h).1
    cases this
  | x :: a, y :: b, h => by
    rw [List.map_cons, List.map_cons, PySem.W.toks_all_cons, PySem.W.toks_all_cons, toks_int, toks_int] at h
    have h2 := (List.cons.inj h).2
    have h3 := (List.cons.inj h2).1
    have h4 := (List.cons.inj h2).2
    cases h3
    rw [toks_inj h4]
theorem ltI_total {a b : List Int} (h : LtI a b = false) (k : LtI b a = false) : a = b := by
  have e := lex_total _ _ h k
  unfold dI at e
  rw [PySem.W.keyToks, PySem.W.keyToks] at e
  exact toks_inj e
/-- the least of some lists -/
def LeastI (S : List (List Int)) (m : List Int) : Prop := m ∈ S ∧ ∀ y ∈ S, LtI y m = false
theorem least_one {S : List (List Int)} {m m' : List Int} (h : LeastI S m) (k : LeastI S m') : m = m' := ltI_total (k.2 _ h.1) (h.2 _ k.1)
theorem least_set {S S' : List (List Int)} {m : List Int} (h : LeastI S m) (e : ∀ x, x ∈ S ↔ x ∈ S') : LeastI S' m := ⟨(e _).mp h.1, fun y hy => h.2 y ((e _).mpr hy)⟩
theorem least_le {S : List (List Int)} {m y : List Int} (h : LeastI S m) (hy : y ∈ S) : m = y ∨ LtI m y = true := by
  cases q : LtI m y with
  | true => exact .inr rfl
  | false => exact .inl (ltI_total q (h.2 _ hy))
theorem least_app {S S' : List (List Int)} {a b : List Int} (h : LeastI S a) (k : LeastI S' b) : LeastI (S ++ S') (if LtI b a then b else a) := by
  cases q : LtI b a with
  | true =>
    refine ⟨List.mem_append_right _ k.1, fun y hy => ?_⟩
    rcases List.mem_append.mp hy with hy | hy
    · cases z : LtI y b with
      | false => exact z
      | true =>
        have := ltI_trans z q
        rw [h.2 _ hy] at this
        cases this
    · exact k.2 _ hy
  | false =>
    refine ⟨List.mem_append_left _ h.1, fun y hy => ?_⟩
    rcases List.mem_append.mp hy with hy | hy
    · exact h.2 _ hy
    · cases z : LtI y a with
      | false => exact z
      | true =>
        exfalso
        rcases least_le k hy with e | e
        · rw [e, z] at q
          cases q
        · rw [ltI_trans e z] at q
          cases q
theorem minD_least (x : List Int) (xs : List (List Int)) : ∃ m, PySem.W.minD (dI x) (xs.map dI) = dI m ∧ LeastI (x :: xs) m := by
  have key : ∀ (xs done : List (List Int)) (x : List Int), LeastI done x → ∃ m, PySem.W.minD (dI x) (xs.map dI) = dI m ∧ LeastI (done ++ xs) m := by
    intro xs
    induction xs with
    | nil =>
      intro done x h
      exact ⟨x, rfl, by rw [List.append_nil]; exact h⟩
    | cons y r ih =>
      intro done x h
      have h2 : LeastI (done ++ [y]) (if LtI y x then y else x) := least_app h ⟨List.mem_singleton.mpr rfl, fun z hz => by rw [List.mem_singleton.mp hz]; exact ltI_irr _⟩
      obtain ⟨m, e, hm⟩ := ih _ _ h2
      refine ⟨m, ?_, by rw [List.append_assoc] at hm; exact hm⟩
      rw [← e]
      unfold PySem.W.minD
      rw [List.map_cons, List.foldl_cons]
      have e2 : (if PySem.W.dataLt (dI y) (dI x) then dI y else dI x) = dI (if LtI y x then y else x) := by
        show (if LtI y x = true then dI y else dI x) = dI (if LtI y x then y else x)
        cases LtI y x <;> rfl
      rw [e2]
  exact key xs [x] x ⟨List.mem_singleton.mpr rfl, fun z hz => by rw [List.mem_singleton.mp hz]; exact ltI_irr _⟩

theorem dI_inj {a b : List Int} (h : dI a = dI b) : a = b := by
  unfold dI at h
  have h2 := PyData.list.inj h
  have : ∀ {a b : List Int}, a.map PyData.int = b.map PyData.int → a = b := by
    intro a
    induction a with
    | nil => intro b h; cases b with
      | nil => rfl
      | cons _ _ => cases h
    | cons x a ih => intro b h; cases b with
      | nil => cases h
      | cons y b =>
        rw [List.map_cons, List.map_cons] at h
        have := PyData.int.inj (List.cons.inj h).1
        rw [this, ih (List.cons.inj h).2]
  exact this h2
theorem alike_ints : ∀ a b : List Int, PySem.W.alikeAll (a.map PyData.int) (b.map PyData.int) = true
  | [], _ => by rw [List.map_nil, PySem.W.alikeAll]
  | _ :: _, [] => by rw [List.map_nil, List.map_cons, PySem.W.alikeAll]
  | x :: a, y :: b => by
    rw [List.map_cons, List.map_cons, PySem.W.alikeAll, alike_ints a b, PySem.W.alike]
    rfl
theorem alike_dI (a b : List Int) : PySem.W.alike (dI a) (dI b) = true := by
  unfold dI
  rw [PySem.W.alike]
  exact alike_ints a b
theorem alikeAll_dI (S : List (List Int)) : PySem.W.AlikeAll (S.map dI) := by
  refine ⟨fun x hx y hy => ?_, fun x hx e => ?_⟩
  · obtain ⟨a, _, rfl⟩ := List.mem_map.mp hx
    obtain ⟨b, _, rfl⟩ := List.mem_map.mp hy
    exact alike_dI a b
  · obtain ⟨a, _, rfl⟩ := List.mem_map.mp hx
    unfold dI at e
    cases e
theorem depthAll_ints : ∀ a : List Int, PyData.depthAll (a.map PyData.int) = 0
  | [] => rfl
  | x :: a => by
    show max (PyData.depth (.int x)) (PyData.depthAll (a.map PyData.int)) = 0
    rw [depthAll_ints a]
    simp only [PyData.depth, Nat.max_self]
theorem depth_dI (a : List Int) : (dI a).depth ≤ 1 := by
  unfold dI
  simp only [PyData.depth]
  rw [depthAll_ints]
  exact Nat.le_refl _
theorem depthAll_dI : ∀ S : List (List Int), PyData.depthAll (S.map dI) ≤ 1
  | [] => by show (0 : Nat) ≤ 1; omega
  | a :: S => by
    show max (dI a).depth (PyData.depthAll (S.map dI)) ≤ 1
    have h1 := depth_dI a
    have h2 := depthAll_dI S
    omega

theorem readsAll_kp {h h' : Heap} (k : ∀ c o, h.get? c = some o → h'.get? c = some o) : ∀ {us : List Value} {ds : List PyData} {as : List Addr}, PySem.ReadsAll h us ds as → PySem.ReadsAll h' us ds as
  | _, _, _, .nil => .nil
  | _, _, _, .cons r rs => .cons (PySem.W.reads_keeps k r) (readsAll_kp k rs)
theorem readsAll_ix {h : Heap} : ∀ {us : List Value} {ds : List PyData} {as : List Addr} {i : Nat} {u : Value}, PySem.ReadsAll h us ds as → us[i]? = some u → ∃ d bs, ds[i]? = some d ∧ PySem.Reads h u d bs
  | _, _, _, _, _, .nil, e => by simp at e
  | _, _, _, 0, _, .cons r _, e => by
    have e := Option.some.inj (show some _ = some _ from e)
    subst e
    exact ⟨_, _, rfl, r⟩
  | _, _, _, i + 1, _, .cons _ rs, e => by
    obtain ⟨d, bs, h1, h2⟩ := readsAll_ix (i := i) rs (by simpa using e)
    exact ⟨d, bs, by simpa using h1, h2⟩
theorem vals_ix : ∀ {vs : List V} {us : List Value} {i : Nat} {u : Value}, Vals vs us → us[i]? = some u → ∃ v, vs[i]? = some v ∧ RelV v u
  | _, _, _, _, .nil, e => by simp at e
  | _, _, 0, _, .cons r _, e => by
    have e := Option.some.inj (show some _ = some _ from e)
    subst e
    exact ⟨_, rfl, r⟩
  | _, _, i + 1, _, .cons _ rs, e => by
    obtain ⟨d, h1, h2⟩ := vals_ix (i := i) rs (by simpa using e)
    exact ⟨d, by simpa using h1, h2⟩

/-! ### min(S), S a list of lists of ints -/
def rMinI (K : PySem.W.Frag) : List V → Hp → VK → Prop := fun vs H Q => ∃ (a : Addr) (xs : List V) (S : List (List Int)), vs = [V.ref a] ∧ SqL K H a xs ∧ DpAll K H xs (S.map dI) ∧ 0 < S.length ∧
  ∀ (i : Nat) (v : V) (m : List Int), xs[i]? = some v → S[i]? = some m → LeastI S m → Q v H
theorem cr_minI {X : Cx} {K : PySem.W.Frag} (hK : X.K = K) (hc : X.calm = true) {k : Nat} (hr : Room k X.A) : CallR X (.builtin "min") (rMinI K) := by
  subst hK
  intro pins s σ H vs us Q I r h
  obtain ⟨a, xs, S, rfl, hs, hd, hne, q⟩ := h
  obtain ⟨its, rv, hl, _⟩ := I.list hs
  rw [Vals.ref1 r]
  obtain ⟨as, hR⟩ := Dp.readsAll I _ _ _ hd rv
  cases S with
  | nil => exact absurd hne (Nat.lt_irrefl 0)
  | cons x S =>
    have hu := hr.units
    have hd1 := depthAll_dI (x :: S)
    refine PySem.W.min_list_data (x := dI x) (xs := S.map dI) (as := as) (I.ok.hd hc) hl.isList hR (alikeAll_dI (x :: S)) ?_ fun i v h' tk bs hv hR' kp => ?_
    · have e : PyData.depthAll (dI x :: S.map dI) ≤ 1 := hd1
      omega
    · obtain ⟨m, em, hm⟩ := minD_least x S
      have hv' : its[i]? = some v := by simpa using hv
      obtain ⟨d, cs, hd2, hR2⟩ := readsAll_ix hR hv'
      obtain ⟨y, hy, ry⟩ := vals_ix rv hv'
      obtain ⟨n, hn, e⟩ : ∃ n, (x :: S)[i]? = some n ∧ d = dI n := by
        rw [List.getElem?_map] at hd2
        cases z : (x :: S)[i]? with
        | none =>
          rw [z] at hd2
          cases hd2
        | some n =>
          rw [z] at hd2
          exact ⟨n, rfl, (Option.some.inj hd2).symm⟩
      subst e
      rw [em] at hR'
      have e2 := PySem.W.alike_unique _ _ v _ _ (alike_dI n m) (PySem.W.reads_keeps kp hR2) hR'
      have e3 := dI_inj e2
      subst e3
      exact ⟨y, H, I.kept kp, ry, q i y n hy hn hm⟩
/-! ### min(a, b) of two values, compared where a heap stands -/
section
variable {prog : Program} {w : World} {A : Around} {E : Value → Shared → Prop} {s : Shared}
theorem min_pair {a b : Value} {x y : PyData} {as : List Addr} {Q : Value → Shared → Prop} (hh : A.handled = none) (hR : PySem.ReadsAll s.heap [a, b] [x, y] as) (ha : PySem.W.AlikeAll [x, y]) (hu : A.units + 1 + PyData.depthAll [x, y] < cLine)
    (h : ∀ h' tk, (∀ c o, s.heap.get? c = some o → h'.get? c = some o) → Q (if PySem.W.dataLt y x then b else a) { s with heap := h', toks := tk }) : wpAny (model prog w) A (call (.builtin "min") [a, b]) Q E s := by
  have nm : (toString "min" ++ toString ".loop" : String) = "min.loop" := by decide
  have hT : (s.heap.push { cls := .type "tuple", data := .seq #[a, b] }).IsTuple s.heap.objs.size #[a, b] := ⟨_, Heap.get?_push_size _ rfl, rfl, 0, rfl⟩
  have kp0 : ∀ c o, s.heap.get? c = some o → (s.heap.push { cls := .type "tuple", data := .seq #[a, b] }).get? c = some o := fun c o e => Heap.get?_push_of_some _ e
  have hR2 : PySem.ReadsAll (s.heap.push { cls := .type "tuple", data := .seq #[a, b] }) (#[a, b] : Array Value).toList [x, y] as := readsAll_kp kp0 hR
  refine call_function_tree F.kind_min F.plain_min F.entry_min (F.args_min2 _ _) ?_
  show wpAny _ A.in1 (Builtin.Builtins.bindParams _ _ _ _ >>= _) _ _ s
  refine wpAny_bind (wpAny_of_eq (show Builtin.Builtins.bindParams "min" ["key", "default"] 0 ⟨[], []⟩ = pure [none, none] from rfl) (show wpAny _ A.in1 (newTuple [a, b] >>= _) _ _ s from wpAny_bind (wpAny_newObj_type (wpAny_bind ?_))))
  refine PySem.W.iter_tupleW (A := A.in1) (s := { s with heap := s.heap.push { cls := .type "tuple", data := .seq #[a, b] } }) hh hT fun s₂ e W st hfp hw hk => ?_
  have hS : s₂.heap.objs.size ∉ _ := fun hm => Nat.lt_irrefl _ (hfp _ hm)
  refine wpAny_bind (wpAny_newObj_type ?_)
  rw [nm]
  refine wpAny_pure ⟨plainId_quiet F.plain_min_loop _, codeAny_min_loop_firstH W (s.heap.push { cls := .type "tuple", data := .seq #[a, b] }) hw (fun i j => PySem.W.dataLt ([x, y].getD i .none) ([x, y].getD j .none)) ?_ s₂.heap.objs.size hS (fresh_in hk) _ (show 0 < 2 by decide) (fun c o e => Heap.get?_push_of_some _ (hk c o e)) (W.frame 0 s₂ _ s₂.toks st (Nat.le_refl _) fun c _ o e => Heap.get?_push_of_some _ e) (Heap.get?_push_size _ rfl) fun v s' hP hm => ?_⟩
  · exact PySem.W.cmpIn_lt (A := A.in1) (s := { s with heap := s.heap.push { cls := .type "tuple", data := .seq #[a, b] } }) hR2 ha hu
  · obtain ⟨h', tk, rfl, hk'⟩ := PySem.W.moved_old e rfl (Moved.drop_new (tk := s₂.toks) hm (Nat.le_refl _))
    have q := h h' tk fun c o e => hk' c o (kp0 c o e)
    have ev : v = if PySem.W.dataLt y x then b else a := by
      cases z : PySem.W.dataLt y x with
      | true =>
        have e1 : argBest (fun i j => PySem.W.dataLt ([x, y].getD i .none) ([x, y].getD j .none)) 1 = 1 := if_pos z
        rw [show (#[a, b] : Array Value).size - 1 = 1 from rfl, e1] at hP
        exact (Option.some.inj hP).symm
      | false =>
        have e1 : argBest (fun i j => PySem.W.dataLt ([x, y].getD i .none) ([x, y].getD j .none)) 1 = 0 := if_neg (fun c => by
          have c : PySem.W.dataLt y x = true := c
          rw [z] at c
          cases c)
        rw [show (#[a, b] : Array Value).size - 1 = 1 from rfl, e1] at hP
        exact (Option.some.inj hP).symm
    rw [ev]
    exact q
end
/-- min(a, b) of two lists of ints -/
def rMin2 (K : PySem.W.Frag) : List V → Hp → VK → Prop := fun vs H Q => ∃ (x y : V) (a b : List Int), vs = [x, y] ∧ Dp K H x (dI a) ∧ Dp K H y (dI b) ∧ Q (if LtI b a then y else x) H
theorem cr_min2 {X : Cx} {K : PySem.W.Frag} (hK : X.K = K) (hc : X.calm = true) {k : Nat} (hr : Room k X.A) : CallR X (.builtin "min") (rMin2 K) := by
  subst hK
  intro pins s σ H vs us Q I r h
  obtain ⟨x, y, a, b, rfl, hx, hy, q⟩ := h
  obtain ⟨as, hR⟩ := Dp.readsAll I _ _ _ (.cons hx (.cons hy .nil)) r
  cases r with
  | cons r1 r2 =>
    cases r2 with
    | cons r2 r3 =>
      cases r3
      have hu := hr.units
      have hd1 := depthAll_dI [a, b]
      refine min_pair (I.ok.hd hc) hR (alikeAll_dI [a, b]) ?_ fun h' tk kp => ?_
      · have e : PyData.depthAll [dI a, dI b] ≤ 1 := hd1
        omega
      · have q : Q (if PySem.W.dataLt (dI b) (dI a) then y else x) H := q
        cases z : PySem.W.dataLt (dI b) (dI a) with
        | true =>
          rw [z] at q
          exact ⟨y, H, I.kept kp, r2, q⟩
        | false =>
          rw [z] at q
          exact ⟨x, H, I.kept kp, r1, q⟩
end Sd

namespace Sd
open PySem PySem.Spec PyProof.Rows L2

/-! ### turns, and all that are like -/
theorem ext_getD {a b : List Int} (hl : a.length = b.length) (h : ∀ j, j < a.length → a.getD j 0 = b.getD j 0) : a = b := by
  refine List.ext_getElem? fun j => ?_
  by_cases q : j < a.length
  · rw [at_getD q, at_getD (by omega), h j q]
  · rw [List.getElem?_eq_none (by omega), List.getElem?_eq_none (by omega)]
theorem rot_get {ns : List Int} {t : Int} {j : Nat} (h : j < ns.length) : (rot ns t).getD j 0 = ns.getD ((((j : Int) - t) % (ns.length : Int)).toNat) 0 := getD_at (rot_at h)
theorem mir_get {ns : List Int} {j : Nat} (h : j < ns.length) : (mir ns).getD j 0 = ns.getD (((-(j : Int)) % (ns.length : Int)).toNat) 0 := getD_at (mir_at h)
theorem rot_add (ns : List Int) (s t : Int) : rot (rot ns s) t = rot ns (s + t) := by
  refine ext_getD (by simp only [rot_len]) fun j hj => ?_
  simp only [rot_len] at hj
  have hm := mod_in (i := (j : Int) - t) (show 0 < ns.length by omega)
  rw [rot_get (by rw [rot_len]; exact hj), rot_len, rot_get (by omega), rot_get hj]
  rw [Int.toNat_of_nonneg hm.1, Int.emod_sub_emod]
  rw [show (j : Int) - t - s = (j : Int) - (s + t) by omega]
theorem rot_zero (ns : List Int) : rot ns 0 = ns := by
  refine ext_getD (rot_len _ _) fun j hj => ?_
  rw [rot_len] at hj
  rw [rot_get hj, Int.sub_zero, Int.emod_eq_of_lt (by omega) (by omega), Int.toNat_natCast]
theorem rot_full (ns : List Int) : rot ns (ns.length : Int) = ns := by
  rw [← rot_mod, Int.emod_self, rot_zero]
theorem mir_rot (ns : List Int) (t : Int) : mir (rot ns t) = rot (mir ns) (-t) := by
  refine ext_getD (by simp only [rot_len, mir_len]) fun j hj => ?_
  simp only [rot_len, mir_len] at hj
  have hm := mod_in (i := -(j : Int)) (show 0 < ns.length by omega)
  have hm2 := mod_in (i := (j : Int) - -t) (show 0 < ns.length by omega)
  rw [mir_get (by rw [rot_len]; exact hj), rot_len, rot_get (by omega), rot_get (by rw [mir_len]; exact hj), mir_len, mir_get (by omega)]
  rw [Int.toNat_of_nonneg hm.1, Int.toNat_of_nonneg hm2.1, Int.emod_sub_emod]
  have e : (-(((j : Int) - -t) % (ns.length : Int))) % (ns.length : Int) = (-((j : Int) - -t)) % (ns.length : Int) := by
    rw [← Int.zero_sub, ← Int.zero_sub ((j : Int) - -t), Int.sub_emod_emod]
  rw [e, show -((j : Int) - -t) = -(j : Int) - t by omega]
def turnsL (ns : List Int) : List (List Int) := (List.range ns.length).map fun (t : Nat) => rot ns (t : Int)
def bothL (ns : List Int) : List (List Int) := turnsL ns ++ turnsL (mir ns)
theorem turns_len (ns : List Int) : (turnsL ns).length = ns.length := by
  unfold turnsL
  rw [List.length_map, List.length_range]
theorem mem_turns {ns x : List Int} (h : 1 ≤ ns.length) : x ∈ turnsL ns ↔ ∃ t : Int, x = rot ns t := by
  unfold turnsL
  constructor
  · intro hx
    obtain ⟨t, _, rfl⟩ := List.mem_map.mp hx
    exact ⟨_, rfl⟩
  · intro ⟨t, ht⟩
    have hm := mod_in (i := t) (show 0 < ns.length by omega)
    refine List.mem_map.mpr ⟨(t % (ns.length : Int)).toNat, List.mem_range.mpr (by omega), ?_⟩
    rw [Int.toNat_of_nonneg hm.1, rot_mod, ht]
theorem mem_both {ns x : List Int} (h : 1 ≤ ns.length) : x ∈ bothL ns ↔ ∃ t : Int, x = rot ns t ∨ x = rot (mir ns) t := by
  unfold bothL
  rw [List.mem_append, mem_turns h, mem_turns (by rw [mir_len]; exact h)]
  constructor
  · rintro (⟨t, e⟩ | ⟨t, e⟩)
    · exact ⟨t, .inl e⟩
    · exact ⟨t, .inr e⟩
  · rintro ⟨t, e | e⟩
    · exact .inl ⟨t, e⟩
    · exact .inr ⟨t, e⟩
theorem both_len {ns x : List Int} (h : 1 ≤ ns.length) (hx : x ∈ bothL ns) : x.length = ns.length := by
  obtain ⟨t, rfl | rfl⟩ := (mem_both h).mp hx
  · exact rot_len _ _
  · rw [rot_len, mir_len]
theorem both_sub {ns ms x : List Int} (h : 1 ≤ ns.length) (hm : ms ∈ bothL ns) (hx : x ∈ bothL ms) : x ∈ bothL ns := by
  have hl := both_len h hm
  obtain ⟨s, e⟩ := (mem_both (by omega)).mp hx
  obtain ⟨t, rfl | rfl⟩ := (mem_both h).mp hm
  · rcases e with rfl | rfl
    · rw [rot_add]
      exact (mem_both h).mpr ⟨_, .inl rfl⟩
    · rw [mir_rot, rot_add]
      exact (mem_both h).mpr ⟨_, .inr rfl⟩
  · rcases e with rfl | rfl
    · rw [rot_add]
      exact (mem_both h).mpr ⟨_, .inr rfl⟩
    · rw [mir_rot, mir_mir, rot_add]
      exact (mem_both h).mpr ⟨_, .inl rfl⟩
theorem both_symm {ns ms : List Int} (h : 1 ≤ ns.length) (hm : ms ∈ bothL ns) : ns ∈ bothL ms := by
  have hl := both_len h hm
  obtain ⟨t, rfl | rfl⟩ := (mem_both h).mp hm
  · refine (mem_both (by omega)).mpr ⟨-t, .inl ?_⟩
    rw [rot_add, show t + -t = 0 by omega, rot_zero]
  · refine (mem_both (by omega)).mpr ⟨t, .inr ?_⟩
    rw [mir_rot, mir_mir, rot_add, show -t + t = 0 by omega, rot_zero]
theorem like_iff {ns ms m m' : List Int} (h : 1 ≤ ns.length) (h2 : 1 ≤ ms.length) (hm : LeastI (bothL ns) m) (hm' : LeastI (bothL ms) m') : m = m' ↔ ms ∈ bothL ns := by
  constructor
  · rintro rfl
    exact both_sub h hm.1 (both_symm h2 hm'.1)
  · intro e
    refine least_one hm (least_set hm' fun x => ⟨both_sub h e, both_sub h2 (both_symm h e)⟩)
theorem eqv_dI (a b : List Int) : PyData.eqv (dI a) (dI b) = decide (a = b) := by
  by_cases e : a = b
  · subst e
    rw [decide_eq_true rfl]
    exact PySem.W.eqv_refl_alike _ (alike_dI a a)
  · rw [decide_eq_false e]
    cases q : PyData.eqv (dI a) (dI b) with
    | false => rfl
    | true =>
      exfalso
      have z := (PySem.W.toks_eqv (dI a) (dI b) (alike_dI a b)).1 q
      unfold dI at z
      rw [PySem.W.keyToks, PySem.W.keyToks] at z
      exact e (toks_inj z)
theorem any_dI (S : List (List Int)) (m : List Int) : ((S.map dI).any fun z => PyData.eqv z (dI m)) = decide (m ∈ S) := by
  induction S with
  | nil => simp
  | cons a S ih =>
    rw [List.map_cons, List.any_cons, ih, eqv_dI]
    by_cases e : a = m
    · subst e
      simp
    · have e2 : ¬ m = a := fun z => e z.symm
      simp [e, e2]

/-! ### the turns at which one becomes the other -/
def hits (xs ys : List Int) (o : Int) : Nat → List Int
  | 0 => []
  | k + 1 => hits xs ys o k ++ (if rot xs (o + (k : Int)) = ys then [o + (k : Int)] else [])
theorem hits_yes {xs ys : List Int} {o : Int} {k : Nat} (h : rot xs (o + (k : Int)) = ys) : hits xs ys o (k + 1) = hits xs ys o k ++ [o + (k : Int)] := by
  rw [hits, if_pos h]
theorem hits_no {xs ys : List Int} {o : Int} {k : Nat} (h : ¬ rot xs (o + (k : Int)) = ys) : hits xs ys o (k + 1) = hits xs ys o k := by
  rw [hits, if_neg h, List.append_nil]
theorem hits_more (xs ys : List Int) (o : Int) (k : Nat) : ∀ m, ∃ r, hits xs ys o (k + m) = hits xs ys o k ++ r
  | 0 => ⟨[], by rw [List.append_nil]; rfl⟩
  | m + 1 => by
    obtain ⟨r, e⟩ := hits_more xs ys o k m
    refine ⟨r ++ (if rot xs (o + ((k + m : Nat) : Int)) = ys then [o + ((k + m : Nat) : Int)] else []), ?_⟩
    rw [← List.append_assoc, ← e]
    rfl
theorem hits_head {xs ys : List Int} {o : Int} {k n : Nat} (h0 : hits xs ys o k = []) (h : rot xs (o + (k : Int)) = ys) (hk : k < n) : ∃ r, hits xs ys o n = (o + (k : Int)) :: r := by
  obtain ⟨r, e⟩ := hits_more xs ys o (k + 1) (n - (k + 1))
  rw [show k + 1 + (n - (k + 1)) = n by omega, hits_yes h, h0] at e
  exact ⟨r, e⟩
theorem hits_shift (xs ys : List Int) (o : Int) : ∀ k, hits xs ys o k = (hits (rot xs o) ys 0 k).map (o + ·)
  | 0 => rfl
  | k + 1 => by
    have e : rot (rot xs o) (0 + (k : Int)) = rot xs (o + (k : Int)) := by rw [rot_add, show o + (0 + (k : Int)) = o + (k : Int) by omega]
    by_cases q : rot xs (o + (k : Int)) = ys
    · rw [hits_yes q, hits_yes (by rw [e]; exact q), hits_shift xs ys o k, List.map_append]
      simp
    · rw [hits_no q, hits_no (by rw [e]; exact q), hits_shift xs ys o k]
theorem hits_all {xs ys : List Int} {o : Int} : ∀ {k : Nat}, ∀ t ∈ hits xs ys o k, o ≤ t ∧ t < o + (k : Int)
  | 0, t, h => by cases h
  | k + 1, t, h => by
    rw [hits] at h
    rcases List.mem_append.mp h with h | h
    · have := hits_all t h
      omega
    · split at h
      · have := List.mem_singleton.mp h
        omega
      · cases h
theorem hits_len (xs ys : List Int) (o : Int) : ∀ k, (hits xs ys o k).length ≤ k
  | 0 => Nat.le_refl _
  | k + 1 => by
    have := hits_len xs ys o k
    rw [hits, List.length_append]
    split
    · simp only [List.length_singleton]; omega
    · simp only [List.length_nil]; omega
theorem hits_ab {xs ys : List Int} {o : Int} {k : Nat} (h0 : 0 ≤ o) (ho : o ≤ 10) (hk : k ≤ 1000) : Ab 100 (hits xs ys o k) := fun t ht => by
  have := hits_all t ht
  exact Nat.lt_of_lt_of_le (m := 1100) (by omega) (by decide)
/-- the period -/
def perL (ns : List Int) : List Int := hits ns ns 1 ns.length
theorem per_ex {ns : List Int} (h : 1 ≤ ns.length) : ∃ p r, perL ns = p :: r := by
  unfold perL
  cases e : hits ns ns 1 ns.length with
  | cons p r => exact ⟨p, r, rfl⟩
  | nil =>
    exfalso
    obtain ⟨k, hk⟩ : ∃ k, ns.length = k + 1 := ⟨ns.length - 1, by omega⟩
    rw [hk, hits_yes (by rw [show (1 : Int) + (k : Int) = ((k + 1 : Nat) : Int) by omega, ← hk]; exact rot_full ns)] at e
    have := congrArg List.length e
    simp at this

/-! ### rows of new lists -/
inductive Rows (H H' : Hp) : List V → List (List Int) → Prop
  | nil : Rows H H' [] []
  | cons {l : Addr} {m : List Int} {vs : List V} {S : List (List Int)} : H l = none → H' l = some (.lst (m.map V.int)) → Rows H H' vs S → Rows H H' (.ref l :: vs) (m :: S)
theorem Rows.up {H H1 H2 : Hp} {vs : List V} {S : List (List Int)} (h : Rows H H1 vs S) (s : Same H1 H2) : Rows H H2 vs S := by
  induction h with
  | nil => exact .nil
  | cons a b _ ih => exact .cons a (s _ _ b) ih
theorem Rows.down {H0 H H1 : Hp} {vs : List V} {S : List (List Int)} (h : Rows H H1 vs S) (s : Same H0 H) : Rows H0 H1 vs S := by
  induction h with
  | nil => exact .nil
  | cons a b _ ih => exact .cons (s.free a) b ih
theorem Rows.snoc {H H1 : Hp} {vs : List V} {S : List (List Int)} {l : Addr} {m : List Int} (h : Rows H H1 vs S) (a : H l = none) (b : H1 l = some (.lst (m.map V.int))) : Rows H H1 (vs ++ [.ref l]) (S ++ [m]) := by
  induction h with
  | nil => exact .cons a b .nil
  | cons c d _ ih => exact .cons c d ih
theorem Rows.app {H H1 : Hp} {vs ws : List V} {S T : List (List Int)} (h : Rows H H1 vs S) (k : Rows H H1 ws T) : Rows H H1 (vs ++ ws) (S ++ T) := by
  induction h with
  | nil => exact k
  | cons c d _ ih => exact .cons c d ih
theorem Rows.len {H H1 : Hp} {vs : List V} {S : List (List Int)} (h : Rows H H1 vs S) : vs.length = S.length := by
  induction h with
  | nil => rfl
  | cons _ _ _ ih => rw [List.length_cons, List.length_cons, ih]
theorem Rows.dp {K : PySem.W.Frag} {H H1 : Hp} {vs : List V} {S : List (List Int)} (h : Rows H H1 vs S) : DpAll K H1 vs (S.map dI) := by
  induction h with
  | nil => exact .nil
  | cons _ b _ ih => exact .cons (dp_ints (SqL.of b)) ih
theorem Rows.at {H H1 : Hp} {vs : List V} {S : List (List Int)} (h : Rows H H1 vs S) {i : Nat} {v : V} (hv : vs[i]? = some v) : ∃ l m, v = .ref l ∧ S[i]? = some m ∧ H l = none ∧ H1 l = some (.lst (m.map V.int)) := by
  induction h generalizing i with
  | nil => simp at hv
  | cons a b _ ih =>
    cases i with
    | zero =>
      have e := Option.some.inj (show some _ = some _ from hv)
      subst e
      exact ⟨_, _, rfl, rfl, a, b⟩
    | succ i => exact ih (i := i) (by simpa using hv)
theorem take_map_next {f : Nat → List Int} {n i : Nat} (h : i < n) : ((List.range n).map f).take i ++ [f i] = ((List.range n).map f).take (i + 1) := by
  rw [List.take_add_one, List.getElem?_map, List.getElem?_range h]
  rfl
theorem rows_over {H H1 : Hp} {vs : List V} {S : List (List Int)} {D : Addr} {o : HO} (h : Rows H H1 vs S) (k : ∀ l, V.ref l ∈ vs → l ≠ D) : Rows H (upd H1 D o) vs S := by
  induction h with
  | nil => exact .nil
  | cons a b _ ih => exact .cons a (by rw [upd_ne (k _ List.mem_cons_self)]; exact b) (ih fun l hl => k l (List.mem_cons_of_mem _ hl))
theorem Rows.ne {H H1 : Hp} {vs : List V} {S : List (List Int)} {D : Addr} {o : HO} (h : Rows H H1 vs S) (e : H1 D = some (.lst vs)) : ∀ l, V.ref l ∈ vs → l ≠ D := by
  intro l hl z
  subst z
  have : ∀ {ws : List V} {T : List (List Int)}, Rows H H1 ws T → V.ref l ∈ ws → ∃ m : List Int, H1 l = some (.lst (m.map V.int)) := by
    intro ws T h2
    induction h2 with
    | nil => intro z; cases z
    | cons a b _ ih =>
      intro z
      rcases List.mem_cons.mp z with z | z
      · cases z
        exact ⟨_, b⟩
      · exact ih z
  obtain ⟨m, hm⟩ := this h hl
  rw [e] at hm
  have hm : vs = m.map V.int := by
    have := Option.some.inj hm
    injection this
  rw [hm] at hl
  obtain ⟨i, _, z⟩ := List.mem_map.mp hl
  cases z
theorem Rim.of_both {ns m : List Int} (h : Rim ns) (hm : m ∈ bothL ns) : Rim m := by
  obtain ⟨t, rfl | rfl⟩ := (mem_both h.pos).mp hm
  · exact h.rot t
  · exact h.mir.rot t
theorem tank_free {T : Addr} {H H' : Hp} {c d : Int} {p : Addr} (u : But T H H') (k : Tank H T c) (k' : Tank H' T d) (h : H' p = none) : H p = none := by
  obtain ⟨o, e⟩ := k.some
  obtain ⟨o', e'⟩ := k'.some
  exact free_but u e h (by rw [e']; exact fun z => nomatch z)
/-- one of some new lists -/
def OneOf (H H' : Hp) (T : Addr) (n : Nat) (v : V) : Prop := ∃ (l : Addr) (ms : List Int), v = .ref l ∧ H l = none ∧ l ≠ T ∧ H' l = some (.lst (ms.map V.int)) ∧ Rim ms ∧ ms.length = n
theorem OneOf.but {H H1 H2 : Hp} {T : Addr} {n : Nat} {v : V} (h : OneOf H H1 T n v) (u : But T H1 H2) : OneOf H H2 T n v := by
  obtain ⟨l, ms, e, a, b, c, d, f⟩ := h
  exact ⟨l, ms, e, a, b, u _ _ c b, d, f⟩
theorem at_any {xs : List V} {i : Int} (h0 : 0 ≤ i) (h1 : i < xs.length) : ∃ v, v ∈ xs ∧ atI xs i = some v := by
  obtain ⟨j, rfl⟩ : ∃ j : Nat, i = (j : Int) := ⟨i.toNat, by omega⟩
  have h3 : j < xs.length := by omega
  exact ⟨xs[j], List.getElem_mem h3, atI_nat (List.getElem?_eq_getElem h3)⟩
theorem rows_step {H H1 H2 : Hp} {D l : Addr} {vs : List V} {S : List (List Int)} {i : Nat} {m : List Int} (hD : H D = none) (s1 : Same H H1) (hD1 : H1 D = some (.lst vs)) (hr1 : Rows H H1 vs (S.take i)) (s2 : Same H1 H2) (hl : H1 l = none) (hl2 : H2 l = some (.lst (m.map V.int))) (hi : S[i]? = some m) :
    Same H (upd H2 D (.lst (vs ++ [.ref l]))) ∧ Rows H (upd H2 D (.lst (vs ++ [.ref l]))) (vs ++ [.ref l]) (S.take (i + 1)) := by
  refine ⟨same_over (s1.trans s2) hD, ?_⟩
  have nl : l ≠ D := fun e => by
    rw [e, hD1] at hl
    cases hl
  have hr3 := hr1.up s2
  have hr4 := rows_over (o := .lst (vs ++ [.ref l])) hr3 (hr3.ne (o := .lst vs) (s2 _ _ hD1))
  have := hr4.snoc (s1.free hl) (m := m) (by rw [upd_ne nl]; exact hl2)
  rw [List.take_add_one, hi]
  exact this
theorem turns_at {ns : List Int} {i : Nat} (h : i < ns.length) : (turnsL ns)[i]? = some (rot ns (0 + (i : Int))) := by
  unfold turnsL
  rw [List.getElem?_map, List.getElem?_range h, Int.zero_add]
  rfl
theorem rows_fit {H H1 : Hp} {vs : List V} {S : List (List Int)} {i n : Nat} (h : Rows H H1 vs (S.take i)) (hn : S.length = n) (hk : n ≤ 100000) : vs.length < sizeLine := by
  have := h.len
  rw [List.length_take] at this
  exact sz40 (by omega)
/-- the answers, as data -/
def ansD (p hs : List Int) (m m2 : List Int) (x : Bool) : PyData := .list [headD p, headD hs, dI m, dI m2, .bool x]
theorem rp_bl (x : Bool) : RP (.bool x) := ⟨by simp only [PyData.showable], by simp only [PyData.hasDict], by simp only [PyData.canLay0], by simp only [PyData.depth]; omega⟩
theorem depth_head : ∀ l : List Int, (headD l).depth ≤ 1
  | [] => by simp only [headD, PyData.depth]; omega
  | _ :: _ => by simp only [headD, PyData.depth]; omega
theorem shown_head {l : List Int} (h : Ab 100 l) : (headD l).shown.length ≤ 100000 := by
  cases l with
  | nil => decide +kernel
  | cons x r => exact Nat.le_trans (shown_int (Nat.lt_of_lt_of_le (h x List.mem_cons_self) (pow_up (by decide)))) (by decide)
theorem ansD_rp {p hs m m2 : List Int} {x : Bool} (h1 : Ab 100 p) (h2 : Ab 100 hs) (h3 : Rim m) (h4 : Rim m2) : RP (ansD p hs m m2 x) ∧ (ansD p hs m m2 x).shown.length ≤ sizeLine := by
  have d3 := dp_ints_depth h3.abs
  have d4 := dp_ints_depth h4.abs
  refine ⟨((RPs.cons (rp_head h1) (depth_head p) (RPs.cons (rp_head h2) (depth_head hs) (RPs.cons h3.rp d3 (RPs.cons h4.rp d4 (RPs.cons (rp_bl x) (by simp only [PyData.depth]; omega) RPs.nil))))).list (by omega)).1, ?_⟩
  have e := shown_list (B := 100000) (ds := [headD p, headD hs, dI m, dI m2, .bool x]) fun d hd => by
    simp only [List.mem_cons, List.not_mem_nil, or_false] at hd
    rcases hd with rfl | rfl | rfl | rfl | rfl
    · exact shown_head h1
    · exact shown_head h2
    · have := shown_ints h3.abs
      have := h3.le
      omega
    · have := shown_ints h4.abs
      have := h4.le
      omega
    · cases x <;> decide +kernel
  exact fit_le (Nat.le_trans e (by show (100000 + 2) * 5 + 3 ≤ 16000000; decide))
theorem ansD_dp {K : PySem.W.Frag} {H : Hp} {l a b : Addr} {p hs m m2 : List Int} {x : Bool} (h : SqL K H l [headV p, headV hs, .ref a, .ref b, .bl x]) (ha : SqL K H a (m.map V.int)) (hb : SqL K H b (m2.map V.int)) : Dp K H (.ref l) (ansD p hs m m2 x) :=
  .lst h (.cons (dp_head p) (.cons (dp_head hs) (.cons (dp_ints ha) (.cons (dp_ints hb) (.cons (.bl x) .nil)))))
theorem atI_cons {v : V} {vs : List V} : atI (v :: vs) 0 = some v := atI_nat (j := 0) rfl
theorem perL_ab {ns : List Int} (h : ns.length ≤ 40) : Ab 100 (perL ns) := hits_ab (by decide) (by decide) (by omega)
theorem inD {X : Cx} {K : PySem.W.Frag} (h : X.K = K) {k : Nat} (hr : Room k X.A) : OpR X (compareOp .In) (rInD K) := h ▸ op_inD (by have := hr.un; omega)
end Sd

namespace Sd
open PySem PySem.Spec PyProof.Rows L2

/-! ### data of any kind, with empty dicts -/
mutual
inductive Dq (H : Hp) : V → PyData → Prop
  | non : Dq H .non .none
  | bl (b : Bool) : Dq H (.bl b) (.bool b)
  | int (i : Int) : Dq H (.int i) (.int i)
  | str (x : Str) : Dq H (.str x) (.str x)
  | lst {a : Addr} {xs : List V} {ds : List PyData} : H a = some (.lst xs) → DqAll H xs ds → Dq H (.ref a) (.list ds)
  | tup {a : Addr} {xs : List V} {ds : List PyData} : H a = some (.tup xs) → DqAll H xs ds → Dq H (.ref a) (.tuple ds)
  | emp {a : Addr} : H a = some (.dK []) → Dq H (.ref a) (.dict [])
inductive DqAll (H : Hp) : List V → List PyData → Prop
  | nil : DqAll H [] []
  | cons {v : V} {vs : List V} {d : PyData} {ds : List PyData} : Dq H v d → DqAll H vs ds → DqAll H (v :: vs) (d :: ds)
end
mutual
theorem Dq.same {H H' : Hp} (s : Same H H') : ∀ {v : V} {d : PyData}, Dq H v d → Dq H' v d
  | _, _, .non => .non
  | _, _, .bl b => .bl b
  | _, _, .int i => .int i
  | _, _, .str x => .str x
  | _, _, .lst h1 h2 => .lst (s _ _ h1) (DqAll.same s h2)
  | _, _, .tup h1 h2 => .tup (s _ _ h1) (DqAll.same s h2)
  | _, _, .emp h => .emp (s _ _ h)
theorem DqAll.same {H H' : Hp} (s : Same H H') : ∀ {vs : List V} {ds : List PyData}, DqAll H vs ds → DqAll H' vs ds
  | _, _, .nil => .nil
  | _, _, .cons h1 h2 => .cons (Dq.same s h1) (DqAll.same s h2)
end
section
variable {X : Cx} {pins : List (Addr × Obj)} {σ : L2.St} {H : Hp} {s : Shared}
theorem emp_reads (I : Inv X pins σ H s) {a : Addr} (h : H a = some (.dK [])) : Reads s.heap (.ref a) (.dict []) (a :: [] ++ []) ∧ sysModules ∉ (a :: [] ++ [] : List Addr) ∧ s.TypeIs (.ref a) "dict" := by
  obtain ⟨_, hsys, vs, kv, o, es, ep, e, ex, ed, _, pr, _⟩ := (show ObjOk X.prog X.w H s.heap a (.dK []) from I.hok a _ h)
  cases kv
  have he : es.toList = [] := by
    cases hl : es.toList with
    | nil => rfl
    | cons x l =>
      rw [hl] at pr
      cases pr
  refine ⟨.dict e ex.1 ed ?_ ?_, ?_, ⟨o, e, ex.1⟩⟩
  · rw [he]
    exact .nil
  · rw [he]
    exact .nil
  · intro z
    simp only [List.append_nil, List.mem_cons, List.not_mem_nil, or_false] at z
    rw [← z] at hsys
    exact absurd hsys (by decide)
mutual
theorem reprK_q (I : Inv X pins σ H s) : ∀ (d : PyData) (v : V) (u : Value), Dq H v d → RelV v u → d.showable = true → d.shown.length ≤ sizeLine →
    ∃ as bs, Reads s.heap u d as ∧ ReadAtMost s.heap d.depth bs ∧ ReprK X.prog X.w bs s.heap d.depth u d.shown
  | .none, _, u, q, r, hs, hz => by
    cases q
    cases r
    obtain ⟨bs, h1, h2⟩ := ReprK.of_reads (prog := X.prog) (w := X.w) (Reads.none (h := s.heap)) hs (fun z => by simp only [PyData.hasDict] at z; cases z) hz
    exact ⟨_, bs, .none, h1, h2⟩
  | .bool b, _, u, q, r, hs, hz => by
    cases q
    cases r
    obtain ⟨bs, h1, h2⟩ := ReprK.of_reads (prog := X.prog) (w := X.w) (Reads.bool (h := s.heap) b) hs (fun z => by simp only [PyData.hasDict] at z; cases z) hz
    exact ⟨_, bs, .bool b, h1, h2⟩
  | .int i, _, u, q, r, hs, hz => by
    cases q
    obtain ⟨t, rfl⟩ := r
    obtain ⟨bs, h1, h2⟩ := ReprK.of_reads (prog := X.prog) (w := X.w) (Reads.int (h := s.heap) i t) hs (fun z => by simp only [PyData.hasDict] at z; cases z) hz
    exact ⟨_, bs, .int i t, h1, h2⟩
  | .str x, _, u, q, r, hs, hz => by
    cases q
    obtain ⟨t, rfl⟩ := r
    obtain ⟨bs, h1, h2⟩ := ReprK.of_reads (prog := X.prog) (w := X.w) (Reads.str (h := s.heap) x t) hs (fun z => by simp only [PyData.hasDict] at z; cases z) hz
    exact ⟨_, bs, .str x t, h1, h2⟩
  | .dict kvs, _, u, q, r, hs, hz => by
    cases q with
    | emp h =>
      cases r
      obtain ⟨rd, ns, _⟩ := emp_reads I h
      obtain ⟨bs, h1, h2⟩ := ReprK.of_reads (prog := X.prog) (w := X.w) rd hs (fun _ => ns) hz
      exact ⟨_, bs, rd, h1, h2⟩
  | .list ds, _, u, q, r, hs, hz => by
    cases q with
    | lst h hq =>
      cases r
      obtain ⟨_, its, n, rv, e⟩ := (show ObjOk X.prog X.w H s.heap _ (.lst _) from I.hok _ _ h)
      have hz2 : (listText (PyData.shownAll ds)).length ≤ sizeLine := by simpa only [PyData.shown] using hz
      obtain ⟨as, bs, ra, hb, hk⟩ := reprAllK_q I ds _ its hq rv (by simpa [PyData.showable] using hs) fun t ht => Nat.le_trans (listText_mem_le ht) hz2
      have rd : Reads s.heap (.ref _) (.list ds) _ := .list e rfl rfl ra
      have hna := not_mem_of_deeper rd (by simp only [PyData.depth]; omega) hb
      refine ⟨_, _, rd, ReadAtMost.cons rd (by simp only [PyData.depth]; omega) hb, ?_⟩
      simp only [PyData.depth, PyData.shown]
      cases its with
      | nil =>
        cases ra
        simp only [PyData.shownAll, listText_nil]
        exact ReprK.listEmpty e rfl rfl
      | cons y l => exact ReprK.list e rfl rfl hna (by simpa using hk.length_eq) fun i y e => hk.item i y (by simpa using e)
  | .tuple ds, _, u, q, r, hs, hz => by
    cases q with
    | tup h hq =>
      cases r
      obtain ⟨_, its, rv, o, e, hc, n, hd⟩ := (show ObjOk X.prog X.w H s.heap _ (.tup _) from I.hok _ _ h)
      have hz2 : (tupleText (PyData.shownAll ds)).length ≤ sizeLine := by simpa only [PyData.shown] using hz
      obtain ⟨as, bs, ra, hb, hk⟩ := reprAllK_q I ds _ its hq rv (by simpa [PyData.showable] using hs) fun t ht => Nat.le_trans (tupleText_mem_le ht) hz2
      have rd : Reads s.heap (.ref _) (.tuple ds) _ := .tuple e hc hd ra
      have hna := not_mem_of_deeper rd (by simp only [PyData.depth]; omega) hb
      refine ⟨_, _, rd, ReadAtMost.cons rd (by simp only [PyData.depth]; omega) hb, ?_⟩
      simp only [PyData.depth, PyData.shown]
      exact ReprK.tuple e hc hd hna hk
theorem reprAllK_q (I : Inv X pins σ H s) : ∀ (ds : List PyData) (vs : List V) (us : List Value), DqAll H vs ds → Vals vs us → PyData.showableAll ds = true → (∀ t ∈ PyData.shownAll ds, t.length ≤ sizeLine) →
    ∃ as bs, ReadsAll s.heap us ds as ∧ ReadAtMost s.heap (PyData.depthAll ds) bs ∧ ReprAllK X.prog X.w bs s.heap (PyData.depthAll ds) us (PyData.shownAll ds)
  | [], _, us, q, r, _, _ => by
    cases q
    cases r
    exact ⟨[], [], .nil, (fun _ h => nomatch h), by simp only [PyData.shownAll]; exact .nil⟩
  | d :: ds, _, us, q, r, hs, hz => by
    cases q with
    | cons q1 q2 =>
      cases r with
      | cons r1 r2 =>
        have hs2 : d.showable = true ∧ PyData.showableAll ds = true := by simpa [PyData.showableAll] using hs
        obtain ⟨a1, b1, x1, y1, k1⟩ := reprK_q I d _ _ q1 r1 hs2.1 (hz _ (by simp only [PyData.shownAll]; exact List.mem_cons_self))
        obtain ⟨a2, b2, x2, y2, k2⟩ := reprAllK_q I ds _ _ q2 r2 hs2.2 fun t ht => hz t (by simp only [PyData.shownAll]; exact List.mem_cons_of_mem _ ht)
        refine ⟨_, b1 ++ b2, .cons x1 x2, (y1.mono ?_).append (y2.mono ?_), ?_⟩
        · simp only [PyData.depthAll]
          omega
        · simp only [PyData.depthAll]
          omega
        · simp only [PyData.depthAll, PyData.shownAll]
          exact .cons ((k1.more fun b hb => List.mem_append_left _ hb).level_le (by omega)) (k2.more_le (fun b hb => List.mem_append_right _ hb) (by omega))
end
/-- repr of any such thing -/
def rReprQ : List V → Hp → VK → Prop := fun xs H Q => ∃ (x : V) (d : PyData), xs = [x] ∧ Dq H x d ∧ d.showable = true ∧ d.depth ≤ 32 ∧ d.shown.length ≤ sizeLine ∧ Q (.str d.shown) H
theorem reprQ {X : Cx} (hA : X.A.guards = some []) {k : Nat} (hr : Room k X.A) : CallR X (.builtin "repr") rReprQ := by
  intro pins s σ H xs us Q I r h
  obtain ⟨x, d, rfl, hd, h1, h3, h4, q⟩ := h
  have hu := hr.units
  have flat : ∀ {d : PyData}, Dp X.K H x d → d.showable = true → d.hasDict = false → d.depth ≤ 32 → d.shown.length ≤ sizeLine → Q (.str d.shown) H → wpAny (model X.prog X.w) X.A (call (.builtin "repr") us) (EP X pins σ Q) X.xe s := fun a b c e f g =>
    reprV rfl hA hr pins s σ H _ us Q I r ⟨x, _, rfl, a, b, c, e, f, g⟩
  cases hd with
  | non => exact flat .non h1 rfl h3 h4 q
  | bl b => exact flat (.bl b) h1 (by simp only [PyData.hasDict]) h3 h4 q
  | int i => exact flat (.int i) h1 (by simp only [PyData.hasDict]) h3 h4 q
  | str y => exact flat (.str y) h1 (by simp only [PyData.hasDict]) h3 h4 q
  | emp ha =>
    cases r with
    | cons r1 r2 =>
      cases r2
      cases r1
      obtain ⟨rd, ns, _⟩ := emp_reads I ha
      exact repr_of_reads' rd h1 (fun _ => ns) hA (by omega) (fun _ _ e => e) (fun h' u tk kp => ⟨.str (PyData.shown (.dict [])), H, I.kept (t' := tk) kp, ⟨u, rfl⟩, q⟩) h4
  | @lst a xs ds ha hq =>
    cases r with
    | cons r1 r2 =>
      cases r2
      cases r1
      obtain ⟨_, its, n, rv, e⟩ := (show ObjOk X.prog X.w H s.heap a (.lst xs) from I.hok a _ ha)
      have hz2 : (listText (PyData.shownAll ds)).length ≤ sizeLine := by simpa only [PyData.shown] using h4
      obtain ⟨as, bs, ra, hb, hk⟩ := reprAllK_q I ds _ its hq rv (by simpa [PyData.showable] using h1) fun t ht => Nat.le_trans (listText_mem_le ht) hz2
      have rd : Reads s.heap (.ref a) (.list ds) _ := .list e rfl rfl ra
      have hna := not_mem_of_deeper rd (by simp only [PyData.depth]; omega) hb
      have hdp : PyData.depthAll ds + 1 ≤ 32 := by simpa only [PyData.depth] using h3
      simp only [PyData.shown] at q
      refine call_repr_slot (by omega) ⟨_, e, rfl⟩ F.slot_list_repr.toG ?_
      cases its with
      | nil =>
        cases ra
        simp only [PyData.shownAll, listText_nil] at q
        exact call_list_repr_empty ⟨_, e, rfl⟩ e rfl ⟨_, _, rfl, .str "[]", H, I.tok _, ⟨_, rfl⟩, q⟩
      | cons y l =>
        exact call_list_reprK e rfl rfl hna (by simpa using hk.length_eq) (fun i y e => hk.item i y (by simpa using e)) hA (fun b _ => Clear.nil b) (by show X.A.units + 1 + _ < cLine; omega) (fun _ _ e => e)
          (fun h' u tk kp => ⟨_, _, rfl, .str (listText (PyData.shownAll ds)), H, I.kept (t' := tk) kp, ⟨u, rfl⟩, q⟩) hz2
  | @tup a xs ds ha hq =>
    cases r with
    | cons r1 r2 =>
      cases r2
      cases r1
      obtain ⟨_, its, rv, o, e, hc, n, hd⟩ := (show ObjOk X.prog X.w H s.heap a (.tup xs) from I.hok a _ ha)
      have hz2 : (tupleText (PyData.shownAll ds)).length ≤ sizeLine := by simpa only [PyData.shown] using h4
      obtain ⟨as, bs, ra, hb, hk⟩ := reprAllK_q I ds _ its hq rv (by simpa [PyData.showable] using h1) fun t ht => Nat.le_trans (tupleText_mem_le ht) hz2
      have rd : Reads s.heap (.ref a) (.tuple ds) _ := .tuple e hc hd ra
      have hna := not_mem_of_deeper rd (by simp only [PyData.depth]; omega) hb
      have hdp : PyData.depthAll ds + 1 ≤ 32 := by simpa only [PyData.depth] using h3
      simp only [PyData.shown] at q
      refine call_repr_slot (by omega) ⟨_, e, hc⟩ F.slot_tuple_repr ?_
      exact call_tuple_reprK e hc hd hna hk hA (fun b _ => Clear.nil b) (by show X.A.units + 1 + _ < cLine; omega) (fun _ _ e => e)
          (fun h' u tk kp => ⟨_, _, rfl, .str (tupleText (PyData.shownAll ds)), H, I.kept (t' := tk) kp, ⟨u, rfl⟩, q⟩) hz2
end
end Sd

namespace Sd
open PySem PySem.Spec PyProof.Rows L2

/-! ### what isinstance says of data -/
def tyQ : PyData → String
  | .none => "NoneType"
  | .bool _ => "bool"
  | .int _ => "int"
  | .str _ => "str"
  | .list _ => "list"
  | .tuple _ => "tuple"
  | .dict _ => "dict"
def intQ : PyData → Bool
  | .int _ => true
  | .bool _ => true
  | _ => false
def boolQ : PyData → Bool
  | .bool _ => true
  | _ => false
def listQ : PyData → Bool
  | .list _ => true
  | _ => false
theorem kit_intQ {K : PySem.W.Frag} (d : PyData) : PySem.W.kitOne K (.type (tyQ d)) (.type "int") = some (intQ d) := by
  cases d with
  | none => exact kit_ty (show kitB "NoneType" "int" = some false by decide +kernel)
  | bool _ => exact kit_ty (show kitB "bool" "int" = some true by decide +kernel)
  | int _ => exact kit_ty (show kitB "int" "int" = some true by decide +kernel)
  | str _ => exact kit_ty (show kitB "str" "int" = some false by decide +kernel)
  | list _ => exact kit_ty (show kitB "list" "int" = some false by decide +kernel)
  | tuple _ => exact kit_ty (show kitB "tuple" "int" = some false by decide +kernel)
  | dict _ => exact kit_ty (show kitB "dict" "int" = some false by decide +kernel)
theorem kit_boolQ {K : PySem.W.Frag} (d : PyData) : PySem.W.kitOne K (.type (tyQ d)) (.type "bool") = some (boolQ d) := by
  cases d with
  | none => exact kit_ty (show kitB "NoneType" "bool" = some false by decide +kernel)
  | bool _ => exact kit_ty (show kitB "bool" "bool" = some true by decide +kernel)
  | int _ => exact kit_ty (show kitB "int" "bool" = some false by decide +kernel)
  | str _ => exact kit_ty (show kitB "str" "bool" = some false by decide +kernel)
  | list _ => exact kit_ty (show kitB "list" "bool" = some false by decide +kernel)
  | tuple _ => exact kit_ty (show kitB "tuple" "bool" = some false by decide +kernel)
  | dict _ => exact kit_ty (show kitB "dict" "bool" = some false by decide +kernel)
theorem kit_listQ {K : PySem.W.Frag} (d : PyData) : PySem.W.kitOne K (.type (tyQ d)) (.type "list") = some (listQ d) := by
  cases d with
  | none => exact kit_ty (show kitB "NoneType" "list" = some false by decide +kernel)
  | bool _ => exact kit_ty (show kitB "bool" "list" = some false by decide +kernel)
  | int _ => exact kit_ty (show kitB "int" "list" = some false by decide +kernel)
  | str _ => exact kit_ty (show kitB "str" "list" = some false by decide +kernel)
  | list _ => exact kit_ty (show kitB "list" "list" = some true by decide +kernel)
  | tuple _ => exact kit_ty (show kitB "tuple" "list" = some false by decide +kernel)
  | dict _ => exact kit_ty (show kitB "dict" "list" = some false by decide +kernel)
theorem ty_q {K : PySem.W.Frag} {H : Hp} {v : V} {d : PyData} (q : Dq H v d) : TyX K H v (.type (tyQ d)) := by
  cases q with
  | non => exact .base .non
  | bl b => exact .base (.bl b)
  | int i => exact .base (.int i)
  | str x => exact .base (.str x)
  | lst h _ => exact .base (.lst h)
  | tup h _ => exact .base (.tup h)
  | emp h => exact .base (.dK h)
/-- an item that a slot of a disc can have -/
def okS (top : Int) : PyData → Bool
  | .int i => decide (0 ≤ i) && decide (i ≤ top)
  | _ => false
/-- a disc with items up to top -/
def discQ (top : Int) : PyData → Bool
  | .list ds => decide (1 ≤ ds.length) && decide (ds.length ≤ 40) && ds.all (okS top)
  | _ => false
def slotsQ : PyData → Bool
  | .list ds => decide (1 ≤ ds.length) && decide (ds.length ≤ 40)
  | _ => false
theorem DqAll.length {H : Hp} : ∀ {xs : List V} {ds : List PyData}, DqAll H xs ds → xs.length = ds.length
  | _, _, .nil => rfl
  | _, _, .cons _ h => congrArg Nat.succ (DqAll.length h)
theorem DqAll.at {H : Hp} : ∀ {xs : List V} {ds : List PyData} {i : Nat} {x : V}, DqAll H xs ds → xs[i]? = some x → ∃ d, ds[i]? = some d ∧ Dq H x d
  | _, _, _, _, .nil, e => by simp at e
  | _, _, 0, _, .cons h _, e => by
    simp at e
    subst e
    exact ⟨_, rfl, h⟩
  | _, _, i + 1, x, .cons _ h, e => by
    obtain ⟨d, h1, h2⟩ := DqAll.at (i := i) (x := x) h (by simpa using e)
    exact ⟨d, by simpa using h1, h2⟩
theorem DqAll.ints {H : Hp} {top : Int} : ∀ {xs : List V} {ds : List PyData}, DqAll H xs ds → ds.all (okS top) = true → ∃ ns : List Int, xs = ns.map V.int ∧ ns.length = ds.length ∧ ds = ns.map PyData.int ∧ ∀ n ∈ ns, 0 ≤ n ∧ n ≤ top
  | _, _, .nil, _ => ⟨[], rfl, rfl, rfl, fun n hn => (List.not_mem_nil hn).elim⟩
  | _, _, .cons (d := d) h hs, e => by
    rw [List.all_cons, Bool.and_eq_true] at e
    obtain ⟨ns, h1, h2, h3, h4⟩ := DqAll.ints hs e.2
    cases h with
    | int i =>
      have e1 := (Bool.and_eq_true _ _).mp e.1
      refine ⟨i :: ns, by rw [h1]; rfl, congrArg Nat.succ h2, by rw [h3]; rfl, fun n hn => ?_⟩
      rcases List.mem_cons.mp hn with z | z
      · rw [z]
        exact ⟨of_decide_eq_true e1.1, of_decide_eq_true e1.2⟩
      · exact h4 n z
    | non => exact absurd e.1 (by show ¬ false = true; decide)
    | bl b => exact absurd e.1 (by show ¬ false = true; decide)
    | str x => exact absurd e.1 (by show ¬ false = true; decide)
    | lst _ _ => exact absurd e.1 (by show ¬ false = true; decide)
    | tup _ _ => exact absurd e.1 (by show ¬ false = true; decide)
    | emp _ => exact absurd e.1 (by show ¬ false = true; decide)
theorem ints_ok {top : Int} : ∀ {ns : List Int}, (ns.map PyData.int).all (okS top) = true ↔ ∀ n ∈ ns, 0 ≤ n ∧ n ≤ top
  | [] => by simp
  | n :: ns => by
    have ih := ints_ok (top := top) (ns := ns)
    rw [List.map_cons, List.all_cons, Bool.and_eq_true, ih]
    constructor
    · intro h m hm
      have e1 := (Bool.and_eq_true _ _).mp h.1
      rcases List.mem_cons.mp hm with z | z
      · rw [z]
        exact ⟨of_decide_eq_true e1.1, of_decide_eq_true e1.2⟩
      · exact h.2 m z
    · intro h
      have h1 := h n List.mem_cons_self
      exact ⟨(Bool.and_eq_true _ _).mpr ⟨decide_eq_true h1.1, decide_eq_true h1.2⟩, fun m hm => h m (List.mem_cons_of_mem _ hm)⟩
/-- what holds of all items up to i, one more -/
theorem all_next {p : PyData → Bool} {ds : List PyData} {i : Nat} {d : PyData} (e : ds[i]? = some d) (h : (ds.take i).all p = true) : (ds.take (i + 1)).all p = p d := by
  rw [List.take_add_one, e, List.all_append, h]
  simp
theorem all_no {p : PyData → Bool} {ds : List PyData} {i : Nat} {d : PyData} (e : ds[i]? = some d) (h : p d = false) : ds.all p = false := by
  cases z : ds.all p with
  | false => rfl
  | true =>
    rw [List.all_eq_true.mp z d (List.mem_of_getElem? e)] at h
    cases h

/-! ### things beside a tank -/
def mask (t : Addr) (H : Hp) : Hp := fun b => if b = t then none else H b
theorem mask_ne {t b : Addr} {H : Hp} (h : b ≠ t) : mask t H b = H b := if_neg h
theorem mask_same (t : Addr) (H : Hp) : Same (mask t H) H := fun b o e => by
  unfold mask at e
  split at e
  · cases e
  · exact e
theorem mask_but {t : Addr} {H H' : Hp} (u : But t H H') : Same (mask t H) (mask t H') := fun b o e => by
  unfold mask at e ⊢
  split at e
  · cases e
  · rename_i n
    rw [if_neg n]
    exact u b o e n
/-- an item; a thing -/
def El (t : Addr) (H : Hp) (v : V) : Prop := ∃ d, Dq (mask t H) v d ∧ d.showable = true ∧ d.depth ≤ 1 ∧ d.shown.length ≤ 1100
def Th (t : Addr) (H : Hp) (v : V) : Prop := ∃ d, Dq (mask t H) v d ∧ d.showable = true ∧ d.depth ≤ 3 ∧ d.shown.length ≤ 300000
theorem El.but {t : Addr} {H H' : Hp} {v : V} (h : El t H v) (u : But t H H') : El t H' v := let ⟨d, q, r⟩ := h; ⟨d, q.same (mask_but u), r⟩
theorem Th.but {t : Addr} {H H' : Hp} {v : V} (h : Th t H v) (u : But t H H') : Th t H' v := let ⟨d, q, r⟩ := h; ⟨d, q.same (mask_but u), r⟩
theorem El.th {t : Addr} {H : Hp} {v : V} (h : El t H v) : Th t H v := let ⟨d, q, r1, r2, r3⟩ := h; ⟨d, q, r1, by omega, by omega⟩
theorem el_non {t : Addr} {H : Hp} : El t H .non := ⟨.none, .non, rfl, by decide, by decide +kernel⟩
theorem el_bl {t : Addr} {H : Hp} (b : Bool) : El t H (.bl b) := ⟨.bool b, .bl b, by simp only [PyData.showable], by simp only [PyData.depth]; omega, by cases b <;> decide +kernel⟩
theorem el_int {t : Addr} {H : Hp} {i : Int} (h : i.natAbs < 2 ^ 1000) : El t H (.int i) := ⟨.int i, .int i, (rp_int h).sh, by simp only [PyData.depth]; omega, by have := shown_int h; omega⟩
theorem el_emp {t : Addr} {H : Hp} {a : Addr} (h : H a = some (.dK [])) (n : a ≠ t) : El t H (.ref a) := ⟨.dict [], .emp (by rw [mask_ne n]; exact h), by decide, by decide, by decide +kernel⟩
/-- items all told -/
theorem els {t : Addr} {H : Hp} : ∀ {xs : List V}, (∀ x ∈ xs, El t H x) → ∃ ds, DqAll (mask t H) xs ds ∧ PyData.showableAll ds = true ∧ PyData.depthAll ds ≤ 1 ∧ ∀ d ∈ ds, d.shown.length ≤ 1100
  | [], _ => ⟨[], .nil, by simp only [PyData.showableAll], by simp only [PyData.depthAll]; omega, fun d hd => (List.not_mem_nil hd).elim⟩
  | x :: xs, h => by
    obtain ⟨d, q, r1, r2, r3⟩ := h x List.mem_cons_self
    obtain ⟨ds, p1, p2, p3, p4⟩ := els (xs := xs) fun y hy => h y (List.mem_cons_of_mem _ hy)
    refine ⟨d :: ds, .cons q p1, by simp only [PyData.showableAll, r1, p2, Bool.and_self], by simp only [PyData.depthAll]; omega, fun e he => ?_⟩
    rcases List.mem_cons.mp he with z | z
    · rw [z]
      exact r3
    · exact p4 e z
theorem th_list {t : Addr} {H : Hp} {p : Addr} {xs : List V} (h : H p = some (.lst xs)) (n : p ≠ t) (hl : xs.length ≤ 200) (hx : ∀ x ∈ xs, El t H x) : Th t H (.ref p) := by
  obtain ⟨ds, p1, p2, p3, p4⟩ := els hx
  have e := p1.length
  refine ⟨.list ds, .lst (by rw [mask_ne n]; exact h) p1, by simp only [PyData.showable, p2], by simp only [PyData.depth]; omega, ?_⟩
  have := shown_list p4
  omega
theorem shown_tuple {B : Nat} {ds : List PyData} (h : ∀ d ∈ ds, d.shown.length ≤ B) : (PyData.tuple ds).shown.length ≤ (B + 2) * ds.length + 3 := by
  simp only [PyData.shown]
  have e3 : (((if (PyData.shownAll ds).length == 1 then ",)" else ")" : String) : Str)).length ≤ 2 := by split <;> decide +kernel
  have e1 : ((("(" : String) : Str)).length = 1 := rfl
  unfold tupleText
  rw [strLen_append, strLen_append, e1]
  have h2 : piled (PyData.shownAll ds) ≤ (B + 2) * ds.length := by
    unfold piled
    have := sum_bound (B := B + 2) (l := (PyData.shownAll ds).map fun t => t.length + 2) fun x hx => by
      obtain ⟨s, hs, rfl⟩ := List.mem_map.mp hx
      rw [shownAll_map] at hs
      obtain ⟨d, hd, rfl⟩ := List.mem_map.mp hs
      have := h d hd
      omega
    rw [List.length_map, shownAll_map, List.length_map] at this
    rw [shownAll_map] at *
    exact this
  by_cases z : PyData.shownAll ds = []
  · rw [z] at e3 ⊢
    have : (Str.join ", " []).length = 0 := by decide +kernel
    omega
  · have := join_length_add (PyData.shownAll ds) z
    omega
theorem th_tuple {t : Addr} {H : Hp} {p : Addr} {xs : List V} (h : H p = some (.tup xs)) (n : p ≠ t) (hl : xs.length ≤ 200) (hx : ∀ x ∈ xs, El t H x) : Th t H (.ref p) := by
  obtain ⟨ds, p1, p2, p3, p4⟩ := els hx
  have e := p1.length
  refine ⟨.tuple ds, .tup (by rw [mask_ne n]; exact h) p1, by simp only [PyData.showable, p2], by simp only [PyData.depth]; omega, ?_⟩
  have := shown_tuple p4
  omega
/-- [thing] -/
theorem th_one {t : Addr} {H : Hp} {p b : Addr} {ns : List Int} (h : H p = some (.lst [.ref b])) (n : p ≠ t) (hb : H b = some (.lst (ns.map V.int))) (nb : b ≠ t) (hl : ns.length ≤ 40) (hx : ∀ n ∈ ns, n.natAbs < 2 ^ 1000) : Th t H (.ref p) := by
  obtain ⟨ds, p1, p2, p3, p4⟩ := els (t := t) (H := H) (xs := ns.map V.int) fun x hxx => by
    obtain ⟨m, hm, rfl⟩ := List.mem_map.mp hxx
    exact el_int (hx m hm)
  have e := p1.length
  rw [List.length_map] at e
  have z := shown_list p4
  refine ⟨.list [.list ds], .lst (by rw [mask_ne n]; exact h) (.cons (.lst (by rw [mask_ne nb]; exact hb) p1) .nil), by simp only [PyData.showable, PyData.showableAll, p2, Bool.and_self], by simp only [PyData.depth, PyData.depthAll]; omega, ?_⟩
  have z2 := shown_list (B := 1102 * 40 + 3) (ds := [.list ds]) fun d hd => by
    rw [List.mem_singleton.mp hd]
    omega
  exact Nat.le_trans z2 (by show (1102 * 40 + 3 + 2) * 1 + 3 ≤ 300000; decide)
/-- [1], (1,) as items -/
theorem el_list1 {t : Addr} {H : Hp} {p : Addr} (h : H p = some (.lst [.int 1])) (n : p ≠ t) : El t H (.ref p) := ⟨.list [.int 1], .lst (by rw [mask_ne n]; exact h) (.cons (.int 1) .nil), by decide, by decide, by decide +kernel⟩
theorem el_list0 {t : Addr} {H : Hp} {p : Addr} (h : H p = some (.lst [])) (n : p ≠ t) : El t H (.ref p) := ⟨.list [], .lst (by rw [mask_ne n]; exact h) .nil, by decide, by decide, by decide +kernel⟩
theorem el_tup1 {t : Addr} {H : Hp} {p : Addr} (h : H p = some (.tup [.int 1])) (n : p ≠ t) : El t H (.ref p) := ⟨.tuple [.int 1], .tup (by rw [mask_ne n]; exact h) (.cons (.int 1) .nil), by decide, by decide, by decide +kernel⟩
theorem el_tup0 {t : Addr} {H : Hp} {p : Addr} (h : H p = some (.tup [])) (n : p ≠ t) : El t H (.ref p) := ⟨.tuple [], .tup (by rw [mask_ne n]; exact h) .nil, by decide, by decide, by decide +kernel⟩
theorem el_ints {t : Addr} {H : Hp} {ns : List Int} (h : ∀ n ∈ ns, n.natAbs < 2 ^ 1000) : ∀ x ∈ ns.map V.int, El t H x := fun x hx => by
  obtain ⟨m, hm, rfl⟩ := List.mem_map.mp hx
  exact el_int (h m hm)
theorem _root_.L2.Same.seqT {K : PySem.W.Frag} {H H' : Hp} {a : Addr} {xs : List V} (s : Same H H') (h : H a = some (.tup xs)) : SqT K H' a xs := SqT.of (s _ _ h)
end Sd

namespace Sd
open PySem PySem.Spec PyProof.Rows L2

/-! ### polynomials, lowest power first -/
/-- f times low taken away from l at s, s + 1 .. s + j - 1 -/
def subI (low : List Int) (f : Int) (s : Nat) : Nat → List Int → List Int
  | 0, l => l
  | j + 1, l => (subI low f s j l).set (s + j) ((subI low f s j l).getD (s + j) 0 - f * low.getD j 0)
/-- so many steps of the division, from the top: quotient behind, rest in front -/
def divN (low : List Int) : Nat → List Int → List Int
  | 0, l => l
  | k + 1, l => divN low k (subI low (l.getD (low.length - 1 + k) 0) k (low.length - 1) l)
def divL (low l : List Int) : List Int := divN low (l.length - (low.length - 1)) l
def quo (low l : List Int) : List Int := (divL low l).drop (low.length - 1)
def rst (low l : List Int) : List Int := (divL low l).take (low.length - 1)
theorem subI_len (low : List Int) (f : Int) (s : Nat) : ∀ (j : Nat) (l : List Int), (subI low f s j l).length = l.length
  | 0, _ => rfl
  | j + 1, l => by
    rw [subI, List.length_set, subI_len low f s j l]
theorem divN_len (low : List Int) : ∀ (k : Nat) (l : List Int), (divN low k l).length = l.length
  | 0, _ => rfl
  | k + 1, l => by
    rw [divN, divN_len low k, subI_len]
theorem divL_len (low l : List Int) : (divL low l).length = l.length := divN_len _ _ _
theorem quo_len (low l : List Int) : (quo low l).length = l.length - (low.length - 1) := by
  unfold quo
  rw [List.length_drop, divL_len]
theorem rst_len (low l : List Int) : (rst low l).length = min (low.length - 1) l.length := by
  unfold rst
  rw [List.length_take, divL_len]
/-- what lies behind stays -/
theorem subI_get (low : List Int) (f : Int) (s : Nat) : ∀ (j : Nat) (l : List Int) (i : Nat), s + j ≤ i → (subI low f s j l)[i]? = l[i]?
  | 0, _, _, _ => rfl
  | j + 1, l, i, h => by
    rw [subI, List.getElem?_set_ne (by omega)]
    exact subI_get low f s j l i (by omega)
theorem subI_drop (low : List Int) (f : Int) (s j : Nat) (l : List Int) {i : Nat} (h : s + j ≤ i) : (subI low f s j l).drop i = l.drop i := by
  refine List.ext_getElem? fun k => ?_
  rw [List.getElem?_drop, List.getElem?_drop, subI_get low f s j l (i + k) (by omega)]
/-- the table of C(1) to C(40) -/
def cycT : List (List Int) := [[], [-1, 1], [1, 1], [1, 1, 1], [1, 0, 1], [1, 1, 1, 1, 1], [1, -1, 1], [1, 1, 1, 1, 1, 1, 1], [1, 0, 0, 0, 1], [1, 0, 0, 1, 0, 0, 1], [1, -1, 1, -1, 1], [1, 1, 1, 1, 1, 1, 1, 1, 1, 1, 1], [1, 0, -1, 0, 1], [1, 1, 1, 1, 1, 1, 1, 1, 1, 1, 1, 1, 1], [1, -1, 1, -1, 1, -1, 1], [1, -1, 0, 1, -1, 1, 0, -1, 1], [1, 0, 0, 0, 0, 0, 0, 0, 1], [1, 1, 1, 1, 1, 1, 1, 1, 1, 1, 1, 1, 1, 1, 1, 1, 1], [1, 0, 0, -1, 0, 0, 1], [1, 1, 1, 1, 1, 1, 1, 1, 1, 1, 1, 1, 1, 1, 1, 1, 1, 1, 1], [1, 0, -1, 0, 1, 0, -1, 0, 1], [1, -1, 0, 1, -1, 0, 1, 0, -1, 1, 0, -1, 1], [1, -1, 1, -1, 1, -1, 1, -1, 1, -1, 1], [1, 1, 1, 1, 1, 1, 1, 1, 1, 1, 1, 1, 1, 1, 1, 1, 1, 1, 1, 1, 1, 1, 1], [1, 0, 0, 0, -1, 0, 0, 0, 1], [1, 0, 0, 0, 0, 1, 0, 0, 0, 0, 1, 0, 0, 0, 0, 1, 0, 0, 0, 0, 1], [1, -1, 1, -1, 1, -1, 1, -1, 1, -1, 1, -1, 1], [1, 0, 0, 0, 0, 0, 0, 0, 0, 1, 0, 0, 0, 0, 0, 0, 0, 0, 1], [1, 0, -1, 0, 1, 0, -1, 0, 1, 0, -1, 0, 1], [1, 1, 1, 1, 1, 1, 1, 1, 1, 1, 1, 1, 1, 1, 1, 1, 1, 1, 1, 1, 1, 1, 1, 1, 1, 1, 1, 1, 1], [1, 1, 0, -1, -1, -1, 0, 1, 1], [1, 1, 1, 1, 1, 1, 1, 1, 1, 1, 1, 1, 1, 1, 1, 1, 1, 1, 1, 1, 1, 1, 1, 1, 1, 1, 1, 1, 1, 1, 1], [1, 0, 0, 0, 0, 0, 0, 0, 0, 0, 0, 0, 0, 0, 0, 0, 1], [1, -1, 0, 1, -1, 0, 1, -1, 0, 1, -1, 1, 0, -1, 1, 0, -1, 1, 0, -1, 1], [1, -1, 1, -1, 1, -1, 1, -1, 1, -1, 1, -1, 1, -1, 1, -1, 1], [1, -1, 0, 0, 0, 1, -1, 1, -1, 0, 1, -1, 1, -1, 1, 0, -1, 1, -1, 1, 0, 0, 0, -1, 1], [1, 0, 0, 0, 0, 0, -1, 0, 0, 0, 0, 0, 1], [1, 1, 1, 1, 1, 1, 1, 1, 1, 1, 1, 1, 1, 1, 1, 1, 1, 1, 1, 1, 1, 1, 1, 1, 1, 1, 1, 1, 1, 1, 1, 1, 1, 1, 1, 1, 1], [1, -1, 1, -1, 1, -1, 1, -1, 1, -1, 1, -1, 1, -1, 1, -1, 1, -1, 1], [1, -1, 0, 1, -1, 0, 1, -1, 0, 1, -1, 0, 1, 0, -1, 1, 0, -1, 1, 0, -1, 1, 0, -1, 1], [1, 0, 0, 0, -1, 0, 0, 0, 1, 0, 0, 0, -1, 0, 0, 0, 1]]
def cyc (p : Nat) : List Int := cycT.getD p []
/-- low coefficients are 1, 0 or -1 -/
def Unt (l : List Int) : Prop := ∀ x ∈ l, -1 ≤ x ∧ x ≤ 1
theorem cyc_all : ∀ p, p < 41 → 1 ≤ p → (2 ≤ (cyc p).length ∧ (cyc p).length ≤ p + 1 ∧ (cyc p).all (fun x => decide (-1 ≤ x ∧ x ≤ 1)) = true) := by decide +kernel
theorem cyc_len {p : Nat} (h1 : 1 ≤ p) (h : p ≤ 40) : 2 ≤ (cyc p).length ∧ (cyc p).length ≤ p + 1 := ⟨(cyc_all p (by omega) h1).1, (cyc_all p (by omega) h1).2.1⟩
theorem cyc_unt {p : Nat} (h1 : 1 ≤ p) (h : p ≤ 40) : Unt (cyc p) := fun x hx => of_decide_eq_true (List.all_eq_true.mp (cyc_all p (by omega) h1).2.2 x hx)
/-- x ** p - 1 -/
def xn1 (p : Nat) : List Int := [-1] ++ List.replicate (p - 1) 0 ++ [1]
theorem xn1_len {p : Nat} (h : 1 ≤ p) : (xn1 p).length = p + 1 := by
  unfold xn1
  rw [List.length_append, List.length_append, List.length_replicate]
  show 1 + (p - 1) + 1 = p + 1
  omega
/-- x ** p - 1 without C(1), C(2) .. C(k) -/
def rootF (p : Nat) : Nat → List Int
  | 0 => xn1 p
  | k + 1 => if p % (k + 1) = 0 then quo (cyc (k + 1)) (rootF p k) else rootF p k
theorem root_all : ∀ p, p < 41 → 1 ≤ p → rootF p (p - 1) = cyc p := by decide +kernel
theorem root_cyc {p : Nat} (h1 : 1 ≤ p) (h : p ≤ 40) : rootF p (p - 1) = cyc p := root_all p (by omega) h1
theorem rootF_len (p : Nat) (h : 1 ≤ p) : ∀ k, (rootF p k).length ≤ p + 1
  | 0 => by rw [rootF, xn1_len h]; exact Nat.le_refl _
  | k + 1 => by
    have := rootF_len p h k
    rw [rootF]
    split
    · rw [quo_len]; omega
    · exact this
/-- the divisors of n up to k -/
def divs (n : Nat) : Nat → List Nat
  | 0 => []
  | k + 1 => if n % (k + 1) = 0 then divs n k ++ [k + 1] else divs n k
theorem divs_mem {n : Nat} : ∀ {k d : Nat}, d ∈ divs n k ↔ 1 ≤ d ∧ d ≤ k ∧ n % d = 0
  | 0, d => by
    rw [divs]
    exact ⟨fun h => (List.not_mem_nil h).elim, fun h => by omega⟩
  | k + 1, d => by
    rw [divs]
    by_cases c : n % (k + 1) = 0
    · rw [if_pos c, List.mem_append, divs_mem (k := k), List.mem_singleton]
      constructor
      · rintro (⟨a, b, e⟩ | rfl)
        · exact ⟨a, by omega, e⟩
        · exact ⟨by omega, Nat.le_refl _, c⟩
      · rintro ⟨a, b, e⟩
        by_cases z : d = k + 1
        · exact .inr z
        · exact .inl ⟨a, by omega, e⟩
    · rw [if_neg c, divs_mem (k := k)]
      constructor
      · rintro ⟨a, b, e⟩
        exact ⟨a, by omega, e⟩
      · rintro ⟨a, b, e⟩
        refine ⟨a, ?_, e⟩
        have : d ≠ k + 1 := fun z => c (by rw [← z]; exact e)
        omega
theorem divs_len {n : Nat} : ∀ k, (divs n k).length ≤ k
  | 0 => Nat.le_refl _
  | k + 1 => by
    have := divs_len (n := n) k
    rw [divs]
    split
    · rw [List.length_append]
      show _ + 1 ≤ _
      omega
    · omega
/-- x ** p - 1 without all C(d), d of a list that divides p -/
def foldQ (p : Nat) (ds : List Nat) : List Int := ds.foldl (fun a d => if p % d = 0 then quo (cyc d) a else a) (xn1 p)
theorem foldQ_snoc (p : Nat) (ds : List Nat) (d : Nat) : foldQ p (ds ++ [d]) = if p % d = 0 then quo (cyc d) (foldQ p ds) else foldQ p ds := by
  unfold foldQ
  rw [List.foldl_append]
  rfl
theorem foldQ_divs {n p : Nat} (hp : n % p = 0) : ∀ k, foldQ p (divs n k) = rootF p k
  | 0 => rfl
  | k + 1 => by
    rw [divs, rootF]
    by_cases c : n % (k + 1) = 0
    · rw [if_pos c, foldQ_snoc, foldQ_divs hp k]
    · rw [if_neg c, foldQ_divs hp k, if_neg]
      intro z
      exact c (Nat.mod_eq_zero_of_dvd (Nat.dvd_trans (Nat.dvd_of_mod_eq_zero z) (Nat.dvd_of_mod_eq_zero hp)))
theorem foldQ_len {p : Nat} (h : 1 ≤ p) : ∀ ds : List Nat, ∀ a : List Int, a.length ≤ p + 1 → (ds.foldl (fun a d => if p % d = 0 then quo (cyc d) a else a) a).length ≤ p + 1
  | [], a, ha => ha
  | d :: ds, a, ha => by
    rw [List.foldl_cons]
    refine foldQ_len h ds _ ?_
    split
    · rw [quo_len]; omega
    · exact ha
/-- the blind divisors -/
def blB (ns : List Int) (d : Nat) : Bool := (rst (cyc d) ns).all fun x => decide (x = 0)
def blindN (ns : List Int) (k : Nat) : List Nat := (divs ns.length k).filter (blB ns)
def blindL (ns : List Int) : List Nat := blindN ns ns.length
/-- the product of C(d) for all that are not blind -/
def hidQ (ns : List Int) : List Int := (blindL ns).foldl (fun a d => quo (cyc d) a) (xn1 ns.length)
def degS (ds : List Nat) : Nat := (ds.map fun d => (cyc d).length - 1).sum
theorem deg_all : ∀ n, n < 41 → 1 ≤ n → degS (divs n n) = n := by decide +kernel
theorem degS_filter (p : Nat → Bool) : ∀ ds : List Nat, degS (ds.filter p) ≤ degS ds
  | [] => Nat.le_refl _
  | d :: ds => by
    have := degS_filter p ds
    rw [List.filter_cons]
    split
    · unfold degS at *
      rw [List.map_cons, List.sum_cons, List.map_cons, List.sum_cons]
      omega
    · unfold degS at *
      rw [List.map_cons, List.sum_cons]
      omega
theorem fold_len : ∀ (ds : List Nat) (a : List Int), degS ds ≤ a.length → (ds.foldl (fun a d => quo (cyc d) a) a).length = a.length - degS ds
  | [], a, _ => rfl
  | d :: ds, a, h => by
    unfold degS at h
    rw [List.map_cons, List.sum_cons] at h
    rw [List.foldl_cons, fold_len ds _ (by rw [quo_len]; unfold degS; omega), quo_len]
    unfold degS
    rw [List.map_cons, List.sum_cons]
    omega
theorem blind_deg {ns : List Int} (h1 : 1 ≤ ns.length) (h : ns.length ≤ 40) : degS (blindL ns) ≤ ns.length := by
  have := degS_filter (blB ns) (divs ns.length ns.length)
  rw [deg_all ns.length (by omega) h1] at this
  exact this
theorem hidQ_len {ns : List Int} (h1 : 1 ≤ ns.length) (h : ns.length ≤ 40) : (hidQ ns).length = ns.length + 1 - degS (blindL ns) := by
  have := blind_deg h1 h
  unfold hidQ
  rw [fold_len _ _ (by rw [xn1_len h1]; omega), xn1_len h1]
theorem blind_mem {ns : List Int} {d : Nat} (h : d ∈ blindL ns) : 1 ≤ d ∧ d ≤ ns.length ∧ ns.length % d = 0 := divs_mem.mp (List.mem_filter.mp h).1
theorem degS_pos {ns : List Int} (h : ns.length ≤ 40) : degS (blindL ns) = 0 ↔ blindL ns = [] := by
  constructor
  · intro z
    cases e : blindL ns with
    | nil => rfl
    | cons d ds =>
      exfalso
      have hd := blind_mem (ns := ns) (d := d) (by rw [e]; exact List.mem_cons_self)
      have := (cyc_len hd.1 (by omega)).1
      rw [e] at z
      unfold degS at z
      rw [List.map_cons, List.sum_cons] at z
      omega
  · intro z
    rw [z]
    rfl
theorem divs_sorted {n : Nat} : ∀ {k i d e : Nat}, (divs n k)[i]? = some d → e ∈ (divs n k).take i → e < d
  | 0, _, _, _, h, _ => by
    rw [divs] at h
    cases h
  | k + 1, i, d, e, h, he => by
    rw [divs] at h he
    by_cases c : n % (k + 1) = 0
    · rw [if_pos c] at h he
      by_cases z : i < (divs n k).length
      · rw [List.getElem?_append_left z] at h
        rw [List.take_append_of_le_length (Nat.le_of_lt z)] at he
        exact divs_sorted h he
      · have hi : i = (divs n k).length := by
          have := (List.getElem?_eq_some_iff.mp h).1
          rw [List.length_append] at this
          have t : i < (divs n k).length + 1 := this
          omega
        subst hi
        rw [List.getElem?_append_right (Nat.le_refl _), Nat.sub_self] at h
        have hd : k + 1 = d := Option.some.inj h
        rw [List.take_left] at he
        have := (divs_mem.mp he).2.1
        omega
    · rw [if_neg c] at h he
      exact divs_sorted h he
theorem divs_lt {n k i d e : Nat} (h : (divs n k)[i]? = some d) (he : e ∈ (divs n k).take i) : e < d := divs_sorted h he
theorem degI : ∀ {ds : List Nat}, (∀ d ∈ ds, 1 ≤ d ∧ d ≤ 40) → (ds.map fun d => ((cyc d).length : Int) - 1).sum = (degS ds : Int)
  | [], _ => rfl
  | d :: ds, h => by
    have hd := h d List.mem_cons_self
    have hl := (cyc_len hd.1 hd.2).1
    rw [List.map_cons, List.sum_cons, degI fun x hx => h x (List.mem_cons_of_mem _ hx)]
    unfold degS
    rw [List.map_cons, List.sum_cons]
    omega
end Sd

namespace Sd
open PySem PySem.Spec PyProof.Rows L2

/-! ### rules: any of a list of ints, xs[i] -= .., a dict that is locked and left so, a dict comprehension over its items -/
section
variable {X : Cx}
theorem truth_ints {K : PySem.W.Frag} {prog : Program} {w : World} {A : Around} {ns : List Int} {its : List Value} (r : Vals (ns.map V.int) its) :
    TruthOf prog w A (fun i v => its.toArray[i]? = some v) (fun i => (ns.map fun n => decide (n ≠ 0)).getD i false) := fun i v s Q E hv hq => by
  have hv' : its[i]? = some v := by simpa using hv
  have hl := r.length
  rw [List.length_map] at hl
  have hi : i < ns.length := by
    rw [hl]
    exact (List.getElem?_eq_some_iff.mp hv').1
  obtain ⟨w1, e1, r1⟩ := r.get (i := i) (x := .int ns[i]) (by rw [List.getElem?_map, List.getElem?_eq_getElem hi]; rfl)
  rw [hv'] at e1
  cases e1
  obtain ⟨t, rfl⟩ := r1
  have hg : (ns.map fun n => decide (n ≠ 0)).getD i false = decide (ns[i] ≠ 0) := by
    rw [List.getD_eq_getElem?_getD, List.getElem?_map, List.getElem?_eq_getElem hi]
    rfl
  have hq' : Q ((ns.map fun n => decide (n ≠ 0)).getD i false) s := hq
  rw [hg] at hq'
  refine PySem.P.truthy_int ?_
  have e : (ns[i] != 0) = decide (ns[i] ≠ 0) := by
    by_cases c : ns[i] = 0
    · rw [c]; rfl
    · rw [decide_eq_true c]
      exact bne_iff_ne.mpr c
  first
    | exact hq'
    | (rw [e]; exact hq')
def rAnyI (K : PySem.W.Frag) : List V → Hp → VK → Prop := fun vs H Q => ∃ (a : Addr) (ns : List Int), vs = [V.ref a] ∧ SqL K H a (ns.map V.int) ∧ Q (.bl (!ns.all fun x => decide (x = 0))) H
theorem any_not_all : ∀ ns : List Int, (ns.map fun n => decide (n ≠ 0)).any id = !ns.all fun x => decide (x = 0)
  | [] => rfl
  | n :: ns => by
    rw [List.map_cons, List.any_cons, List.all_cons, any_not_all ns, Bool.not_and]
    congr 1
    by_cases c : n = 0
    · rw [decide_eq_true c]; subst c; rfl
    · rw [decide_eq_false c]
      exact decide_eq_true c
theorem cr_anyI {K : PySem.W.Frag} (hK : X.K = K) (hc : X.calm = true) : CallR X (.builtin "any") (rAnyI K) := by
  subst hK
  intro pins s σ H vs us Q I r h
  obtain ⟨a, ns, rfl, hs, q⟩ := h
  obtain ⟨its, rv, hl, _⟩ := I.list hs
  rw [Vals.ref1 r]
  refine call_any_walk (iter_any hl.isList fun s₂ e2 st hne => ?_)
  subst e2
  refine ⟨_, _, _, _, _, _, _, rfl, Walks.list (A := X.A.in1) (I.ok.hd hc) _ a hne its.toArray, st, truth_ints (K := X.K) rv, fun h' tk hk => ?_⟩
  refine ⟨.bl _, H, I.kept fun b o eo => hk b o (fun hmem => ?_) (Heap.get?_push_of_some _ eo), ?_, q⟩
  · rcases List.mem_cons.mp hmem with e1 | hmem
    · exact absurd (e1 ▸ Heap.lt_size eo) (Nat.lt_irrefl _)
    · cases hmem
  · show Value.bool _ = Value.bool _
    have e := any_range (ns.map fun n => decide (n ≠ 0))
    rw [← any_not_all, ← e, List.size_toArray, ← rv.length, List.length_map, List.length_map]
/-- xs[i], read by an augmented assignment -/
def rGetL (K : PySem.W.Frag) : V → V → Hp → VK → Prop := fun o i H Q => ∃ (p : Addr) (xs : List V) (k : Int) (z : V), o = .ref p ∧ i = .int k ∧ SqL K H p xs ∧ 0 ≤ k ∧ xs[k.toNat]? = some z ∧ Q z H
theorem get_listP {K : PySem.W.Frag} (hK : X.K = K) : PGet X (rGetL K) := by
  subst hK
  intro pins s σ H o i ov iv Q I ro ri h
  obtain ⟨p, xs, k, z, rfl, rfl, hq, h0, he, q⟩ := h
  cases ro
  obtain ⟨t, rfl⟩ := ri
  obtain ⟨its, r, pl, hz⟩ := I.list hq
  obtain ⟨w, ew, rw'⟩ := r.get he
  have hlt : k.toNat < its.length := (List.getElem?_eq_some_iff.mp ew).1
  have hn := line63
  have hl := r.length
  exact wpAny_getItem_list pl.isList h0 (by omega) (by simpa using ew) ⟨z, H, I, rw', q⟩
/-- the dict that an expression gives is locked from then on -/
def tLk (td : TE) : TE := fun σ H Q => td σ H fun x H1 => ∃ d kvs, x = .ref d ∧ H1 d = some (.dK kvs) ∧ ∀ od, Q x (upd H1 d (.frz od (.dK kvs)))
theorem pe_lk {e : Expr} {td : TE} (h : PE X e td) : PE X e (tLk td) := by
  refine ⟨fun pins s σ H Q I hw => ?_⟩
  refine thn (h.run pins s σ H _ I hw) fun v s1 ⟨x, H1, I1, r, d, kvs, ex, hd, q⟩ => ?_
  obtain ⟨od, I2⟩ := I1.lock hd trivial
  exact ⟨x, _, I2, r, q od⟩
theorem ixT {K : PySem.W.Frag} (h : X.K = K) : IxR X (rIxT K) := h ▸ ix_tup
theorem dc_it {J : It} {n : Nat} {G : Hp → Prop} {Y : Nat → Hp → V → Hp → Prop} (w : Walk J n G Y) {g : TG} {tt : TT} {tk tv : TE} {vs : List Nat} {σ : L2.St} {H1 : Hp} {D : Addr} {Qd : Hp → Prop} (Pv : Nat → Hp → Prop) (h0 : Pv 0 (upd H1 D (.dK []))) (hG : ∀ i H, i ≤ n → Pv i H → G H)
    (hs : ∀ i x H H', i < n → Pv i H → Y i H x H' → g x (wipe σ vs) H' fun σ2 H2 => wipe σ2 vs = wipe σ vs ∧ tt σ2 H2 fun b H3 =>
      if b = true then tk σ2 H3 fun y H4 => tv σ2 H4 fun z H5 => ∃ kvs k, y = kV k ∧ H5 D = some (.dK kvs) ∧ kvs.length < sizeLine ∧ Pv (i + 1) (upd H5 D (.dK (putK kvs k z))) else Pv (i + 1) H3) (hd : ∀ H, Pv n H → Qd H) :
    ∃ W : Nat → Nat → Hp → Prop, (∃ m, W 0 m (upd H1 D (.dK []))) ∧ ∀ i m H, W i m H →
      (J.stop i H ∧ Qd H) ∨ (J.go i H ∧ ∃ Nx : Hp → Prop, (∀ H', Nx H' → ∃ m', m' < m ∧ W (i + 1) m' H') ∧ ∀ x H', J.yld i H x H' → g x (wipe σ vs) H' fun σ2 H2 => wipe σ2 vs = wipe σ vs ∧ tt σ2 H2 fun b H3 =>
        if b = true then tk σ2 H3 fun y H4 => tv σ2 H4 fun z H5 => ∃ kvs k, y = kV k ∧ H5 D = some (.dK kvs) ∧ kvs.length < sizeLine ∧ Nx (upd H5 D (.dK (putK kvs k z))) else Nx H3) := by
  refine ⟨fun i m H => m = n - i ∧ i ≤ n ∧ Pv i H, ⟨n, by simp, Nat.zero_le _, h0⟩, ?_⟩
  rintro i m H ⟨rfl, hi, p⟩
  have q := hG i H hi p
  by_cases hlt : i < n
  · exact .inr ⟨w.goes i H hlt q, Pv (i + 1), fun H' p' => ⟨n - (i + 1), by omega, rfl, hlt, p'⟩, fun x H' y => hs i x H H' hlt p (w.yields i H x H' hlt q y)⟩
  · have e : i = n := by omega
    subst e
    exact .inl ⟨w.stops H q, hd H p⟩
end
/-! ### dicts from divisors to lists -/
inductive Tabl (H : Hp) : List (Key × V) → List Nat → Prop
  | nil : Tabl H [] []
  | cons {d : Nat} {r : Addr} {kvs : List (Key × V)} {ds : List Nat} : H r = some (.lst ((cyc d).map V.int)) → Tabl H kvs ds → Tabl H ((.inl (d : Int), .ref r) :: kvs) (d :: ds)
theorem Tabl.same {H H' : Hp} (s : Same H H') : ∀ {kvs : List (Key × V)} {ds : List Nat}, Tabl H kvs ds → Tabl H' kvs ds
  | _, _, .nil => .nil
  | _, _, .cons h t => .cons (s _ _ h) (t.same s)
theorem Tabl.but {H H' : Hp} {T : Addr} (hT : ∀ xs, H T ≠ some (.lst xs)) (s : But T H H') : ∀ {kvs : List (Key × V)} {ds : List Nat}, Tabl H kvs ds → Tabl H' kvs ds
  | _, _, .nil => .nil
  | _, _, .cons h t => .cons (s _ _ h (fun e => hT _ (by rw [← e]; exact h))) (t.but hT s)
theorem Tabl.len {H : Hp} : ∀ {kvs : List (Key × V)} {ds : List Nat}, Tabl H kvs ds → kvs.length = ds.length
  | _, _, .nil => rfl
  | _, _, .cons _ t => by rw [List.length_cons, List.length_cons, t.len]
theorem Tabl.at {H : Hp} : ∀ {kvs : List (Key × V)} {ds : List Nat} {i : Nat}, Tabl H kvs ds → i < ds.length → ∃ d r, ds[i]? = some d ∧ kvs[i]? = some (.inl (d : Int), .ref r) ∧ H r = some (.lst ((cyc d).map V.int))
  | _, _, i, .nil, h => absurd h (Nat.not_lt_zero _)
  | _, _, 0, .cons h t, _ => ⟨_, _, rfl, rfl, h⟩
  | _, _, i + 1, .cons h t, l => t.at (i := i) (Nat.lt_of_succ_lt_succ l)
theorem Tabl.snoc {H : Hp} {d : Nat} {r : Addr} (h : H r = some (.lst ((cyc d).map V.int))) : ∀ {kvs : List (Key × V)} {ds : List Nat}, Tabl H kvs ds → Tabl H (kvs ++ [(.inl (d : Int), .ref r)]) (ds ++ [d])
  | _, _, .nil => .cons h .nil
  | _, _, .cons h1 t => .cons h1 (t.snoc h)
theorem Tabl.put {H : Hp} {d : Nat} : ∀ {kvs : List (Key × V)} {ds : List Nat}, Tabl H kvs ds → (∀ e ∈ ds, e < d) → (kvs.any fun kv => decide (kv.1 = (.inl (d : Int) : Key))) = false
  | _, _, .nil, _ => rfl
  | _, _, @Tabl.cons _ e r kvs ds _ t, h => by
    rw [List.any_cons, t.put fun x hx => h x (List.mem_cons_of_mem _ hx), Bool.or_false]
    refine decide_eq_false fun z => ?_
    have h1 := h e List.mem_cons_self
    have h2 : (e : Int) = (d : Int) := Sum.inl.inj z
    omega
theorem Tabl.putK {H : Hp} {d : Nat} {v : V} {kvs : List (Key × V)} {ds : List Nat} (t : Tabl H kvs ds) (h : ∀ e ∈ ds, e < d) : putK kvs (.inl (d : Int)) v = kvs ++ [(.inl (d : Int), v)] := by
  unfold L2.putK
  rw [if_neg (by rw [t.put h]; exact Bool.false_ne_true)]
theorem eqv_dI0 (a : List Int) : PyData.eqv (dI a) (dI []) = a.isEmpty := by cases a <;> rfl
end Sd

namespace Sd
open PySem PySem.Spec PyProof.Rows L2

/-! ### things without dicts within, beside a tank -/
def NDk : PyData → Prop
  | .list ds => PyData.hasDictAll ds = false ∧ PyData.canLayAll0 ds = true
  | _ => True
def E9 (t : Addr) (H : Hp) (v : V) : Prop := ∃ d, Dq (mask t H) v d ∧ d.showable = true ∧ d.depth ≤ 1 ∧ d.shown.length ≤ 1100 ∧ d.hasDict = false ∧ d.canLay0 = true
def T9 (t : Addr) (H : Hp) (v : V) : Prop := ∃ d, Dq (mask t H) v d ∧ d.showable = true ∧ d.depth ≤ 3 ∧ d.shown.length ≤ 300000 ∧ NDk d
theorem E9.but {t : Addr} {H H' : Hp} {v : V} (h : E9 t H v) (u : But t H H') : E9 t H' v := let ⟨d, q, r⟩ := h; ⟨d, q.same (mask_but u), r⟩
theorem T9.but {t : Addr} {H H' : Hp} {v : V} (h : T9 t H v) (u : But t H H') : T9 t H' v := let ⟨d, q, r⟩ := h; ⟨d, q.same (mask_but u), r⟩
theorem ndk_of {d : PyData} (h : d.hasDict = false ∧ d.canLay0 = true) : NDk d := by
  cases d <;> first | trivial | (obtain ⟨h1, h2⟩ := h; simp only [PyData.hasDict] at h1; simp only [PyData.canLay0] at h2; exact ⟨h1, h2⟩)
theorem E9.th {t : Addr} {H : Hp} {v : V} (h : E9 t H v) : T9 t H v := let ⟨d, q, r1, r2, r3, r4⟩ := h; ⟨d, q, r1, by omega, by omega, ndk_of r4⟩
theorem e9_non {t : Addr} {H : Hp} : E9 t H .non := ⟨.none, .non, rfl, by decide, by decide +kernel, by decide, by decide⟩
theorem e9_bl {t : Addr} {H : Hp} (b : Bool) : E9 t H (.bl b) := ⟨.bool b, .bl b, by simp only [PyData.showable], by simp only [PyData.depth]; omega, by cases b <;> decide +kernel, by simp only [PyData.hasDict], by simp only [PyData.canLay0]⟩
theorem e9_int {t : Addr} {H : Hp} {i : Int} (h : i.natAbs < 2 ^ 1000) : E9 t H (.int i) := ⟨.int i, .int i, (rp_int h).sh, by simp only [PyData.depth]; omega, by have := shown_int h; omega, by simp only [PyData.hasDict], by simp only [PyData.canLay0]⟩
theorem e9_str0 {t : Addr} {H : Hp} : E9 t H (.str "0") := ⟨.str "0", .str "0", by simp only [PyData.showable], by simp only [PyData.depth]; omega, by decide +kernel, by simp only [PyData.hasDict], by decide +kernel⟩
theorem t9_emp {t : Addr} {H : Hp} {a : Addr} (h : H a = some (.dK [])) (n : a ≠ t) : T9 t H (.ref a) := ⟨.dict [], .emp (by rw [mask_ne n]; exact h), by decide, by decide, by decide +kernel, trivial⟩
theorem e9s {t : Addr} {H : Hp} : ∀ {xs : List V}, (∀ x ∈ xs, E9 t H x) → ∃ ds, DqAll (mask t H) xs ds ∧ PyData.showableAll ds = true ∧ PyData.depthAll ds ≤ 1 ∧ (∀ d ∈ ds, d.shown.length ≤ 1100) ∧ PyData.hasDictAll ds = false ∧ PyData.canLayAll0 ds = true
  | [], _ => ⟨[], .nil, by simp only [PyData.showableAll], by simp only [PyData.depthAll]; omega, fun d hd => (List.not_mem_nil hd).elim, by simp only [PyData.hasDictAll], by simp only [PyData.canLayAll0]⟩
  | x :: xs, h => by
    obtain ⟨d, q, r1, r2, r3, r4, r5⟩ := h x List.mem_cons_self
    obtain ⟨ds, p1, p2, p3, p4, p5, p6⟩ := e9s (xs := xs) fun y hy => h y (List.mem_cons_of_mem _ hy)
    refine ⟨d :: ds, .cons q p1, by simp only [PyData.showableAll, r1, p2, Bool.and_self], by simp only [PyData.depthAll]; omega, fun e he => ?_, by simp only [PyData.hasDictAll, r4, p5, Bool.or_self], by simp only [PyData.canLayAll0, r5, p6, Bool.and_self]⟩
    rcases List.mem_cons.mp he with z | z
    · rw [z]
      exact r3
    · exact p4 e z
theorem t9_list {t : Addr} {H : Hp} {p : Addr} {xs : List V} (h : H p = some (.lst xs)) (n : p ≠ t) (hl : xs.length ≤ 200) (hx : ∀ x ∈ xs, E9 t H x) : T9 t H (.ref p) := by
  obtain ⟨ds, p1, p2, p3, p4, p5⟩ := e9s hx
  have e := p1.length
  refine ⟨.list ds, .lst (by rw [mask_ne n]; exact h) p1, by simp only [PyData.showable, p2], by simp only [PyData.depth]; omega, ?_, p5⟩
  have := shown_list p4
  omega
theorem t9_tuple {t : Addr} {H : Hp} {p : Addr} {xs : List V} (h : H p = some (.tup xs)) (n : p ≠ t) (hl : xs.length ≤ 200) (hx : ∀ x ∈ xs, E9 t H x) : T9 t H (.ref p) := by
  obtain ⟨ds, p1, p2, p3, p4, p5⟩ := e9s hx
  have e := p1.length
  refine ⟨.tuple ds, .tup (by rw [mask_ne n]; exact h) p1, by simp only [PyData.showable, p2], by simp only [PyData.depth]; omega, ?_, trivial⟩
  have := shown_tuple p4
  omega
theorem e9_ints {t : Addr} {H : Hp} {ns : List Int} (h : ∀ n ∈ ns, n.natAbs < 2 ^ 1000) : ∀ x ∈ ns.map V.int, E9 t H x := fun x hx => by
  obtain ⟨m, hm, rfl⟩ := List.mem_map.mp hx
  exact e9_int (h m hm)
theorem t9_ints {t : Addr} {H : Hp} {p : Addr} {ns : List Int} (h : H p = some (.lst (ns.map V.int))) (n : p ≠ t) (hl : ns.length ≤ 200) (hx : ∀ n ∈ ns, n.natAbs < 2 ^ 1000) : T9 t H (.ref p) :=
  t9_list h n (by rw [List.length_map]; exact hl) (e9_ints hx)
theorem t9_rep {t : Addr} {H : Hp} {p : Addr} {k : Nat} {v : Int} (h : H p = some (.lst (List.replicate k [V.int v]).flatten)) (n : p ≠ t) (hl : k ≤ 200) (hv : v.natAbs < 2 ^ 1000) : T9 t H (.ref p) := by
  rw [rep_one] at h
  exact t9_ints h n (by rw [List.length_replicate]; exact hl) fun m hm => by rw [(List.mem_replicate.mp hm).2]; exact hv
theorem rep_any (v : V) : ∀ k : Nat, (List.replicate k [v]).flatten = List.replicate k v
  | 0 => rfl
  | k + 1 => by
    rw [List.replicate_succ, List.replicate_succ, List.flatten_cons, rep_any v k]
    rfl
/-- [ints] -/
theorem t9_one {t : Addr} {H : Hp} {p b : Addr} {ns : List Int} (h : H p = some (.lst [.ref b])) (n : p ≠ t) (hb : H b = some (.lst (ns.map V.int))) (nb : b ≠ t) (hl : ns.length ≤ 40) (hx : ∀ n ∈ ns, n.natAbs < 2 ^ 1000) : T9 t H (.ref p) := by
  obtain ⟨ds, p1, p2, p3, p4, p5, p6⟩ := e9s (t := t) (H := H) (xs := ns.map V.int) fun x hxx => by
    obtain ⟨m, hm, rfl⟩ := List.mem_map.mp hxx
    exact e9_int (hx m hm)
  have e := p1.length
  rw [List.length_map] at e
  have z := shown_list p4
  refine ⟨.list [.list ds], .lst (by rw [mask_ne n]; exact h) (.cons (.lst (by rw [mask_ne nb]; exact hb) p1) .nil), by simp only [PyData.showable, PyData.showableAll, p2, Bool.and_self], by simp only [PyData.depth, PyData.depthAll]; omega, ?_, by show PyData.hasDictAll [.list ds] = false ∧ PyData.canLayAll0 [.list ds] = true; simp only [PyData.hasDictAll, PyData.hasDict, p5, Bool.or_self, PyData.canLayAll0, PyData.canLay0, p6, Bool.and_self, and_self]⟩
  have z2 := shown_list (B := 1102 * 40 + 3) (ds := [.list ds]) fun d hd => by
    rw [List.mem_singleton.mp hd]
    omega
  exact Nat.le_trans z2 (by show (1102 * 40 + 3 + 2) * 1 + 3 ≤ 300000; decide)
/-- [0], (0,) as items -/
theorem e9_list0 {t : Addr} {H : Hp} {p : Addr} (h : H p = some (.lst [.int 0])) (n : p ≠ t) : E9 t H (.ref p) := ⟨.list [.int 0], .lst (by rw [mask_ne n]; exact h) (.cons (.int 0) .nil), by decide, by decide, by decide +kernel, by decide, by decide⟩
theorem e9_tup0 {t : Addr} {H : Hp} {p : Addr} (h : H p = some (.tup [.int 0])) (n : p ≠ t) : E9 t H (.ref p) := ⟨.tuple [.int 0], .tup (by rw [mask_ne n]; exact h) (.cons (.int 0) .nil), by decide, by decide, by decide +kernel, by decide, by decide⟩
/-! ### two that change -/
def But2 (t f : Addr) (H H' : Hp) : Prop := ∀ b o, H b = some o → b ≠ t → b ≠ f → H' b = some o
theorem but2_mask {t f : Addr} {H H' : Hp} (u : But2 t f H H') : But t (mask f H) (mask f H') := fun b o e n => by
  unfold mask at e ⊢
  split at e
  · cases e
  · rename_i nf
    rw [if_neg nf]
    exact u b o e n nf
theorem but_mask {t f : Addr} {H H' : Hp} (u : But t H H') : But t (mask f H) (mask f H') := but2_mask fun b o e n _ => u b o e n
theorem mask_in {t f : Addr} {H H' : Hp} (u : But t H H') (h : H f = none) : But t H (mask f H') := fun b o e n => by
  have : b ≠ f := ne_of_none e h
  rw [mask_ne this]
  exact u b o e n
theorem T9.out {t f : Addr} {H : Hp} {v : V} (h : T9 t (mask f H) v) : T9 t H v := h.but (But.of (mask_same f H))
theorem cut_takeV (xs : List V) (s : Int) (h0 : 0 ≤ s) : cutV xs none (some s) = xs.take s.toNat := by
  obtain ⟨k, rfl⟩ : ∃ k : Nat, s = (k : Int) := ⟨s.toNat, by omega⟩
  unfold cutV
  rw [HT.sIx_none, HT.sIx_nat, Int.toNat_natCast, List.drop_zero, Nat.sub_zero]
  rcases Nat.le_total k xs.length with z | z
  · rw [Nat.min_eq_left z]
  · rw [Nat.min_eq_right z, List.take_of_length_le (Nat.le_refl _), List.take_of_length_le z]
theorem cut_memV {xs : List V} {lo hi : Option Int} {x : V} (h : x ∈ cutV xs lo hi) : x ∈ xs := List.mem_of_mem_drop (List.mem_of_mem_take h)
/-! ### from told data to what is compared -/
mutual
theorem Dq.dp {K : PySem.W.Frag} {H : Hp} : ∀ {v : V} {d : PyData}, Dq H v d → d.hasDict = false → Dp K H v d
  | _, _, .non, _ => .non
  | _, _, .bl b, _ => .bl b
  | _, _, .int i, _ => .int i
  | _, _, .str x, _ => .str x
  | _, _, .lst h1 h2, n => .lst (SqL.of h1) (DqAll.dp h2 (by simp only [PyData.hasDict] at n; exact n))
  | _, _, .tup h1 h2, n => .tup (SqT.of h1) (DqAll.dp h2 (by simp only [PyData.hasDict] at n; exact n))
  | _, _, .emp _, n => by
    simp only [PyData.hasDict] at n
    cases n
theorem DqAll.dp {K : PySem.W.Frag} {H : Hp} : ∀ {vs : List V} {ds : List PyData}, DqAll H vs ds → PyData.hasDictAll ds = false → DpAll K H vs ds
  | _, _, .nil, _ => .nil
  | _, _, .cons h1 h2, n => by
    simp only [PyData.hasDictAll, Bool.or_eq_false_iff] at n
    exact .cons (Dq.dp h1 n.1) (DqAll.dp h2 n.2)
end
theorem eqv_nil (ds : List PyData) : PyData.eqv (.list ds) (.list []) = ds.isEmpty := by cases ds <;> rfl
/-! ### bounds -/
theorem subI_ab {b : Nat} {low : List Int} {f : Int} {s : Nat} (hU : Unt low) (hf : f.natAbs < 2 ^ b) : ∀ (j : Nat) {l : List Int}, Ab b l → Ab (b + 1) (subI low f s j l)
  | 0, l, h => h.mono (Nat.le_succ b)
  | j + 1, l, h => fun n hn => by
    rw [subI] at hn
    rcases List.mem_or_eq_of_mem_set hn with z | z
    · exact subI_ab hU hf j h n z
    · have h1 : ((subI low f s j l).getD (s + j) 0).natAbs < 2 ^ b := by
        rw [List.getD_eq_getElem?_getD, subI_get low f s j l (s + j) (Nat.le_refl _)]
        cases e : l[s + j]? with
        | none => exact Nat.pos_of_ne_zero (by have := Nat.one_le_two_pow (n := b); omega)
        | some x => exact h x (List.mem_of_getElem? e)
      have h2 : (f * low.getD j 0).natAbs < 2 ^ b := by
        rw [List.getD_eq_getElem?_getD]
        cases e : low[j]? with
        | none =>
          show (f * 0).natAbs < 2 ^ b
          rw [Int.mul_zero]
          exact Nat.lt_of_le_of_lt (Nat.zero_le _) hf
        | some x =>
          have hx := hU x (List.mem_of_getElem? e)
          have : x = -1 ∨ x = 0 ∨ x = 1 := by omega
          show (f * x).natAbs < 2 ^ b
          rcases this with rfl | rfl | rfl <;> omega
      rw [Nat.pow_succ]
      omega
theorem divN_ab {low : List Int} (hU : Unt low) : ∀ (k b : Nat) {l : List Int}, Ab b l → Ab (b + k) (divN low k l)
  | 0, _, _, h => h
  | k + 1, b, l, h => by
    rw [divN]
    have hf : (l.getD (low.length - 1 + k) 0).natAbs < 2 ^ b := by
      rw [List.getD_eq_getElem?_getD]
      cases e : l[low.length - 1 + k]? with
      | none => exact Nat.pos_of_ne_zero (by have := Nat.one_le_two_pow (n := b); omega)
      | some x => exact h x (List.mem_of_getElem? e)
    have := divN_ab hU k (b + 1) (subI_ab hU hf (low.length - 1) (s := k) h)
    rw [show b + (k + 1) = b + 1 + k by omega]
    exact this
theorem quo_ab {low l : List Int} (hU : Unt low) {b : Nat} (h : Ab b l) : Ab (b + l.length) (quo low l) := fun n hn => by
  have := divN_ab hU (l.length - (low.length - 1)) b h n (List.mem_of_mem_drop hn)
  exact Nat.lt_of_lt_of_le this (pow_up (by omega))
theorem divs_few : ∀ n, n < 41 → (divs n n).length ≤ 9 := by decide +kernel
theorem foldq_ab {n : Nat} : ∀ (ds : List Nat) (a : List Int) (b : Nat), (∀ d ∈ ds, 1 ≤ d ∧ d ≤ 40) → a.length ≤ n + 1 → Ab b a → Ab (b + (n + 1) * ds.length) (ds.foldl (fun a d => quo (cyc d) a) a)
  | [], a, b, _, _, h => h
  | d :: ds, a, b, hd, hl, h => by
    have h1 := hd d List.mem_cons_self
    rw [List.foldl_cons]
    have h2 := quo_ab (cyc_unt h1.1 h1.2) h
    have := foldq_ab (n := n) ds (quo (cyc d) a) (b + (n + 1)) (fun x hx => hd x (List.mem_cons_of_mem _ hx)) (by rw [quo_len]; omega) (h2.mono (by omega))
    rw [List.length_cons, Nat.mul_succ]
    rw [show b + ((n + 1) * ds.length + (n + 1)) = b + (n + 1) + (n + 1) * ds.length by omega]
    exact this
theorem xn1_ab (n : Nat) : Ab 1 (xn1 n) := fun x hx => by
  unfold xn1 at hx
  rcases List.mem_append.mp hx with h | h
  · rcases List.mem_append.mp h with h | h
    · rw [List.mem_singleton.mp h]
      decide
    · rw [(List.mem_replicate.mp h).2]
      decide
  · rw [List.mem_singleton.mp h]
    decide
theorem hidQ_ab {ns : List Int} (l1 : 1 ≤ ns.length) (h : ns.length ≤ 40) : Ab 400 (hidQ ns) := by
  have h1 := foldq_ab (n := ns.length) (blindL ns) (xn1 ns.length) 1 (fun d hd => by have := blind_mem hd; omega) (by rw [xn1_len l1]; exact Nat.le_refl _) (xn1_ab _)
  have h2 : (blindL ns).length ≤ 9 := Nat.le_trans (List.length_filter_le _ _) (divs_few _ (by omega))
  have h3 : (ns.length + 1) * (blindL ns).length ≤ 41 * 9 := Nat.mul_le_mul (by omega) h2
  exact Ab.mono h1 (by omega)
end Sd

namespace Sd
open PySem PySem.Spec PyProof.Rows L2
def topS (i : Nat) : Stmt := PySem.Challenge.pw_slitdiscs_k09_hidden_rows_judged.main.body.getD i (.Pass ⟨0, 0, 0, 0⟩)
abbrev s_turned_list : Stmt := topS 1
theorem sc_turned_list : FnScope ["items", "turn", "size", "slot"] ["items", "turn"] (defScope s_turned_list) := ⟨rfl, rfl, rfl, by decide +kernel, rfl, by decide +kernel, by decide +kernel⟩
abbrev s_light_between : Stmt := topS 2
theorem sc_light_between : FnScope ["disc", "row", "turn", "under", "over"] ["disc", "row", "turn"] (defScope s_light_between) := ⟨rfl, rfl, rfl, by decide +kernel, rfl, by decide +kernel, by decide +kernel⟩
abbrev s_lights_between : Stmt := topS 3
theorem sc_lights_between : FnScope ["disc", "row", "turn"] ["disc", "row"] (defScope s_lights_between) := ⟨rfl, rfl, rfl, by decide +kernel, rfl, by decide +kernel, by decide +kernel⟩
abbrev s_is_integer : Stmt := topS 10
theorem sc_is_integer : FnScope ["value"] ["value"] (defScope s_is_integer) := ⟨rfl, rfl, rfl, by decide +kernel, rfl, by decide +kernel, by decide +kernel⟩
abbrev s_has_slots : Stmt := topS 11
theorem sc_has_slots : FnScope ["value"] ["value"] (defScope s_has_slots) := ⟨rfl, rfl, rfl, by decide +kernel, rfl, by decide +kernel, by decide +kernel⟩
abbrev s_wrong_integer : Stmt := topS 12
theorem sc_wrong_integer : FnScope ["items", "index", "item"] ["items"] (defScope s_wrong_integer) := ⟨rfl, rfl, rfl, by decide +kernel, rfl, by decide +kernel, by decide +kernel⟩
abbrev s_wrong_light : Stmt := topS 13
theorem sc_wrong_light : FnScope ["items", "most", "index", "item"] ["items", "most"] (defScope s_wrong_light) := ⟨rfl, rfl, rfl, by decide +kernel, rfl, by decide +kernel, by decide +kernel⟩
abbrev s_wrong_slot : Stmt := topS 14
theorem sc_wrong_slot : FnScope ["items"] ["items"] (defScope s_wrong_slot) := ⟨rfl, rfl, rfl, by decide +kernel, rfl, by decide +kernel, by decide +kernel⟩
abbrev s_is_row : Stmt := topS 15
theorem sc_is_row : FnScope ["value", "slots"] ["value", "slots"] (defScope s_is_row) := ⟨rfl, rfl, rfl, by decide +kernel, rfl, by decide +kernel, by decide +kernel⟩
abbrev s_check_disc : Stmt := topS 16
theorem sc_check_disc : FnScope ["disc", "index"] ["disc"] (defScope s_check_disc) := ⟨rfl, rfl, rfl, by decide +kernel, rfl, by decide +kernel, by decide +kernel⟩
abbrev s_divisor_polynomials : Stmt := topS 18
theorem sc_divisor_polynomials : FnScope ["number", "found", "divisor"] ["number"] (defScope s_divisor_polynomials) := ⟨rfl, rfl, rfl, by decide +kernel, rfl, by decide +kernel, by decide +kernel⟩
abbrev s_rest_by : Stmt := topS 19
theorem sc_rest_by : FnScope ["polynomial", "divisor"] ["polynomial", "divisor"] (defScope s_rest_by) := ⟨rfl, rfl, rfl, by decide +kernel, rfl, by decide +kernel, by decide +kernel⟩
abbrev s_next_polynomial : Stmt := topS 20
theorem sc_next_polynomial : FnScope ["divisor", "smaller", "left", "other", "polynomial"] ["divisor", "smaller"] (defScope s_next_polynomial) := ⟨rfl, rfl, rfl, by decide +kernel, rfl, by decide +kernel, by decide +kernel⟩
abbrev s_divided : Stmt := topS 21
theorem sc_divided : FnScope ["polynomial", "divisor", "left", "degree", "place", "factor", "lower"] ["polynomial", "divisor"] (defScope s_divided) := ⟨rfl, rfl, rfl, by decide +kernel, rfl, by decide +kernel, by decide +kernel⟩
abbrev s_blind_polynomials : Stmt := topS 23
theorem sc_blind_polynomials : FnScope ["disc", "polynomials", "divisor", "found"] ["disc"] (defScope s_blind_polynomials) := ⟨rfl, rfl, rfl, by decide +kernel, rfl, by decide +kernel, by decide +kernel⟩
abbrev s_is_telling : Stmt := topS 25
theorem sc_is_telling : FnScope ["disc"] ["disc"] (defScope s_is_telling) := ⟨rfl, rfl, rfl, by decide +kernel, rfl, by decide +kernel, by decide +kernel⟩
abbrev s_hidden_count : Stmt := topS 26
theorem sc_hidden_count : FnScope ["disc", "polynomial"] ["disc"] (defScope s_hidden_count) := ⟨rfl, rfl, rfl, by decide +kernel, rfl, by decide +kernel, by decide +kernel⟩
abbrev s_is_hidden : Stmt := topS 27
theorem sc_is_hidden : FnScope ["disc", "value"] ["disc", "value"] (defScope s_is_hidden) := ⟨rfl, rfl, rfl, by decide +kernel, rfl, by decide +kernel, by decide +kernel⟩
abbrev s_law_jar : Stmt := topS 29
theorem sc_law_jar : FnScope ["script", "at", "cell"] ["script", "at"] (defScope s_law_jar) := ⟨rfl, rfl, rfl, by decide +kernel, rfl, by decide +kernel, by decide +kernel⟩
abbrev s_law_pick : Stmt := topS 30
theorem sc_law_pick : FnScope ["jar", "bound", "drawn", "mixed"] ["jar", "bound"] (defScope s_law_pick) := ⟨rfl, rfl, rfl, by decide +kernel, rfl, by decide +kernel, by decide +kernel⟩
abbrev s_law_spread : Stmt := topS 31
theorem sc_law_spread : FnScope ["some", "step", "many", "size", "spot", "lap"] ["some", "step", "many"] (defScope s_law_spread) := ⟨rfl, rfl, rfl, by decide +kernel, rfl, by decide +kernel, by decide +kernel⟩
abbrev s_law_some_disc : Stmt := topS 32
theorem sc_law_some_disc : FnScope ["jar", "size", "kind", "far", "found", "spot", "lap", "parts", "part"] ["jar", "size"] (defScope s_law_some_disc) := ⟨rfl, rfl, rfl, by decide +kernel, rfl, by decide +kernel, by decide +kernel⟩
abbrev s_law_lights : Stmt := topS 33
theorem sc_law_lights : FnScope ["disc_here", "other_here", "size", "found", "turn_here", "spot"] ["disc_here", "other_here"] (defScope s_law_lights) := ⟨rfl, rfl, rfl, by decide +kernel, rfl, by decide +kernel, by decide +kernel⟩
abbrev s_law_size : Stmt := topS 34
theorem sc_law_size : FnScope ["jar", "most", "some"] ["jar", "most"] (defScope s_law_size) := ⟨rfl, rfl, rfl, by decide +kernel, rfl, by decide +kernel, by decide +kernel⟩
abbrev s_law_parted : Stmt := topS 35
theorem sc_law_parted : FnScope ["top", "low", "rest", "wide", "found", "factor", "spot", "at"] ["top", "low"] (defScope s_law_parted) := ⟨rfl, rfl, rfl, by decide +kernel, rfl, by decide +kernel, by decide +kernel⟩
abbrev s_law_root : Stmt := topS 36
theorem sc_law_root : FnScope ["part", "found", "less"] ["part"] (defScope s_law_root) := ⟨rfl, rfl, rfl, by decide +kernel, rfl, by decide +kernel, by decide +kernel⟩
abbrev s_law_blind : Stmt := topS 37
theorem sc_law_blind : FnScope ["disc_here", "size", "found", "part", "one"] ["disc_here"] (defScope s_law_blind) := ⟨rfl, rfl, rfl, by decide +kernel, rfl, by decide +kernel, by decide +kernel⟩
abbrev s_law_hiding : Stmt := topS 38
theorem sc_law_hiding : FnScope ["disc_here", "size", "blind", "found", "part", "spot"] ["disc_here"] (defScope s_law_hiding) := ⟨rfl, rfl, rfl, by decide +kernel, rfl, by decide +kernel, by decide +kernel⟩
abbrev s_law_is_int : Stmt := topS 40
theorem sc_law_is_int : FnScope ["thing"] ["thing"] (defScope s_law_is_int) := ⟨rfl, rfl, rfl, by decide +kernel, rfl, by decide +kernel, by decide +kernel⟩
abbrev s_law_things : Stmt := topS 41
theorem sc_law_things : FnScope ["jar", "disc_here", "hiding", "size", "some", "found", "row", "often", "one", "two", "spot", "thing"] ["jar", "disc_here", "hiding"] (defScope s_law_things) := ⟨rfl, rfl, rfl, by decide +kernel, rfl, by decide +kernel, by decide +kernel⟩
abbrev s_law_due : Stmt := topS 42
theorem sc_law_due : FnScope ["disc_here", "thing", "one"] ["disc_here", "thing"] (defScope s_law_due) := ⟨rfl, rfl, rfl, by decide +kernel, rfl, by decide +kernel, by decide +kernel⟩
abbrev s_law_right : Stmt := topS 43
theorem sc_law_right : FnScope ["jar", "disc_here", "hiding", "kept", "thing", "due", "before", "told"] ["jar", "disc_here"] (defScope s_law_right) := ⟨rfl, rfl, rfl, by decide +kernel, rfl, by decide +kernel, by decide +kernel⟩
abbrev s_law : Stmt := topS 44
theorem sc_law : FnScope ["script", "at", "jar", "lap", "told", "some"] ["script"] (defScope s_law) := ⟨rfl, rfl, rfl, by decide +kernel, rfl, by decide +kernel, by decide +kernel⟩
/-- what the top has written -/
structure Txt (K : PySem.W.Frag) (mg : Str → Option Value) where
  a_turned_list : Addr
  d_turned_list : FuncData
  F_turned_list : Fun K "turned_list" "turned_list" s_turned_list a_turned_list d_turned_list
  b_turned_list : Binds K d_turned_list ["items", "turn"] []
  g_turned_list : mg "turned_list" = some (.ref a_turned_list)
  a_light_between : Addr
  d_light_between : FuncData
  F_light_between : Fun K "light_between" "light_between" s_light_between a_light_between d_light_between
  b_light_between : Binds K d_light_between ["disc", "row", "turn"] []
  g_light_between : mg "light_between" = some (.ref a_light_between)
  a_lights_between : Addr
  d_lights_between : FuncData
  F_lights_between : Fun K "lights_between" "lights_between" s_lights_between a_lights_between d_lights_between
  b_lights_between : Binds K d_lights_between ["disc", "row"] []
  g_lights_between : mg "lights_between" = some (.ref a_lights_between)
  a_is_integer : Addr
  d_is_integer : FuncData
  F_is_integer : Fun K "is_integer" "is_integer" s_is_integer a_is_integer d_is_integer
  b_is_integer : Binds K d_is_integer ["value"] []
  g_is_integer : mg "is_integer" = some (.ref a_is_integer)
  a_has_slots : Addr
  d_has_slots : FuncData
  F_has_slots : Fun K "has_slots" "has_slots" s_has_slots a_has_slots d_has_slots
  b_has_slots : Binds K d_has_slots ["value"] []
  g_has_slots : mg "has_slots" = some (.ref a_has_slots)
  a_wrong_integer : Addr
  d_wrong_integer : FuncData
  F_wrong_integer : Fun K "wrong_integer" "wrong_integer" s_wrong_integer a_wrong_integer d_wrong_integer
  b_wrong_integer : Binds K d_wrong_integer ["items"] []
  g_wrong_integer : mg "wrong_integer" = some (.ref a_wrong_integer)
  a_wrong_light : Addr
  d_wrong_light : FuncData
  F_wrong_light : Fun K "wrong_light" "wrong_light" s_wrong_light a_wrong_light d_wrong_light
  b_wrong_light : Binds K d_wrong_light ["items", "most"] []
  g_wrong_light : mg "wrong_light" = some (.ref a_wrong_light)
  a_wrong_slot : Addr
  d_wrong_slot : FuncData
  F_wrong_slot : Fun K "wrong_slot" "wrong_slot" s_wrong_slot a_wrong_slot d_wrong_slot
  b_wrong_slot : Binds K d_wrong_slot ["items"] []
  g_wrong_slot : mg "wrong_slot" = some (.ref a_wrong_slot)
  a_is_row : Addr
  d_is_row : FuncData
  F_is_row : Fun K "is_row" "is_row" s_is_row a_is_row d_is_row
  b_is_row : Binds K d_is_row ["value", "slots"] []
  g_is_row : mg "is_row" = some (.ref a_is_row)
  a_check_disc : Addr
  d_check_disc : FuncData
  F_check_disc : Fun K "check_disc" "check_disc" s_check_disc a_check_disc d_check_disc
  b_check_disc : Binds K d_check_disc ["disc"] []
  g_check_disc : mg "check_disc" = some (.ref a_check_disc)
  a_divisor_polynomials : Addr
  d_divisor_polynomials : FuncData
  F_divisor_polynomials : Fun K "divisor_polynomials" "divisor_polynomials" s_divisor_polynomials a_divisor_polynomials d_divisor_polynomials
  b_divisor_polynomials : Binds K d_divisor_polynomials ["number"] []
  g_divisor_polynomials : mg "divisor_polynomials" = some (.ref a_divisor_polynomials)
  a_rest_by : Addr
  d_rest_by : FuncData
  F_rest_by : Fun K "rest_by" "rest_by" s_rest_by a_rest_by d_rest_by
  b_rest_by : Binds K d_rest_by ["polynomial", "divisor"] []
  g_rest_by : mg "rest_by" = some (.ref a_rest_by)
  a_next_polynomial : Addr
  d_next_polynomial : FuncData
  F_next_polynomial : Fun K "_next_polynomial" "_next_polynomial" s_next_polynomial a_next_polynomial d_next_polynomial
  b_next_polynomial : Binds K d_next_polynomial ["divisor", "smaller"] []
  g_next_polynomial : mg "_next_polynomial" = some (.ref a_next_polynomial)
  a_divided : Addr
  d_divided : FuncData
  F_divided : Fun K "_divided" "_divided" s_divided a_divided d_divided
  b_divided : Binds K d_divided ["polynomial", "divisor"] []
  g_divided : mg "_divided" = some (.ref a_divided)
  a_blind_polynomials : Addr
  d_blind_polynomials : FuncData
  F_blind_polynomials : Fun K "blind_polynomials" "blind_polynomials" s_blind_polynomials a_blind_polynomials d_blind_polynomials
  b_blind_polynomials : Binds K d_blind_polynomials ["disc"] []
  g_blind_polynomials : mg "blind_polynomials" = some (.ref a_blind_polynomials)
  a_is_telling : Addr
  d_is_telling : FuncData
  F_is_telling : Fun K "is_telling" "is_telling" s_is_telling a_is_telling d_is_telling
  b_is_telling : Binds K d_is_telling ["disc"] []
  g_is_telling : mg "is_telling" = some (.ref a_is_telling)
  a_hidden_count : Addr
  d_hidden_count : FuncData
  F_hidden_count : Fun K "hidden_count" "hidden_count" s_hidden_count a_hidden_count d_hidden_count
  b_hidden_count : Binds K d_hidden_count ["disc"] []
  g_hidden_count : mg "hidden_count" = some (.ref a_hidden_count)
  a_is_hidden : Addr
  d_is_hidden : FuncData
  F_is_hidden : Fun K "is_hidden" "is_hidden" s_is_hidden a_is_hidden d_is_hidden
  b_is_hidden : Binds K d_is_hidden ["disc", "value"] []
  g_is_hidden : mg "is_hidden" = some (.ref a_is_hidden)
  a_law_jar : Addr
  d_law_jar : FuncData
  F_law_jar : Fun K "_law_jar" "_law_jar" s_law_jar a_law_jar d_law_jar
  b_law_jar : Binds K d_law_jar ["script", "at"] []
  g_law_jar : mg "_law_jar" = some (.ref a_law_jar)
  a_law_pick : Addr
  d_law_pick : FuncData
  F_law_pick : Fun K "_law_pick" "_law_pick" s_law_pick a_law_pick d_law_pick
  b_law_pick : Binds K d_law_pick ["jar", "bound"] []
  g_law_pick : mg "_law_pick" = some (.ref a_law_pick)
  a_law_spread : Addr
  d_law_spread : FuncData
  F_law_spread : Fun K "_law_spread" "_law_spread" s_law_spread a_law_spread d_law_spread
  b_law_spread : Binds K d_law_spread ["some", "step", "many"] []
  g_law_spread : mg "_law_spread" = some (.ref a_law_spread)
  a_law_some_disc : Addr
  d_law_some_disc : FuncData
  F_law_some_disc : Fun K "_law_some_disc" "_law_some_disc" s_law_some_disc a_law_some_disc d_law_some_disc
  b_law_some_disc : Binds K d_law_some_disc ["jar", "size"] []
  g_law_some_disc : mg "_law_some_disc" = some (.ref a_law_some_disc)
  a_law_lights : Addr
  d_law_lights : FuncData
  F_law_lights : Fun K "_law_lights" "_law_lights" s_law_lights a_law_lights d_law_lights
  b_law_lights : Binds K d_law_lights ["disc_here", "other_here"] []
  g_law_lights : mg "_law_lights" = some (.ref a_law_lights)
  a_law_size : Addr
  d_law_size : FuncData
  F_law_size : Fun K "_law_size" "_law_size" s_law_size a_law_size d_law_size
  b_law_size : Binds K d_law_size ["jar", "most"] []
  g_law_size : mg "_law_size" = some (.ref a_law_size)
  a_law_parted : Addr
  d_law_parted : FuncData
  F_law_parted : Fun K "_law_parted" "_law_parted" s_law_parted a_law_parted d_law_parted
  b_law_parted : Binds K d_law_parted ["top", "low"] []
  g_law_parted : mg "_law_parted" = some (.ref a_law_parted)
  a_law_root : Addr
  d_law_root : FuncData
  F_law_root : Fun K "_law_root" "_law_root" s_law_root a_law_root d_law_root
  b_law_root : Binds K d_law_root ["part"] []
  g_law_root : mg "_law_root" = some (.ref a_law_root)
  a_law_blind : Addr
  d_law_blind : FuncData
  F_law_blind : Fun K "_law_blind" "_law_blind" s_law_blind a_law_blind d_law_blind
  b_law_blind : Binds K d_law_blind ["disc_here"] []
  g_law_blind : mg "_law_blind" = some (.ref a_law_blind)
  a_law_hiding : Addr
  d_law_hiding : FuncData
  F_law_hiding : Fun K "_law_hiding" "_law_hiding" s_law_hiding a_law_hiding d_law_hiding
  b_law_hiding : Binds K d_law_hiding ["disc_here"] []
  g_law_hiding : mg "_law_hiding" = some (.ref a_law_hiding)
  a_law_is_int : Addr
  d_law_is_int : FuncData
  F_law_is_int : Fun K "_law_is_int" "_law_is_int" s_law_is_int a_law_is_int d_law_is_int
  b_law_is_int : Binds K d_law_is_int ["thing"] []
  g_law_is_int : mg "_law_is_int" = some (.ref a_law_is_int)
  a_law_things : Addr
  d_law_things : FuncData
  F_law_things : Fun K "_law_things" "_law_things" s_law_things a_law_things d_law_things
  b_law_things : Binds K d_law_things ["jar", "disc_here", "hiding"] []
  g_law_things : mg "_law_things" = some (.ref a_law_things)
  a_law_due : Addr
  d_law_due : FuncData
  F_law_due : Fun K "_law_due" "_law_due" s_law_due a_law_due d_law_due
  b_law_due : Binds K d_law_due ["disc_here", "thing"] []
  g_law_due : mg "_law_due" = some (.ref a_law_due)
  a_law_right : Addr
  d_law_right : FuncData
  F_law_right : Fun K "_law_right" "_law_right" s_law_right a_law_right d_law_right
  b_law_right : Binds K d_law_right ["jar", "disc_here"] []
  g_law_right : mg "_law_right" = some (.ref a_law_right)
  a_law : Addr
  d_law : FuncData
  F_law : Fun K "law" "law" s_law a_law d_law
  g_law : mg "law" = some (.ref a_law)
  t_MOST_SLOTS : Tok
  g_MOST_SLOTS : mg "MOST_SLOTS" = some (.int (40) t_MOST_SLOTS)
  t_MOST_LIGHT : Tok
  g_MOST_LIGHT : mg "MOST_LIGHT" = some (.int (1000000000000000000000000000000) t_MOST_LIGHT)
  n_abs : mg "abs" = none
  n_any : mg "any" = none
  n_bool : mg "bool" = none
  n_enumerate : mg "enumerate" = none
  n_int : mg "int" = none
  n_isinstance : mg "isinstance" = none
  n_len : mg "len" = none
  n_list : mg "list" = none
  n_max : mg "max" = none
  n_min : mg "min" = none
  n_range : mg "range" = none
  n_repr : mg "repr" = none
  n_sum : mg "sum" = none
  n_tuple : mg "tuple" = none
  n_zip : mg "zip" = none
def kp_is_telling_disc {α : Type} : List α → List α → List α
  | [], [x0] => [x0]
  | _, _ => []
theorem kb_is_telling_disc {K : PySem.W.Frag} {mg : Str → Option Value} (T : Txt K mg) : KBinds K T.d_is_telling ["disc"] ["disc"] kp_is_telling_disc kp_is_telling_disc := by
  obtain ⟨_, _, _, _, _, _, _, _, _, e, _, _⟩ := T.F_is_telling.ex
  rw [e]
  refine ⟨fun s us ws _ hl => ?_, fun r1 r2 => ?_⟩
  · match us, ws, hl with
    | [], [x0], _ => exact .of_eq rfl
  · cases r1 with
    | cons _ _ => exact .nil
    | nil =>
      cases r2 with
      | nil => exact .nil
      | cons h0 r2 =>
        cases r2 with
        | cons _ _ => exact .nil
        | nil => exact .cons h0 .nil
def kp_hidden_count_disc {α : Type} : List α → List α → List α
  | [], [x0] => [x0]
  | _, _ => []
theorem kb_hidden_count_disc {K : PySem.W.Frag} {mg : Str → Option Value} (T : Txt K mg) : KBinds K T.d_hidden_count ["disc"] ["disc"] kp_hidden_count_disc kp_hidden_count_disc := by
  obtain ⟨_, _, _, _, _, _, _, _, _, e, _, _⟩ := T.F_hidden_count.ex
  rw [e]
  refine ⟨fun s us ws _ hl => ?_, fun r1 r2 => ?_⟩
  · match us, ws, hl with
    | [], [x0], _ => exact .of_eq rfl
  · cases r1 with
    | cons _ _ => exact .nil
    | nil =>
      cases r2 with
      | nil => exact .nil
      | cons h0 r2 =>
        cases r2 with
        | cons _ _ => exact .nil
        | nil => exact .cons h0 .nil
def kp_is_hidden_value_disc {α : Type} : List α → List α → List α
  | [], [x0, x1] => [x1, x0]
  | _, _ => []
theorem kb_is_hidden_value_disc {K : PySem.W.Frag} {mg : Str → Option Value} (T : Txt K mg) : KBinds K T.d_is_hidden ["disc", "value"] ["value", "disc"] kp_is_hidden_value_disc kp_is_hidden_value_disc := by
  obtain ⟨_, _, _, _, _, _, _, _, _, e, _, _⟩ := T.F_is_hidden.ex
  rw [e]
  refine ⟨fun s us ws _ hl => ?_, fun r1 r2 => ?_⟩
  · match us, ws, hl with
    | [], [x0, x1], _ => exact .of_eq rfl
  · cases r1 with
    | cons _ _ => exact .nil
    | nil =>
      cases r2 with
      | nil => exact .nil
      | cons h0 r2 =>
        cases r2 with
        | nil => exact .nil
        | cons h1 r2 =>
          cases r2 with
          | cons _ _ => exact .nil
          | nil => exact .cons h1 (.cons h0 .nil)
section
variable {P : Program} {w : World} {K : PySem.W.Frag} {mg : Str → Option Value} {base : Heap}
/-! ### slitdiscs.polynomials -/
def spDivided (K : PySem.W.Frag) : Sp := fun vs H Q _ => ∃ (a b : Addr) (l low : List Int), vs = [.ref a, .ref b] ∧ SqL K H a (l.map V.int) ∧ SqL K H b (low.map V.int) ∧ 1 ≤ low.length ∧ low.length ≤ 100 ∧ l.length ≤ 1000 ∧ Unt low ∧
  ∀ (r : Addr) (H' : Hp), Same H H' → H r = none → H' r = some (.lst ((divL low l).map V.int)) → Q (.ref r) H'
theorem unt_at {low : List Int} (h : Unt low) {j : Nat} {c : Int} (e : low[j]? = some c) : -1 ≤ c ∧ c ≤ 1 := h c (List.mem_of_getElem? e)
theorem ok_divided (T : Txt K mg) : FnOk P w K mg base CX0 1 T.a_divided T.d_divided ["polynomial", "divisor"] (spDivided K) := by
  refine T.F_divided.ok sc_divided (fun vs H Q E h => ?_) (fun cdv A outer s H vs Q E hr h => ?_)
  · obtain ⟨_, _, _, _, rfl, _⟩ := h
    rfl
  · obtain ⟨a, b, l, low, rfl, hS, hS2, w1, w2, hl, hU, q⟩ := h
    refine ⟨_, (pss_cons (ps_set (i := 2) sc_divided.nd rfl (.inl rfl) (pe_callTy (listL (K := K) rfl) (by rfl) T.n_list (by decide +kernel) (pa_cons (pv 0) pa_nil)))
      (pss_cons (ps_set (i := 3) sc_divided.nd rfl (.inl rfl) (pe_op op_sub (pe_callB (lenL (K := K) rfl) (by rfl) T.n_len (by decide +kernel) (pa_cons (pv 1) pa_nil)) pe_int))
      (pss_cons (ps_for PassesOwn.never rfl (pi_range3 (by rfl) T.n_range (pa_cons (pe_op op_sub (pe_callB (lenL (K := K) rfl) (by rfl) T.n_len (by decide +kernel) (pa_cons (pv 2) pa_nil)) pe_int) (pa_cons (pe_op op_sub (pv 3) pe_int) (pa_cons (pe_un un_neg pe_int) pa_nil)))) (pg_name (i := 4) sc_divided.nd rfl (.inl rfl)) (pss_cons (ps_set (i := 5) sc_divided.nd rfl (.inl rfl) (pe_ix (ixL (K := K) rfl) (pv 2) (pv 4) (fun _ _ => rfl)))
      (pss_one (ps_for PassesOwn.never rfl (pi_range1 (by rfl) T.n_range (pa_cons (pv 3) pa_nil)) (pg_name (i := 6) sc_divided.nd rfl (.inl rfl)) (pss_one (ps_augS (pv 2) (pe_op op_add (pe_op op_sub (pv 4) (pv 3)) (pv 6)) (get_listP (K := K) rfl) (pe_op op_mul (pv 5) (pe_ix (ixL (K := K) rfl) (pv 1) (pv 6) (fun _ _ => rfl))) ip_sub set_list))))))
      (pss_one (ps_ret (pv 2)))))), ?_⟩
    refine ⟨.ref a, rfl, a, _, rfl, .inl hS, fun r hr0 => ?_⟩
    have s1 := new_same (o := .lst (l.map V.int)) hr0
    have g1 : (upd H r (.lst (l.map V.int))) r = some (.lst (l.map V.int)) := upd_same
    generalize upd H r (.lst (l.map V.int)) = H1 at s1 g1 ⊢
    refine ⟨.ref b, rfl, b, _, rfl, .inl (s1.seq hS2), _, 1, rfl, rfl, ?_⟩
    obtain ⟨d, hd⟩ : ∃ d : Nat, low.length = d + 1 := ⟨low.length - 1, by omega⟩
    have ed : ((low.map V.int).length : Int) - 1 = (d : Int) := by rw [List.length_map]; omega
    show gName 3 (V.int (((low.map V.int).length : Int) - 1)) _ _ _
    rw [ed]
    refine ⟨.ref r, rfl, r, _, rfl, .inl (SqL.of g1), _, 1, rfl, rfl, .int d, rfl, d, 1, rfl, rfl, 1, rfl, _, _, _, _, rfl, RgC.neg ?_ ?_ ?_ ?_, ?_⟩
    · rw [List.length_map]; omega
    · rw [List.length_map]; omega
    · omega
    · omega
    rw [List.length_map]
    have eN : ((l.length : Int) - 1 - ((d : Int) - 1)).toNat = l.length - d := by omega
    rw [eN]
    refine for_rangeC (c := -1) (n := l.length - d) (fun i σ H' => ∃ (y4 y5 y6 : Option V) (ms : List Int), σ = [some (.ref a), some (.ref b), some (.ref r), some (.int d), y4, y5, y6] ∧ Same H H' ∧ H' r = some (.lst (ms.map V.int)) ∧ ms.length = l.length ∧ divN low (l.length - d - i) ms = divL low l)
      ⟨_, _, _, l, rfl, s1, g1, rfl, by unfold divL; rw [hd]; rfl⟩ (fun i σ H2 hi hP => ?_) (fun σ H2 hP => ?_)
    · obtain ⟨y4, y5, y6, ms, rfl, s2, g2, hm, hD⟩ := hP
      obtain ⟨k, hk⟩ : ∃ k, l.length - d - i = k + 1 := ⟨l.length - d - i - 1, by omega⟩
      have hp : ((l.length : Int) - 1 + (i : Nat) * (-1)) = ((d + k : Nat) : Int) := by omega
      rw [hp]
      obtain ⟨f, hf, hatf⟩ := at_in (ns := ms) (i := ((d + k : Nat) : Int)) (by omega) (by omega)
      have hf' : ms.getD (low.length - 1 + k) 0 = f := getD_at (by rw [hd]; exact hf)
      refine ⟨.ref r, rfl, .int ((d + k : Nat) : Int), rfl, r, _, _, .int f, rfl, rfl, SqL.of g2, hatf, ?_⟩
      refine ⟨.int d, rfl, d, rfl, by omega, by omega, for_range (lo := 0) (n := ((d : Nat) : Int).toNat)
        (fun j σ H' => ∃ y6 : Option V, σ = [some (.ref a), some (.ref b), some (.ref r), some (.int d), some (.int ((d + k : Nat) : Int)), some (.int f), y6] ∧ Same H H' ∧ H' r = some (.lst ((subI low f k j ms).map V.int))) ⟨_, rfl, s2, g2⟩ (fun j σ H3 hj hP => ?_) (fun σ H3 hP => ?_)⟩
      · obtain ⟨y6, rfl, s3, g3⟩ := hP
        rw [Int.toNat_natCast] at hj
        have hlen := subI_len low f k j ms
        have hix : ((((d + k : Nat) : Int) - (d : Int)) + (0 + (j : Int))) = ((k + j : Nat) : Int) := by omega
        obtain ⟨x, hx⟩ : ∃ x, (subI low f k j ms)[k + j]? = some x := ⟨_, List.getElem?_eq_getElem (by omega)⟩
        obtain ⟨c, hc, hatc⟩ := at_in (ns := low) (i := 0 + (j : Int)) (by omega) (by omega)
        have hcb := unt_at hU hc
        have hc' : low.getD j 0 = c := getD_at (by rw [Int.zero_add, Int.toNat_natCast] at hc; exact hc)
        refine ⟨.ref r, rfl, .int ((d + k : Nat) : Int), rfl, .int d, rfl, _, _, rfl, rfl, .int (0 + j), rfl, _, _, rfl, rfl, ?_⟩
        refine ⟨r, _, _, .int x, rfl, rfl, SqL.of g3, by omega, ?_, ?_⟩
        · rw [hix, Int.toNat_natCast]
          exact at_int hx
        refine ⟨.int f, rfl, .ref b, rfl, .int (0 + j), rfl, b, _, _, .int c, rfl, rfl, s3.seq hS2, hatc, f, c, rfl, rfl, .inr ⟨by omega, by omega⟩, ?_⟩
        refine ⟨x, f * c, rfl, rfl, r, _, _, k + j, rfl, rfl, g3, ?_, ?_⟩
        · rw [hix]
          exact ixN_in (by omega) (by rw [List.length_map]; omega)
        · refine ⟨_, rfl, same_over s3 hr0, ?_⟩
          rw [upd_same, map_set, subI, getD_at hx, hc']
      · obtain ⟨y6, rfl, s3, g3⟩ := hP
        rw [Int.toNat_natCast] at g3
        refine ⟨_, _, _, subI low f k d ms, rfl, s3, g3, by rw [subI_len]; exact hm, ?_⟩
        rw [← hD, hk, divN, hf', hd]
        rw [show l.length - d - (i + 1) = k by omega]
        rfl
    · obtain ⟨y4, y5, y6, ms, rfl, s2, g2, hm, hD⟩ := hP
      rw [Nat.sub_self] at hD
      have e : ms = divL low l := hD
      subst e
      exact ⟨.ref r, rfl, q r H2 s2 hr0 g2⟩
def spRestBy (K : PySem.W.Frag) : Sp := fun vs H Q _ => ∃ (a b : Addr) (l low : List Int), vs = [.ref a, .ref b] ∧ SqL K H a (l.map V.int) ∧ SqL K H b (low.map V.int) ∧ 1 ≤ low.length ∧ low.length ≤ 100 ∧ l.length ≤ 1000 ∧ Unt low ∧
  ∀ (r : Addr) (H' : Hp), Same H H' → H r = none → H' r = some (.lst ((rst low l).map V.int)) → Q (.ref r) H'
theorem ok_rest_by (T : Txt K mg) : FnOk P w K mg base CX0 2 T.a_rest_by T.d_rest_by ["polynomial", "divisor"] (spRestBy K) := by
  have G_divided := ok_divided (P := P) (w := w) (base := base) T
  refine T.F_rest_by.ok sc_rest_by (fun vs H Q E h => ?_) (fun cdv A outer s H vs Q E hr h => ?_)
  · obtain ⟨_, _, _, _, rfl, _⟩ := h
    rfl
  · obtain ⟨a, b, l, low, rfl, hS, hS2, w1, w2, hl, hU, q⟩ := h
    refine ⟨_, (pss_one (ps_ret (pe_slice (slL (K := K) rfl) (pe_call G_divided hr (by rfl) T.g_divided T.F_divided.kp T.b_divided .nil pass0 (pa_cons (pv 0) (pa_cons (pv 1) pa_nil))) po_none (po_some (pe_op op_sub (pe_callB (lenL (K := K) rfl) (by rfl) T.n_len (by decide +kernel) (pa_cons (pv 1) pa_nil)) pe_int))))), ?_⟩
    refine ⟨.ref a, rfl, .ref b, rfl, a, b, l, low, rfl, hS, hS2, w1, w2, hl, hU, fun r H1 s1 f1 e1 => ?_⟩
    refine ⟨.ref b, rfl, b, _, rfl, .inl (s1.seq hS2), _, 1, rfl, rfl, _, rfl, r, _, rfl, SqL.of e1, fun p hp => ?_⟩
    rw [List.length_map]
    have ed : ((low.length : Int) - 1).toNat = low.length - 1 := by omega
    rw [cut_take _ _ (by omega), ed]
    exact q p _ (s1.trans (new_same hp)) (s1.free hp) upd_same
theorem cut_drop (ns : List Int) (s : Int) (h0 : 0 ≤ s) : cutV (ns.map V.int) (some s) none = (ns.drop s.toNat).map V.int := by
  obtain ⟨k, rfl⟩ : ∃ k : Nat, s = (k : Int) := ⟨s.toNat, by omega⟩
  unfold cutV
  rw [HT.sIx_none, HT.sIx_nat, Int.toNat_natCast, List.map_drop]
  rcases Nat.le_total k (ns.map V.int).length with z | z
  · rw [Nat.min_eq_left z, List.take_of_length_le (by rw [List.length_drop]; omega)]
  · rw [Nat.min_eq_right z, List.drop_of_length_le (Nat.le_refl _), List.drop_of_length_le z, List.take_nil]
theorem rep_zero (k : Nat) : (List.replicate k [V.int 0]).flatten = (List.replicate k (0 : Int)).map V.int := rep_one 0 k
/-- the next one: the dict holds the divisors of n below d -/
def spNextPoly (K : PySem.W.Frag) : Sp := fun vs H Q _ => ∃ (p : Nat) (S : Addr) (kvs : List (Key × V)) (ds : List Nat), vs = [.int p, .ref S] ∧ 1 ≤ p ∧ p ≤ 40 ∧ H S = some (.dK kvs) ∧ Tabl H kvs ds ∧ (∀ d ∈ ds, 1 ≤ d ∧ d ≤ 40) ∧
  ∀ (r : Addr) (H' : Hp), Same H H' → H r = none → H' r = some (.lst ((foldQ p ds).map V.int)) → Q (.ref r) H'
theorem take_snoc {ds : List Nat} {i d : Nat} (h : ds[i]? = some d) : ds.take (i + 1) = ds.take i ++ [d] := by
  rw [List.take_add_one, h]
  rfl
theorem ok_next_polynomial (T : Txt K mg) : FnOk P w K mg base CX0 2 T.a_next_polynomial T.d_next_polynomial ["divisor", "smaller"] (spNextPoly K) := by
  have G_divided := ok_divided (P := P) (w := w) (base := base) T
  refine T.F_next_polynomial.ok sc_next_polynomial (fun vs H Q E h => ?_) (fun cdv A outer s H vs Q E hr h => ?_)
  · obtain ⟨_, _, _, _, rfl, _⟩ := h
    rfl
  · obtain ⟨p, S, kvs, ds, rfl, p1, p40, hS, hT, hds, q⟩ := h
    refine ⟨_, (pss_cons (ps_set (i := 2) sc_next_polynomial.nd rfl (.inl rfl) (pe_op op_cat (pe_op op_cat (pe_lst (pa_cons (pe_un un_neg pe_int) pa_nil)) (pe_op op_rep (pe_lst (pa_cons pe_int pa_nil)) (pe_op op_sub (pv 0) pe_int))) (pe_lst (pa_cons pe_int pa_nil))))
      (pss_cons (ps_lock (ps_for PassesOwn.never rfl (pi_items (pv 1)) (pg_tupL (K := K) (n := 2) rfl rfl (pgs_cons (pg_name (i := 3) sc_next_polynomial.nd rfl (.inl rfl)) (pgs_cons (pg_name (i := 4) sc_next_polynomial.nd rfl (.inl rfl)) pgs_nil))) (pss_one (ps_if (pt_cmpR op_eq (pe_op op_mod (pv 0) (pv 3)) pe_int (nomark _)) (pss_one (ps_set (i := 2) sc_next_polynomial.nd rfl (.inl rfl) (pe_slice (slL (K := K) rfl) (pe_call G_divided hr (by rfl) T.g_divided T.F_divided.kp T.b_divided .nil pass0 (pa_cons (pv 2) (pa_cons (pv 4) pa_nil))) (po_some (pe_op op_sub (pe_callB (lenL (K := K) rfl) (by rfl) T.n_len (by decide +kernel) (pa_cons (pv 4) pa_nil)) pe_int)) po_none))) pss_nil))))
      (pss_one (ps_ret (pv 2))))), ?_⟩
    -- left
    refine ⟨1, rfl, (by show 1 ≤ sizeLine; decide), fun x1 h1 => ⟨(by show 1 ≤ sizeLine; decide), fun x2 h2 => ?_⟩⟩
    refine ⟨.int p, rfl, p, 1, rfl, rfl, x2, _, _, rfl, rfl, upd_same, by omega, by omega, (by show 1 * ((p : Int) - 1).toNat ≤ sizeLine; exact sz40' (by omega)), fun x3 h3 => ?_⟩
    have k1 := (new_same (o := .lst (List.replicate ((p : Int) - 1).toNat [V.int 0]).flatten) h3) _ _ ((new_same (o := .lst [.int 0]) h2) _ _ (upd_same (H := H) (a := x1) (o := .lst [.int (-1)])))
    refine ⟨x1, x3, _, _, rfl, rfl, k1, upd_same, ?_, fun x4 h4 => ⟨(by show 1 ≤ sizeLine; decide), fun x5 h5 => ?_⟩⟩
    · rw [rep_zero, List.length_map, List.length_replicate]
      show 1 + ((p : Int) - 1).toNat ≤ sizeLine
      exact sz40' (by omega)
    refine ⟨x4, x5, _, _, rfl, rfl, (new_same (o := .lst [.int 1]) h5) _ _ upd_same, upd_same, ?_, fun x6 h6 => ?_⟩
    · rw [rep_zero, List.length_append, List.length_map, List.length_replicate]
      show 1 + ((p : Int) - 1).toNat + 1 ≤ sizeLine
      exact sz40' (by omega)
    have s5 := ((((new_same (o := .lst [.int (-1)]) h1).trans (new_same (o := .lst [.int 0]) h2)).trans (new_same (o := .lst (List.replicate ((p : Int) - 1).toNat [V.int 0]).flatten) h3)).trans (new_same (o := .lst ([V.int (-1)] ++ (List.replicate ((p : Int) - 1).toNat [V.int 0]).flatten)) h4)).trans (new_same (o := .lst [.int 1]) h5)
    have s6 := s5.trans (new_same (o := .lst (([V.int (-1)] ++ (List.replicate ((p : Int) - 1).toNat [V.int 0]).flatten) ++ [V.int 1])) h6)
    have f6 : H x6 = none := s5.free h6
    have ex : ([V.int (-1)] ++ (List.replicate ((p : Int) - 1).toNat [V.int 0]).flatten) ++ [V.int 1] = (xn1 p).map V.int := by
      unfold xn1
      rw [rep_zero, List.map_append, List.map_append, show ((p : Int) - 1).toNat = p - 1 by omega]
      rfl
    simp only [ex] at s6 ⊢
    have g6 : (upd (upd (upd (upd (upd (upd H x1 (.lst [.int (-1)])) x2 (.lst [.int 0])) x3 (.lst (List.replicate ((p : Int) - 1).toNat [V.int 0]).flatten)) x4 (.lst ([V.int (-1)] ++ (List.replicate ((p : Int) - 1).toNat [V.int 0]).flatten))) x5 (.lst [.int 1])) x6 (.lst ((xn1 p).map V.int))) x6 = some (.lst ((xn1 p).map V.int)) := upd_same
    generalize upd (upd (upd (upd (upd (upd H x1 (.lst [.int (-1)])) x2 (.lst [.int 0])) x3 (.lst (List.replicate ((p : Int) - 1).toNat [V.int 0]).flatten)) x4 (.lst ([V.int (-1)] ++ (List.replicate ((p : Int) - 1).toNat [V.int 0]).flatten))) x5 (.lst [.int 1])) x6 (.lst ((xn1 p).map V.int)) = H6 at s6 g6 ⊢
    clear s5 h1 h2 h3 h4 h5 h6 k1
    have hS6 := s6 _ _ hS
    -- the loop
    refine ⟨S, _, hS6, trivial, fun od => ?_⟩
    have hb : But S H6 (upd H6 S (.frz od (.dK kvs))) := upd_but
    have nS : ∀ xs, H S ≠ some (.lst xs) := fun xs e => by rw [hS] at e; cases e
    have nS6 : ∀ xs, H6 S ≠ some (.lst xs) := fun xs e => by rw [hS6] at e; cases e
    have x6S : x6 ≠ S := fun z => by rw [z] at f6; rw [f6] at hS; cases hS
    refine ⟨.ref S, rfl, S, od, kvs, rfl, upd_same, for_it walk_items (fun i σ H' => ∃ (r : Addr) (y3 y4 : Option V), σ = [some (.int p), some (.ref S), some (.ref r), y3, y4] ∧ But S H6 H' ∧ H' S = some (.frz od (.dK kvs)) ∧ H r = none ∧ H' r = some (.lst ((foldQ p (ds.take i)).map V.int)))
      ⟨x6, _, _, rfl, hb, upd_same, f6, hb _ _ g6 x6S⟩ (fun i σ H' _ ⟨_, _, _, _, _, z, _⟩ => z) (fun i x σ H1 H2 hi hP hY => ?_) (fun σ H1 hP => ?_)⟩
    · obtain ⟨r, y3, y4, rfl, u1, z1, fr, gr⟩ := hP
      obtain ⟨t, v1, v2, rfl, ht, rfl, e1, e2⟩ := hY
      rw [hT.len] at hi
      obtain ⟨d, c, hd, hkv, hc⟩ := hT.at hi
      have e1' : V.int (d : Int) = v1 := by
        have e1 : (kvs[i]?.map fun kv => kV kv.1) = some v1 := e1
        rw [hkv] at e1
        exact Option.some.inj e1
      have e2' : V.ref c = v2 := by
        have e2 : (kvs[i]?.map Prod.snd) = some v2 := e2
        rw [hkv] at e2
        exact Option.some.inj e2
      subst e1'
      subst e2'
      have sT := new_same (o := .tup [.int d, .ref c]) ht
      have u2 := u1.trans (But.of (T := S) sT)
      have z2 := sT _ _ z1
      have gr2 := sT _ _ gr
      have hdm := hds d (List.mem_of_getElem? hd)
      have cS : c ≠ S := fun z => nS _ (by rw [← z]; exact hc)
      have hc2 := u2 _ _ (s6 _ _ hc) cS
      refine ⟨t, _, rfl, SqT.of upd_same, rfl, _, _, rfl, _, _, rfl, rfl, ?_⟩
      refine ⟨.int p, rfl, .int d, rfl, p, d, rfl, rfl, (by show (0 : Int) < _; omega), rfl, _, rfl, ite2 (fun h => ?_) (fun h => ?_)⟩
      · have hz : p % d = 0 := by
          have := V.int.inj (of_decide_eq_true h)
          omega
        have hl := cyc_len hdm.1 hdm.2
        have hfl := foldQ_len p1 (ds.take i) (xn1 p) (by rw [xn1_len p1]; exact Nat.le_refl _)
        have hfl' : (foldQ p (ds.take i)).length ≤ p + 1 := hfl
        refine ⟨.ref r, rfl, .ref c, rfl, r, c, _, cyc d, rfl, SqL.of gr2, SqL.of hc2, by omega, by omega, by omega, cyc_unt hdm.1 hdm.2, fun r2 H3 s3 f3 e3 => ?_⟩
        refine ⟨.ref c, rfl, c, _, rfl, .inl (SqL.of (s3 _ _ hc2)), _, 1, rfl, rfl, _, rfl, r2, _, rfl, SqL.of e3, fun r3 h3 => ?_⟩
        rw [List.length_map]
        have ed : (((cyc d).length : Int) - 1).toNat = (cyc d).length - 1 := by omega
        rw [cut_drop _ _ (by omega), ed]
        have s4 := s3.trans (new_same (o := .lst (((divL (cyc d) (foldQ p (ds.take i))).drop ((cyc d).length - 1)).map V.int)) h3)
        have u4 := u2.trans (But.of (T := S) s4)
        have f3' : (H6 : Hp) r3 = none := by
          cases e : H6 r3 with
          | none => rfl
          | some o =>
            exfalso
            have h2' := s3.free h3
            by_cases c2 : r3 = S
            · rw [c2, z2] at h2'; cases h2'
            · rw [u2 _ _ e c2] at h2'; cases h2'
        refine ⟨r3, _, _, rfl, u4, s4 _ _ z2, s6.free f3', ?_⟩
        rw [upd_same, take_snoc hd, foldQ_snoc, if_pos hz]
        rfl
      · have hz : ¬ p % d = 0 := fun z => h (decide_eq_true (by show V.int ((p : Int) % (d : Int)) = V.int 0; rw [show (p : Int) % (d : Int) = 0 by omega]))
        refine ⟨r, _, _, rfl, u2, z2, fr, ?_⟩
        rw [take_snoc hd, foldQ_snoc, if_neg hz]
        exact gr2
    · obtain ⟨r, y3, y4, rfl, u1, z1, fr, gr⟩ := hP
      rw [hT.len, List.take_of_length_le (Nat.le_refl _)] at gr
      refine ⟨z1, ?_⟩
      have rS : r ≠ S := fun z => by rw [z, hS] at fr; cases fr
      refine ⟨.ref r, rfl, q r _ (fun b o e => ?_) fr (by rw [upd_ne rS]; exact gr)⟩
      by_cases c : b = S
      · subst c
        rw [upd_same, ← hS, e]
      · rw [upd_ne c]
        exact u1 _ _ (s6 _ _ e) c

/-! ### the dicts -/
def spDivPolys : Sp := fun vs H Q _ => ∃ (n : Nat), vs = [.int n] ∧ 1 ≤ n ∧ n ≤ 40 ∧
  ∀ (S : Addr) (kvs : List (Key × V)) (H' : Hp), Same H H' → H S = none → H' S = some (.dK kvs) → Tabl H' kvs (divs n n) → Q (.ref S) H'
theorem ok_divisor_polynomials (T : Txt K mg) : FnOk P w K mg base CX0 3 T.a_divisor_polynomials T.d_divisor_polynomials ["number"] spDivPolys := by
  have G_next_polynomial := ok_next_polynomial (P := P) (w := w) (base := base) T
  refine T.F_divisor_polynomials.ok sc_divisor_polynomials (fun vs H Q E h => ?_) (fun cdv A outer s H vs Q E hr h => ?_)
  · obtain ⟨_, rfl, _⟩ := h
    rfl
  · obtain ⟨n, rfl, n1, n40, q⟩ := h
    refine ⟨_, (pss_cons (ps_set (i := 1) sc_divisor_polynomials.nd rfl (.inl rfl) pe_dnewK)
      (pss_cons (ps_for PassesOwn.never rfl (pi_range2 (by rfl) T.n_range (pa_cons pe_int (pa_cons (pe_op op_add (pv 0) pe_int) pa_nil))) (pg_name (i := 2) sc_divisor_polynomials.nd rfl (.inl rfl)) (pss_one (ps_if (pt_cmpR op_eq (pe_op op_mod (pv 0) (pv 2)) pe_int (nomark _)) (pss_one (ps_dput (hu_of hr) (pv 1) (pv 2) (pe_call G_next_polynomial hr (by rfl) T.g_next_polynomial T.F_next_polynomial.kp T.b_next_polynomial .nil pass0 (pa_cons (pv 2) (pa_cons (pv 1) pa_nil))) rfl)) pss_nil)))
      (pss_one (ps_ret (pv 1))))), ?_⟩
    intro S hS
    refine ⟨.int n, rfl, n, 1, rfl, rfl, 1, n + 1, rfl, ⟨by omega, by omega, by omega, by omega⟩, for_range (lo := 1) (n := ((n : Int) + 1 - 1).toNat)
      (fun i σ H' => ∃ (y : Option V) (kvs : List (Key × V)), σ = [some (.int n), some (.ref S), y] ∧ Same H H' ∧ H' S = some (.dK kvs) ∧ Tabl H' kvs (divs n i)) ⟨_, [], rfl, new_same hS, upd_same, .nil⟩ (fun i σ H1 hi hP => ?_) (fun σ H1 hP => ?_)⟩
    · obtain ⟨y, kvs, rfl, s1, e1, t1⟩ := hP
      have hi : i < n := by omega
      have ei : (1 : Int) + (i : Nat) = ((i + 1 : Nat) : Int) := by omega
      refine ⟨.int n, rfl, .int (1 + i), rfl, n, 1 + i, rfl, rfl, (by show (0 : Int) < _; omega), rfl, _, rfl, ite2 (fun h => ?_) (fun h => ?_)⟩
      · have hz : n % (i + 1) = 0 := by
          have h := V.int.inj (of_decide_eq_true h)
          rw [ei] at h
          omega
        refine ⟨.int (1 + i), rfl, .ref S, rfl, i + 1, S, kvs, divs n i, by rw [ei]; rfl, by omega, by omega, e1, t1, fun d hd => ?_, fun r H2 s2 f2 e2 => ?_⟩
        · have := divs_mem.mp hd
          omega
        have er : foldQ (i + 1) (divs n i) = cyc (i + 1) := by
          rw [foldQ_divs hz, ← root_cyc (p := i + 1) (by omega) (by omega)]
          rfl
        rw [er] at e2
        have e3 := s2 _ _ e1
        have hlt : ∀ e ∈ divs n i, e < i + 1 := fun e he => by
          have := divs_mem.mp he
          omega
        have t2 := t1.same s2
        have hl : kvs.length < sizeLine := by
          have := t1.len
          have := divs_len (n := n) i
          exact sz40 (by omega)
        have pk := t2.putK (d := i + 1) (v := .ref r) hlt
        have rS : r ≠ S := fun z => by rw [z, e1] at f2; cases f2
        refine ⟨.ref S, rfl, .int (1 + i), rfl, S, _, rfl, DPut.k (k := .inl (1 + i)) e3 hl, ?_⟩
        rw [ei]
        rw [ei] at *
        refine ⟨_, _, rfl, same_over (s1.trans s2) hS, upd_same, ?_⟩
        rw [pk, divs, if_pos hz]
        have t3 : Tabl (upd H2 S (.dK (kvs ++ [(.inl ((i + 1 : Nat) : Int), .ref r)]))) kvs (divs n i) := t2.but (T := S) (fun xs e => by rw [e3] at e; cases e) upd_but
        exact t3.snoc (by rw [upd_ne rS]; exact e2)
      · refine ⟨_, kvs, rfl, s1, e1, ?_⟩
        rw [divs, if_neg]
        · exact t1
        · intro z
          refine h (decide_eq_true ?_)
          rw [ei]
          show V.int ((n : Int) % ((i + 1 : Nat) : Int)) = V.int 0
          rw [show (n : Int) % ((i + 1 : Nat) : Int) = 0 by omega]
    · obtain ⟨y, kvs, rfl, s1, e1, t1⟩ := hP
      rw [show ((n : Int) + 1 - 1).toNat = n by omega] at t1
      exact ⟨.ref S, rfl, q S kvs H1 s1 hS e1 t1⟩
def spBlindPolys : Sp := fun vs H Q _ => ∃ (a : Addr) (ns : List Int), vs = [.ref a] ∧ H a = some (.lst (ns.map V.int)) ∧ Rim ns ∧
  ∀ (S : Addr) (kvs : List (Key × V)) (H' : Hp), Same H H' → H S = none → H' S = some (.dK kvs) → Tabl H' kvs (blindL ns) → Q (.ref S) H'
theorem ok_blind_polynomials (T : Txt K mg) : FnOk P w K mg base CX0 4 T.a_blind_polynomials T.d_blind_polynomials ["disc"] spBlindPolys := by
  have G_divisor_polynomials := ok_divisor_polynomials (P := P) (w := w) (base := base) T
  have G_rest_by := ok_rest_by (P := P) (w := w) (base := base) T
  refine T.F_blind_polynomials.ok sc_blind_polynomials (fun vs H Q E h => ?_) (fun cdv A outer s H vs Q E hr h => ?_)
  · obtain ⟨_, _, rfl, _⟩ := h
    rfl
  · obtain ⟨a, ns, rfl, hA, hR, q⟩ := h
    refine ⟨_, (pss_cons (ps_set (i := 1) sc_blind_polynomials.nd rfl (.inl rfl) (pe_call G_divisor_polynomials hr (by rfl) T.g_divisor_polynomials T.F_divisor_polynomials.kp T.b_divisor_polynomials .nil pass0 (pa_cons (pe_callB (lenL (K := K) rfl) (by rfl) T.n_len (by decide +kernel) (pa_cons (pv 0) pa_nil)) pa_nil)))
      (pss_one (ps_ret (pe_dc (own := [("divisor", 2), ("found", 3)]) (by rfl) sc_blind_polynomials.nd (pi_items (pe_lk (pv 1))) (blkOk_by (own := [("divisor", 2), ("found", 3)]) (N := ["disc", "polynomials", "divisor", "found"]) (sc := defScope s_blind_polynomials) (by decide +kernel)) (fun _ _ _ _ _ => (pg_tupL (K := K) (n := 2) rfl rfl (pgs_cons (pg_name (i := 2) sc_blind_polynomials.nd rfl (.inl rfl)) (pgs_cons (pg_name (i := 3) sc_blind_polynomials.nd rfl (.inl rfl)) pgs_nil)))) (fun _ _ _ _ _ => (pts_one (pt_not (pt_val (pe_callB (cr_anyI (K := K) rfl rfl) (by rfl) T.n_any (by decide +kernel) (pa_cons (pe_call G_rest_by (hr.mono (by decide)) (by rfl) T.g_rest_by T.F_rest_by.kp T.b_rest_by .nil pass0 (pa_cons (pv 0) (pa_cons (pv 3) pa_nil))) pa_nil)))))) (fun _ _ _ _ _ => (pv 2)) (fun _ _ _ _ _ => (pv 3)))))), ?_⟩
    have l40 := hR.le
    have l1 := hR.pos
    refine ⟨.ref a, rfl, a, _, rfl, .inl (SqL.of hA), ns.length, by rw [List.length_map]; rfl, l1, l40, fun S kvs H1 s1 fS eS tS => ?_⟩
    have a1 := s1 _ _ hA
    have aS : a ≠ S := fun z => by rw [z, fS] at hA; cases hA
    refine ⟨.ref S, rfl, S, kvs, rfl, eS, fun od => ⟨S, od, kvs, rfl, upd_same, fun D hD => ?_⟩⟩
    have nS : ∀ xs, H1 S ≠ some (.lst xs) := fun xs e => by rw [eS] at e; cases e
    have nSD : S ≠ D := fun z => by rw [← z, upd_same] at hD; cases hD
    have fD1 : H1 D = none := by rw [upd_ne nSD.symm] at hD; exact hD
    refine dc_it walk_items (fun i H' => ∃ kv2, But S H1 H' ∧ H' S = some (.frz od (.dK kvs)) ∧ H' D = some (.dK kv2) ∧ Tabl H' kv2 (((divs ns.length ns.length).take i).filter (blB ns)))
      ⟨[], upd_but.trans (But.of (new_same hD)), by rw [upd_ne nSD]; exact upd_same, upd_same, .nil⟩ (fun i H' _ ⟨_, _, z, _⟩ => z) (fun i x H2 H3 hi hP hY => ?_) (fun H2 hP => ?_)
    · obtain ⟨kv2, u2, z2, e2, t2⟩ := hP
      obtain ⟨t, v1, v2, rfl, ht, rfl, w1, w2⟩ := hY
      rw [tS.len] at hi
      obtain ⟨d, c, hd, hkv, hc⟩ := tS.at hi
      have w1' : V.int (d : Int) = v1 := by
        have w1 : (kvs[i]?.map fun kv => kV kv.1) = some v1 := w1
        rw [hkv] at w1
        exact Option.some.inj w1
      have w2' : V.ref c = v2 := by
        have w2 : (kvs[i]?.map Prod.snd) = some v2 := w2
        rw [hkv] at w2
        exact Option.some.inj w2
      subst w1'
      subst w2'
      have sT := new_same (o := .tup [.int d, .ref c]) ht
      have u3 := u2.trans (But.of (T := S) sT)
      have z3 := sT _ _ z2
      have e3 := sT _ _ e2
      have t3 := t2.same sT
      have hdm := divs_mem.mp (List.mem_of_getElem? hd)
      have cS : c ≠ S := fun z => nS _ (by rw [← z]; exact hc)
      have hc3 := u3 _ _ hc cS
      have a3 := u3 _ _ a1 aS
      have hl := cyc_len hdm.1 (by omega)
      refine ⟨t, _, rfl, SqT.of upd_same, rfl, _, _, rfl, _, _, rfl, rfl, rfl, ?_⟩
      refine ⟨.ref a, rfl, .ref c, rfl, a, c, ns, cyc d, rfl, SqL.of a3, SqL.of hc3, by omega, by omega, by omega, cyc_unt hdm.1 (by omega), fun r H4 s4 f4 e4 => ?_⟩
      refine ⟨r, _, rfl, SqL.of e4, _, rfl, ?_⟩
      have tk : (divs ns.length ns.length).take (i + 1) = (divs ns.length ns.length).take i ++ [d] := take_snoc hd
      have eb : ((rst (cyc d) ns).all fun x => decide (x = 0)) = blB ns d := rfl
      rw [eb]
      have u4 := u3.trans (But.of (T := S) s4)
      have z4 := s4 _ _ z3
      have e4' := s4 _ _ e3
      have t4 := t3.same s4
      cases hb : blB ns d with
      | true =>
        refine iteT ?_
        have hlt : ∀ e ∈ ((divs ns.length ns.length).take i).filter (blB ns), e < d := fun e he => divs_lt hd (List.mem_filter.mp he).1
        have hl2 : kv2.length < sizeLine := by
          have w1 := t2.len
          have w2 := List.length_filter_le (blB ns) ((divs ns.length ns.length).take i)
          have w3 := divs_len (n := ns.length) ns.length
          rw [List.length_take] at w2
          exact sz40 (by omega)
        refine ⟨.int d, rfl, .ref c, rfl, kv2, .inl d, rfl, e4', hl2, ?_⟩
        have pk := t4.putK (d := d) (v := .ref c) hlt
        rw [pk]
        have nD : D ≠ S := nSD.symm
        refine ⟨_, fun b o e ne => ?_, by rw [upd_ne nSD]; exact z4, upd_same, ?_⟩
        · rw [upd_ne (ne_of_none e fD1)]
          exact u4 b o e ne
        · rw [tk, List.filter_append, List.filter_cons, if_pos hb, List.filter_nil]
          have t5 : Tabl (upd H4 D (.dK (kv2 ++ [(.inl (d : Int), .ref c)]))) kv2 (((divs ns.length ns.length).take i).filter (blB ns)) := t4.but (T := D) (fun xs e => by rw [e4'] at e; cases e) upd_but
          refine t5.snoc ?_
          rw [upd_ne (ne_of_none hc fD1)]
          exact s4 _ _ hc3
      | false =>
        refine iteF ?_
        refine ⟨kv2, u4, z4, e4', ?_⟩
        rw [tk, List.filter_append, List.filter_cons, if_neg (by rw [hb]; exact Bool.false_ne_true), List.filter_nil, List.append_nil]
        exact t4
    · obtain ⟨kv2, u2, z2, e2, t2⟩ := hP
      rw [tS.len, List.take_of_length_le (Nat.le_refl _)] at t2
      exact q D kv2 H2 (fun b o e => u2 _ _ (s1 _ _ e) (ne_of_none e fS)) (s1.free fD1) e2 t2

def spLTurned (K : PySem.W.Frag) : Sp := fun vs H Q _ => ∃ (a : Addr) (ns : List Int) (t : Int), vs = [.ref a, .int t] ∧ SqL K H a (ns.map V.int) ∧ 1 ≤ ns.length ∧ ns.length ≤ 1000 ∧
  ∀ (l : Addr) (H' : Hp), Same H H' → H l = none → H' l = some (.lst ((rot ns t).map V.int)) → Q (.ref l) H'
def spLMirrored (K : PySem.W.Frag) : Sp := fun vs H Q _ => ∃ (a : Addr) (ns : List Int), vs = [.ref a] ∧ SqL K H a (ns.map V.int) ∧ 1 ≤ ns.length ∧ ns.length ≤ 1000 ∧
  ∀ (l : Addr) (H' : Hp), Same H H' → H l = none → H' l = some (.lst ((mir ns).map V.int)) → Q (.ref l) H'

/-! ### slitdiscs.around -/
def spTurnedList (K : PySem.W.Frag) : Sp := spLTurned K
theorem ok_turned_list (T : Txt K mg) : FnOk P w K mg base CX0 1 T.a_turned_list T.d_turned_list ["items", "turn"] (spTurnedList K) := by
  refine T.F_turned_list.ok sc_turned_list (fun vs H Q E h => ?_) (fun cdv A outer s H vs Q E hr h => ?_)
  · obtain ⟨_, _, _, rfl, _⟩ := h
    rfl
  · obtain ⟨a, ns, t, rfl, hS, hn1, hn, q⟩ := h
    refine ⟨_, (pss_cons (ps_set (i := 2) sc_turned_list.nd rfl (.inr rfl) (pe_callB (lenL (K := K) rfl) (by rfl) T.n_len (by decide +kernel) (pa_cons (pv 0) pa_nil)))
      (pss_one (ps_ret (pe_lc (own := [("slot", 3)]) (g := gName 3) (tt := tYes) (by rfl) sc_turned_list.nd (pi_range1 (by rfl) T.n_range (pa_cons (pv 2) pa_nil)) (blkOk_by (own := [("slot", 3)]) (N := ["items", "turn", "size", "slot"]) (sc := defScope s_turned_list) (by decide +kernel))
        (fun _ _ _ _ _ => (pg_name (i := 3) sc_turned_list.nd rfl (Or.inl rfl))) (fun _ _ _ _ _ => pts_nil) (fun _ _ _ _ _ => (pe_ix (ixL (K := K) rfl) (pv 0) (pe_op op_mod (pe_op op_sub (pv 3) (pv 1)) (pv 2)) (fun _ _ => rfl))))))), ?_⟩
    refine ⟨.ref a, rfl, a, _, rfl, .inl hS, ?_⟩
    rw [List.length_map]
    refine ⟨.int ns.length, rfl, ns.length, rfl, by omega, by omega, fun D hD => lc_range (lo := 0) (n := ((ns.length : Nat) : Int).toNat)
      (fun i H' => Same H H' ∧ H' D = some (.lst (((rot ns t).take i).map V.int))) ⟨new_same hD, upd_same⟩ (fun i H1 hi hP => ⟨rfl, ?_⟩) (fun H1 hP => ?_)⟩
    · obtain ⟨s1, hD1⟩ := hP
      rw [Int.toNat_natCast] at hi
      have hm := mod_in (i := (0 + (i : Int)) - t) (show 0 < ns.length by omega)
      obtain ⟨n, hx, hat⟩ := at_in hm.1 hm.2
      refine ⟨.ref a, rfl, .int (0 + i), rfl, .int t, rfl, 0 + i, t, rfl, rfl, .int ns.length, rfl, _, _, rfl, rfl, (by show (0 : Int) < _; omega), ?_⟩
      refine ⟨a, _, _, .int n, rfl, rfl, s1.seq hS, hat, _, hD1, ?_, ?_, ?_⟩
      · rw [List.length_map, List.length_take]
        exact sz40 (by omega)
      · intro b o e
        rw [upd_ne (ne_of_none e hD)]
        exact s1 b o e
      · rw [upd_same, take_next]
        rw [rot_at hi]
        rw [show (i : Int) - t = 0 + (i : Int) - t by omega, getD_at hx]
    · obtain ⟨s1, hD1⟩ := hP
      rw [Int.toNat_natCast, take_all (by rw [rot_len]; exact Nat.le_refl _)] at hD1
      exact q D H1 s1 hD hD1

/-! ### slitdiscs.checks, slitdiscs.discs over data of any kind -/
def oneQ : PyData → Bool
  | .int _ => true
  | _ => false
theorem oneQ_eq (d : PyData) : (intQ d && !boolQ d) = oneQ d := by cases d <;> rfl
def spIsIntQ : Sp := fun vs H Q _ => ∃ (v : V) (d : PyData), vs = [v] ∧ Dq H v d ∧ Q (.bl (oneQ d)) H
theorem ok_is_integer (T : Txt K mg) : FnOk P w K mg base CX0 1 T.a_is_integer T.d_is_integer ["value"] spIsIntQ := by
  refine T.F_is_integer.ok sc_is_integer (fun vs H Q E h => ?_) (fun cdv A outer s H vs Q E hr h => ?_)
  · obtain ⟨_, _, rfl, _⟩ := h
    rfl
  · obtain ⟨v, d, rfl, hd, q⟩ := h
    refine ⟨_, (pss_one (ps_ret (pe_and (pe_callB (isiL (K := K) rfl) (by rfl) T.n_isinstance (by decide +kernel) (pa_cons (pv 0) (pa_cons (pe_bltn (v := .ty "int") (u := Value.type "int") rfl T.n_int (by decide +kernel) rfl) pa_nil))) (pe_one (pe_not (pe_callB (isiL (K := K) rfl) (by rfl) T.n_isinstance (by decide +kernel) (pa_cons (pv 0) (pa_cons (pe_bltn (v := .ty "bool") (u := Value.type "bool") rfl T.n_bool (by decide +kernel) rfl) pa_nil)))))))), ?_⟩
    refine ⟨v, rfl, v, .ty "int", _, _, _, rfl, .ty _, ty_q hd, kit_intQ d, _, rfl, ?_⟩
    have e := oneQ_eq d
    cases h1 : intQ d with
    | false =>
      rw [h1] at e
      refine iteF ?_
      show Q (.bl false) H
      rw [show (false && !boolQ d) = false from rfl] at e
      rw [e]
      exact q
    | true =>
      rw [h1] at e
      refine ⟨v, rfl, v, .ty "bool", _, _, _, rfl, .ty _, ty_q hd, kit_boolQ d, _, rfl, ?_⟩
      show Q (.bl (!boolQ d)) H
      rw [Bool.true_and] at e
      rw [e]
      exact q
def spHasSlotsQ : Sp := fun vs H Q _ => ∃ (v : V) (d : PyData), vs = [v] ∧ Dq H v d ∧ Q (.bl (slotsQ d)) H
theorem ok_has_slots (T : Txt K mg) : FnOk P w K mg base CX0 1 T.a_has_slots T.d_has_slots ["value"] spHasSlotsQ := by
  refine T.F_has_slots.ok sc_has_slots (fun vs H Q E h => ?_) (fun cdv A outer s H vs Q E hr h => ?_)
  · obtain ⟨_, _, rfl, _⟩ := h
    rfl
  · obtain ⟨v, d, rfl, hd, q⟩ := h
    refine ⟨_, (pss_one (ps_ret (pe_and (pe_callB (isiL (K := K) rfl) (by rfl) T.n_isinstance (by decide +kernel) (pa_cons (pv 0) (pa_cons (pe_bltn (v := .ty "list") (u := Value.type "list") rfl T.n_list (by decide +kernel) rfl) pa_nil))) (pe_one (pe_chain op_le op_le pe_int (pe_callB (lenL (K := K) rfl) (by rfl) T.n_len (by decide +kernel) (pa_cons (pv 0) pa_nil)) (pe_glob (v := .int (40)) rfl T.g_MOST_SLOTS ⟨_, rfl⟩)))))), ?_⟩
    refine ⟨v, rfl, v, .ty "list", _, _, _, rfl, .ty _, ty_q hd, kit_listQ d, _, rfl, ?_⟩
    cases hd with
    | @lst a xs ds h1 h2 =>
      have e := h2.length
      refine ⟨.ref a, rfl, a, _, rfl, .inl (SqL.of h1), 1, _, rfl, rfl, _, rfl, ?_⟩
      have q : Q (.bl (decide (1 ≤ ds.length) && decide (ds.length ≤ 40))) H := q
      by_cases z : 1 ≤ ds.length
      · rw [if_pos (decide_eq_true (by omega))]
        refine ⟨_, 40, rfl, rfl, ?_⟩
        show Q (.bl (decide ((xs.length : Int) ≤ 40))) H
        rw [decide_eq_true z, Bool.true_and] at q
        rw [show decide ((xs.length : Int) ≤ 40) = decide (ds.length ≤ 40) from decide_eq_decide.mpr (by omega)]
        exact q
      · rw [if_neg (fun y => z (by have := of_decide_eq_true y; omega))]
        rw [decide_eq_false z, Bool.false_and] at q
        exact q
    | non => exact q
    | bl _ => exact q
    | int _ => exact q
    | str _ => exact q
    | tup _ _ => exact q
    | emp _ => exact q
def spWrongLightQ : Sp := fun vs H Q _ => ∃ (a : Addr) (xs : List V) (ds : List PyData) (top : Int), vs = [.ref a, .int top] ∧ H a = some (.lst xs) ∧ DqAll H xs ds ∧
  ∀ (v : V) (H' : Hp), Same H H' → decide (v = .non) = ds.all (okS top) → Q v H'
theorem ok_wrong_light (T : Txt K mg) : FnOk P w K mg base CX0 2 T.a_wrong_light T.d_wrong_light ["items", "most"] spWrongLightQ := by
  have G_is_integer := ok_is_integer (P := P) (w := w) (base := base) T
  refine T.F_wrong_light.ok sc_wrong_light (fun vs H Q E h => ?_) (fun cdv A outer s H vs Q E hr h => ?_)
  · obtain ⟨_, _, _, _, rfl, _⟩ := h
    rfl
  · obtain ⟨a, xs, ds, top, rfl, hA, hds, q⟩ := h
    refine ⟨_, (pss_cons (ps_for PassesOwn.never rfl (enumL (K := K) rfl (by rfl) T.n_enumerate (pa_cons (pv 0) pa_nil)) (pg_tupL (K := K) (n := 2) rfl rfl (pgs_cons (pg_name (i := 2) sc_wrong_light.nd rfl (.inl rfl)) (pgs_cons (pg_name (i := 3) sc_wrong_light.nd rfl (.inl rfl)) pgs_nil))) (pss_one (ps_if (PW.pt (pw_or (pt_not (pt_val (pe_call G_is_integer hr (by rfl) T.g_is_integer T.F_is_integer.kp T.b_is_integer .nil pass0 (pa_cons (pv 3) pa_nil)))) (pw_or1 (pt_not (pt_chain op_le op_le pe_int (pv 3) (pv 1)))))) (pss_one (ps_ret (pv 2))) pss_nil)))
      (pss_one (ps_ret pe_non))), ?_⟩
    refine ⟨.ref a, rfl, a, _, rfl, SqL.of hA, for_it (walk_enum (K := K) (xs := xs)) (fun i σ H' => ∃ y1 y2 : Option V, σ = [some (.ref a), some (.int top), y1, y2] ∧ Same H H' ∧ (ds.take i).all (okS top) = true)
      ⟨none, none, rfl, Same.refl H, rfl⟩ (fun i σ H' _ ⟨_, _, _, s2, _⟩ => s2.seq (SqL.of hA)) (fun i x σ H1 H2 hi hP hY => ?_) (fun σ H1 hP => ?_)⟩
    · obtain ⟨y1, y2, rfl, s1, hall⟩ := hP
      obtain ⟨p, z1, x, rfl, hp, rfl, e1, e2⟩ := hY
      have e1 : V.int (i : Int) = z1 := Option.some.inj e1
      subst e1
      obtain ⟨d, hd, dq⟩ := hds.at e2
      have s2 := s1.trans (new_same (o := .tup [.int i, x]) hp)
      have dq2 := dq.same s2
      refine ⟨p, _, rfl, SqT.of upd_same, rfl, _, _, rfl, _, _, rfl, rfl, ?_⟩
      refine ⟨x, rfl, x, d, rfl, dq2, _, rfl, ?_⟩
      have bad : okS top d = false → Q (.int i) (upd H1 p (.tup [.int i, x])) := fun z => q _ _ s2 (by
        rw [all_no hd z]
        exact decide_eq_false fun y => nomatch y)
      cases dq with
      | int n =>
        refine iteF ?_
        refine ⟨.int n, rfl, 0, n, rfl, rfl, _, rfl, ?_⟩
        by_cases c0 : 0 ≤ n
        · rw [if_pos (decide_eq_true c0)]
          refine ⟨.int top, rfl, n, top, rfl, rfl, _, rfl, ?_⟩
          by_cases c1 : n ≤ top
          · refine iteNS c1 ⟨_, _, rfl, s2, ?_⟩
            rw [all_next hd hall]
            show (decide (0 ≤ n) && decide (n ≤ top)) = true
            rw [decide_eq_true c0, decide_eq_true c1]
            rfl
          · have c2 : decide (n ≤ top) = false := decide_eq_false c1
            show if (!decide (n ≤ top)) = true then _ else _
            rw [c2]
            exact iteT ⟨.int i, rfl, bad (by show (decide (0 ≤ n) && decide (n ≤ top)) = false; rw [c2, Bool.and_false])⟩
        · rw [if_neg (fun z => c0 (of_decide_eq_true z))]
          exact ⟨_, rfl, iteT ⟨.int i, rfl, bad (by show (decide (0 ≤ n) && decide (n ≤ top)) = false; rw [decide_eq_false c0, Bool.false_and])⟩⟩
      | non => exact iteT (iteT ⟨.int i, rfl, bad rfl⟩)
      | bl _ => exact iteT (iteT ⟨.int i, rfl, bad rfl⟩)
      | str _ => exact iteT (iteT ⟨.int i, rfl, bad rfl⟩)
      | lst _ _ => exact iteT (iteT ⟨.int i, rfl, bad rfl⟩)
      | tup _ _ => exact iteT (iteT ⟨.int i, rfl, bad rfl⟩)
      | emp _ => exact iteT (iteT ⟨.int i, rfl, bad rfl⟩)
    · obtain ⟨y1, y2, rfl, s1, hall⟩ := hP
      rw [List.take_of_length_le (by rw [hds.length]; exact Nat.le_refl _)] at hall
      exact q .non H1 s1 (by rw [hall]; rfl)
def spWrongSlotQ : Sp := fun vs H Q _ => ∃ (a : Addr) (xs : List V) (ds : List PyData), vs = [.ref a] ∧ H a = some (.lst xs) ∧ DqAll H xs ds ∧
  ∀ (v : V) (H' : Hp), Same H H' → decide (v = .non) = ds.all (okS 1000000000000000000000000000000) → Q v H'
theorem ok_wrong_slot (T : Txt K mg) : FnOk P w K mg base CX0 3 T.a_wrong_slot T.d_wrong_slot ["items"] spWrongSlotQ := by
  have G_wrong_light := ok_wrong_light (P := P) (w := w) (base := base) T
  refine T.F_wrong_slot.ok sc_wrong_slot (fun vs H Q E h => ?_) (fun cdv A outer s H vs Q E hr h => ?_)
  · obtain ⟨_, _, _, rfl, _⟩ := h
    rfl
  · obtain ⟨a, xs, ds, rfl, hA, hds, q⟩ := h
    refine ⟨_, (pss_one (ps_ret (pe_call G_wrong_light hr (by rfl) T.g_wrong_light T.F_wrong_light.kp T.b_wrong_light .nil pass0 (pa_cons (pv 0) (pa_cons (pe_glob (v := .int (1000000000000000000000000000000)) rfl T.g_MOST_LIGHT ⟨_, rfl⟩) pa_nil))))), ?_⟩
    exact ⟨.ref a, rfl, a, xs, ds, _, rfl, hA, hds, q⟩

/-! ### discs, among data of any kind -/
def spDisc : Sp := fun vs H Q _ => ∃ (a : Addr) (ns : List Int), vs = [.ref a] ∧ H a = some (.lst (ns.map V.int)) ∧ Rim ns ∧ ∀ H', Same H H' → Q .non H'
theorem dqAll_ints {H : Hp} : ∀ ns : List Int, DqAll H (ns.map V.int) (ns.map PyData.int)
  | [] => .nil
  | n :: ns => .cons (.int n) (dqAll_ints ns)
theorem dq_ints {H : Hp} {a : Addr} {ns : List Int} (h : H a = some (.lst (ns.map V.int))) : Dq H (.ref a) (dI ns) := .lst h (dqAll_ints ns)
theorem rim_okS {ns : List Int} (h : Rim ns) : (ns.map PyData.int).all (okS 1000000000000000000000000000000) = true := ints_ok.mpr h.all
theorem ok_check_disc (T : Txt K mg) : FnOk P w K mg base CX0 4 T.a_check_disc T.d_check_disc ["disc"] spDisc := by
  have G_has_slots := ok_has_slots (P := P) (w := w) (base := base) T
  have G_wrong_slot := ok_wrong_slot (P := P) (w := w) (base := base) T
  refine T.F_check_disc.ok sc_check_disc (fun vs H Q E h => ?_) (fun cdv A outer s H vs Q E hr h => ?_)
  · obtain ⟨_, _, rfl, _⟩ := h
    rfl
  · obtain ⟨a, ns, rfl, hA, hR, q⟩ := h
    refine ⟨_, (pss_cons (ps_if (pt_not (pt_val (pe_call G_has_slots (hr.mono (by decide)) (by rfl) T.g_has_slots T.F_has_slots.kp T.b_has_slots .nil pass0 (pa_cons (pv 0) pa_nil)))) (pss_one ps_never) pss_nil)
      (pss_cons (ps_set (i := 1) sc_check_disc.nd rfl (.inl rfl) (pe_call G_wrong_slot hr (by rfl) T.g_wrong_slot T.F_wrong_slot.kp T.b_wrong_slot .nil pass0 (pa_cons (pv 0) pa_nil)))
      (pss_one (ps_if (pt_cmpR op_notN (pv 1) pe_non (nomark _)) (pss_one ps_never) pss_nil)))), ?_⟩
    have l1 := hR.pos
    have l40 := hR.le
    refine ⟨.ref a, rfl, .ref a, dI ns, rfl, dq_ints hA, _, rfl, ?_⟩
    have e : slotsQ (dI ns) = true := by
      show (decide (1 ≤ (ns.map PyData.int).length) && decide ((ns.map PyData.int).length ≤ 40)) = true
      rw [List.length_map, decide_eq_true l1, decide_eq_true l40]
      rfl
    rw [e]
    refine iteF ?_
    refine ⟨.ref a, rfl, a, _, _, rfl, hA, dqAll_ints ns, fun v H1 s1 hv => ?_⟩
    rw [rim_okS hR] at hv
    have hv := of_decide_eq_true hv
    subst hv
    refine ⟨.non, rfl, rfl, _, rfl, iteNS rfl ?_⟩
    exact q H1 s1
/-- rows -/
def rowQ (n : Nat) : PyData → Bool
  | .list ds => decide (ds.length = n) && ds.all oneQ
  | _ => false
def spWrongIntegerQ : Sp := fun vs H Q _ => ∃ (a : Addr) (xs : List V) (ds : List PyData), vs = [.ref a] ∧ H a = some (.lst xs) ∧ DqAll H xs ds ∧
  ∀ (v : V) (H' : Hp), Same H H' → decide (v = .non) = ds.all oneQ → Q v H'
theorem ok_wrong_integer (T : Txt K mg) : FnOk P w K mg base CX0 2 T.a_wrong_integer T.d_wrong_integer ["items"] spWrongIntegerQ := by
  have G_is_integer := ok_is_integer (P := P) (w := w) (base := base) T
  refine T.F_wrong_integer.ok sc_wrong_integer (fun vs H Q E h => ?_) (fun cdv A outer s H vs Q E hr h => ?_)
  · obtain ⟨_, _, _, rfl, _⟩ := h
    rfl
  · obtain ⟨a, xs, ds, rfl, hA, hds, q⟩ := h
    refine ⟨_, (pss_cons (ps_for PassesOwn.never rfl (enumL (K := K) rfl (by rfl) T.n_enumerate (pa_cons (pv 0) pa_nil)) (pg_tupL (K := K) (n := 2) rfl rfl (pgs_cons (pg_name (i := 1) sc_wrong_integer.nd rfl (.inl rfl)) (pgs_cons (pg_name (i := 2) sc_wrong_integer.nd rfl (.inl rfl)) pgs_nil))) (pss_one (ps_if (pt_not (pt_val (pe_call G_is_integer hr (by rfl) T.g_is_integer T.F_is_integer.kp T.b_is_integer .nil pass0 (pa_cons (pv 2) pa_nil)))) (pss_one (ps_ret (pv 1))) pss_nil)))
      (pss_one (ps_ret pe_non))), ?_⟩
    refine ⟨.ref a, rfl, a, _, rfl, SqL.of hA, for_it (walk_enum (K := K) (xs := xs)) (fun i σ H' => ∃ y1 y2 : Option V, σ = [some (.ref a), y1, y2] ∧ Same H H' ∧ (ds.take i).all oneQ = true)
      ⟨none, none, rfl, Same.refl H, rfl⟩ (fun i σ H' _ ⟨_, _, _, s2, _⟩ => s2.seq (SqL.of hA)) (fun i x σ H1 H2 hi hP hY => ?_) (fun σ H1 hP => ?_)⟩
    · obtain ⟨y1, y2, rfl, s1, hall⟩ := hP
      obtain ⟨p, z1, x, rfl, hp, rfl, e1, e2⟩ := hY
      have e1 : V.int (i : Int) = z1 := Option.some.inj e1
      subst e1
      obtain ⟨d, hd, dq⟩ := hds.at e2
      have s2 := s1.trans (new_same (o := .tup [.int i, x]) hp)
      have dq2 := dq.same s2
      refine ⟨p, _, rfl, SqT.of upd_same, rfl, _, _, rfl, _, _, rfl, rfl, ?_⟩
      refine ⟨x, rfl, x, d, rfl, dq2, _, rfl, ?_⟩
      cases ho : oneQ d with
      | true =>
        refine iteF ⟨_, _, rfl, s2, ?_⟩
        rw [all_next hd hall]
        exact ho
      | false =>
        refine iteT ⟨.int i, rfl, q _ _ s2 ?_⟩
        rw [all_no hd ho]
        exact decide_eq_false fun y => nomatch y
    · obtain ⟨y1, y2, rfl, s1, hall⟩ := hP
      rw [List.take_of_length_le (by rw [hds.length]; exact Nat.le_refl _)] at hall
      exact q .non H1 s1 (by rw [hall]; rfl)
def spIsRow : Sp := fun vs H Q _ => ∃ (v : V) (d : PyData) (n : Nat), vs = [v, .int n] ∧ Dq H v d ∧ ∀ H', Same H H' → Q (.bl (rowQ n d)) H'
theorem ok_is_row (T : Txt K mg) : FnOk P w K mg base CX0 3 T.a_is_row T.d_is_row ["value", "slots"] spIsRow := by
  have G_wrong_integer := ok_wrong_integer (P := P) (w := w) (base := base) T
  refine T.F_is_row.ok sc_is_row (fun vs H Q E h => ?_) (fun cdv A outer s H vs Q E hr h => ?_)
  · obtain ⟨_, _, _, rfl, _⟩ := h
    rfl
  · obtain ⟨v, d, n, rfl, hd, q⟩ := h
    refine ⟨_, (pss_one (ps_ret (pe_and (pe_callB (isiL (K := K) rfl) (by rfl) T.n_isinstance (by decide +kernel) (pa_cons (pv 0) (pa_cons (pe_bltn (v := .ty "list") (u := Value.type "list") rfl T.n_list (by decide +kernel) rfl) pa_nil))) (pe_and (pe_cmpR op_eq (pe_callB (lenL (K := K) rfl) (by rfl) T.n_len (by decide +kernel) (pa_cons (pv 0) pa_nil)) (pv 1) (nomark _)) (pe_one (pe_cmpR op_isN (pe_call G_wrong_integer hr (by rfl) T.g_wrong_integer T.F_wrong_integer.kp T.b_wrong_integer .nil pass0 (pa_cons (pv 0) pa_nil)) pe_non (nomark _))))))), ?_⟩
    refine ⟨v, rfl, v, .ty "list", _, _, _, rfl, .ty _, ty_q hd, kit_listQ d, _, rfl, ?_⟩
    have q0 := q H (Same.refl H)
    cases hd with
    | @lst a xs ds h1 h2 =>
      have e := h2.length
      refine iteT ⟨.ref a, rfl, a, _, rfl, .inl (SqL.of h1), .int n, rfl, rfl, _, rfl, ?_⟩
      have q1 : ∀ H', Same H H' → Q (.bl (decide (ds.length = n) && ds.all oneQ)) H' := q
      by_cases z : xs.length = n
      · rw [if_pos (decide_eq_true (by rw [z]))]
        refine ⟨.ref a, rfl, a, xs, ds, rfl, h1, h2, fun v H1 s1 hv => ?_⟩
        have q2 := q1 H1 s1
        rw [decide_eq_true (by omega), Bool.true_and, ← hv] at q2
        exact ⟨rfl, q2⟩
      · rw [if_neg (fun y => z (by have := V.int.inj (of_decide_eq_true y); omega))]
        have q2 := q1 H (Same.refl H)
        rw [decide_eq_false (by omega), Bool.false_and] at q2
        exact q2
    | non => exact iteF q0
    | bl _ => exact iteF q0
    | int _ => exact iteF q0
    | str _ => exact iteF q0
    | tup _ _ => exact iteF q0
    | emp _ => exact iteF q0

/-! ### lights -/
def spLight (K : PySem.W.Frag) : Sp := fun vs H Q _ => ∃ (a b : Addr) (ns ms : List Int) (t : Int), vs = [.ref a, .ref b, .int t] ∧ SqL K H a (ns.map V.int) ∧ SqL K H b (ms.map V.int) ∧
  ns.length = ms.length ∧ 1 ≤ ns.length ∧ ns.length ≤ 40 ∧ Ab 100 ns ∧ Ab 1920 ms ∧ ∀ H', Same H H' → Q (.int (lightV ns ms t)) H'
theorem ok_light_between (T : Txt K mg) : FnOk P w K mg base CX0 2 T.a_light_between T.d_light_between ["disc", "row", "turn"] (spLight K) := by
  have G_turned_list := ok_turned_list (P := P) (w := w) (base := base) T
  refine T.F_light_between.ok sc_light_between (fun vs H Q E h => ?_) (fun cdv A outer s H vs Q E hr h => ?_)
  · obtain ⟨_, _, _, _, _, rfl, _⟩ := h
    rfl
  · obtain ⟨a, b, ns, ms, t, rfl, hS, hS2, hl, h1, h40, hA, hB, q⟩ := h
    refine ⟨_, (pss_one (ps_ret (pe_callB (sumL (K := K) rfl rfl) (by rfl) T.n_sum (by decide +kernel) (pa_cons (pe_lc (own := [("under", 3), ("over", 4)]) (tt := tYes) (by rfl) sc_light_between.nd (zipL (K := K) rfl (by rfl) T.n_zip (pa_cons (pv 0) (pa_cons (pe_call G_turned_list hr (by rfl) T.g_turned_list T.F_turned_list.kp T.b_turned_list .nil pass0 (pa_cons (pv 1) (pa_cons (pv 2) pa_nil))) pa_nil))) (blkOk_by (own := [("under", 3), ("over", 4)]) (N := ["disc", "row", "turn", "under", "over"]) (sc := defScope s_light_between) (by decide +kernel))
        (fun _ _ _ _ _ => (pg_tupL (K := K) (n := 2) rfl rfl (pgs_cons (pg_name (i := 3) sc_light_between.nd rfl (.inl rfl)) (pgs_cons (pg_name (i := 4) sc_light_between.nd rfl (.inl rfl)) pgs_nil)))) (fun _ _ _ _ _ => pts_nil) (fun _ _ _ _ _ => (pe_op op_mulW (pv 3) (pv 4)))) pa_nil)))), ?_⟩
    refine ⟨.ref a, rfl, .ref b, rfl, .int t, rfl, b, ms, t, rfl, hS2, by omega, by omega, fun l H1 s1 hl0 hl1 => ?_⟩
    refine ⟨a, l, _, _, rfl, s1.seq hS, SqL.of hl1, fun D hD => ?_⟩
    refine lc_it (walk_zip (K := K) (a := a) (b := l) (xs := ns.map V.int) (ys := (rot ms t).map V.int) (n := ns.length) (by rw [List.length_map, List.length_map, rot_len]; omega))
      (fun i H' => Same H1 H' ∧ H' D = some (.lst (((prods ns (rot ms t)).take i).map V.int))) ⟨new_same hD, upd_same⟩ (fun i H' _ hP => ⟨hP.1.seq (s1.seq hS), hP.1.seq (SqL.of hl1)⟩) (fun i x H2 H3 hi hP hY => ?_) (fun H2 hP => ?_)
    · obtain ⟨s2, hD2⟩ := hP
      obtain ⟨p, z1, z2, rfl, hp, rfl, e1, e2⟩ := hY
      obtain ⟨x, hx, rfl⟩ := int_at e1
      obtain ⟨y, hy, rfl⟩ := int_at e2
      refine ⟨p, _, rfl, SqT.of upd_same, rfl, _, _, rfl, _, _, rfl, rfl, rfl, ?_⟩
      refine ⟨.int x, rfl, .int y, rfl, x, y, rfl, rfl, wide_mul (hA.at hx) ((hB.rot t).at hy) (by decide) (by decide) (by decide), ?_⟩
      have s3 := s2.trans (new_same (o := .tup [.int x, .int y]) hp)
      refine ⟨_, (new_same hp) _ _ hD2, ?_, same_over s3 hD, ?_⟩
      · rw [List.length_map, List.length_take]
        exact sz40 (by omega)
      · rw [upd_same, take_next (prods_at hx hy)]
    · obtain ⟨s2, hD2⟩ := hP
      rw [take_all (by rw [prods_len, rot_len]; omega)] at hD2
      exact ⟨D, _, rfl, SqL.of hD2, q H2 (s1.trans s2)⟩
def spLights (K : PySem.W.Frag) : Sp := fun vs H Q _ => ∃ (a b : Addr) (ns ms : List Int), vs = [.ref a, .ref b] ∧ SqL K H a (ns.map V.int) ∧ SqL K H b (ms.map V.int) ∧
  ns.length = ms.length ∧ 1 ≤ ns.length ∧ ns.length ≤ 40 ∧ Ab 100 ns ∧ Ab 1920 ms ∧ ∀ (l : Addr) (H' : Hp), Same H H' → H l = none → H' l = some (.lst ((lightsV ns ms).map V.int)) → Q (.ref l) H'
theorem ok_lights_between (T : Txt K mg) : FnOk P w K mg base CX0 3 T.a_lights_between T.d_lights_between ["disc", "row"] (spLights K) := by
  have G_light_between := ok_light_between (P := P) (w := w) (base := base) T
  refine T.F_lights_between.ok sc_lights_between (fun vs H Q E h => ?_) (fun cdv A outer s H vs Q E hr h => ?_)
  · obtain ⟨_, _, _, _, rfl, _⟩ := h
    rfl
  · obtain ⟨a, b, ns, ms, rfl, hS, hS2, hl, h1, h40, hA, hB, q⟩ := h
    refine ⟨_, (pss_one (ps_ret (pe_lc (own := [("turn", 2)]) (g := gName 2) (tt := tYes) (by rfl) sc_lights_between.nd (pi_range1 (by rfl) T.n_range (pa_cons (pe_callB (lenL (K := K) rfl) (by rfl) T.n_len (by decide +kernel) (pa_cons (pv 0) pa_nil)) pa_nil)) (blkOk_by (own := [("turn", 2)]) (N := ["disc", "row", "turn"]) (sc := defScope s_lights_between) (by decide +kernel))
        (fun _ _ _ _ _ => (pg_name (i := 2) sc_lights_between.nd rfl (Or.inl rfl))) (fun _ _ _ _ _ => pts_nil) (fun _ _ _ _ _ => (pe_call G_light_between hr (by rfl) T.g_light_between T.F_light_between.kp T.b_light_between .nil pass0 (pa_cons (pv 0) (pa_cons (pv 1) (pa_cons (pv 2) pa_nil)))))))), ?_⟩
    refine ⟨.ref a, rfl, a, _, rfl, .inl hS, ?_⟩
    rw [List.length_map]
    refine ⟨ns.length, rfl, by omega, by omega, fun D hD => lc_range (lo := 0) (n := ((ns.length : Nat) : Int).toNat)
      (fun i H' => Same H H' ∧ H' D = some (.lst (((lightsV ns ms).take i).map V.int))) ⟨new_same hD, upd_same⟩ (fun i H1 hi hP => ⟨rfl, ?_⟩) (fun H1 hP => ?_)⟩
    · obtain ⟨s1, hD1⟩ := hP
      rw [Int.toNat_natCast] at hi
      refine ⟨.ref a, rfl, .ref b, rfl, .int (0 + i), rfl, a, b, ns, ms, 0 + i, rfl, s1.seq hS, s1.seq hS2, hl, h1, h40, hA, hB, fun H2 s2 => ?_⟩
      refine ⟨_, s2 _ _ hD1, ?_, same_over (s1.trans s2) hD, ?_⟩
      · rw [List.length_map, List.length_take]
        exact sz40 (by omega)
      · rw [upd_same, take_next]
        rw [lightsV_at hi, Int.zero_add]
    · obtain ⟨s1, hD1⟩ := hP
      rw [Int.toNat_natCast, take_all (by rw [lightsV_len]; exact Nat.le_refl _)] at hD1
      exact q D H1 s1 hD hD1

/-! ### slitdiscs.hidden -/
def spTelling : Sp := fun vs H Q _ => ∃ (a : Addr) (ns : List Int), vs = [.ref a] ∧ H a = some (.lst (ns.map V.int)) ∧ Rim ns ∧ ∀ H', Same H H' → Q (.bl (decide (degS (blindL ns) = 0))) H'
theorem ok_is_telling (T : Txt K mg) : FnOk P w K mg base CX0 5 T.a_is_telling T.d_is_telling ["disc"] spTelling := by
  have G_check_disc := ok_check_disc (P := P) (w := w) (base := base) T
  have G_blind_polynomials := ok_blind_polynomials (P := P) (w := w) (base := base) T
  refine T.F_is_telling.ok sc_is_telling (fun vs H Q E h => ?_) (fun cdv A outer s H vs Q E hr h => ?_)
  · obtain ⟨_, _, rfl, _⟩ := h
    rfl
  · obtain ⟨a, ns, rfl, hA, hR, q⟩ := h
    refine ⟨_, (pss_cons (ps_expr (pe_call G_check_disc hr (by rfl) T.g_check_disc T.F_check_disc.kp T.b_check_disc .nil pass0 (pa_cons (pv 0) pa_nil)))
      (pss_one (ps_ret (pe_cmpR op_eq (pe_callB call_lenD (by rfl) T.n_len (by decide +kernel) (pa_cons (pe_call G_blind_polynomials hr (by rfl) T.g_blind_polynomials T.F_blind_polynomials.kp T.b_blind_polynomials .nil pass0 (pa_cons (pv 0) pa_nil)) pa_nil)) pe_int (nomark _))))), ?_⟩
    refine ⟨.ref a, rfl, a, ns, rfl, hA, hR, fun H1 s1 => ?_⟩
    refine ⟨.ref a, rfl, a, ns, rfl, s1 _ _ hA, hR, fun S kvs H2 s2 f2 e2 t2 => ?_⟩
    refine ⟨S, kvs, rfl, e2, rfl, ?_⟩
    have z := q H2 (s1.trans s2)
    have e : decide (V.int (kvs.length : Int) = V.int 0) = decide (degS (blindL ns) = 0) := decide_eq_decide.mpr (by
      rw [degS_pos hR.le]
      have := t2.len
      constructor
      · intro y
        have y := V.int.inj y
        exact List.length_eq_zero_iff.mp (by omega)
      · intro y
        rw [y] at this
        have : kvs.length = 0 := this
        rw [this]
        rfl)
    show Q (.bl (decide (V.int (kvs.length : Int) = V.int 0))) H2
    rw [e]
    exact z
def spCount09 : Sp := fun vs H Q _ => ∃ (a : Addr) (ns : List Int), vs = [.ref a] ∧ H a = some (.lst (ns.map V.int)) ∧ Rim ns ∧ ∀ H', Same H H' → Q (.int (degS (blindL ns))) H'
theorem ok_hidden_count (T : Txt K mg) : FnOk P w K mg base CX0 5 T.a_hidden_count T.d_hidden_count ["disc"] spCount09 := by
  have G_check_disc := ok_check_disc (P := P) (w := w) (base := base) T
  have G_blind_polynomials := ok_blind_polynomials (P := P) (w := w) (base := base) T
  refine T.F_hidden_count.ok sc_hidden_count (fun vs H Q E h => ?_) (fun cdv A outer s H vs Q E hr h => ?_)
  · obtain ⟨_, _, rfl, _⟩ := h
    rfl
  · obtain ⟨a, ns, rfl, hA, hR, q⟩ := h
    refine ⟨_, (pss_cons (ps_expr (pe_call G_check_disc hr (by rfl) T.g_check_disc T.F_check_disc.kp T.b_check_disc .nil pass0 (pa_cons (pv 0) pa_nil)))
      (pss_one (ps_ret (pe_callB (sumL (K := K) rfl rfl) (by rfl) T.n_sum (by decide +kernel) (pa_cons (pe_lc (own := [("polynomial", 1)]) (g := gName 1) (tt := tYes) (by rfl) sc_hidden_count.nd (pi_values (pe_lk (pe_call G_blind_polynomials hr (by rfl) T.g_blind_polynomials T.F_blind_polynomials.kp T.b_blind_polynomials .nil pass0 (pa_cons (pv 0) pa_nil)))) (blkOk_by (own := [("polynomial", 1)]) (N := ["disc", "polynomial"]) (sc := defScope s_hidden_count) (by decide +kernel))
        (fun _ _ _ _ _ => (pg_name (i := 1) sc_hidden_count.nd rfl (Or.inl rfl))) (fun _ _ _ _ _ => pts_nil) (fun _ _ _ _ _ => (pe_op op_sub (pe_callB (lenL (K := K) rfl) (by rfl) T.n_len (by decide +kernel) (pa_cons (pv 1) pa_nil)) pe_int))) pa_nil))))), ?_⟩
    have l40 := hR.le
    refine ⟨.ref a, rfl, a, ns, rfl, hA, hR, fun H1 s1 => ?_⟩
    refine ⟨.ref a, rfl, a, ns, rfl, s1 _ _ hA, hR, fun S kvs H2 s2 f2 e2 t2 => ?_⟩
    have s12 := s1.trans s2
    have fS : H S = none := s1.free f2
    refine ⟨S, kvs, rfl, e2, fun od => ⟨S, od, kvs, rfl, upd_same, fun D hD => ?_⟩⟩
    have nS : ∀ xs, H2 S ≠ some (.lst xs) := fun xs e => by rw [e2] at e; cases e
    have nSD : S ≠ D := fun z => by rw [← z, upd_same] at hD; cases hD
    have fD1 : H2 D = none := by rw [upd_ne nSD.symm] at hD; exact hD
    refine lc_it walk_values (fun i H' => But S H2 H' ∧ H' S = some (.frz od (.dK kvs)) ∧ H' D = some (.lst ((((blindL ns).take i).map fun d => ((cyc d).length : Int) - 1).map V.int)))
      ⟨upd_but.trans (But.of (new_same hD)), by rw [upd_ne nSD]; exact upd_same, upd_same⟩ (fun i H' _ ⟨_, z, _⟩ => z) (fun i x H3 H4 hi hP hY => ?_) (fun H3 hP => ?_)
    · obtain ⟨u3, z3, e3⟩ := hP
      obtain ⟨rfl, k, hk⟩ := hY
      rw [t2.len] at hi
      obtain ⟨d, c, hd, hkv, hc⟩ := t2.at hi
      rw [hkv] at hk
      have hx : V.ref c = x := congrArg Prod.snd (Option.some.inj hk)
      subst hx
      have cS : c ≠ S := fun z => nS _ (by rw [← z]; exact hc)
      have hc3 := u3 _ _ hc cS
      refine ⟨rfl, .ref c, rfl, c, _, rfl, .inl (SqL.of hc3), _, 1, rfl, rfl, _, e3, ?_, ?_, ?_, ?_⟩
      · rw [List.length_map, List.length_map, List.length_take]
        have w1 := List.length_filter_le (blB ns) (divs ns.length ns.length)
        have w3 := divs_len (n := ns.length) ns.length
        have w4 : (blindL ns).length ≤ 40 := Nat.le_trans w1 (by omega)
        exact sz40 (by omega)
      · exact fun b o e ne => by
          rw [upd_ne (ne_of_none e fD1)]
          exact u3 b o e ne
      · rw [upd_ne nSD]
        exact z3
      · rw [upd_same, take_snoc hd, List.map_append, List.map_append, List.length_map]
        rfl
    · obtain ⟨u3, z3, e3⟩ := hP
      rw [t2.len, List.take_of_length_le (Nat.le_refl _)] at e3
      refine ⟨D, _, rfl, SqL.of e3, ?_⟩
      rw [degI (fun d hd => by have := blind_mem hd; omega)]
      exact q H3 (fun b o e => u3 _ _ (s12 _ _ e) (ne_of_none e fS))
def toI : PyData → Int
  | .int i => i
  | _ => 0
/-- hidden, over data of any kind -/
def hidB (ns : List Int) : PyData → Bool
  | .list ds => (decide (ds.length = ns.length) && ds.all oneQ) && (lightsV ns (ds.map toI)).all fun x => decide (x = 0)
  | _ => false
theorem DqAll.ones {H : Hp} : ∀ {xs : List V} {ds : List PyData}, DqAll H xs ds → ds.all oneQ = true → xs = (ds.map toI).map V.int
  | _, _, .nil, _ => rfl
  | _, _, .cons (d := d) h hs, e => by
    rw [List.all_cons, Bool.and_eq_true] at e
    rw [List.map_cons, List.map_cons, ← DqAll.ones hs e.2]
    cases h with
    | int i => rfl
    | non => exact absurd e.1 (by show ¬ false = true; decide)
    | bl b => exact absurd e.1 (by show ¬ false = true; decide)
    | str x => exact absurd e.1 (by show ¬ false = true; decide)
    | lst _ _ => exact absurd e.1 (by show ¬ false = true; decide)
    | tup _ _ => exact absurd e.1 (by show ¬ false = true; decide)
    | emp _ => exact absurd e.1 (by show ¬ false = true; decide)
def AbD (k : Nat) : PyData → Prop
  | .list ds => Ab k (ds.map toI)
  | _ => True
def spHidden : Sp := fun vs H Q _ => ∃ (a : Addr) (ns : List Int) (v : V) (d : PyData), vs = [.ref a, v] ∧ H a = some (.lst (ns.map V.int)) ∧ Rim ns ∧ Dq H v d ∧ AbD 1920 d ∧ ∀ H', Same H H' → Q (.bl (hidB ns d)) H'
theorem ok_is_hidden (T : Txt K mg) : FnOk P w K mg base CX0 5 T.a_is_hidden T.d_is_hidden ["disc", "value"] spHidden := by
  have G_check_disc := ok_check_disc (P := P) (w := w) (base := base) T
  have G_is_row := ok_is_row (P := P) (w := w) (base := base) T
  have G_lights_between := ok_lights_between (P := P) (w := w) (base := base) T
  refine T.F_is_hidden.ok sc_is_hidden (fun vs H Q E h => ?_) (fun cdv A outer s H vs Q E hr h => ?_)
  · obtain ⟨_, _, _, _, rfl, _⟩ := h
    rfl
  · obtain ⟨a, ns, v, d, rfl, hA, hR, hd, hab, q⟩ := h
    refine ⟨_, (pss_cons (ps_expr (pe_call G_check_disc hr (by rfl) T.g_check_disc T.F_check_disc.kp T.b_check_disc .nil pass0 (pa_cons (pv 0) pa_nil)))
      (pss_one (ps_ret (pe_and (pe_call G_is_row (hr.mono (by decide)) (by rfl) T.g_is_row T.F_is_row.kp T.b_is_row .nil pass0 (pa_cons (pv 1) (pa_cons (pe_callB (lenL (K := K) rfl) (by rfl) T.n_len (by decide +kernel) (pa_cons (pv 0) pa_nil)) pa_nil))) (pe_one (pe_not (pe_callB (cr_anyI (K := K) rfl rfl) (by rfl) T.n_any (by decide +kernel) (pa_cons (pe_call G_lights_between (hr.mono (by decide)) (by rfl) T.g_lights_between T.F_lights_between.kp T.b_lights_between .nil pass0 (pa_cons (pv 0) (pa_cons (pv 1) pa_nil))) pa_nil)))))))), ?_⟩
    have l40 := hR.le
    have l1 := hR.pos
    refine ⟨.ref a, rfl, a, ns, rfl, hA, hR, fun H1 s1 => ?_⟩
    refine ⟨v, rfl, .ref a, rfl, a, _, rfl, .inl (SqL.of (s1 _ _ hA)), v, d, ns.length, by rw [List.length_map]; rfl, hd.same s1, fun H2 s2 => ⟨_, rfl, ?_⟩⟩
    have s12 := s1.trans s2
    have q2 := q H2 s12
    cases hd with
    | @lst b xs ds h1 h2 =>
      show if (decide (ds.length = ns.length) && ds.all oneQ) = true then _ else _
      have q3 : ∀ H', Same H H' → Q (.bl ((decide (ds.length = ns.length) && ds.all oneQ) && (lightsV ns (ds.map toI)).all fun x => decide (x = 0))) H' := q
      cases z : (decide (ds.length = ns.length) && ds.all oneQ) with
      | false =>
        have q4 := q3 H2 s12
        rw [z, Bool.false_and] at q4
        exact iteF q4
      | true =>
        have zz := (Bool.and_eq_true _ _).mp z
        have hl := of_decide_eq_true zz.1
        have ex := h2.ones zz.2
        have hB : H2 b = some (.lst ((ds.map toI).map V.int)) := by rw [← ex]; exact s12 _ _ h1
        refine iteT ⟨.ref a, rfl, .ref b, rfl, a, b, ns, ds.map toI, rfl, SqL.of (s12 _ _ hA), SqL.of hB, by rw [List.length_map]; exact hl.symm, l1, l40, hR.ab, hab, fun l H3 s3 f3 e3 => ?_⟩
        refine ⟨l, _, rfl, SqL.of e3, _, rfl, ?_⟩
        have q4 := q3 H3 (s12.trans s3)
        rw [z, Bool.true_and] at q4
        rw [Bool.not_not]
        exact q4
    | non => exact iteF q2
    | bl _ => exact iteF q2
    | int _ => exact iteF q2
    | str _ => exact iteF q2
    | tup _ _ => exact iteF q2
    | emp _ => exact iteF q2

/-! ### _law_jar, _law_pick -/
def mixJ (y z : Int) : Int := (y + 611953 * z) ^ (3 : Int).toNat % (10 ^ (39 : Int).toNat + 3)
theorem e39 : (10 : Int) ^ (39 : Int).toNat + 3 = 1000000000000000000000000000000000000003 := by decide +kernel
theorem eJ : (10 : Int) ^ (26 : Int).toNat + 103 = 100000000000000000000000103 := by decide +kernel
theorem mixJ_in (y z : Int) : 0 ≤ mixJ y z ∧ mixJ y z < 1000000000000000000000000000000000000003 := by
  unfold mixJ
  rw [e39]
  exact ⟨Int.emod_nonneg _ (by decide), Int.emod_lt_of_pos _ (by decide)⟩
def spPick : Sp := fun vs H Q _ => ∃ (T : Addr) (m c : Int), vs = [.ref T, .int m] ∧ 0 < m ∧ m < 2 ^ 200 ∧ Tank H T c ∧ c < 2 ^ 40 ∧
  ∀ (r : Int) (H' : Hp), 0 ≤ r → r < m → Tank H' T (c + 1) → But T H H' → Q (.int r) H'
theorem ok_law_pick (T : Txt K mg) : FnOk P w K mg base CX0 1 T.a_law_pick T.d_law_pick ["jar", "bound"] spPick := by
  refine T.F_law_pick.ok sc_law_pick (fun vs H Q E h => ?_) (fun cdv A outer s H vs Q E hr h => ?_)
  · obtain ⟨_, _, _, rfl, _⟩ := h
    rfl
  · obtain ⟨t, m, c, rfl, hm0, hm, ⟨x, y, z, hT, hx, hy0, hy, hz0, hz⟩, hc, q⟩ := h
    refine ⟨_, (pss_cons (ps_if (pt_cmpR op_gt (pe_ix (ixL (K := K) rfl) (pv 0) pe_int (fun _ _ => rfl)) pe_int (nomark _)) (pss_cons (ps_set (i := 2) sc_law_pick.nd rfl (.inl rfl) (pe_op op_mod (pe_callTy call_int1 (by rfl) T.n_int (by decide +kernel) (pa_cons (pe_ix (ixL (K := K) rfl) (pv 0) pe_int (fun _ _ => rfl)) pa_nil)) (pv 1)))
      (pss_cons (ps_asg (pe_op op_fdivW (pe_ix (ixL (K := K) rfl) (pv 0) pe_int (fun _ _ => rfl)) (pv 1)) (pg_sub (pv 0) pe_int set_list))
      (pss_one (ps_ret (pv 2))))) pss_nil)
      (pss_cons (ps_asg (pe_op op_add (pe_ix (ixL (K := K) rfl) (pv 0) pe_int (fun _ _ => rfl)) pe_int) (pg_sub (pv 0) pe_int set_list))
      (pss_cons (ps_set (i := 3) sc_law_pick.nd rfl (.inl rfl) (pe_op op_mod (pe_callTy call_int1 (by rfl) T.n_int (by decide +kernel) (pa_cons (pe_op op_pow3 (pe_op op_add (pe_ix (ixL (K := K) rfl) (pv 0) pe_int (fun _ _ => rfl)) (pe_op op_mul pe_int (pe_ix (ixL (K := K) rfl) (pv 0) pe_int (fun _ _ => rfl)))) pe_int) pa_nil)) (pe_op op_add (pe_op op_pow pe_int pe_int) pe_int)))
      (pss_cons (ps_set (i := 3) sc_law_pick.nd rfl (.inl rfl) (pe_op op_mod (pe_callTy call_int1 (by rfl) T.n_int (by decide +kernel) (pa_cons (pe_op op_pow3 (pe_op op_add (pv 3) (pe_op op_mul pe_int (pe_ix (ixL (K := K) rfl) (pv 0) pe_int (fun _ _ => rfl)))) pe_int) pa_nil)) (pe_op op_add (pe_op op_pow pe_int pe_int) pe_int)))
      (pss_one (ps_ret (pe_op op_mod (pe_callTy call_int1 (by rfl) T.n_int (by decide +kernel) (pa_cons (pe_op op_fdivW (pv 3) pe_int) pa_nil)) (pv 1)))))))), ?_⟩
    refine ⟨.ref t, rfl, t, _, 0, .int x, rfl, rfl, SqL.of hT, rfl, x, 0, rfl, rfl, _, rfl, ite2 (fun h => ?_) (fun h => ?_)⟩
    · have hx1 : 0 < x := of_decide_eq_true h
      refine ⟨.ref t, rfl, t, _, 0, .int x, rfl, rfl, SqL.of hT, rfl, .inl ⟨x, rfl, .int m, rfl, x, m, rfl, rfl, hm0, ?_⟩⟩
      refine ⟨.ref t, rfl, t, _, 0, .int x, rfl, rfl, SqL.of hT, rfl, .int m, rfl, x, m, rfl, rfl, wide_div (b := 200) hm0 (by omega) (by decide) (by decide), ?_⟩
      refine ⟨.ref t, rfl, t, _, 0, 0, rfl, rfl, hT, rfl, ?_⟩
      refine ⟨.int (x % m), rfl, q _ _ (Int.emod_nonneg _ (by omega)) (Int.emod_lt_of_pos _ hm0) ⟨x / m, y, z, upd_same, Int.ediv_nonneg hx (by omega), hy0, hy, hz0, by omega⟩ upd_but⟩
    · refine ⟨.ref t, rfl, t, _, 2, .int z, rfl, rfl, SqL.of hT, rfl, z, 1, rfl, rfl, ?_⟩
      refine ⟨.ref t, rfl, t, _, 2, 2, rfl, rfl, hT, rfl, ?_⟩
      have hT2 : (upd H t (.lst [.int x, .int y, .int (z + 1)])) t = some (.lst [.int x, .int y, .int (z + 1)]) := upd_same
      refine ⟨.ref t, rfl, t, _, 1, .int y, rfl, rfl, SqL.of hT2, rfl, .ref t, rfl, t, _, 2, .int (z + 1), rfl, rfl, SqL.of hT2, rfl, 611953, z + 1, rfl, rfl, .inl ⟨by decide, by decide⟩, ?_⟩
      refine ⟨y, 611953 * (z + 1), rfl, rfl, _, 3, rfl, rfl, ⟨rfl, by omega, by omega⟩, .inl ⟨_, rfl, 10, 39, rfl, rfl, ⟨by decide, by decide, by decide⟩, _, 3, rfl, rfl, _, _, rfl, rfl, (by show (0 : Int) < 10 ^ (39 : Int).toNat + 3; decide +kernel), ?_⟩⟩
      obtain ⟨g0, g1⟩ := mixJ_in y (z + 1)
      refine ⟨.int (mixJ y (z + 1)), rfl, .ref t, rfl, t, _, 2, .int (z + 1), rfl, rfl, SqL.of hT2, rfl, 86028121, z + 1, rfl, rfl, .inl ⟨by decide, by decide⟩, ?_⟩
      refine ⟨mixJ y (z + 1), 86028121 * (z + 1), rfl, rfl, _, 3, rfl, rfl, ⟨rfl, by omega, by omega⟩, .inl ⟨_, rfl, 10, 42, rfl, rfl, ⟨by decide, by decide, by decide⟩, _, 63, rfl, rfl, _, _, rfl, rfl, (by show (0 : Int) < 10 ^ (42 : Int).toNat + 63; decide +kernel), ?_⟩⟩
      refine ⟨_, rfl, _, 919393, rfl, rfl, wide_div (b := 30) (by decide) (by decide) (by decide) (by decide), .inl ⟨_, rfl, .int m, rfl, _, m, rfl, rfl, hm0, ?_⟩⟩
      exact q _ _ (Int.emod_nonneg _ (by omega)) (Int.emod_lt_of_pos _ hm0) ⟨x, y, z + 1, upd_same, hx, hy0, hy, by omega, by omega⟩ upd_but
def spJar (K : PySem.W.Frag) : Sp := fun vs H Q _ => ∃ (a : Addr) (ns : List Int) (i : Int), vs = [.ref a, .int i] ∧ SqL K H a (ns.map V.int) ∧ 0 ≤ i ∧ i < 100 ∧
  ∀ (t : Addr) (H' : Hp), Same H H' → H t = none → Tank H' t 0 → Q (.ref t) H'
theorem ok_law_jar (T : Txt K mg) : FnOk P w K mg base CX0 1 T.a_law_jar T.d_law_jar ["script", "at"] (spJar K) := by
  refine T.F_law_jar.ok sc_law_jar (fun vs H Q E h => ?_) (fun cdv A outer s H vs Q E hr h => ?_)
  · obtain ⟨_, _, _, rfl, _⟩ := h
    rfl
  · obtain ⟨a, ns, i, rfl, hS, hi0, hi, q⟩ := h
    refine ⟨_, (pss_cons (ps_set (i := 2) sc_law_jar.nd rfl (.inl rfl) (pe_ifExp (pt_cmpR op_lt (pv 1) (pe_callB (lenL (K := K) rfl) (by rfl) T.n_len (by decide +kernel) (pa_cons (pv 0) pa_nil)) (nomark _)) (pe_ix (ixL (K := K) rfl) (pv 0) (pv 1) (fun _ _ => rfl)) pe_int))
      (pss_one (ps_ret (pe_lst (pa_cons (pe_callB (call_max2 rfl) (by rfl) T.n_max (by decide +kernel) (pa_cons pe_int (pa_cons (pe_op op_add (pe_op op_sub (pe_callB call_abs (by rfl) T.n_abs (by decide +kernel) (pa_cons (pv 2) pa_nil)) (pe_op op_pow pe_int pe_int)) pe_int) pa_nil))) (pa_cons (pe_op op_add (pe_op op_mod (pe_callTy call_int1 (by rfl) T.n_int (by decide +kernel) (pa_cons (pv 2) pa_nil)) (pe_op op_add (pe_op op_pow pe_int pe_int) pe_int)) (pe_op op_mul pe_int (pe_op op_add (pv 1) pe_int))) (pa_cons pe_int pa_nil))))))), ?_⟩
    have fin : ∀ c : Int, (fun σ H' => ∃ y2, σ = [some (.ref a), some (.int i), some y2] ∧ y2 = V.int c ∧ H' = H) [some (.ref a), some (.int i), some (V.int c)] H := fun c => ⟨_, rfl, rfl, rfl⟩
    have key : ∀ c : Int, (0 : Int) ≤ max 0 ((if c < 0 then -c else c) - 10 ^ 18 + 1) := fun c => Int.le_max_left _ _
    refine ⟨.int i, rfl, .ref a, rfl, a, _, rfl, .inl hS, i, _, rfl, rfl, _, rfl, ite2 (fun h => ?_) (fun h => ?_)⟩
    · have h1 : i < ns.length := by
        have := of_decide_eq_true h
        rw [List.length_map] at this
        exact this
      obtain ⟨c, hc, hat⟩ := at_in hi0 h1
      refine ⟨.ref a, rfl, .int i, rfl, a, _, i, .int c, rfl, rfl, hS, hat, ?_⟩
      refine ⟨.int c, rfl, c, rfl, 10, 18, rfl, rfl, ⟨by decide, by decide, by decide⟩, _, _, rfl, rfl, _, 1, rfl, rfl, 0, _, rfl, ?_⟩
      refine ⟨.int c, rfl, .inl ⟨c, rfl, 10, 26, rfl, rfl, ⟨by decide, by decide, by decide⟩, _, 103, rfl, rfl, c, _, rfl, rfl, (by show (0 : Int) < 10 ^ (26 : Int).toNat + 103; decide +kernel), .int i, rfl, i, 1, rfl, rfl, 90017, i + 1, rfl, rfl, .inl ⟨by decide, by decide⟩, _, _, rfl, rfl, (by show 3 ≤ sizeLine; decide), fun t ht => ?_⟩⟩
      have m0 := Int.emod_nonneg c (show (100000000000000000000000103 : Int) ≠ 0 by decide)
      have m1 := Int.emod_lt_of_pos c (show (0 : Int) < 100000000000000000000000103 by decide)
      rw [eJ]
      refine q t _ (new_same ht) ht ⟨_, _, 0, upd_same, ?_, by omega, by omega, by omega, by omega⟩
      split <;> omega
    · refine ⟨.int 0, rfl, 0, rfl, 10, 18, rfl, rfl, ⟨by decide, by decide, by decide⟩, _, _, rfl, rfl, _, 1, rfl, rfl, 0, _, rfl, ?_⟩
      refine ⟨.int 0, rfl, .inl ⟨0, rfl, 10, 26, rfl, rfl, ⟨by decide, by decide, by decide⟩, _, 103, rfl, rfl, 0, _, rfl, rfl, (by show (0 : Int) < 10 ^ (26 : Int).toNat + 103; decide +kernel), .int i, rfl, i, 1, rfl, rfl, 90017, i + 1, rfl, rfl, .inl ⟨by decide, by decide⟩, _, _, rfl, rfl, (by show 3 ≤ sizeLine; decide), fun t ht => ?_⟩⟩
      rw [Int.zero_emod]
      refine q t _ (new_same ht) ht ⟨_, _, 0, upd_same, ?_, by omega, by omega, by omega, by omega⟩
      split <;> omega

/-! ### _law_spread -/
def In0 (B : Int) (ns : List Int) : Prop := ∀ n ∈ ns, 0 ≤ n ∧ n ≤ B
theorem in0_sum {B : Int} (hB : 0 ≤ B) : ∀ {ns : List Int}, In0 B ns → 0 ≤ ns.sum ∧ ns.sum ≤ (ns.length : Int) * B
  | [], _ => by simp
  | x :: l, h => by
    have h1 := h x List.mem_cons_self
    have h2 := in0_sum hB (ns := l) fun y hy => h y (List.mem_cons_of_mem _ hy)
    rw [List.sum_cons, List.length_cons, Int.natCast_add, Int.add_mul]
    omega
def spSpread (K : PySem.W.Frag) : Sp := fun vs H Q _ => ∃ (a : Addr) (ns : List Int) (st m B : Int), vs = [.ref a, .int st, .int m] ∧ SqL K H a (ns.map V.int) ∧ 1 ≤ ns.length ∧ ns.length ≤ 40 ∧ In0 B ns ∧ 0 ≤ B ∧ 0 ≤ st ∧ st ≤ 40 ∧ 0 ≤ m ∧ m ≤ 40 ∧
  ∀ (l : Addr) (rs : List Int) (H' : Hp), Same H H' → H l = none → H' l = some (.lst (rs.map V.int)) → rs.length = ns.length → In0 (40 * B) rs → Q (.ref l) H'
theorem ok_law_spread (T : Txt K mg) : FnOk P w K mg base CX0 1 T.a_law_spread T.d_law_spread ["some", "step", "many"] (spSpread K) := by
  refine T.F_law_spread.ok sc_law_spread (fun vs H Q E h => ?_) (fun cdv A outer s H vs Q E hr h => ?_)
  · obtain ⟨_, _, _, _, _, rfl, _⟩ := h
    rfl
  · obtain ⟨a, ns, st, m, B, rfl, hS, l1, l40, hI, hB, st0, st1, m0, m1, q⟩ := h
    refine ⟨_, (pss_cons (ps_set (i := 3) sc_law_spread.nd rfl (.inr rfl) (pe_callB (lenL (K := K) rfl) (by rfl) T.n_len (by decide +kernel) (pa_cons (pv 0) pa_nil)))
      (pss_one (ps_ret (pe_lc (own := [("spot", 4)]) (g := gName 4) (tt := tYes) (by rfl) sc_law_spread.nd (pi_range1 (by rfl) T.n_range (pa_cons (pv 3) pa_nil)) (blkOk_by (own := [("spot", 4)]) (N := ["some", "step", "many", "size", "spot", "lap"]) (sc := defScope s_law_spread) (by decide +kernel))
        (fun _ _ _ _ _ => (pg_name (i := 4) sc_law_spread.nd rfl (Or.inr rfl))) (fun _ _ _ _ _ => pts_nil) (fun _ _ _ _ _ => (pe_callB (sumL (K := K) rfl rfl) (by rfl) T.n_sum (by decide +kernel) (pa_cons (pe_lc (own := [("lap", 5)]) (g := gName 5) (tt := tYes) (by rfl) sc_law_spread.nd (pi_range1 (by rfl) T.n_range (pa_cons (pv 2) pa_nil)) (blkOk_by (own := [("lap", 5)]) (N := ["some", "step", "many", "size", "spot", "lap"]) (sc := { kind := ScopeKind.function, names := [(".0", NameKind.local), ("spot", NameKind.cell), ("sum", NameKind.globalImplicit), ("range", NameKind.globalImplicit), ("many", NameKind.cell), ("size", NameKind.cell), ("some", NameKind.cell), ("step", NameKind.cell)], isGenerator := false, isCoroutine := false }) (by decide +kernel))
        (fun _ _ _ _ _ => (pg_name (i := 5) sc_law_spread.nd rfl (Or.inl rfl))) (fun _ _ _ _ _ => pts_nil) (fun _ _ _ _ _ => (pe_ix (ixL (K := K) rfl) (pv 0) (pe_op op_mod (pe_callTy call_int1 (by rfl) T.n_int (by decide +kernel) (pa_cons (pe_op op_sub (pv 4) (pe_op op_mul (pv 1) (pv 5))) pa_nil)) (pv 3)) (fun _ _ => rfl)))) pa_nil))))))), ?_⟩
    refine ⟨.ref a, rfl, a, _, rfl, .inl hS, ?_⟩
    rw [List.length_map]
    refine ⟨.int ns.length, rfl, ns.length, rfl, by omega, by omega, fun D hD => lc_range (lo := 0) (n := ((ns.length : Nat) : Int).toNat)
      (fun i H' => ∃ rs : List Int, Same H H' ∧ H' D = some (.lst (rs.map V.int)) ∧ rs.length = i ∧ In0 (40 * B) rs) ⟨[], new_same hD, upd_same, rfl, fun r hr => (List.not_mem_nil hr).elim⟩ (fun i H1 hi hP => ⟨rfl, ?_⟩) (fun H1 hP => ?_)⟩
    · obtain ⟨rs, s1, g1, hrl, hrs⟩ := hP
      rw [Int.toNat_natCast] at hi
      refine ⟨.int m, rfl, m, rfl, by omega, by omega, fun D2 hD2 => lc_range (lo := 0) (n := m.toNat)
        (fun j H' => ∃ qs : List Int, Same H1 H' ∧ H' D2 = some (.lst (qs.map V.int)) ∧ qs.length = j ∧ In0 B qs) ⟨[], new_same hD2, upd_same, rfl, fun r hr => (List.not_mem_nil hr).elim⟩ (fun j H2 hj hP => ⟨rfl, ?_⟩) (fun H2 hP => ?_)⟩
      · obtain ⟨qs, s2, g2, hql, hqs⟩ := hP
        have s12 := s1.trans s2
        have hm := mod_in (i := (0 + (i : Int)) - st * (0 + (j : Int))) (show 0 < ns.length by omega)
        obtain ⟨x, hx, hatx⟩ := at_in hm.1 hm.2
        have bx := hI x (List.mem_of_getElem? hx)
        refine ⟨.ref a, rfl, .int (0 + i), rfl, .int st, rfl, .int (0 + j), rfl, st, 0 + j, rfl, rfl, .inl ⟨by omega, by omega⟩, 0 + i, _, rfl, rfl, .inl ⟨_, rfl, .int ns.length, rfl, _, _, rfl, rfl, (by show (0 : Int) < _; omega), ?_⟩⟩
        refine ⟨a, _, _, .int x, rfl, rfl, s12.seq hS, hatx, _, g2, by rw [List.length_map]; exact sz40 (by omega), qs ++ [x], same_over s2 hD2, by rw [upd_same, List.map_append]; rfl, by rw [List.length_append]; show qs.length + 1 = j + 1; omega, fun z hz => ?_⟩
        rcases List.mem_append.mp hz with h | h
        · exact hqs z h
        · rw [List.mem_singleton.mp h]
          exact bx
      · obtain ⟨qs, s2, g2, hql, hqs⟩ := hP
        have hsum := in0_sum hB hqs
        have hle : (qs.length : Int) * B ≤ 40 * B := Int.mul_le_mul_of_nonneg_right (by omega) hB
        refine ⟨D2, _, rfl, SqL.of g2, _, s2 _ _ g1, by rw [List.length_map]; exact sz40 (by omega), rs ++ [qs.sum], same_over (s1.trans s2) hD, by rw [upd_same, List.map_append]; rfl, by rw [List.length_append]; show rs.length + 1 = i + 1; omega, fun z hz => ?_⟩
        rcases List.mem_append.mp hz with h | h
        · exact hrs z h
        · rw [List.mem_singleton.mp h]
          omega
    · obtain ⟨rs, s1, g1, hrl, hrs⟩ := hP
      rw [Int.toNat_natCast] at hrl
      exact q D rs H1 s1 hD g1 hrl hrs

/-! ### _law_size, _law_lights -/
def spSize : Sp := fun vs H Q _ => ∃ (T : Addr) (m c : Int), vs = [.ref T, .int m] ∧ 1 ≤ m ∧ m ≤ 40 ∧ Tank H T c ∧ 0 ≤ c ∧ c < 2 ^ 39 ∧
  ∀ (r : Int) (H' : Hp), 1 ≤ r → r ≤ m → Tank H' T (c + 2) → But T H H' → Q (.int r) H'
theorem ok_law_size (T : Txt K mg) : FnOk P w K mg base CX0 2 T.a_law_size T.d_law_size ["jar", "most"] spSize := by
  have G_law_pick := ok_law_pick (P := P) (w := w) (base := base) T
  refine T.F_law_size.ok sc_law_size (fun vs H Q E h => ?_) (fun cdv A outer s H vs Q E hr h => ?_)
  · obtain ⟨_, _, _, rfl, _⟩ := h
    rfl
  · obtain ⟨t, m, c, rfl, hm1, hm, hT, hc0, hc, q⟩ := h
    refine ⟨_, (pss_cons (ps_set (i := 2) sc_law_size.nd rfl (.inl rfl) (pe_lst (pa_cons (pe_op op_add pe_int (pe_call G_law_pick hr (by rfl) T.g_law_pick T.F_law_pick.kp T.b_law_pick .nil pass0 (pa_cons (pv 0) (pa_cons (pv 1) pa_nil)))) (pa_cons pe_int (pa_cons pe_int (pa_cons pe_int (pa_cons pe_int (pa_cons pe_int (pa_cons pe_int (pa_cons pe_int (pa_cons (pv 1) pa_nil)))))))))))
      (pss_one (ps_ret (pe_callB (call_min2 rfl) (by rfl) T.n_min (by decide +kernel) (pa_cons (pv 1) (pa_cons (pe_ix (ixL (K := K) rfl) (pv 2) (pe_call G_law_pick hr (by rfl) T.g_law_pick T.F_law_pick.kp T.b_law_pick .nil pass0 (pa_cons (pv 0) (pa_cons pe_int pa_nil))) (fun _ _ => rfl)) pa_nil)))))), ?_⟩
    refine ⟨.ref t, rfl, .int m, rfl, t, m, c, rfl, by omega, by omega, hT, by omega, fun r1 H1 a1 b1 k1 u1 => ?_⟩
    refine ⟨1, r1, rfl, rfl, .int m, rfl, (by show 9 ≤ sizeLine; decide), fun l hl => ?_⟩
    refine ⟨.int m, rfl, .ref l, rfl, .ref t, rfl, t, 9, c + 1, rfl, by omega, by omega, k1.up hl, by omega, fun r3 H3 a3 b3 k3 u3 => ?_⟩
    have hl3 : H3 l = some (.lst (([1 + r1, 12, 8, 6, 4, 9, 7, 10, m] : List Int).map V.int)) := u3 _ _ upd_same (k1.ne hl)
    obtain ⟨n, hn, hat⟩ := at_in (ns := [1 + r1, 12, 8, 6, 4, 9, 7, 10, m]) a3 (by show r3 < 9; omega)
    have hn1 : 1 ≤ n := by
      have := List.mem_of_getElem? hn
      simp only [List.mem_cons, List.not_mem_nil, or_false] at this
      omega
    refine ⟨l, _, r3, .int n, rfl, rfl, SqL.of hl3, hat, m, n, rfl, ?_⟩
    have hb : But t H H3 := (u1.trans (But.of (new_same hl))).trans u3
    split
    · exact q _ _ hn1 (by omega) (k3.mono (by omega)) hb
    · exact q _ _ hm1 (by omega) (k3.mono (by omega)) hb
theorem at_neg {ms : List Int} {k : Int} (h0 : -(ms.length : Int) ≤ k) (h1 : k < ms.length) : atI (ms.map V.int) k = some (.int (ms.getD ((k % (ms.length : Int)).toNat) 0)) := by
  by_cases c : 0 ≤ k
  · obtain ⟨n, hn, hat⟩ := at_in c h1
    rw [hat, Int.emod_eq_of_lt c h1, getD_at hn]
  · have e : k % (ms.length : Int) = k + ms.length := by
      rw [← Int.add_emod_right, Int.emod_eq_of_lt (by omega) (by omega)]
    have hlt : (k + (ms.length : Int)).toNat < ms.length := by omega
    rw [e]
    unfold atI ixN
    rw [if_neg c, List.length_map, if_pos h0]
    show (ms.map V.int)[(k + (ms.length : Int)).toNat]? = _
    rw [List.getElem?_map, at_getD hlt]
    rfl
def spLLights (K : PySem.W.Frag) : Sp := fun vs H Q _ => ∃ (a b : Addr) (ns ms : List Int), vs = [.ref a, .ref b] ∧ SqL K H a (ns.map V.int) ∧ SqL K H b (ms.map V.int) ∧ ns.length = ms.length ∧ 1 ≤ ns.length ∧ ns.length ≤ 40 ∧ Ab 100 ns ∧ Ab 1920 ms ∧
  ∀ (l : Addr) (H' : Hp), Same H H' → H l = none → H' l = some (.lst ((lightsV ns ms).map V.int)) → Q (.ref l) H'
theorem ok_law_lights (T : Txt K mg) : FnOk P w K mg base CX0 1 T.a_law_lights T.d_law_lights ["disc_here", "other_here"] (spLLights K) := by
  refine T.F_law_lights.ok sc_law_lights (fun vs H Q E h => ?_) (fun cdv A outer s H vs Q E hr h => ?_)
  · obtain ⟨_, _, _, _, rfl, _⟩ := h
    rfl
  · obtain ⟨a, b, ns, ms, rfl, hS, hS2, hl, l1, l40, hA, hB, q⟩ := h
    refine ⟨_, (pss_cons (ps_par (i := 2) (j := 3) (by rfl) sc_law_lights.nd rfl rfl (by decide) rfl rfl (pa_cons (pe_callB (lenL (K := K) rfl) (by rfl) T.n_len (by decide +kernel) (pa_cons (pv 0) pa_nil)) (pa_cons (pe_lst pa_nil) pa_nil)) (by rfl))
      (pss_cons (ps_for PassesOwn.never rfl (pi_range1 (by rfl) T.n_range (pa_cons (pv 2) pa_nil)) (pg_name (i := 4) sc_law_lights.nd rfl (.inr rfl)) (pss_one (ps_expr (pe_bm PySem.F.plainAttrs_list PySem.F.slot_list_append PySem.F.type_list_append mt_append (pv 3) (pa_cons (pe_callB (sumL (K := K) rfl rfl) (by rfl) T.n_sum (by decide +kernel) (pa_cons (pe_lc (own := [("spot", 5)]) (g := gName 5) (tt := tYes) (by rfl) sc_law_lights.nd (pi_range1 (by rfl) T.n_range (pa_cons (pv 2) pa_nil)) (blkOk_by (own := [("spot", 5)]) (N := ["disc_here", "other_here", "size", "found", "turn_here", "spot"]) (sc := defScope s_law_lights) (by decide +kernel))
        (fun _ _ _ _ _ => (pg_name (i := 5) sc_law_lights.nd rfl (Or.inl rfl))) (fun _ _ _ _ _ => pts_nil) (fun _ _ _ _ _ => (pe_op op_mulW (pe_ix (ixL (K := K) rfl) (pv 0) (pv 5) (fun _ _ => rfl)) (pe_ix (ixL (K := K) rfl) (pv 1) (pe_op op_sub (pv 5) (pv 4)) (fun _ _ => rfl))))) pa_nil)) pa_nil)))))
      (pss_one (ps_ret (pv 3))))), ?_⟩
    refine ⟨.ref a, rfl, a, _, rfl, .inl hS, (by show 0 ≤ sizeLine; decide), fun F hF => ?_⟩
    rw [List.length_map]
    refine ⟨_, _, rfl, ?_⟩
    have s1 := new_same (o := .lst []) hF
    have g1 := upd_same (H := H) (a := F) (o := .lst [])
    generalize upd H F (.lst []) = H1 at s1 g1 ⊢
    refine ⟨.int ns.length, rfl, ns.length, rfl, by omega, by omega, for_range (lo := 0) (n := ((ns.length : Nat) : Int).toNat)
      (fun i σ H' => ∃ y3 y4 : Option V, σ = [some (.ref a), some (.ref b), some (.int ns.length), some (.ref F), y3, y4] ∧ Same H H' ∧ H' F = some (.lst (((lightsV ns ms).take i).map V.int))) ⟨_, _, rfl, s1, g1⟩ (fun i σ H2 hi hP => ?_) (fun σ H2 hP => ?_)⟩
    · obtain ⟨y3, y4, rfl, s2, g2⟩ := hP
      rw [Int.toNat_natCast] at hi
      refine ⟨.ref F, rfl, .inl ⟨rfl, _, SqL.of g2⟩, .int ns.length, rfl, ns.length, rfl, by omega, by omega, fun D hD => lc_range (lo := 0) (n := ((ns.length : Nat) : Int).toNat)
        (fun j H' => Same H2 H' ∧ H' D = some (.lst (((prods ns (rot ms (i : Int))).take j).map V.int))) ⟨new_same hD, upd_same⟩ (fun j H3 hj hP => ⟨rfl, ?_⟩) (fun H3 hP => ?_)⟩
      · obtain ⟨s3, hD3⟩ := hP
        rw [Int.toNat_natCast] at hj
        have s23 := s2.trans s3
        obtain ⟨x, hx, hatx⟩ := at_in (ns := ns) (i := 0 + (j : Int)) (by omega) (by omega)
        have haty := at_neg (ms := ms) (k := (0 + (j : Int)) - (0 + (i : Int))) (by omega) (by omega)
        have hm := mod_in (i := (0 + (j : Int)) - (0 + (i : Int))) (show 0 < ms.length by omega)
        have hy : ms[((0 + (j : Int) - (0 + (i : Int))) % (ms.length : Int)).toNat]? = some (ms.getD (((0 + (j : Int) - (0 + (i : Int))) % (ms.length : Int)).toNat) 0) := at_getD (by omega)
        generalize hyv : ms.getD (((0 + (j : Int) - (0 + (i : Int))) % (ms.length : Int)).toNat) 0 = y at haty hy
        refine ⟨.ref a, rfl, .int (0 + j), rfl, a, _, _, .int x, rfl, rfl, s23.seq hS, hatx, ?_⟩
        refine ⟨.ref b, rfl, .int (0 + j), rfl, .int (0 + i), rfl, 0 + j, 0 + i, rfl, rfl, ?_⟩
        refine ⟨b, _, _, .int y, rfl, rfl, s23.seq hS2, haty, x, y, rfl, rfl, wide_mul (hA.at hx) (hB.at hy) (by decide) (by decide) (by decide), ?_⟩
        refine ⟨_, hD3, ?_, same_over s3 hD, ?_⟩
        · rw [List.length_map, List.length_take]
          exact sz40 (by omega)
        · rw [upd_same, take_next]
          refine prods_at ?_ ?_
          · rw [Int.zero_add, Int.toNat_natCast] at hx
            exact hx
          · rw [rot_at (by omega), ← hyv]
            rw [show (j : Int) - (i : Int) = (0 + (j : Int)) - (0 + (i : Int)) by omega]
      · obtain ⟨s3, hD3⟩ := hP
        rw [Int.toNat_natCast, take_all (by rw [prods_len, rot_len]; omega)] at hD3
        have s23 := s2.trans s3
        refine ⟨D, _, rfl, SqL.of hD3, F, _, _, rfl, rfl, s3 _ _ g2, ?_, ?_⟩
        · rw [List.length_map, List.length_take]
          exact sz40 (by omega)
        · refine ⟨_, _, rfl, same_over s23 hF, ?_⟩
          rw [upd_same, take_next]
          rw [lightsV_at hi]
          rfl
    · obtain ⟨y3, y4, rfl, s2, g2⟩ := hP
      rw [Int.toNat_natCast, take_all (by rw [lightsV_len]; exact Nat.le_refl _)] at g2
      exact ⟨.ref F, rfl, q F H2 s2 hF g2⟩

/-! ### _law_some_disc -/
def spSome : Sp := fun vs H Q _ => ∃ (T : Addr) (n c : Int), vs = [.ref T, .int n] ∧ 1 ≤ n ∧ n ≤ 40 ∧ Tank H T c ∧ 0 ≤ c ∧ c < 2 ^ 38 ∧
  ∀ (l : Addr) (ns : List Int) (H' : Hp), Rim ns → (ns.length : Int) = n → But T H H' → H l = none → H' l = some (.lst (ns.map V.int)) → Tank H' T (c + 150) → Q (.ref l) H'
def MidSD (t : Addr) (H : Hp) (n k f B e : Int) : L2.St → Hp → Prop := fun σ' H' => ∃ (D : Addr) (ns : List Int) (y5 y6 y7 y8 : Option V),
  σ' = [some (.ref t), some (.int n), some (.int k), some (.int f), some (.ref D), y5, y6, y7, y8] ∧ In0 B ns ∧ (ns.length : Int) = n ∧ H D = none ∧ H' D = some (.lst (ns.map V.int)) ∧ But t H H' ∧ Tank H' t e
theorem in0_mono {A B : Int} {ns : List Int} (h : In0 A ns) (l : A ≤ B) : In0 B ns := fun n hn => by have := h n hn; omega
def upB (i : Nat) : Int := if i = 0 then 100000000000000000000000000 else if i = 1 then 4000000000000000000000000000 else 160000000000000000000000000000
theorem upB_step : ∀ {i : Nat}, i < 2 → 40 * upB i ≤ upB (i + 1)
  | 0, _ => by decide
  | 1, _ => by decide
theorem upB_mono : ∀ {i : Nat}, i < 2 → upB i ≤ upB (i + 1)
  | 0, _ => by decide
  | 1, _ => by decide
theorem upB_nn : ∀ i : Nat, 0 ≤ upB i ∧ upB i ≤ 160000000000000000000000000000 := fun i => by
  unfold upB
  split
  · decide
  · split <;> decide
theorem ok_law_some_disc (T : Txt K mg) : FnOk P w K mg base CX0 2 T.a_law_some_disc T.d_law_some_disc ["jar", "size"] spSome := by
  have G_law_pick := ok_law_pick (P := P) (w := w) (base := base) T
  have G_law_spread := ok_law_spread (P := P) (w := w) (base := base) T
  refine T.F_law_some_disc.ok sc_law_some_disc (fun vs H Q E h => ?_) (fun cdv A outer s H vs Q E hr h => ?_)
  · obtain ⟨_, _, _, rfl, _⟩ := h
    rfl
  · obtain ⟨t, n, c, rfl, hn1, hn, hT, hc0, hc, q⟩ := h
    have e26 : (10 : Int) ^ (26 : Int).toNat = 100000000000000000000000000 := by decide +kernel
    refine ⟨_, (pss_cons (ps_asg (pe_tup (pa_cons (pe_call G_law_pick hr (by rfl) T.g_law_pick T.F_law_pick.kp T.b_law_pick .nil pass0 (pa_cons (pv 0) (pa_cons pe_int pa_nil))) (pa_cons (pe_ix (ixL (K := K) rfl) (pe_lst (pa_cons (pe_op op_pow pe_int pe_int) (pa_cons pe_int (pa_cons pe_int (pa_cons pe_int (pa_cons pe_int (pa_cons (pe_op op_pow pe_int pe_int) pa_nil))))))) (pe_call G_law_pick hr (by rfl) T.g_law_pick T.F_law_pick.kp T.b_law_pick .nil pass0 (pa_cons (pv 0) (pa_cons pe_int pa_nil))) (fun _ _ => rfl)) pa_nil))) (pg_tupL (K := K) (n := 2) rfl rfl (pgs_cons (pg_name (i := 2) sc_law_some_disc.nd rfl (.inr rfl)) (pgs_cons (pg_name (i := 3) sc_law_some_disc.nd rfl (.inr rfl)) pgs_nil))))
      (pss_cons (ps_setLc (i := 4) (own := [("spot", 5)]) (g := gName 5) (tt := tYes) (by rfl) sc_law_some_disc.nd rfl rfl (sw_true rfl rfl rfl (by decide +kernel)) (pi_range1 (by rfl) T.n_range (pa_cons (pv 1) pa_nil)) (blkOk_by (own := [("spot", 5)]) (N := ["jar", "size", "kind", "far", "found", "spot", "lap", "parts", "part"]) (sc := defScope s_law_some_disc) (by decide +kernel))
        (fun _ _ _ _ _ => (pg_name (i := 5) sc_law_some_disc.nd rfl (Or.inl rfl))) (fun _ _ _ _ _ => pts_nil) (fun _ _ _ _ _ => (pe_call G_law_pick hr (by rfl) T.g_law_pick T.F_law_pick.kp T.b_law_pick .nil pass0 (pa_cons (pv 0) (pa_cons (pe_op op_add (pv 3) (pe_callTy call_int1 (by rfl) T.n_int (by decide +kernel) (pa_cons (pe_cmpR op_lt (pv 2) pe_int (nomark _)) pa_nil))) pa_nil)))))
      (pss_mid (ps_if (pt_cmpR op_eq (pv 2) pe_int (nomark _)) (pss_one (ps_setLc (i := 4) (own := [("spot", 5)]) (g := gName 5) (tt := tYes) (by rfl) sc_law_some_disc.nd rfl rfl (sw_true rfl rfl rfl (by decide +kernel)) (pi_range1 (by rfl) T.n_range (pa_cons (pv 1) pa_nil)) (blkOk_by (own := [("spot", 5)]) (N := ["jar", "size", "kind", "far", "found", "spot", "lap", "parts", "part"]) (sc := defScope s_law_some_disc) (by decide +kernel))
        (fun _ _ _ _ _ => (pg_name (i := 5) sc_law_some_disc.nd rfl (Or.inl rfl))) (fun _ _ _ _ _ => pts_nil) (fun _ _ _ _ _ => (pe_op op_mul (pe_callTy call_int1 (by rfl) T.n_int (by decide +kernel) (pa_cons (pe_cmpR op_eq (pv 5) pe_int (nomark _)) pa_nil)) (pe_op op_add pe_int (pe_call G_law_pick hr (by rfl) T.g_law_pick T.F_law_pick.kp T.b_law_pick .nil pass0 (pa_cons (pv 0) (pa_cons pe_int pa_nil)))))))) pss_nil)
      (pss_mid (ps_if (pt_cmpR op_eq (pv 2) pe_int (nomark _)) (pss_one (ps_set (i := 4) sc_law_some_disc.nd rfl (.inl rfl) (pe_op op_rep (pe_lst (pa_cons (pe_ix (ixL (K := K) rfl) (pv 4) pe_int (fun _ _ => rfl)) pa_nil)) (pv 1)))) pss_nil)
      (pss_cons (ps_for PassesOwn.never rfl (pi_range1 (by rfl) T.n_range (pa_cons (pe_call G_law_pick hr (by rfl) T.g_law_pick T.F_law_pick.kp T.b_law_pick .nil pass0 (pa_cons (pv 0) (pa_cons pe_int pa_nil))) pa_nil)) (pg_name (i := 6) sc_law_some_disc.nd rfl (.inl rfl)) (pss_cons (ps_setLc (i := 7) (own := [("part", 8)]) (g := gName 8) (by rfl) sc_law_some_disc.nd rfl rfl (sw_true rfl rfl rfl (by decide +kernel)) (pi_range2 (by rfl) T.n_range (pa_cons pe_int (pa_cons (pe_op op_add (pv 1) pe_int) pa_nil))) (blkOk_by (own := [("part", 8)]) (N := ["jar", "size", "kind", "far", "found", "spot", "lap", "parts", "part"]) (sc := defScope s_law_some_disc) (by decide +kernel))
        (fun _ _ _ _ _ => (pg_name (i := 8) sc_law_some_disc.nd rfl (Or.inl rfl))) (fun _ _ _ _ _ => (pts_one (pt_cmpR op_eq (pe_op op_mod (pe_callTy call_int1 (by rfl) T.n_int (by decide +kernel) (pa_cons (pv 1) pa_nil)) (pv 8)) pe_int (nomark _)))) (fun _ _ _ _ _ => (pv 8)))
      (pss_one (ps_if (pt_cmpR (neD (K := K) rfl hr) (pv 7) (pe_lst pa_nil) (nomark _)) (pss_cons (ps_set (i := 8) sc_law_some_disc.nd rfl (.inl rfl) (pe_ix (ixL (K := K) rfl) (pv 7) (pe_call G_law_pick hr (by rfl) T.g_law_pick T.F_law_pick.kp T.b_law_pick .nil pass0 (pa_cons (pv 0) (pa_cons (pe_callB (lenL (K := K) rfl) (by rfl) T.n_len (by decide +kernel) (pa_cons (pv 7) pa_nil)) pa_nil))) (fun _ _ => rfl)))
      (pss_one (ps_set (i := 4) sc_law_some_disc.nd rfl (.inl rfl) (pe_call G_law_spread hr (by rfl) T.g_law_spread T.F_law_spread.kp T.b_law_spread .nil pass0 (pa_cons (pv 4) (pa_cons (pe_ix (ixL (K := K) rfl) (pe_lst (pa_cons pe_int (pa_cons (pe_op op_fdivW (pv 1) (pv 8)) pa_nil))) (pe_call G_law_pick hr (by rfl) T.g_law_pick T.F_law_pick.kp T.b_law_pick .nil pass0 (pa_cons (pv 0) (pa_cons pe_int pa_nil))) (fun _ _ => rfl)) (pa_cons (pv 8) pa_nil))))))) pss_nil))))
      (pss_one (ps_ret (pv 4)))))))), ?_⟩
    obtain ⟨oT, hoT⟩ := hT.some
    -- kind, far
    refine ⟨.ref t, rfl, t, 6, c, rfl, by omega, by omega, hT, by omega, fun k H1 k0 k6 k1 u1 => ?_⟩
    refine ⟨10, 26, rfl, rfl, ⟨by decide, by decide, by decide⟩, 10, 26, rfl, rfl, ⟨by decide, by decide, by decide⟩, (by show 6 ≤ sizeLine; decide), fun l hl => ?_⟩
    refine ⟨.ref t, rfl, t, 6, c + 1, rfl, by omega, by omega, k1.up hl, by omega, fun r H2 r0 r6 k2 u2 => ?_⟩
    have hl2 : H2 l = some (.lst (([10 ^ (26 : Int).toNat, 9, 2, 2, 1, 10 ^ (26 : Int).toNat] : List Int).map V.int)) := u2 _ _ upd_same (k1.ne hl)
    obtain ⟨f, hf, hat⟩ := at_in (ns := [10 ^ (26 : Int).toNat, 9, 2, 2, 1, 10 ^ (26 : Int).toNat]) r0 (by show r < 6; omega)
    have hf1 : 1 ≤ f ∧ f ≤ 100000000000000000000000000 := by
      have := List.mem_of_getElem? hf
      simp only [List.mem_cons, List.not_mem_nil, or_false, e26] at this
      omega
    refine ⟨l, _, r, .int f, rfl, rfl, SqL.of hl2, hat, (by show 2 ≤ sizeLine; decide), fun p hp => ?_⟩
    refine ⟨p, _, rfl, SqT.of upd_same, rfl, _, _, rfl, _, _, rfl, rfl, ?_⟩
    have u3 : But t H (upd H2 p (.tup [.int k, .int f])) := (u1.trans ((But.of (new_same hl)).trans u2)).trans (But.of (new_same hp))
    have k3 : Tank (upd H2 p (.tup [.int k, .int f])) t (c + 2) := (k2.mono (by omega)).up hp
    generalize upd H2 p (.tup [.int k, .int f]) = H3 at u3 k3 ⊢
    -- found
    refine ⟨.int n, rfl, n, rfl, by omega, by omega, fun D hD => ?_⟩
    have hHD : H D = none := free_but u3 hoT hD (by obtain ⟨o, e⟩ := k3.some; rw [e]; exact fun z => nomatch z)
    have nD : D ≠ t := k3.ne hD
    refine lc_range (lo := 0) (n := n.toNat) (fun i H' => But t H3 H' ∧ Tank H' t (c + 2 + i) ∧ ∃ ms : List Int, H' D = some (.lst (ms.map V.int)) ∧ ms.length = i ∧ In0 100000000000000000000000000 ms)
      ⟨But.of (new_same hD), (k3.mono (by omega)).up hD, [], upd_same, rfl, fun m hm => (List.not_mem_nil hm).elim⟩ (fun i H4 hi hP => ⟨rfl, ?_⟩) (fun H4 hP => ?_)
    · obtain ⟨u4, k4, ms, hD4, hlen, hall⟩ := hP
      refine ⟨.ref t, rfl, .int f, rfl, .int k, rfl, k, 4, rfl, rfl, .inr ⟨_, rfl, f, _, rfl, rfl, ?_⟩⟩
      generalize hb : (if decide (k < 4) = true then (1 : Int) else 0) = b
      have hb1 : 0 ≤ b ∧ b ≤ 1 := by
        subst hb
        split <;> omega
      refine ⟨t, f + b, c + 2 + i, rfl, by omega, by omega, k4, by omega, fun v H5 v0 v1 k5 u5 => ?_⟩
      have hD5 : H5 D = some (.lst (ms.map V.int)) := u5 _ _ hD4 nD
      refine ⟨_, hD5, by rw [List.length_map]; exact sz40 (by omega), ?_, ?_, ms ++ [v], ?_, by rw [List.length_append]; show ms.length + 1 = i + 1; omega, fun z hz => ?_⟩
      · exact fun b o e ne => by
          rw [upd_ne (ne_of_none e hD)]
          exact (u4.trans u5) b o e ne
      · obtain ⟨x, y, z, e, a1, a2, a3, a4, a5⟩ := k5
        exact ⟨x, y, z, by rw [upd_ne nD.symm]; exact e, a1, a2, a3, a4, by omega⟩
      · rw [upd_same, List.map_append]
        rfl
      · rcases List.mem_append.mp hz with h | h
        · exact hall z h
        · have e := List.mem_singleton.mp h
          subst e
          omega
    obtain ⟨u4, k4, ms, hD4, hlen, hall⟩ := hP
    have hn2 : (ms.length : Int) = n := by omega
    have ek : ((n.toNat : Nat) : Int) = n := by omega
    rw [ek] at k4
    have u04 := u3.trans u4
    -- if kind == 4
    refine ⟨MidSD t H n k f 100000000000000000000000000 (c + 2 + n + n), ⟨.int k, rfl, rfl, _, rfl, ite2 (fun _ => ?_) (fun _ => ?_)⟩, fun σ' H5 hM => ?_⟩
    · refine ⟨.int n, rfl, n, rfl, by omega, by omega, fun D2 hD2 => ?_⟩
      have hHD2 : H D2 = none := free_but u04 hoT hD2 (by obtain ⟨o, e⟩ := k4.some; rw [e]; exact fun z => nomatch z)
      have nD2 : D2 ≠ t := k4.ne hD2
      refine lc_range (lo := 0) (n := n.toNat) (fun i H' => But t H4 H' ∧ Tank H' t (c + 2 + n + i) ∧ ∃ ms : List Int, H' D2 = some (.lst (ms.map V.int)) ∧ ms.length = i ∧ In0 100000000000000000000000000 ms)
        ⟨But.of (new_same hD2), (k4.mono (by omega)).up hD2, [], upd_same, rfl, fun m hm => (List.not_mem_nil hm).elim⟩ (fun i H5 hi hP => ⟨rfl, ?_⟩) (fun H5 hP => ?_)
      · obtain ⟨u5, k5, ms5, hD5, hlen5, hall5⟩ := hP
        refine ⟨.int (0 + i), rfl, rfl, .inr ⟨_, rfl, .ref t, rfl, t, 9, c + 2 + n + i, rfl, by omega, by omega, k5, by omega, fun v H6 v0 v1 k6' u6 => ?_⟩⟩
        generalize hb : (if decide (V.int (0 + (i : Int)) = V.int 0) = true then (1 : Int) else 0) = b
        have hb1 : b = 0 ∨ b = 1 := by
          subst hb
          split
          · exact .inr rfl
          · exact .inl rfl
        have hv : 0 ≤ b * (1 + v) ∧ b * (1 + v) ≤ 100000000000000000000000000 := by
          rcases hb1 with rfl | rfl <;> omega
        refine ⟨1, v, rfl, rfl, b, 1 + v, rfl, rfl, .inl ⟨by omega, by omega⟩, ?_⟩
        have hD6 := u6 _ _ hD5 nD2
        refine ⟨_, hD6, by rw [List.length_map]; exact sz40 (by omega), ?_, ?_, ms5 ++ [b * (1 + v)], ?_, by rw [List.length_append]; show ms5.length + 1 = i + 1; omega, fun z hz => ?_⟩
        · exact fun b o e ne => by
            rw [upd_ne (ne_of_none e hD2)]
            exact (u5.trans u6) b o e ne
        · obtain ⟨x, y, z, e, a1, a2, a3, a4, a5⟩ := k6'
          exact ⟨x, y, z, by rw [upd_ne nD2.symm]; exact e, a1, a2, a3, a4, by omega⟩
        · rw [upd_same, List.map_append]
          rfl
        · rcases List.mem_append.mp hz with h | h
          · exact hall5 z h
          · have e := List.mem_singleton.mp h
            subst e
            exact hv
      · obtain ⟨u5, k5, ms5, hD5, hlen5, hall5⟩ := hP
        rw [ek] at k5
        exact ⟨D2, ms5, _, _, _, _, rfl, hall5, by omega, hHD2, hD5, u04.trans u5, k5⟩
    · exact ⟨D, ms, _, _, _, _, rfl, hall, hn2, hHD, hD4, u04, k4.mono (by omega)⟩
    -- if kind == 5
    obtain ⟨D5, ns5, y5, y6, y7, y8, rfl, hI5, hn5, hH5, hD5, u5, k5⟩ := hM
    refine ⟨MidSD t H n k f 100000000000000000000000000 (c + 2 + n + n), ⟨.int k, rfl, rfl, _, rfl, ite2 (fun _ => ?_) (fun _ => ?_)⟩, fun σ' H6 hM => ?_⟩
    · obtain ⟨m, hm, hat0⟩ := at_in (ns := ns5) (i := 0) (by omega) (by omega)
      have hmb := hI5 m (List.mem_of_getElem? hm)
      refine ⟨.ref D5, rfl, D5, _, 0, .int m, rfl, rfl, SqL.of hD5, hat0, (by show 1 ≤ sizeLine; decide), fun l3 hl3 => ?_⟩
      refine ⟨.int n, rfl, l3, n, _, rfl, rfl, upd_same, by omega, by omega, (by show 1 * n.toNat ≤ sizeLine; exact sz40' (by omega)), fun p3 hp3 => ?_⟩
      have hHp : H p3 = none := free_but (u5.trans (But.of (new_same hl3))) hoT hp3 (by obtain ⟨o, e⟩ := (k5.up hl3).some; rw [e]; exact fun z => nomatch z)
      refine ⟨p3, List.replicate n.toNat m, _, _, _, _, rfl, fun z hz => ?_, ?_, hHp, by rw [upd_same, rep_one], (u5.trans (But.of (new_same hl3))).trans (But.of (new_same hp3)), (k5.up hl3).up hp3⟩
      · rw [(List.mem_replicate.mp hz).2]
        exact hmb
      · rw [List.length_replicate]
        exact ek
    · exact ⟨D5, ns5, y5, y6, y7, y8, rfl, hI5, hn5, hH5, hD5, u5, k5⟩
    obtain ⟨D6, ns6, y5, y6, y7, y8, rfl, hI6, hn6, hH6, hD6, u6, k6⟩ := hM
    -- for lap in range(..)
    refine ⟨.ref t, rfl, t, 3, c + 2 + n + n, rfl, by omega, by omega, k6, by omega, fun N H7 N0 N1 k7 u7 => ?_⟩
    have nD6 : D6 ≠ t := fun e => by
      rw [e] at hH6
      rw [hH6] at hoT
      cases hoT
    refine ⟨N, rfl, by omega, by omega, for_range (lo := 0) (n := N.toNat) (fun i => MidSD t H n k f (upB i) (c + 2 + n + n + 1 + 2 * i)) ⟨D6, ns6, _, _, _, _, rfl, hI6, hn6, hH6, u7 _ _ hD6 nD6, u6.trans u7, k7.mono (by omega)⟩ (fun i σ H8 hi hP => ?_) (fun σ H8 hP => ?_)⟩
    · obtain ⟨D8, ns8, y5, y6, y7, y8, rfl, hI8, hn8, hH8, hD8, u8, k8⟩ := hP
      have hi2 : i < 2 := by omega
      have nD8 : D8 ≠ t := fun e => by
        rw [e] at hH8
        rw [hH8] at hoT
        cases hoT
      -- parts
      refine ⟨.int n, rfl, n, 1, rfl, rfl, 2, n + 1, rfl, ⟨by omega, by omega, by omega, by omega⟩, fun D9 hD9 => ?_⟩
      refine lc_range (lo := 2) (n := (n + 1 - 2).toNat) (fun j H' => Same H8 H' ∧ ∃ ss : List Int, H' D9 = some (.lst (ss.map V.int)) ∧ (∀ s ∈ ss, 2 ≤ s ∧ s ≤ n ∧ n % s = 0) ∧ ss.length ≤ j)
        ⟨new_same hD9, [], upd_same, fun s hs => (List.not_mem_nil hs).elim, Nat.le_refl _⟩ (fun j H9 hj hP => ⟨rfl, ?_⟩) (fun H9 hP => ?_)
      · obtain ⟨s9, ss, g9, hss, hsl⟩ := hP
        refine ⟨.int n, rfl, .inl ⟨n, rfl, .int (2 + j), rfl, n, 2 + j, rfl, rfl, (by show (0 : Int) < _; omega), rfl, _, rfl, ite2 (fun h => ?_) (fun h => ?_)⟩⟩
        · have hz : n % (2 + (j : Int)) = 0 := V.int.inj (of_decide_eq_true h)
          refine ⟨.int (2 + j), rfl, _, g9, by rw [List.length_map]; exact sz40 (by omega), same_over s9 hD9, ss ++ [2 + (j : Int)], ?_, fun z hzz => ?_, ?_⟩
          · rw [upd_same, List.map_append]
            rfl
          · rcases List.mem_append.mp hzz with h | h
            · exact hss z h
            · have e := List.mem_singleton.mp h
              subst e
              exact ⟨by omega, by omega, hz⟩
          · rw [List.length_append]
            show ss.length + 1 ≤ j + 1
            omega
        · exact ⟨s9, ss, g9, hss, by omega⟩
      · obtain ⟨s9, ss, g9, hss, hsl⟩ := hP
        have k9 := k8.same s9
        have e9 := s9 _ _ hD8
        have u9 := u8.trans (But.of (T := t) s9)
        have nD9 : D9 ≠ t := k8.ne hD9
        have rS : RP (dI ss) := rp_ints fun x hx => by
          have := hss x hx
          exact small_abs (by omega) (by omega)
        have r0 : RP (dI []) := rp_ints fun x hx => (List.not_mem_nil hx).elim
        refine ⟨.ref D9, rfl, Nat.zero_le _, fun z1 hz1 => ?_⟩
        have sz := new_same (o := .lst []) hz1
        refine ⟨dI ss, dI [], dp_ints (SqL.of (sz _ _ g9)), dp_ints (ns := []) (SqL.of upd_same), rS.shaped, r0.shaped, _, rfl, ?_⟩
        rw [eqv_dI0]
        have kz := k9.same sz
        have ez := sz _ _ e9
        have gz := sz _ _ g9
        have uz := u9.trans (But.of (T := t) sz)
        cases ss with
        | nil =>
          refine iteF ?_
          exact ⟨D8, ns8, _, _, _, _, rfl, in0_mono hI8 (upB_mono hi2), hn8, hH8, ez, uz, kz.mono (by omega)⟩
        | cons s0 sr =>
          refine iteT ?_
          refine ⟨.ref D9, rfl, .ref t, rfl, .ref D9, rfl, D9, _, rfl, .inl (SqL.of gz), t, _, c + 2 + n + n + 1 + 2 * i, rfl, by rw [List.length_map]; show (0 : Int) < ((sr.length + 1 : Nat) : Int); omega, by rw [List.length_map]; omega, kz, by omega, fun v HA v0 v1 kA uA => ?_⟩
          rw [List.length_map] at v1
          obtain ⟨sv, hsv, hats⟩ := at_in v0 v1
          obtain ⟨b1, b2, b3⟩ := hss sv (List.mem_of_getElem? hsv)
          have gA := uA _ _ gz nD9
          have eA := uA _ _ ez nD8
          refine ⟨D9, _, v, .int sv, rfl, rfl, SqL.of gA, hats, ?_⟩
          -- found = _law_spread(..)
          have hq0 : 0 ≤ n / sv := Int.ediv_nonneg (by omega) (by omega)
          have hqn : n / sv ≤ n := Int.ediv_le_self _ (by omega)
          refine ⟨.ref D8, rfl, .int n, rfl, .int sv, rfl, n, sv, rfl, rfl, wide_div (b := 200) (by omega) (by omega) (by decide) (by decide), (by show 2 ≤ sizeLine; decide), fun l4 hl4 => ?_⟩
          refine ⟨.ref t, rfl, t, 2, c + 2 + n + n + 1 + 2 * i + 1, rfl, by omega, by omega, kA.up hl4, by omega, fun x HB x0 x1 kB uB => ?_⟩
          have gl4 : HB l4 = some (.lst (([1, n / sv] : List Int).map V.int)) := uB _ _ upd_same (kA.ne hl4)
          obtain ⟨st, hst, hatst⟩ := at_in (ns := [1, n / sv]) x0 (by show x < 2; omega)
          have hstb : 0 ≤ st ∧ st ≤ 40 := by
            have := List.mem_of_getElem? hst
            simp only [List.mem_cons, List.not_mem_nil, or_false] at this
            omega
          have eB := uB _ _ (new_same (o := .lst [.int 1, .int (n / sv)]) hl4 _ _ eA) nD8
          refine ⟨l4, _, x, .int st, rfl, rfl, SqL.of gl4, hatst, .int sv, rfl, D8, ns8, st, sv, upB i, rfl, SqL.of eB, by omega, by omega, hI8, (upB_nn i).1, hstb.1, hstb.2, by omega, by omega, fun o os HC sC fC gC lC iC => ?_⟩
          have uBB := (uz.trans uA).trans ((But.of (new_same (o := .lst [.int 1, .int (n / sv)]) hl4)).trans uB)
          have hHo : H o = none := free_but uBB hoT fC (by obtain ⟨o, e⟩ := kB.some; rw [e]; exact fun z => nomatch z)
          exact ⟨o, os, _, _, _, _, rfl, in0_mono iC (upB_step hi2), by omega, hHo, gC, uBB.trans (But.of sC), (kB.same sC).mono (by omega)⟩
    · obtain ⟨D8, ns8, y5, y6, y7, y8, rfl, hI8, hn8, hH8, hD8, u8, k8⟩ := hP
      have hb := upB_nn N.toNat
      refine ⟨.ref D8, rfl, q D8 ns8 H8 ⟨by omega, by omega, fun z hz => ?_⟩ hn8 u8 hH8 hD8 (k8.mono (by omega))⟩
      have := hI8 z hz
      omega

/-! ### _law_parted, _law_root -/
def spParted (K : PySem.W.Frag) : Sp := fun vs H Q _ => ∃ (a b : Addr) (l low : List Int), vs = [.ref a, .ref b] ∧ SqL K H a (l.map V.int) ∧ SqL K H b (low.map V.int) ∧ 1 ≤ low.length ∧ low.length ≤ 100 ∧ l.length ≤ 1000 ∧ Unt low ∧
  ∀ (p f r : Addr) (H' : Hp), Same H H' → H' p = some (.tup [.ref f, .ref r]) → H' f = some (.lst ((quo low l).map V.int)) → H' r = some (.lst ((rst low l).map V.int)) → Q (.ref p) H'
theorem ok_law_parted (T : Txt K mg) : FnOk P w K mg base CX0 1 T.a_law_parted T.d_law_parted ["top", "low"] (spParted K) := by
  refine T.F_law_parted.ok sc_law_parted (fun vs H Q E h => ?_) (fun cdv A outer s H vs Q E hr h => ?_)
  · obtain ⟨_, _, _, _, rfl, _⟩ := h
    rfl
  · obtain ⟨a, b, l, low, rfl, hS, hS2, w1, w2, hl, hU, q⟩ := h
    refine ⟨_, (pss_cons (ps_par (i := 2) (j := 3) (by rfl) sc_law_parted.nd rfl rfl (by decide) rfl rfl (pa_cons (pe_callTy (listL (K := K) rfl) (by rfl) T.n_list (by decide +kernel) (pa_cons (pv 0) pa_nil)) (pa_cons (pe_op op_sub (pe_callB (lenL (K := K) rfl) (by rfl) T.n_len (by decide +kernel) (pa_cons (pv 1) pa_nil)) pe_int) pa_nil)) (by rfl))
      (pss_cons (ps_set (i := 4) sc_law_parted.nd rfl (.inl rfl) (pe_lst pa_nil))
      (pss_cons (ps_while PassesOwn.never (pt_cmpR op_gt (pe_callB (lenL (K := K) rfl) (by rfl) T.n_len (by decide +kernel) (pa_cons (pv 2) pa_nil)) (pv 3) (nomark _)) (pss_cons (ps_set (i := 5) sc_law_parted.nd rfl (.inl rfl) (pe_bm0 PySem.F.plainAttrs_list PySem.F.slot_list_pop PySem.F.type_list_pop mt_pop (pv 2)))
      (pss_cons (ps_expr (pe_bm PySem.F.plainAttrs_list PySem.F.slot_list_insert PySem.F.type_list_insert mt_insert (pv 4) (pa_cons pe_int (pa_cons (pv 5) pa_nil))))
      (pss_cons (ps_set (i := 6) sc_law_parted.nd rfl (.inl rfl) (pe_op op_sub (pe_callB (lenL (K := K) rfl) (by rfl) T.n_len (by decide +kernel) (pa_cons (pv 2) pa_nil)) (pv 3)))
      (pss_one (ps_for PassesOwn.never rfl (pi_range1 (by rfl) T.n_range (pa_cons (pv 3) pa_nil)) (pg_name (i := 7) sc_law_parted.nd rfl (.inl rfl)) (pss_one (ps_asg (pe_op op_sub (pe_ix (ixL (K := K) rfl) (pv 2) (pe_op op_add (pv 6) (pv 7)) (fun _ _ => rfl)) (pe_op op_mul (pv 5) (pe_ix (ixL (K := K) rfl) (pv 1) (pv 7) (fun _ _ => rfl)))) (pg_sub (pv 2) (pe_op op_add (pv 6) (pv 7)) set_list)))))))))
      (pss_one (ps_ret (pe_tup (pa_cons (pv 4) (pa_cons (pv 2) pa_nil)))))))), ?_⟩
    refine ⟨.ref a, rfl, a, _, rfl, .inl hS, fun R hR0 => ?_⟩
    have s1 := new_same (o := .lst (l.map V.int)) hR0
    refine ⟨.ref b, rfl, b, _, rfl, .inl (s1.seq hS2), _, 1, rfl, rfl, _, _, rfl, ?_⟩
    refine ⟨(by show 0 ≤ sizeLine; decide), fun F hF => ?_⟩
    obtain ⟨d, hd⟩ : ∃ d : Nat, low.length = d + 1 := ⟨low.length - 1, by omega⟩
    have ed : ((low.map V.int).length : Int) - 1 = (d : Int) := by rw [List.length_map]; omega
    have s2 := s1.trans (new_same (o := .lst []) hF)
    have gR0 := (new_same (o := .lst []) hF) _ _ (upd_same (H := H) (a := R) (o := .lst (l.map V.int)))
    have gF0 : (upd (upd H R (.lst (l.map V.int))) F (.lst [])) F = some (.lst []) := upd_same
    have RF : R ≠ F := fun z => by rw [← z, upd_same] at hF; cases hF
    have hF0 : H F = none := s1.free hF
    generalize upd (upd H R (.lst (l.map V.int))) F (.lst []) = H1 at s2 gR0 gF0 ⊢
    refine ⟨fun k σ H' => ∃ (ms : List Int) (y5 y6 y7 : Option V), σ = [some (.ref a), some (.ref b), some (.ref R), some (.int (((low.map V.int).length : Int) - 1)), some (.ref F), y5, y6, y7] ∧ Same H H' ∧
      H' R = some (.lst ((ms.take (d + k)).map V.int)) ∧ H' F = some (.lst ((ms.drop (d + k)).map V.int)) ∧ ms.length = l.length ∧ k ≤ l.length - d ∧ divN low k ms = divL low l,
      ⟨l.length - d, l, _, _, _, rfl, s2, by rw [List.take_of_length_le (by omega)]; exact gR0, by rw [List.drop_of_length_le (by omega)]; exact gF0, rfl, Nat.le_refl _, by unfold divL; rw [hd]; rfl⟩, fun k σ H2 hW => ?_⟩
    obtain ⟨ms, y5, y6, y7, rfl, s3, gR, gF, hm, hk, hD⟩ := hW
    refine ⟨.ref R, rfl, R, _, rfl, .inl (SqL.of gR), .int _, rfl, _, _, rfl, rfl, _, rfl, ite2 (fun h => ?_) (fun h => ?_)⟩
    · have h := of_decide_eq_true h
      rw [ed, List.length_map, List.length_take] at h
      obtain ⟨k', rfl⟩ : ∃ k', k = k' + 1 := ⟨k - 1, by omega⟩
      refine ⟨fun σ H' => ∃ (ms : List Int) (y5 y6 y7 : Option V), σ = [some (.ref a), some (.ref b), some (.ref R), some (.int (((low.map V.int).length : Int) - 1)), some (.ref F), y5, y6, y7] ∧ Same H H' ∧
        H' R = some (.lst ((ms.take (d + k')).map V.int)) ∧ H' F = some (.lst ((ms.drop (d + k')).map V.int)) ∧ ms.length = l.length ∧ k' ≤ l.length - d ∧ divN low k' ms = divL low l, fun σ' H' p => ⟨k', by omega, p⟩, ?_⟩
      obtain ⟨f, hf⟩ : ∃ f, ms[d + k']? = some f := ⟨_, List.getElem?_eq_getElem (by omega)⟩
      have hf' : ms.getD (low.length - 1 + k') 0 = f := getD_at (by rw [hd]; exact hf)
      have hlen : ((ms.take (d + (k' + 1))).map V.int).length - 1 = d + k' := by rw [List.length_map, List.length_take]; omega
      have etk : ms.take (d + (k' + 1)) = ms.take (d + k') ++ [f] := by
        rw [show d + (k' + 1) = (d + k') + 1 by omega, List.take_add_one, hf]
        rfl
      -- factor = rest.pop()
      refine ⟨.ref R, rfl, .inl ⟨rfl, _, SqL.of gR⟩, R, _, .int f, rfl, rfl, gR, ?_, ?_⟩
      · rw [hlen]
        refine at_int ?_
        rw [List.getElem?_take_of_lt (by omega)]
        exact hf
      rw [etk, List.map_append, List.map_singleton, List.dropLast_concat]
      have gF2 : (upd H2 R (.lst ((ms.take (d + k')).map V.int))) F = some (.lst ((ms.drop (d + (k' + 1))).map V.int)) := by rw [upd_ne RF.symm]; exact gF
      have hlF : ((ms.drop (d + (k' + 1))).map V.int).length < sizeLine := by rw [List.length_map, List.length_drop]; exact sz40 (by omega)
      -- found.insert(0, factor)
      refine ⟨.ref F, rfl, .inl ⟨rfl, _, SqL.of gF2⟩, .int f, rfl, F, _, 0, .int f, rfl, rfl, gF2, hlF, by decide, by decide, ?_⟩
      have eF : ((ms.drop (d + (k' + 1))).map V.int).take (0 : Int).toNat ++ [V.int f] ++ ((ms.drop (d + (k' + 1))).map V.int).drop (0 : Int).toNat = (ms.drop (d + k')).map V.int := by
        have e1 : ms.drop (d + k') = f :: ms.drop (d + k' + 1) := by
          have := List.getElem?_eq_some_iff.mp hf
          obtain ⟨h1, h2⟩ := this
          rw [← h2]
          exact (List.drop_eq_getElem_cons h1)
        rw [e1]
        rfl
      rw [eF]
      have s4 : Same H (upd (upd H2 R (.lst ((ms.take (d + k')).map V.int))) F (.lst ((ms.drop (d + k')).map V.int))) := same_over (same_over s3 hR0) hF0
      have gR4 : (upd (upd H2 R (.lst ((ms.take (d + k')).map V.int))) F (.lst ((ms.drop (d + k')).map V.int))) R = some (.lst ((ms.take (d + k')).map V.int)) := by rw [upd_ne RF, upd_same]
      have gF4 : (upd (upd H2 R (.lst ((ms.take (d + k')).map V.int))) F (.lst ((ms.drop (d + k')).map V.int))) F = some (.lst ((ms.drop (d + k')).map V.int)) := upd_same
      generalize upd (upd H2 R (.lst ((ms.take (d + k')).map V.int))) F (.lst ((ms.drop (d + k')).map V.int)) = H4 at s4 gR4 gF4 ⊢
      -- spot
      refine ⟨.ref R, rfl, R, _, rfl, .inl (SqL.of gR4), .int _, rfl, _, _, rfl, rfl, ?_⟩
      have es : (((ms.take (d + k')).map V.int).length : Int) - (((low.map V.int).length : Int) - 1) = (k' : Int) := by rw [List.length_map, List.length_take, ed]; omega
      show gName 6 (V.int ((((ms.take (d + k')).map V.int).length : Int) - (((low.map V.int).length : Int) - 1))) _ _ _
      rw [es]
      refine ⟨.int _, rfl, _, rfl, by rw [ed]; omega, by rw [ed]; omega, for_range (lo := 0) (n := (((low.map V.int).length : Int) - 1).toNat)
        (fun j σ H' => ∃ y7 : Option V, σ = [some (.ref a), some (.ref b), some (.ref R), some (.int (((low.map V.int).length : Int) - 1)), some (.ref F), some (.int f), some (.int k'), y7] ∧ Same H H' ∧
          H' R = some (.lst (((subI low f k' j ms).take (d + k')).map V.int)) ∧ H' F = some (.lst ((ms.drop (d + k')).map V.int))) ⟨_, rfl, s4, gR4, gF4⟩ (fun j σ H5 hj hP => ?_) (fun σ H5 hP => ?_)⟩
      · obtain ⟨y7, rfl, s5, gR5, gF5⟩ := hP
        have hj : j < d := by rw [ed] at hj; omega
        have hlen5 := subI_len low f k' j ms
        have hix : ((k' : Int) + (0 + (j : Int))) = ((k' + j : Nat) : Int) := by omega
        have hlt : ((subI low f k' j ms).take (d + k')).length = d + k' := by rw [List.length_take]; omega
        obtain ⟨x, hx⟩ : ∃ x, (subI low f k' j ms)[k' + j]? = some x := ⟨_, List.getElem?_eq_getElem (by omega)⟩
        obtain ⟨x', hx', hatx⟩ := at_in (ns := (subI low f k' j ms).take (d + k')) (i := (k' : Int) + (0 + (j : Int))) (by omega) (by omega)
        have exx : x' = x := by
          rw [hix, Int.toNat_natCast, List.getElem?_take_of_lt (by omega), hx] at hx'
          exact (Option.some.inj hx').symm
        subst exx
        obtain ⟨c, hc, hatc⟩ := at_in (ns := low) (i := 0 + (j : Int)) (by omega) (by omega)
        have hcb := unt_at hU hc
        have hc' : low.getD j 0 = c := getD_at (by rw [Int.zero_add, Int.toNat_natCast] at hc; exact hc)
        refine ⟨.ref R, rfl, .int k', rfl, .int (0 + j), rfl, k', 0 + j, rfl, rfl, R, _, _, .int x', rfl, rfl, SqL.of gR5, hatx, ?_⟩
        refine ⟨.int f, rfl, .ref b, rfl, .int (0 + j), rfl, b, _, _, .int c, rfl, rfl, s5.seq hS2, hatc, f, c, rfl, rfl, .inr ⟨by omega, by omega⟩, x', f * c, rfl, rfl, ?_⟩
        refine ⟨.ref R, rfl, .int k', rfl, .int (0 + j), rfl, k', 0 + j, rfl, rfl, R, _, _, k' + j, rfl, rfl, gR5, ?_, ?_⟩
        · rw [hix]
          exact ixN_in (by omega) (by rw [List.length_map]; omega)
        · refine ⟨_, rfl, same_over s5 hR0, ?_, ?_⟩
          · rw [upd_same, map_set, subI, getD_at hx, hc', List.take_set]
          · rw [upd_ne RF.symm]
            exact gF5
      · obtain ⟨y7, rfl, s5, gR5, gF5⟩ := hP
        rw [ed, Int.toNat_natCast] at gR5
        refine ⟨subI low f k' d ms, _, _, _, rfl, s5, gR5, ?_, by rw [subI_len]; exact hm, by omega, ?_⟩
        · rw [subI_drop low f k' d ms (by omega)]
          exact gF5
        · rw [← hD, divN, hf', hd]
          rfl
    · have h : ¬ _ := fun z => h (decide_eq_true z)
      rw [ed, List.length_map, List.length_take] at h
      have hk0 : k = 0 := by omega
      subst hk0
      have e : ms = divL low l := hD
      subst e
      refine ⟨.ref F, rfl, .ref R, rfl, (by show 2 ≤ sizeLine; decide), fun p hp => ?_⟩
      have s6 := new_same (o := .tup [.ref F, .ref R]) hp
      refine q p F R _ (s3.trans s6) upd_same ?_ ?_
      · unfold quo
        rw [hd]
        exact s6 _ _ gF
      · unfold rst
        rw [hd]
        exact s6 _ _ gR
def spRootF (f : Nat) : Sp := fun vs H Q _ => ∃ (p : Nat), vs = [.int p] ∧ 1 ≤ p ∧ p ≤ 40 ∧ p < 2 ^ f ∧
  ∀ (r : Addr) (H' : Hp), Same H H' → H' r = some (.lst ((cyc p).map V.int)) → Q (.ref r) H'
theorem ok_root_f (T : Txt K mg) : ∀ f : Nat, FnOk P w K mg base CX0 (2 + f) T.a_law_root T.d_law_root ["part"] (spRootF f)
  | 0 => by
    refine T.F_law_root.ok sc_law_root (fun vs H Q E h => ?_) (fun cdv A outer s H vs Q E hr h => ?_)
    · obtain ⟨_, rfl, _⟩ := h
      rfl
    · obtain ⟨p, rfl, p1, p40, p2, q⟩ := h
      have : p < 1 := p2
      omega
  | fu + 1 => by
    have G_law_parted := ok_law_parted (P := P) (w := w) (base := base) T
    have G_law_root := ok_root_f T fu
    refine T.F_law_root.ok sc_law_root (fun vs H Q E h => ?_) (fun cdv A outer s H vs Q E hr h => ?_)
    · obtain ⟨_, rfl, _⟩ := h
      rfl
    obtain ⟨p, rfl, p1, p40, p2, q⟩ := h
    refine ⟨_, (pss_cons (ps_set (i := 1) sc_law_root.nd rfl (.inl rfl) (pe_op op_cat (pe_op op_cat (pe_lst (pa_cons (pe_un un_neg pe_int) pa_nil)) (pe_op op_rep (pe_lst (pa_cons pe_int pa_nil)) (pe_op op_sub (pv 0) pe_int))) (pe_lst (pa_cons pe_int pa_nil))))
      (pss_cons (ps_for PassesOwn.never rfl (pi_range2 (by rfl) T.n_range (pa_cons pe_int (pa_cons (pv 0) pa_nil))) (pg_name (i := 2) sc_law_root.nd rfl (.inl rfl)) (pss_one (ps_if (pt_cmpR op_eq (pe_op op_mod (pe_callTy call_int1 (by rfl) T.n_int (by decide +kernel) (pa_cons (pv 0) pa_nil)) (pv 2)) pe_int (nomark _)) (pss_one (ps_set (i := 1) sc_law_root.nd rfl (.inl rfl) (pe_ix (ixT (K := K) rfl) (pe_call G_law_parted (hr.mono (Nat.le_trans (by decide) (Nat.le_add_right 2 fu))) (by rfl) T.g_law_parted T.F_law_parted.kp T.b_law_parted .nil pass0 (pa_cons (pv 1) (pa_cons (pe_call G_law_root hr (by rfl) T.g_law_root T.F_law_root.kp T.b_law_root .nil pass0 (pa_cons (pv 2) pa_nil)) pa_nil))) pe_int (fun _ _ => rfl)))) pss_nil)))
      (pss_one (ps_ret (pv 1))))), ?_⟩
    -- found
    refine ⟨1, rfl, (by show 1 ≤ sizeLine; decide), fun x1 h1 => ⟨(by show 1 ≤ sizeLine; decide), fun x2 h2 => ?_⟩⟩
    refine ⟨.int p, rfl, p, 1, rfl, rfl, x2, _, _, rfl, rfl, upd_same, by omega, by omega, (by show 1 * ((p : Int) - 1).toNat ≤ sizeLine; exact sz40' (by omega)), fun x3 h3 => ?_⟩
    have k1 := (new_same (o := .lst (List.replicate ((p : Int) - 1).toNat [V.int 0]).flatten) h3) _ _ ((new_same (o := .lst [.int 0]) h2) _ _ (upd_same (H := H) (a := x1) (o := .lst [.int (-1)])))
    refine ⟨x1, x3, _, _, rfl, rfl, k1, upd_same, ?_, fun x4 h4 => ⟨(by show 1 ≤ sizeLine; decide), fun x5 h5 => ?_⟩⟩
    · rw [rep_zero, List.length_map, List.length_replicate]
      show 1 + ((p : Int) - 1).toNat ≤ sizeLine
      exact sz40' (by omega)
    refine ⟨x4, x5, _, _, rfl, rfl, (new_same (o := .lst [.int 1]) h5) _ _ upd_same, upd_same, ?_, fun x6 h6 => ?_⟩
    · rw [rep_zero, List.length_append, List.length_map, List.length_replicate]
      show 1 + ((p : Int) - 1).toNat + 1 ≤ sizeLine
      exact sz40' (by omega)
    have s5 := ((((new_same (o := .lst [.int (-1)]) h1).trans (new_same (o := .lst [.int 0]) h2)).trans (new_same (o := .lst (List.replicate ((p : Int) - 1).toNat [V.int 0]).flatten) h3)).trans (new_same (o := .lst ([V.int (-1)] ++ (List.replicate ((p : Int) - 1).toNat [V.int 0]).flatten)) h4)).trans (new_same (o := .lst [.int 1]) h5)
    have s6 := s5.trans (new_same (o := .lst (([V.int (-1)] ++ (List.replicate ((p : Int) - 1).toNat [V.int 0]).flatten) ++ [V.int 1])) h6)
    have ex : ([V.int (-1)] ++ (List.replicate ((p : Int) - 1).toNat [V.int 0]).flatten) ++ [V.int 1] = (xn1 p).map V.int := by
      unfold xn1
      rw [rep_zero, List.map_append, List.map_append, show ((p : Int) - 1).toNat = p - 1 by omega]
      rfl
    simp only [ex] at s6 ⊢
    have g6 : (upd (upd (upd (upd (upd (upd H x1 (.lst [.int (-1)])) x2 (.lst [.int 0])) x3 (.lst (List.replicate ((p : Int) - 1).toNat [V.int 0]).flatten)) x4 (.lst ([V.int (-1)] ++ (List.replicate ((p : Int) - 1).toNat [V.int 0]).flatten))) x5 (.lst [.int 1])) x6 (.lst ((xn1 p).map V.int))) x6 = some (.lst ((xn1 p).map V.int)) := upd_same
    generalize upd (upd (upd (upd (upd (upd H x1 (.lst [.int (-1)])) x2 (.lst [.int 0])) x3 (.lst (List.replicate ((p : Int) - 1).toNat [V.int 0]).flatten)) x4 (.lst ([V.int (-1)] ++ (List.replicate ((p : Int) - 1).toNat [V.int 0]).flatten))) x5 (.lst [.int 1])) x6 (.lst ((xn1 p).map V.int)) = H6 at s6 g6 ⊢
    clear s5 h1 h2 h3 h4 h5 h6 k1
    refine ⟨.int p, rfl, 1, p, rfl, ⟨by omega, by omega, by omega, by omega⟩, for_range (lo := 1) (n := ((p : Int) - 1).toNat)
      (fun i σ H' => ∃ (r : Addr) (y : Option V), σ = [some (.int p), some (.ref r), y] ∧ Same H H' ∧ H' r = some (.lst ((rootF p i).map V.int))) ⟨x6, _, rfl, s6, g6⟩ (fun i σ H1 hi hP => ?_) (fun σ H1 hP => ?_)⟩
    · obtain ⟨r, y, rfl, s1, gr⟩ := hP
      have hi : i + 1 < p := by omega
      have ei : (1 : Int) + (i : Nat) = ((i + 1 : Nat) : Int) := by omega
      refine ⟨.int p, rfl, .inl ⟨p, rfl, .int (1 + i), rfl, p, 1 + i, rfl, rfl, (by show (0 : Int) < _; omega), rfl, _, rfl, ite2 (fun h => ?_) (fun h => ?_)⟩⟩
      · have hz : p % (i + 1) = 0 := by
          have h := V.int.inj (of_decide_eq_true h)
          rw [ei] at h
          omega
        have hle : i + 1 < 2 ^ fu := by
          have h1 : 2 * (i + 1) ≤ p := by
            obtain ⟨m, hm⟩ := Nat.dvd_of_mod_eq_zero hz
            have : 2 ≤ m := by
              rcases m with _ | _ | m
              · omega
              · omega
              · omega
            calc 2 * (i + 1) ≤ m * (i + 1) := Nat.mul_le_mul_right _ this
              _ = p := by rw [Nat.mul_comm]; exact hm.symm
          rw [Nat.pow_succ] at p2
          omega
        have hc := cyc_len (p := i + 1) (by omega) (by omega)
        have hl := rootF_len p p1 i
        refine ⟨.ref r, rfl, .int (1 + i), rfl, i + 1, by rw [ei]; rfl, by omega, by omega, hle, fun c H2 s2 e2 => ?_⟩
        refine ⟨r, c, _, cyc (i + 1), rfl, SqL.of (s2 _ _ gr), SqL.of e2, by omega, by omega, by omega, cyc_unt (by omega) (by omega), fun P' f' r' H3 s3 eP eF eR => ?_⟩
        refine ⟨P', _, 0, .ref f', rfl, rfl, SqT.of eP, rfl, ?_⟩
        refine ⟨f', _, rfl, (s1.trans s2).trans s3, ?_⟩
        rw [rootF, if_pos hz]
        exact eF
      · refine ⟨r, _, rfl, s1, ?_⟩
        rw [rootF, if_neg]
        · exact gr
        · intro z
          refine h (decide_eq_true ?_)
          rw [ei]
          show V.int ((p : Int) % ((i + 1 : Nat) : Int)) = V.int 0
          rw [show (p : Int) % ((i + 1 : Nat) : Int) = 0 by omega]
    · obtain ⟨r, y, rfl, s1, gr⟩ := hP
      rw [show ((p : Int) - 1).toNat = p - 1 by omega, root_cyc p1 p40] at gr
      exact ⟨.ref r, rfl, q r H1 s1 gr⟩
theorem ok_law_root (T : Txt K mg) : FnOk P w K mg base CX0 8 T.a_law_root T.d_law_root ["part"] (spRootF 6) := ok_root_f T 6

/-! ### _law_blind, _law_hiding -/
def nI (ds : List Nat) : List Int := ds.map fun (d : Nat) => (d : Int)
def spBlind : Sp := fun vs H Q _ => ∃ (a : Addr) (ns : List Int), vs = [.ref a] ∧ H a = some (.lst (ns.map V.int)) ∧ Rim ns ∧
  ∀ (l : Addr) (H' : Hp), Same H H' → H l = none → H' l = some (.lst ((nI (blindL ns)).map V.int)) → Q (.ref l) H'
theorem blindN_next {ns : List Int} {i : Nat} (hz : ns.length % (i + 1) = 0) : blindN ns (i + 1) = if blB ns (i + 1) = true then blindN ns i ++ [i + 1] else blindN ns i := by
  unfold blindN
  rw [divs, if_pos hz, List.filter_append, List.filter_cons, List.filter_nil]
  split
  · rfl
  · rw [List.append_nil]
theorem blindN_no {ns : List Int} {i : Nat} (hz : ¬ ns.length % (i + 1) = 0) : blindN ns (i + 1) = blindN ns i := by
  unfold blindN
  rw [divs, if_neg hz]
theorem blindN_len (ns : List Int) (k : Nat) : (blindN ns k).length ≤ k := Nat.le_trans (List.length_filter_le _ _) (divs_len k)
theorem ones_all (l : List Int) : ((l.filter fun x => decide (x ≠ 0)).map fun _ => (1 : Int)).isEmpty = l.all fun x => decide (x = 0) := by
  induction l with
  | nil => rfl
  | cons x l ih =>
    rw [List.filter_cons, List.all_cons]
    by_cases c : x = 0
    · rw [if_neg (by rw [c]; decide), ih, decide_eq_true c, Bool.true_and]
    · rw [if_pos (decide_eq_true c), decide_eq_false c, Bool.false_and]
      rfl
theorem filt_next {l : List Int} {i : Nat} {x : Int} (h : l[i]? = some x) : ((l.take (i + 1)).filter fun x => decide (x ≠ 0)) = ((l.take i).filter fun x => decide (x ≠ 0)) ++ (if x = 0 then [] else [x]) := by
  rw [List.take_add_one, h, List.filter_append]
  congr 1
  show List.filter _ [x] = _
  rw [List.filter_cons, List.filter_nil]
  by_cases c : x = 0
  · rw [if_pos c, if_neg (by rw [c]; decide)]
  · rw [if_neg c, if_pos (decide_eq_true c)]
theorem ok_law_blind (T : Txt K mg) : FnOk P w K mg base CX0 9 T.a_law_blind T.d_law_blind ["disc_here"] spBlind := by
  have G_law_parted := ok_law_parted (P := P) (w := w) (base := base) T
  have G_law_root := ok_law_root (P := P) (w := w) (base := base) T
  refine T.F_law_blind.ok sc_law_blind (fun vs H Q E h => ?_) (fun cdv A outer s H vs Q E hr h => ?_)
  · obtain ⟨_, _, rfl, _⟩ := h
    rfl
  · obtain ⟨a, ns, rfl, hA, hR, q⟩ := h
    refine ⟨_, (pss_cons (ps_par (i := 1) (j := 2) (by rfl) sc_law_blind.nd rfl rfl (by decide) rfl rfl (pa_cons (pe_callB (lenL (K := K) rfl) (by rfl) T.n_len (by decide +kernel) (pa_cons (pv 0) pa_nil)) (pa_cons (pe_lst pa_nil) pa_nil)) (by rfl))
      (pss_cons (ps_for PassesOwn.never rfl (pi_range2 (by rfl) T.n_range (pa_cons pe_int (pa_cons (pe_op op_add (pv 1) pe_int) pa_nil))) (pg_name (i := 3) sc_law_blind.nd rfl (.inl rfl)) (pss_one (ps_if (PW.pt (pw_and (pt_cmpR op_eq (pe_op op_mod (pe_callTy call_int1 (by rfl) T.n_int (by decide +kernel) (pa_cons (pv 1) pa_nil)) (pv 3)) pe_int (nomark _)) (pw_and1 (pt_cmpR (eqD (K := K) rfl hr) (pe_lc (own := [("one", 4)]) (g := gName 4) (by rfl) sc_law_blind.nd (pi_listL (K := K) rfl (pe_ix (ixT (K := K) rfl) (pe_call G_law_parted (hr.mono (by decide)) (by rfl) T.g_law_parted T.F_law_parted.kp T.b_law_parted .nil pass0 (pa_cons (pv 0) (pa_cons (pe_call G_law_root hr (by rfl) T.g_law_root T.F_law_root.kp T.b_law_root .nil pass0 (pa_cons (pv 3) pa_nil)) pa_nil))) pe_int (fun _ _ => rfl))) (blkOk_by (own := [("one", 4)]) (N := ["disc_here", "size", "found", "part", "one"]) (sc := defScope s_law_blind) (by decide +kernel))
        (fun _ _ _ _ _ => (pg_name (i := 4) sc_law_blind.nd rfl (Or.inl rfl))) (fun _ _ _ _ _ => (pts_one (pt_cmpR op_ne (pv 4) pe_int (nomark _)))) (fun _ _ _ _ _ => pe_int)) (pe_lst pa_nil) (nomark _))))) (pss_one (ps_expr (pe_bm PySem.F.plainAttrs_list PySem.F.slot_list_append PySem.F.type_list_append mt_append (pv 2) (pa_cons (pv 3) pa_nil)))) pss_nil)))
      (pss_one (ps_ret (pv 2))))), ?_⟩
    have l40 := hR.le
    have l1 := hR.pos
    refine ⟨.ref a, rfl, a, _, rfl, .inl (SqL.of hA), (by show 0 ≤ sizeLine; decide), fun F hF => ?_⟩
    rw [List.length_map]
    refine ⟨_, _, rfl, ?_⟩
    have s1 := new_same (o := .lst []) hF
    have g1 := upd_same (H := H) (a := F) (o := .lst [])
    generalize upd H F (.lst []) = H1 at s1 g1 ⊢
    refine ⟨.int ns.length, rfl, ns.length, 1, rfl, rfl, 1, ns.length + 1, rfl, ⟨by omega, by omega, by omega, by omega⟩, for_range (lo := 1) (n := ((ns.length : Int) + 1 - 1).toNat)
      (fun i σ H' => ∃ y3 y4 : Option V, σ = [some (.ref a), some (.int ns.length), some (.ref F), y3, y4] ∧ Same H H' ∧ H' F = some (.lst ((nI (blindN ns i)).map V.int))) ⟨_, _, rfl, s1, g1⟩ (fun i σ H2 hi hP => ?_) (fun σ H2 hP => ?_)⟩
    · obtain ⟨y3, y4, rfl, s2, g2⟩ := hP
      have hi : i < ns.length := by omega
      have ei : (1 : Int) + (i : Nat) = ((i + 1 : Nat) : Int) := by omega
      refine ⟨.int ns.length, rfl, .inl ⟨_, rfl, .int (1 + i), rfl, _, 1 + i, rfl, rfl, (by show (0 : Int) < _; omega), rfl, _, rfl, ite2 (fun h => ?_) (fun h => ?_)⟩⟩
      · have hz : ns.length % (i + 1) = 0 := by
          have h := V.int.inj (of_decide_eq_true h)
          rw [ei] at h
          omega
        have hc := cyc_len (p := i + 1) (by omega) (by omega)
        refine ⟨.ref a, rfl, .int (1 + i), rfl, i + 1, by rw [ei]; rfl, by omega, by omega, by omega, fun c H3 s3 e3 => ?_⟩
        have s23 := s2.trans s3
        refine ⟨a, c, ns, cyc (i + 1), rfl, SqL.of (s23 _ _ hA), SqL.of e3, by omega, by omega, by omega, cyc_unt (by omega) (by omega), fun P' f' r' H4 s4 eP eF eR => ?_⟩
        have s24 := s23.trans s4
        refine ⟨P', _, 1, .ref r', rfl, rfl, SqT.of eP, rfl, ?_⟩
        refine ⟨r', rfl, ⟨_, SqL.of eR⟩, fun D hD => ?_⟩
        refine lc_list (K := K) (a := r') (xs := (rst (cyc (i + 1)) ns).map V.int) (fun j H' => Same H4 H' ∧ H' D = some (.lst (((((rst (cyc (i + 1)) ns).take j).filter fun x => decide (x ≠ 0)).map fun _ => (1 : Int)).map V.int)))
          ⟨new_same hD, upd_same⟩ (fun j H' _ hP => SqL.of (hP.1 _ _ eR)) (fun j x H5 hx hP => ⟨rfl, ?_⟩) (fun H5 hP => ?_)
        · obtain ⟨s5, g5⟩ := hP
          obtain ⟨x, hxx, rfl⟩ := int_at hx
          have hjl : j < (rst (cyc (i + 1)) ns).length := (List.getElem?_eq_some_iff.mp hxx).1
          have hrl := rst_len (cyc (i + 1)) ns
          refine ⟨.int x, rfl, rfl, _, rfl, ite2 (fun h => ?_) (fun h => ?_)⟩
          · have hx0 : ¬ x = 0 := fun z => by
              subst z
              revert h
              decide
            refine ⟨_, g5, ?_, same_over s5 hD, ?_⟩
            · rw [List.length_map, List.length_map]
              have := List.length_filter_le (fun x => decide (x ≠ 0)) ((rst (cyc (i + 1)) ns).take j)
              rw [List.length_take] at this
              exact sz40 (by omega)
            · rw [upd_same, filt_next hxx, if_neg hx0, List.map_append, List.map_append]
              rfl
          · have hx0 : x = 0 := by
              by_cases z : x = 0
              · exact z
              · exfalso
                refine h ?_
                show (!decide (V.int x = V.int 0)) = true
                rw [decide_eq_false (fun y => z (V.int.inj y))]
                rfl
            refine ⟨s5, ?_⟩
            rw [filt_next hxx, if_pos hx0, List.append_nil]
            exact g5
        · obtain ⟨s5, g5⟩ := hP
          rw [List.length_map, List.take_of_length_le (Nat.le_refl _)] at g5
          refine ⟨Nat.zero_le _, fun z1 hz1 => ?_⟩
          have sz := new_same (o := .lst []) hz1
          have rO : RP (dI (((rst (cyc (i + 1)) ns).filter fun x => decide (x ≠ 0)).map fun _ => (1 : Int))) := rp_ints fun x hx => by
            obtain ⟨_, _, rfl⟩ := List.mem_map.mp hx
            exact Nat.lt_of_lt_of_le (m := 2) (by decide) (Nat.le_trans (m := 2 ^ 1) (by decide) (pow_up (by decide)))
          have r0 : RP (dI []) := rp_ints fun x hx => (List.not_mem_nil hx).elim
          refine ⟨_, _, dp_ints (SqL.of (sz _ _ g5)), dp_ints (ns := []) (SqL.of upd_same), rO.shaped, r0.shaped, ?_⟩
          rw [eqv_dI0, ones_all]
          have eb : ((rst (cyc (i + 1)) ns).all fun x => decide (x = 0)) = blB ns (i + 1) := rfl
          rw [eb]
          have s6 := (s24.trans s5).trans sz
          have g6 := sz _ _ (s5 _ _ (s4 _ _ (s3 _ _ g2)))
          cases hb : blB ns (i + 1) with
          | true =>
            refine ⟨_, rfl, iteT ?_⟩
            refine ⟨.ref F, rfl, .inl ⟨rfl, _, SqL.of g6⟩, .int (1 + i), rfl, F, _, _, rfl, rfl, g6, ?_, ?_⟩
            · unfold nI
              rw [List.length_map, List.length_map]
              have := blindN_len ns i
              exact sz40 (by omega)
            · refine ⟨_, _, rfl, same_over s6 hF, ?_⟩
              rw [upd_same, blindN_next hz, if_pos hb, ei]
              unfold nI
              rw [List.map_append, List.map_append]
              rfl
          | false =>
            refine ⟨_, rfl, iteF ⟨_, _, rfl, s6, ?_⟩⟩
            rw [blindN_next hz, if_neg (by rw [hb]; exact Bool.false_ne_true)]
            exact g6
      · have hz : ¬ ns.length % (i + 1) = 0 := fun z => h (decide_eq_true (by
          rw [ei]
          show V.int ((ns.length : Int) % ((i + 1 : Nat) : Int)) = V.int 0
          rw [show (ns.length : Int) % ((i + 1 : Nat) : Int) = 0 by omega]))
        refine iteF ⟨_, _, rfl, s2, ?_⟩
        rw [blindN_no hz]
        exact g2
    · obtain ⟨y3, y4, rfl, s2, g2⟩ := hP
      rw [show ((ns.length : Int) + 1 - 1).toNat = ns.length by omega] at g2
      exact ⟨.ref F, rfl, q F H2 s2 hF g2⟩
/-- the rows that hide, each at its spot -/
def hidRow (ns : List Int) (i : Nat) : List Int := List.replicate i 0 ++ hidQ ns ++ List.replicate (ns.length - (hidQ ns).length - i) 0
def hidRows (ns : List Int) : List (List Int) := (List.range (degS (blindL ns))).map fun i => hidRow ns i
theorem hidRows_len (ns : List Int) : (hidRows ns).length = degS (blindL ns) := by
  unfold hidRows
  rw [List.length_map, List.length_range]
def foldH (ns : List Int) (ds : List Nat) : List Int := ds.foldl (fun a d => quo (cyc d) a) (xn1 ns.length)
theorem foldH_snoc (ns : List Int) (ds : List Nat) (d : Nat) : foldH ns (ds ++ [d]) = quo (cyc d) (foldH ns ds) := by
  unfold foldH
  rw [List.foldl_append]
  rfl
theorem foldH_len {ns : List Int} (l1 : 1 ≤ ns.length) : ∀ (ds : List Nat) (a : List Int), a.length ≤ ns.length + 1 → (ds.foldl (fun a d => quo (cyc d) a) a).length ≤ ns.length + 1
  | [], a, h => h
  | d :: ds, a, h => by
    rw [List.foldl_cons]
    exact foldH_len l1 ds _ (by rw [quo_len]; omega)
theorem ok_law_hiding (T : Txt K mg) : FnOk P w K mg base CX0 10 T.a_law_hiding T.d_law_hiding ["disc_here"]
    (fun vs H Q _ => ∃ (a : Addr) (ns : List Int), vs = [.ref a] ∧ H a = some (.lst (ns.map V.int)) ∧ Rim ns ∧ ∀ (l : Addr) (rs : List V) (H' : Hp), Same H H' → H l = none → H' l = some (.lst rs) → Rows H H' rs (hidRows ns) → Q (.ref l) H') := by
  have G_law_blind := ok_law_blind (P := P) (w := w) (base := base) T
  have G_law_parted := ok_law_parted (P := P) (w := w) (base := base) T
  have G_law_root := ok_law_root (P := P) (w := w) (base := base) T
  refine T.F_law_hiding.ok sc_law_hiding (fun vs H Q E h => ?_) (fun cdv A outer s H vs Q E hr h => ?_)
  · obtain ⟨_, _, rfl, _⟩ := h
    rfl
  · obtain ⟨a, ns, rfl, hA, hR, q⟩ := h
    refine ⟨_, (pss_cons (ps_asg (pe_tup (pa_cons (pe_callB (lenL (K := K) rfl) (by rfl) T.n_len (by decide +kernel) (pa_cons (pv 0) pa_nil)) (pa_cons (pe_call G_law_blind hr (by rfl) T.g_law_blind T.F_law_blind.kp T.b_law_blind .nil pass0 (pa_cons (pv 0) pa_nil)) pa_nil))) (pg_tupL (K := K) (n := 2) rfl rfl (pgs_cons (pg_name (i := 1) sc_law_hiding.nd rfl (.inr rfl)) (pgs_cons (pg_name (i := 2) sc_law_hiding.nd rfl (.inl rfl)) pgs_nil))))
      (pss_cons (ps_set (i := 3) sc_law_hiding.nd rfl (.inr rfl) (pe_op op_cat (pe_op op_cat (pe_lst (pa_cons (pe_un un_neg pe_int) pa_nil)) (pe_op op_rep (pe_lst (pa_cons pe_int pa_nil)) (pe_op op_sub (pv 1) pe_int))) (pe_lst (pa_cons pe_int pa_nil))))
      (pss_cons (ps_for PassesOwn.never rfl (pi_listL (K := K) rfl (pv 2)) (pg_name (i := 4) sc_law_hiding.nd rfl (.inl rfl)) (pss_one (ps_set (i := 3) sc_law_hiding.nd rfl (.inr rfl) (pe_ix (ixT (K := K) rfl) (pe_call G_law_parted (hr.mono (by decide)) (by rfl) T.g_law_parted T.F_law_parted.kp T.b_law_parted .nil pass0 (pa_cons (pv 3) (pa_cons (pe_call G_law_root (hr.mono (by decide)) (by rfl) T.g_law_root T.F_law_root.kp T.b_law_root .nil pass0 (pa_cons (pv 4) pa_nil)) pa_nil))) pe_int (fun _ _ => rfl)))))
      (pss_one (ps_ret (pe_lc (own := [("spot", 5)]) (g := gName 5) (tt := tYes) (by rfl) sc_law_hiding.nd (pi_range1 (by rfl) T.n_range (pa_cons (pe_op op_add (pe_op op_sub (pv 1) (pe_callB (lenL (K := K) rfl) (by rfl) T.n_len (by decide +kernel) (pa_cons (pv 3) pa_nil))) pe_int) pa_nil)) (blkOk_by (own := [("spot", 5)]) (N := ["disc_here", "size", "blind", "found", "part", "spot"]) (sc := defScope s_law_hiding) (by decide +kernel))
        (fun _ _ _ _ _ => (pg_name (i := 5) sc_law_hiding.nd rfl (Or.inl rfl))) (fun _ _ _ _ _ => pts_nil) (fun _ _ _ _ _ => (pe_op op_cat (pe_op op_cat (pe_op op_rep (pe_lst (pa_cons pe_int pa_nil)) (pv 5)) (pv 3)) (pe_op op_rep (pe_lst (pa_cons pe_int pa_nil)) (pe_op op_sub (pe_op op_sub (pv 1) (pe_callB (lenL (K := K) rfl) (by rfl) T.n_len (by decide +kernel) (pa_cons (pv 3) pa_nil))) (pv 5))))))))))), ?_⟩
    have l40 := hR.le
    have l1 := hR.pos
    refine ⟨.ref a, rfl, a, _, rfl, .inl (SqL.of hA), ?_⟩
    rw [List.length_map]
    refine ⟨.ref a, rfl, a, ns, rfl, hA, hR, fun B H0 s0 fB gB => ?_⟩
    refine ⟨(by show 2 ≤ sizeLine; decide), fun p hp => ⟨p, _, rfl, SqT.of upd_same, rfl, _, _, rfl, _, _, rfl, rfl, ?_⟩⟩
    have sp := new_same (o := .tup [.int ns.length, .ref B]) hp
    have s0' := s0.trans sp
    have gB' := sp _ _ gB
    generalize upd H0 p (.tup [.int ns.length, .ref B]) = H' at s0' gB' ⊢
    clear sp gB s0 fB hp
    -- found
    refine ⟨1, rfl, (by show 1 ≤ sizeLine; decide), fun x1 h1 => ⟨(by show 1 ≤ sizeLine; decide), fun x2 h2 => ?_⟩⟩
    refine ⟨.int ns.length, rfl, ns.length, 1, rfl, rfl, x2, _, _, rfl, rfl, upd_same, by omega, by omega, (by show 1 * ((ns.length : Int) - 1).toNat ≤ sizeLine; exact sz40' (by omega)), fun x3 h3 => ?_⟩
    have k1 := (new_same (o := .lst (List.replicate ((ns.length : Int) - 1).toNat [V.int 0]).flatten) h3) _ _ ((new_same (o := .lst [.int 0]) h2) _ _ (upd_same (H := H') (a := x1) (o := .lst [.int (-1)])))
    refine ⟨x1, x3, _, _, rfl, rfl, k1, upd_same, ?_, fun x4 h4 => ⟨(by show 1 ≤ sizeLine; decide), fun x5 h5 => ?_⟩⟩
    · rw [rep_zero, List.length_map, List.length_replicate]
      show 1 + ((ns.length : Int) - 1).toNat ≤ sizeLine
      exact sz40' (by omega)
    refine ⟨x4, x5, _, _, rfl, rfl, (new_same (o := .lst [.int 1]) h5) _ _ upd_same, upd_same, ?_, fun x6 h6 => ?_⟩
    · rw [rep_zero, List.length_append, List.length_map, List.length_replicate]
      show 1 + ((ns.length : Int) - 1).toNat + 1 ≤ sizeLine
      exact sz40' (by omega)
    have s5 := ((((new_same (o := .lst [.int (-1)]) h1).trans (new_same (o := .lst [.int 0]) h2)).trans (new_same (o := .lst (List.replicate ((ns.length : Int) - 1).toNat [V.int 0]).flatten) h3)).trans (new_same (o := .lst ([V.int (-1)] ++ (List.replicate ((ns.length : Int) - 1).toNat [V.int 0]).flatten)) h4)).trans (new_same (o := .lst [.int 1]) h5)
    have s6 := s5.trans (new_same (o := .lst (([V.int (-1)] ++ (List.replicate ((ns.length : Int) - 1).toNat [V.int 0]).flatten) ++ [V.int 1])) h6)
    have ex : ([V.int (-1)] ++ (List.replicate ((ns.length : Int) - 1).toNat [V.int 0]).flatten) ++ [V.int 1] = (xn1 ns.length).map V.int := by
      unfold xn1
      rw [rep_zero, List.map_append, List.map_append, show ((ns.length : Int) - 1).toNat = ns.length - 1 by omega]
      rfl
    simp only [ex] at s6 ⊢
    have g6 : (upd (upd (upd (upd (upd (upd H' x1 (.lst [.int (-1)])) x2 (.lst [.int 0])) x3 (.lst (List.replicate ((ns.length : Int) - 1).toNat [V.int 0]).flatten)) x4 (.lst ([V.int (-1)] ++ (List.replicate ((ns.length : Int) - 1).toNat [V.int 0]).flatten))) x5 (.lst [.int 1])) x6 (.lst ((xn1 ns.length).map V.int))) x6 = some (.lst ((xn1 ns.length).map V.int)) := upd_same
    generalize upd (upd (upd (upd (upd (upd H' x1 (.lst [.int (-1)])) x2 (.lst [.int 0])) x3 (.lst (List.replicate ((ns.length : Int) - 1).toNat [V.int 0]).flatten)) x4 (.lst ([V.int (-1)] ++ (List.replicate ((ns.length : Int) - 1).toNat [V.int 0]).flatten))) x5 (.lst [.int 1])) x6 (.lst ((xn1 ns.length).map V.int)) = H6 at s6 g6 ⊢
    clear s5 h1 h2 h3 h4 h5 h6 k1
    have s06 := s0'.trans s6
    have gB6 := s6 _ _ gB'
    -- for part in blind
    refine ⟨.ref B, rfl, B, rfl, ⟨_, SqL.of gB6⟩, for_list (K := K) (a := B) (xs := (nI (blindL ns)).map V.int)
      (fun i σ H2 => ∃ (r : Addr) (y4 y5 : Option V), σ = [some (.ref a), some (.int ns.length), some (.ref B), some (.ref r), y4, y5] ∧ Same H6 H2 ∧ H2 r = some (.lst ((foldH ns ((blindL ns).take i)).map V.int)))
      ⟨x6, _, _, rfl, Same.refl H6, g6⟩ (fun i σ H2 _ ⟨_, _, _, _, s2, _⟩ => SqL.of (s2 _ _ gB6)) (fun i x σ H1 hx hP => ?_) (fun σ H1 hP => ?_)⟩
    · obtain ⟨r, y4, y5, rfl, s1, gr⟩ := hP
      obtain ⟨d, hd, rfl⟩ : ∃ d, (blindL ns)[i]? = some d ∧ x = .int (d : Int) := by
        unfold nI at hx
        rw [List.map_map, List.getElem?_map] at hx
        cases e : (blindL ns)[i]? with
        | none => rw [e] at hx; cases hx
        | some d => rw [e] at hx; exact ⟨d, rfl, (Option.some.inj hx).symm⟩
      have hdm := blind_mem (List.mem_of_getElem? hd)
      have hc := cyc_len (p := d) hdm.1 (by omega)
      have hl := foldH_len l1 ((blindL ns).take i) (xn1 ns.length) (by rw [xn1_len l1]; exact Nat.le_refl _)
      have hl' : (foldH ns ((blindL ns).take i)).length ≤ ns.length + 1 := hl
      refine ⟨.ref r, rfl, .int d, rfl, d, rfl, by omega, by omega, by omega, fun c H2 s2 e2 => ?_⟩
      refine ⟨r, c, _, cyc d, rfl, SqL.of (s2 _ _ gr), SqL.of e2, by omega, by omega, by omega, cyc_unt (by omega) (by omega), fun P' f' r' H3 s3 eP eF eR => ?_⟩
      refine ⟨P', _, 0, .ref f', rfl, rfl, SqT.of eP, rfl, ?_⟩
      refine ⟨f', _, _, rfl, (s1.trans s2).trans s3, ?_⟩
      rw [take_snoc hd, foldH_snoc]
      exact eF
    · obtain ⟨r, y4, y5, rfl, s1, gr⟩ := hP
      have en : ((nI (blindL ns)).map V.int).length = (blindL ns).length := by
        unfold nI
        rw [List.length_map, List.length_map]
      rw [en, List.take_of_length_le (Nat.le_refl _)] at gr
      have eh : foldH ns (blindL ns) = hidQ ns := rfl
      rw [eh] at gr
      have s01 := s06.trans s1
      have hql := hidQ_len l1 l40
      have hbd := blind_deg l1 l40
      have eN : (ns.length : Int) - ((hidQ ns).length : Int) + 1 = (degS (blindL ns) : Int) := by omega
      refine ⟨.int ns.length, rfl, .ref r, rfl, r, _, rfl, .inl (SqL.of gr), ns.length, _, rfl, rfl, _, 1, rfl, rfl, _, rfl, ?_, ?_, fun D hD => ?_⟩
      · rw [List.length_map]; omega
      · rw [List.length_map]; omega
      rw [List.length_map, eN, Int.toNat_natCast]
      refine lc_range (lo := 0) (n := degS (blindL ns)) (fun i H2 => ∃ vs, Same H1 H2 ∧ H2 D = some (.lst vs) ∧ Rows H1 H2 vs ((hidRows ns).take i)) ⟨[], new_same hD, upd_same, .nil⟩ (fun i H2 hi hP => ⟨rfl, ?_⟩) (fun H2 hP => ?_)
      · obtain ⟨vs, s2, g2, r2⟩ := hP
        have gr2 := s2 _ _ gr
        refine ⟨(by show 1 ≤ sizeLine; decide), fun z1 q1 => ?_⟩
        refine ⟨.int (0 + i), rfl, z1, 0 + i, _, rfl, rfl, upd_same, by omega, by omega, (by show 1 * ((0 : Int) + (i : Int)).toNat ≤ sizeLine; exact sz40' (by omega)), fun z2 q2 => ?_⟩
        have t1 := new_same (o := .lst [.int 0]) q1
        have t2 := t1.trans (new_same (o := .lst (List.replicate ((0 : Int) + (i : Int)).toNat [V.int 0]).flatten) q2)
        refine ⟨.ref r, rfl, z2, r, _, _, rfl, rfl, upd_same, t2 _ _ gr2, ?_, fun z3 q3 => ?_⟩
        · rw [rep_zero, List.length_map, List.length_replicate, List.length_map]
          exact sz40' (by omega)
        have t3 := t2.trans (new_same (o := .lst ((List.replicate ((0 : Int) + (i : Int)).toNat [V.int 0]).flatten ++ (hidQ ns).map V.int)) q3)
        refine ⟨(by show 1 ≤ sizeLine; decide), fun z4 q4 => ?_⟩
        have t4 := t3.trans (new_same (o := .lst [.int 0]) q4)
        refine ⟨.int ns.length, rfl, .ref r, rfl, r, _, rfl, .inl (SqL.of (t4 _ _ gr2)), ns.length, _, rfl, rfl, .int (0 + i), rfl, _, 0 + i, rfl, rfl, z4, _, _, rfl, rfl, upd_same, ?_, ?_, ?_, fun z5 q5 => ?_⟩
        · rw [List.length_map]; omega
        · rw [List.length_map]; omega
        · show 1 * ((ns.length : Int) - (((hidQ ns).map V.int).length : Int) - (0 + (i : Int))).toNat ≤ sizeLine
          exact sz40' (by rw [List.length_map]; omega)
        have g3 := (new_same (o := .lst (List.replicate ((ns.length : Int) - (((hidQ ns).map V.int).length : Int) - (0 + (i : Int))).toNat [V.int 0]).flatten) q5) _ _ ((new_same (o := .lst [.int 0]) q4) _ _ (upd_same (H := upd (upd H2 z1 (.lst [.int 0])) z2 (.lst (List.replicate ((0 : Int) + (i : Int)).toNat [V.int 0]).flatten)) (a := z3) (o := .lst ((List.replicate ((0 : Int) + (i : Int)).toNat [V.int 0]).flatten ++ (hidQ ns).map V.int))))
        have t5 := t4.trans (new_same (o := .lst (List.replicate ((ns.length : Int) - (((hidQ ns).map V.int).length : Int) - (0 + (i : Int))).toNat [V.int 0]).flatten) q5)
        refine ⟨z3, z5, _, _, rfl, rfl, g3, upd_same, ?_, fun z6 q6 => ?_⟩
        · rw [rep_zero, rep_zero, List.length_append, List.length_map, List.length_map, List.length_map, List.length_replicate, List.length_replicate]
          exact sz40' (by omega)
        have er : ((List.replicate ((0 : Int) + (i : Int)).toNat [V.int 0]).flatten ++ (hidQ ns).map V.int) ++ (List.replicate ((ns.length : Int) - (((hidQ ns).map V.int).length : Int) - (0 + (i : Int))).toNat [V.int 0]).flatten = (hidRow ns i).map V.int := by
          unfold hidRow
          rw [rep_zero, rep_zero, List.map_append, List.map_append, show ((0 : Int) + (i : Int)).toNat = i by omega, List.length_map, show ((ns.length : Int) - ((hidQ ns).length : Int) - (0 + (i : Int))).toNat = ns.length - (hidQ ns).length - i by omega]
        have t6 := t5.trans (new_same (o := .lst ((hidRow ns i).map V.int)) q6)
        simp only [er]
        have hrow : (hidRows ns)[i]? = some (hidRow ns i) := by
          unfold hidRows
          rw [List.getElem?_map, List.getElem?_range hi]
          rfl
        obtain ⟨s7, r7⟩ := rows_step hD s2 g2 r2 t6 (t5.free q6) upd_same hrow
        exact ⟨vs, t6 _ _ g2, rows_fit r2 (hidRows_len ns) (by omega), vs ++ [.ref z6], s7, upd_same, r7⟩
      · obtain ⟨vs, s2, g2, r2⟩ := hP
        rw [List.take_of_length_le (by rw [hidRows_len]; exact Nat.le_refl _)] at r2
        exact q D vs H2 (s01.trans s2) (s01.free hD) g2 (r2.down s01)

/-! ### _law_things -/
theorem hidRow_len {ns : List Int} (l1 : 1 ≤ ns.length) (l40 : ns.length ≤ 40) {i : Nat} (h : i < degS (blindL ns)) : (hidRow ns i).length = ns.length := by
  have h1 := hidQ_len l1 l40
  have h2 := blind_deg l1 l40
  unfold hidRow
  rw [List.length_append, List.length_append, List.length_replicate, List.length_replicate]
  omega
theorem hidRow_ab {ns : List Int} (l1 : 1 ≤ ns.length) (l40 : ns.length ≤ 40) (i : Nat) : Ab 400 (hidRow ns i) := fun n hn => by
  unfold hidRow at hn
  have z : (0 : Int).natAbs < 2 ^ 400 := Nat.pos_of_ne_zero (by have := Nat.one_le_two_pow (n := 400); omega)
  rcases List.mem_append.mp hn with h | h
  · rcases List.mem_append.mp h with h | h
    · rw [(List.mem_replicate.mp h).2]
      exact z
    · exact hidQ_ab l1 l40 n h
  · rw [(List.mem_replicate.mp h).2]
    exact z
def mulAdd (k : Int) (xs ys : List Int) : List Int := List.zipWith (fun x y => x + k * y) xs ys
theorem mulAdd_len (k : Int) (xs ys : List Int) : (mulAdd k xs ys).length = min xs.length ys.length := List.length_zipWith
theorem mulAdd_at {k : Int} {xs ys : List Int} {i : Nat} {x y : Int} (h1 : xs[i]? = some x) (h2 : ys[i]? = some y) : (mulAdd k xs ys)[i]? = some (x + k * y) := by
  unfold mulAdd
  rw [List.getElem?_zipWith, h1, h2]
theorem mulAdd_ab {k : Int} (hk : k.natAbs < 2 ^ 200) : ∀ {xs ys : List Int} {b : Nat}, 600 ≤ b → Ab b xs → Ab 400 ys → Ab (b + 1) (mulAdd k xs ys)
  | [], _, _, _, _, _ => fun n hn => by
    unfold mulAdd at hn
    rw [List.zipWith_nil_left] at hn
    exact (List.not_mem_nil hn).elim
  | _ :: _, [], _, _, _, _ => fun n hn => by
    unfold mulAdd at hn
    rw [List.zipWith_nil_right] at hn
    exact (List.not_mem_nil hn).elim
  | x :: xs, y :: ys, b, hb, h1, h2 => fun n hn => by
    unfold mulAdd at hn
    rw [List.zipWith_cons_cons] at hn
    rcases List.mem_cons.mp hn with z | z
    · have a1 := h1 x List.mem_cons_self
      have a2 := wide_lt hk (h2 y List.mem_cons_self)
      have a3 : (k * y).natAbs < 2 ^ b := Nat.lt_of_lt_of_le a2 (pow_up hb)
      rw [z, Nat.pow_succ]
      omega
    · exact mulAdd_ab hk hb (fun m hm => h1 m (List.mem_cons_of_mem _ hm)) (fun m hm => h2 m (List.mem_cons_of_mem _ hm)) n z
def spThings : Sp := fun vs H Q _ => ∃ (t a S : Addr) (ns : List Int) (rs : List V) (c : Int), vs = [.ref t, .ref a, .ref S] ∧ Tank H t c ∧ 0 ≤ c ∧ c < 2 ^ 38 ∧ a ≠ t ∧ S ≠ t ∧ H a = some (.lst (ns.map V.int)) ∧ Rim ns ∧ H S = some (.lst rs) ∧ rs.length ≤ 40 ∧
  (∀ (i : Nat) (v : V), rs[i]? = some v → ∃ (r : Addr) (m : List Int), v = .ref r ∧ r ≠ t ∧ m.length = ns.length ∧ Ab 400 m ∧ H r = some (.lst (m.map V.int))) ∧
  ∀ (f : Addr) (xs : List V) (H' : Hp), But t H H' → Tank H' t (c + 20) → f ≠ t → H' f = some (.lst xs) → xs.length ≤ 200 → (∀ x ∈ xs, T9 t H' x) → Q (.ref f) H'
theorem ok_law_things (T : Txt K mg) : FnOk P w K mg base CX0 2 T.a_law_things T.d_law_things ["jar", "disc_here", "hiding"] spThings := by
  have G_law_pick := ok_law_pick (P := P) (w := w) (base := base) T
  refine T.F_law_things.ok sc_law_things (fun vs H Q E h => ?_) (fun cdv A outer s H vs Q E hr h => ?_)
  · obtain ⟨_, _, _, _, _, _, rfl, _⟩ := h
    rfl
  · obtain ⟨t, a, S, ns, rs, c, rfl, hT, hc0, hc, hat, hSt, ha, hR, hSS, hrl, hrs, q⟩ := h
    refine ⟨_, (pss_cons (ps_set (i := 3) sc_law_things.nd rfl (.inl rfl) (pe_callB (lenL (K := K) rfl) (by rfl) T.n_len (by decide +kernel) (pa_cons (pv 1) pa_nil)))
      (pss_cons (ps_par (i := 4) (j := 5) (by rfl) sc_law_things.nd rfl rfl (by decide) rfl rfl (pa_cons (pe_op op_rep (pe_lst (pa_cons pe_int pa_nil)) (pv 3)) (pa_cons (pe_lst (pa_cons pe_non (pa_cons pe_int (pa_cons pe_str (pa_cons (pe_tup pa_nil) (pa_cons (pe_lst pa_nil) (pa_cons pe_dnewK (pa_cons pe_bl (pa_cons (pe_op op_rep (pe_lst (pa_cons pe_non pa_nil)) (pv 3)) (pa_cons (pe_op op_rep (pe_lst (pa_cons pe_int pa_nil)) (pe_op op_add (pv 3) pe_int)) (pa_cons (pe_op op_rep (pe_lst (pa_cons pe_int pa_nil)) pe_int) (pa_cons (pe_lst (pa_cons (pe_op op_rep (pe_lst (pa_cons pe_int pa_nil)) (pv 3)) pa_nil)) pa_nil)))))))))))) pa_nil)) (by rfl))
      (pss_cons (ps_for PassesOwn.never rfl (pi_listL (K := K) rfl (pe_slice (slL (K := K) rfl) (pv 2) po_none (po_some pe_int))) (pg_name (i := 6) sc_law_things.nd rfl (.inl rfl)) (pss_cons (ps_set (i := 7) sc_law_things.nd rfl (.inr rfl) (pe_ix (ixL (K := K) rfl) (pe_lst (pa_cons pe_int (pa_cons (pe_un un_neg pe_int) (pa_cons pe_int (pa_cons (pe_call G_law_pick hr (by rfl) T.g_law_pick T.F_law_pick.kp T.b_law_pick .nil pass0 (pa_cons (pv 0) (pa_cons (pe_op op_pow pe_int pe_int) pa_nil))) pa_nil))))) (pe_call G_law_pick hr (by rfl) T.g_law_pick T.F_law_pick.kp T.b_law_pick .nil pass0 (pa_cons (pv 0) (pa_cons pe_int pa_nil))) (fun _ _ => rfl)))
      (pss_cons (ps_setLc (i := 4) (own := [("one", 8), ("two", 9)]) (tt := tYes) (by rfl) sc_law_things.nd rfl rfl (sw_true rfl rfl rfl (by decide +kernel)) (zipL (K := K) rfl (by rfl) T.n_zip (pa_cons (pv 4) (pa_cons (pv 6) pa_nil))) (blkOk_by (own := [("one", 8), ("two", 9)]) (N := ["jar", "disc_here", "hiding", "size", "some", "found", "row", "often", "one", "two", "spot", "thing"]) (sc := defScope s_law_things) (by decide +kernel))
        (fun _ _ _ _ _ => (pg_tupL (K := K) (n := 2) rfl rfl (pgs_cons (pg_name (i := 8) sc_law_things.nd rfl (.inl rfl)) (pgs_cons (pg_name (i := 9) sc_law_things.nd rfl (.inl rfl)) pgs_nil)))) (fun _ _ _ _ _ => pts_nil) (fun _ _ _ _ _ => (pe_op op_add (pv 8) (pe_op op_mulW (pv 7) (pv 9)))))
      (pss_one (ps_expr (pe_bm PySem.F.plainAttrs_list PySem.F.slot_list_append PySem.F.type_list_append mt_append (pv 5) (pa_cons (pe_callTy (listL (K := K) rfl) (by rfl) T.n_list (by decide +kernel) (pa_cons (pv 4) pa_nil)) pa_nil)))))))
      (pss_cons (ps_set (i := 10) sc_law_things.nd rfl (.inl rfl) (pe_call G_law_pick hr (by rfl) T.g_law_pick T.F_law_pick.kp T.b_law_pick .nil pass0 (pa_cons (pv 0) (pa_cons (pv 3) pa_nil))))
      (pss_cons (ps_set (i := 5) sc_law_things.nd rfl (.inl rfl) (pe_op op_cat (pv 5) (pe_lst (pa_cons (pe_op op_cat (pe_op op_cat (pe_slice (slL (K := K) rfl) (pv 4) po_none (po_some (pv 10))) (pe_lst (pa_cons (pe_op op_add (pe_ix (ixL (K := K) rfl) (pv 4) (pv 10) (fun _ _ => rfl)) pe_int) pa_nil))) (pe_slice (slL (K := K) rfl) (pv 4) (po_some (pe_op op_add (pv 10) pe_int)) po_none)) (pa_cons (pe_op op_cat (pe_slice (slL (K := K) rfl) (pv 4) (po_some pe_int) po_none) (pe_slice (slL (K := K) rfl) (pv 4) po_none (po_some pe_int))) (pa_cons (pe_revL (pv 4)) (pa_cons (pe_callTy call_tuple_of (by rfl) T.n_tuple (by decide +kernel) (pa_cons (pv 4) pa_nil)) pa_nil)))))))
      (pss_cons (ps_for PassesOwn.never rfl (pi_tupL (K := K) rfl (pe_tup (pa_cons pe_non (pa_cons pe_bl (pa_cons pe_bl (pa_cons pe_str (pa_cons (pe_lst (pa_cons pe_int pa_nil)) (pa_cons (pe_tup (pa_cons pe_int pa_nil)) pa_nil)))))))) (pg_name (i := 11) sc_law_things.nd rfl (.inl rfl)) (pss_one (ps_set (i := 5) sc_law_things.nd rfl (.inl rfl) (pe_op op_cat (pv 5) (pe_lst (pa_cons (pe_op op_cat (pe_slice (slL (K := K) rfl) (pv 4) po_none (po_some (pe_un un_neg pe_int))) (pe_lst (pa_cons (pv 11) pa_nil))) (pa_cons (pe_op op_cat (pe_lst (pa_cons (pv 11) pa_nil)) (pe_slice (slL (K := K) rfl) (pv 4) (po_some pe_int) po_none)) pa_nil)))))))
      (pss_one (ps_ret (pe_op op_cat (pv 5) (pe_lst (pa_cons (pe_op op_rep (pe_lst (pa_cons pe_int pa_nil)) (pv 3)) (pa_cons (pe_op op_rep (pe_lst (pa_cons pe_int pa_nil)) (pv 3)) (pa_cons (pe_callTy (listL (K := K) rfl) (by rfl) T.n_list (by decide +kernel) (pa_cons (pv 1) pa_nil)) (pa_cons (pe_lc (own := [("one", 8)]) (g := gName 8) (tt := tYes) (by rfl) sc_law_things.nd (pi_listL (K := K) rfl (pv 4)) (blkOk_by (own := [("one", 8)]) (N := ["jar", "disc_here", "hiding", "size", "some", "found", "row", "often", "one", "two", "spot", "thing"]) (sc := defScope s_law_things) (by decide +kernel))
        (fun _ _ _ _ _ => (pg_name (i := 8) sc_law_things.nd rfl (Or.inl rfl))) (fun _ _ _ _ _ => pts_nil) (fun _ _ _ _ _ => (pe_op op_sub pe_int (pv 8)))) (pa_cons (pe_slice (slL (K := K) rfl) (pv 4) po_none (po_some (pe_un un_neg pe_int))) (pa_cons (pe_op op_cat (pv 4) (pe_lst (pa_cons pe_int pa_nil))) pa_nil)))))))))))))))), ?_⟩
    have l40 := hR.le
    have l1 := hR.pos
    have z0 : (0 : Int).natAbs < 2 ^ 1000 := by decide +kernel
    have z1 : (1 : Int).natAbs < 2 ^ 1000 := by decide +kernel
    have one : (1 : Nat) ≤ sizeLine := by decide
    refine ⟨.ref a, rfl, a, _, rfl, .inl (SqL.of ha), ?_⟩
    rw [List.length_map]
    refine ⟨one, fun p1 hp1 => ?_⟩
    have dp1 := new_same (o := .lst [.int 0]) hp1
    have gp1 : upd H p1 (.lst [.int 0]) p1 = some (.lst [.int 0]) := upd_same
    generalize upd H p1 (.lst [.int 0]) = H1 at dp1 gp1 ⊢
    refine ⟨.int ns.length, rfl, p1, ns.length, _, rfl, rfl, gp1, by omega, by omega, (by show 1 * _ ≤ sizeLine; exact sz40' (by omega)), fun p2 hp2 => ?_⟩
    have dp2 := new_same (o := .lst (List.replicate ((ns.length : Nat) : Int).toNat [V.int 0]).flatten) hp2
    have gp2 : upd H1 p2 (.lst (List.replicate ((ns.length : Nat) : Int).toNat [V.int 0]).flatten) p2 = some (.lst (List.replicate ((ns.length : Nat) : Int).toNat [V.int 0]).flatten) := upd_same
    generalize upd H1 p2 (.lst (List.replicate ((ns.length : Nat) : Int).toNat [V.int 0]).flatten) = H2 at dp2 gp2 ⊢
    refine ⟨Nat.zero_le _, fun p3 hp3 => ?_⟩
    have dp3 := new_same (o := .tup []) hp3
    have gp3 : upd H2 p3 (.tup []) p3 = some (.tup []) := upd_same
    generalize upd H2 p3 (.tup []) = H3 at dp3 gp3 ⊢
    refine ⟨Nat.zero_le _, fun p4 hp4 => ?_⟩
    have dp4 := new_same (o := .lst []) hp4
    have gp4 : upd H3 p4 (.lst []) p4 = some (.lst []) := upd_same
    generalize upd H3 p4 (.lst []) = H4 at dp4 gp4 ⊢
    intro p5 hp5
    have dp5 := new_same (o := .dK []) hp5
    have gp5 : upd H4 p5 (.dK []) p5 = some (.dK []) := upd_same
    generalize upd H4 p5 (.dK []) = H5 at dp5 gp5 ⊢
    refine ⟨one, fun p6 hp6 => ?_⟩
    have dp6 := new_same (o := .lst [.non]) hp6
    have gp6 : upd H5 p6 (.lst [.non]) p6 = some (.lst [.non]) := upd_same
    generalize upd H5 p6 (.lst [.non]) = H6 at dp6 gp6 ⊢
    refine ⟨.int ns.length, rfl, p6, ns.length, _, rfl, rfl, gp6, by omega, by omega, (by show 1 * _ ≤ sizeLine; exact sz40' (by omega)), fun p7 hp7 => ?_⟩
    have dp7 := new_same (o := .lst (List.replicate ((ns.length : Nat) : Int).toNat [V.non]).flatten) hp7
    have gp7 : upd H6 p7 (.lst (List.replicate ((ns.length : Nat) : Int).toNat [V.non]).flatten) p7 = some (.lst (List.replicate ((ns.length : Nat) : Int).toNat [V.non]).flatten) := upd_same
    generalize upd H6 p7 (.lst (List.replicate ((ns.length : Nat) : Int).toNat [V.non]).flatten) = H7 at dp7 gp7 ⊢
    refine ⟨one, fun p8 hp8 => ?_⟩
    have dp8 := new_same (o := .lst [.int 0]) hp8
    have gp8 : upd H7 p8 (.lst [.int 0]) p8 = some (.lst [.int 0]) := upd_same
    generalize upd H7 p8 (.lst [.int 0]) = H8 at dp8 gp8 ⊢
    refine ⟨.int ns.length, rfl, ns.length, 1, rfl, rfl, p8, _, _, rfl, rfl, gp8, by omega, by omega, (by show 1 * _ ≤ sizeLine; exact sz40' (by omega)), fun p9 hp9 => ?_⟩
    have dp9 := new_same (o := .lst (List.replicate (((ns.length : Nat) : Int) + 1).toNat [V.int 0]).flatten) hp9
    have gp9 : upd H8 p9 (.lst (List.replicate (((ns.length : Nat) : Int) + 1).toNat [V.int 0]).flatten) p9 = some (.lst (List.replicate (((ns.length : Nat) : Int) + 1).toNat [V.int 0]).flatten) := upd_same
    generalize upd H8 p9 (.lst (List.replicate (((ns.length : Nat) : Int) + 1).toNat [V.int 0]).flatten) = H9 at dp9 gp9 ⊢
    refine ⟨one, fun p10 hp10 => ?_⟩
    have dp10 := new_same (o := .lst [.int 0]) hp10
    have gp10 : upd H9 p10 (.lst [.int 0]) p10 = some (.lst [.int 0]) := upd_same
    generalize upd H9 p10 (.lst [.int 0]) = H10 at dp10 gp10 ⊢
    refine ⟨p10, 200, _, rfl, rfl, gp10, by decide, by decide, (by show 1 * 200 ≤ sizeLine; decide), fun p11 hp11 => ?_⟩
    have dp11 := new_same (o := .lst (List.replicate (200 : Int).toNat [V.int 0]).flatten) hp11
    have gp11 : upd H10 p11 (.lst (List.replicate (200 : Int).toNat [V.int 0]).flatten) p11 = some (.lst (List.replicate (200 : Int).toNat [V.int 0]).flatten) := upd_same
    generalize upd H10 p11 (.lst (List.replicate (200 : Int).toNat [V.int 0]).flatten) = H11 at dp11 gp11 ⊢
    refine ⟨one, fun p12 hp12 => ?_⟩
    have dp12 := new_same (o := .lst [.int 0]) hp12
    have gp12 : upd H11 p12 (.lst [.int 0]) p12 = some (.lst [.int 0]) := upd_same
    generalize upd H11 p12 (.lst [.int 0]) = H12 at dp12 gp12 ⊢
    refine ⟨.int ns.length, rfl, p12, ns.length, _, rfl, rfl, gp12, by omega, by omega, (by show 1 * _ ≤ sizeLine; exact sz40' (by omega)), fun p13 hp13 => ?_⟩
    have dp13 := new_same (o := .lst (List.replicate ((ns.length : Nat) : Int).toNat [V.int 0]).flatten) hp13
    have gp13 : upd H12 p13 (.lst (List.replicate ((ns.length : Nat) : Int).toNat [V.int 0]).flatten) p13 = some (.lst (List.replicate ((ns.length : Nat) : Int).toNat [V.int 0]).flatten) := upd_same
    generalize upd H12 p13 (.lst (List.replicate ((ns.length : Nat) : Int).toNat [V.int 0]).flatten) = H13 at dp13 gp13 ⊢
    refine ⟨one, fun p14 hp14 => ?_⟩
    have dp14 := new_same (o := .lst [.ref p13]) hp14
    have gp14 : upd H13 p14 (.lst [.ref p13]) p14 = some (.lst [.ref p13]) := upd_same
    generalize upd H13 p14 (.lst [.ref p13]) = H14 at dp14 gp14 ⊢
    refine ⟨(by show 11 ≤ sizeLine; decide), fun f hf => ?_⟩
    have df := new_same (o := .lst [.non, .int 0, .str "0", .ref p3, .ref p4, .ref p5, .bl true, .ref p7, .ref p9, .ref p11, .ref p14]) hf
    have gf : upd H14 f (.lst [.non, .int 0, .str "0", .ref p3, .ref p4, .ref p5, .bl true, .ref p7, .ref p9, .ref p11, .ref p14]) f = some (.lst [.non, .int 0, .str "0", .ref p3, .ref p4, .ref p5, .bl true, .ref p7, .ref p9, .ref p11, .ref p14]) := upd_same
    generalize upd H14 f (.lst [.non, .int 0, .str "0", .ref p3, .ref p4, .ref p5, .bl true, .ref p7, .ref p9, .ref p11, .ref p14]) = H15 at df gf ⊢
    have b0 : ∀ {A B : Hp}, Same A B → But t A B := fun s => But.of s
    have r14 := Same.refl H14
    have r13 := dp14.trans r14
    have r12 := dp13.trans r13
    have r11 := dp12.trans r12
    have r10 := dp11.trans r11
    have r9 := dp10.trans r10
    have r8 := dp9.trans r9
    have r7 := dp8.trans r8
    have r6 := dp7.trans r7
    have r5 := dp6.trans r6
    have r4 := dp5.trans r5
    have r3 := dp4.trans r4
    have r2 := dp3.trans r3
    have r1 := dp2.trans r2
    have r0 := dp1.trans r1
    have t0 := hT
    have t1 := t0.same dp1
    have t2 := t1.same dp2
    have t3 := t2.same dp3
    have t4 := t3.same dp4
    have t5 := t4.same dp5
    have t6 := t5.same dp6
    have t7 := t6.same dp7
    have t8 := t7.same dp8
    have t9 := t8.same dp9
    have t10 := t9.same dp10
    have t11 := t10.same dp11
    have t12 := t11.same dp12
    have t13 := t12.same dp13
    have t14 := t13.same dp14
    have np1 : p1 ≠ t := t0.ne hp1
    have np2 : p2 ≠ t := t1.ne hp2
    have np3 : p3 ≠ t := t2.ne hp3
    have np4 : p4 ≠ t := t3.ne hp4
    have np5 : p5 ≠ t := t4.ne hp5
    have np6 : p6 ≠ t := t5.ne hp6
    have np7 : p7 ≠ t := t6.ne hp7
    have np8 : p8 ≠ t := t7.ne hp8
    have np9 : p9 ≠ t := t8.ne hp9
    have np10 : p10 ≠ t := t9.ne hp10
    have np11 : p11 ≠ t := t10.ne hp11
    have np12 : p12 ≠ t := t11.ne hp12
    have np13 : p13 ≠ t := t12.ne hp13
    have np14 : p14 ≠ t := t13.ne hp14
    have nf : f ≠ t := t14.ne hf
    have T3 : T9 t H14 (.ref p3) := (t9_tuple gp3 np3 (by decide) (fun x hx => (List.not_mem_nil hx).elim)).but (b0 r3)
    have T4 : T9 t H14 (.ref p4) := (t9_list gp4 np4 (by decide) (fun x hx => (List.not_mem_nil hx).elim)).but (b0 r4)
    have T5 : T9 t H14 (.ref p5) := (t9_emp gp5 np5).but (b0 r5)
    have T7 : T9 t H14 (.ref p7) := (t9_list (by rw [rep_any] at gp7; exact gp7) np7 (by rw [List.length_replicate]; omega) (fun x hx => by rw [(List.mem_replicate.mp hx).2]; exact e9_non)).but (b0 r7)
    have T9' : T9 t H14 (.ref p9) := (t9_rep gp9 np9 (by omega) z0).but (b0 r9)
    have T11 : T9 t H14 (.ref p11) := (t9_rep gp11 np11 (by decide) z0).but (b0 r11)
    have T14 : T9 t H14 (.ref p14) := (t9_one (ns := List.replicate ((ns.length : Nat) : Int).toNat 0) gp14 np14 (dp14 _ _ (by rw [rep_one] at gp13; exact gp13)) np13 (by rw [List.length_replicate]; omega) (fun m hm => by rw [(List.mem_replicate.mp hm).2]; exact z0)).but (b0 r14)
    have TH : ∀ x ∈ ([.non, .int 0, .str "0", .ref p3, .ref p4, .ref p5, .bl true, .ref p7, .ref p9, .ref p11, .ref p14] : List V), T9 t H14 x := fun x hxx => by
      simp only [List.mem_cons, List.not_mem_nil, or_false] at hxx
      rcases hxx with rfl | rfl | rfl | rfl | rfl | rfl | rfl | rfl | rfl | rfl | rfl
      · exact e9_non.th
      · exact (e9_int z0).th
      · exact e9_str0.th
      · exact T3
      · exact T4
      · exact T5
      · exact (e9_bl true).th
      · exact T7
      · exact T9'
      · exact T11
      · exact T14
    have kF := t14.same df
    have nf := nf
    have sF := r0.trans df
    have fH : H f = none := r0.free hf
    have gsm : H15 p2 = some (.lst ((List.replicate ns.length (0 : Int)).map V.int)) := by
      have := df _ _ (r2 _ _ gp2)
      rw [rep_one, Int.toNat_natCast] at this
      exact this
    have THf : ∀ x ∈ ([.non, .int 0, .str "0", .ref p3, .ref p4, .ref p5, .bl true, .ref p7, .ref p9, .ref p11, .ref p14] : List V), T9 t (mask f H15) x := fun x hx => (TH x hx).but (mask_in (b0 df) hf)
    have fsm : H p2 = none := dp1.free hp2
    have p2f : p2 ≠ f := fun z => by
      have := r2 _ _ gp2
      rw [z, hf] at this
      cases this
    clear T3 T4 T5 T7 T9' T11 T14 r14 r13 r12 r11 r10 r9 r8 r7 r6 r5 r4 r3 r2 r1 r0 dp1 dp2 dp3 dp4 dp5 dp6 dp7 dp8 dp9 dp10 dp11 dp12 dp13 dp14 df
    generalize H15 = HF at kF sF gf gsm THf ⊢
    refine ⟨_, _, rfl, ?_⟩
    have aF := sF _ _ ha
    have SF := sF _ _ hSS
    -- for row in hiding[:9]
    refine ⟨.ref S, rfl, 9, rfl, S, _, rfl, SqL.of SF, fun L hL => ?_⟩
    rw [cut_takeV rs 9 (by decide)]
    have dL := new_same (o := .lst (rs.take (9 : Int).toNat)) hL
    have nL : L ≠ t := kF.ne hL
    have gL : upd HF L (.lst (rs.take (9 : Int).toNat)) L = some (.lst (rs.take (9 : Int).toNat)) := upd_same
    have Lf : L ≠ f := fun z => by rw [z, gf] at hL; cases hL
    refine ⟨L, rfl, ⟨_, SqL.of gL⟩, for_list (K := K) (a := L) (xs := rs.take (9 : Int).toNat)
      (fun i σ H' => ∃ (sm : Addr) (ms : List Int) (xs : List V) (y6 y7 y8 y9 : Option V), σ = [some (.ref t), some (.ref a), some (.ref S), some (.int ns.length), some (.ref sm), some (.ref f), y6, y7, y8, y9, none, none] ∧
        But2 t f (upd HF L (.lst (rs.take (9 : Int).toNat))) H' ∧ Tank H' t (c + 2 * i) ∧ sm ≠ t ∧ sm ≠ f ∧ H' sm = some (.lst (ms.map V.int)) ∧ ms.length = ns.length ∧ Ab (600 + i) ms ∧ H' f = some (.lst xs) ∧ xs.length ≤ 11 + i ∧ (∀ x ∈ xs, T9 t (mask f H') x))
      ⟨p2, List.replicate ns.length 0, _, _, _, _, _, rfl, fun b o e _ _ => e, (kF.same dL).mono (by omega), np2, p2f, dL _ _ gsm, List.length_replicate, fun m hm => ?_, dL _ _ gf, by show 11 ≤ 11 + 0; decide, fun x hx => (THf x hx).but (but_mask (b0 dL))⟩
      (fun i σ H' _ ⟨_, _, _, _, _, _, _, _, u, _⟩ => SqL.of (u _ _ gL nL Lf)) (fun i x σ H1 hx hP => ?_) (fun σ H1 hP => ?_)⟩
    · rw [(List.mem_replicate.mp hm).2]
      exact Nat.pos_of_ne_zero (by have := Nat.one_le_two_pow (n := 600 + 0); omega)
    · obtain ⟨sm, ms, xs, y6, y7, y8, y9, rfl, u1, k1, nsm, smf, gsm1, lms, abm, gf1, hxl, hth⟩ := hP
      have hi9 : i < 9 := by
        have := (List.getElem?_eq_some_iff.mp hx).1
        rw [List.length_take] at this
        have e9 : (9 : Int).toNat = 9 := rfl
        omega
      have hx' : rs[i]? = some x := by
        rw [List.getElem?_take_of_lt (by show i < 9; exact hi9)] at hx
        exact hx
      obtain ⟨r, m, rfl, rt, lm, abr, hrm⟩ := hrs i x hx'
      have rf : r ≠ f := fun z => by rw [z, fH] at hrm; cases hrm
      have hr1 := u1 _ _ (dL _ _ (sF _ _ hrm)) rt rf
      -- often
      refine ⟨1, rfl, .ref t, rfl, 10, 39, rfl, rfl, ⟨by decide, by decide, by decide⟩, t, _, c + 2 * i, rfl, (by show (0 : Int) < 10 ^ (39 : Int).toNat; decide +kernel), (by show (10 : Int) ^ (39 : Int).toNat < 2 ^ 200; decide +kernel), k1, by omega, fun v H2 v0 v1 k2 u2 => ?_⟩
      refine ⟨(by show 4 ≤ sizeLine; decide), fun l4 hl4 => ?_⟩
      refine ⟨.ref t, rfl, t, 4, c + 2 * i + 1, rfl, by omega, by omega, k2.up hl4, by omega, fun j H3 j0 j1 k3 u3 => ?_⟩
      have gl4 : H3 l4 = some (.lst (([1, -1, 3, v] : List Int).map V.int)) := u3 _ _ upd_same (k2.ne hl4)
      obtain ⟨k, hk, hatk⟩ := at_in (ns := [1, -1, 3, v]) j0 (by show j < 4; omega)
      have hvb : v.natAbs < 2 ^ 200 := by
        have h39 : (10 : Int) ^ (39 : Int).toNat = 1000000000000000000000000000000000000000 := by decide +kernel
        rw [h39] at v1
        exact Nat.lt_trans (m := 1000000000000000000000000000000000000000) (by omega) (by decide +kernel)
      have hkb : k.natAbs < 2 ^ 200 := by
        have := List.mem_of_getElem? hk
        simp only [List.mem_cons, List.not_mem_nil, or_false] at this
        rcases this with h | h | h | h
        · rw [h]; decide +kernel
        · rw [h]; decide +kernel
        · rw [h]; decide +kernel
        · rw [h]; exact hvb
      refine ⟨l4, _, j, .int k, rfl, rfl, SqL.of gl4, hatk, ?_⟩
      have u03 : But t H1 H3 := (u2.trans (But.of (new_same (o := .lst [.int 1, .int (-1), .int 3, .int v]) hl4))).trans u3
      have gsm3 := u03 _ _ gsm1 nsm
      have gf3 := u03 _ _ gf1 nf
      have hr3 := u03 _ _ hr1 rt
      -- some
      refine ⟨.ref sm, rfl, .ref r, rfl, sm, r, _, _, rfl, SqL.of gsm3, SqL.of hr3, fun D hD => ?_⟩
      have nD : D ≠ t := k3.ne hD
      have Df : D ≠ f := fun z => by rw [z, gf3] at hD; cases hD
      refine lc_it (walk_zip (K := K) (a := sm) (b := r) (xs := ms.map V.int) (ys := m.map V.int) (n := ns.length) (by rw [List.length_map, List.length_map]; omega))
        (fun i H' => Same H3 H' ∧ H' D = some (.lst (((mulAdd k ms m).take i).map V.int))) ⟨new_same hD, upd_same⟩ (fun i H' _ hP => ⟨SqL.of (hP.1 _ _ gsm3), SqL.of (hP.1 _ _ hr3)⟩) (fun i x H4 H5 hi hP hY => ?_) (fun H4 hP => ?_)
      · obtain ⟨s4, g4⟩ := hP
        obtain ⟨p, w1, w2, rfl, hp, rfl, e1, e2⟩ := hY
        obtain ⟨x, hx, rfl⟩ := int_at e1
        obtain ⟨y, hy, rfl⟩ := int_at e2
        refine ⟨p, _, rfl, SqT.of upd_same, rfl, _, _, rfl, _, _, rfl, rfl, rfl, ?_⟩
        refine ⟨.int x, rfl, .int k, rfl, .int y, rfl, k, y, rfl, rfl, wide_mul hkb (abr.at hy) (by decide) (by decide) (by decide), x, k * y, rfl, rfl, ?_⟩
        have s5 := s4.trans (new_same (o := .tup [.int x, .int y]) hp)
        refine ⟨_, (new_same hp) _ _ g4, ?_, same_over s5 hD, ?_⟩
        · rw [List.length_map, List.length_take]
          exact sz40 (by omega)
        · rw [upd_same, take_next (mulAdd_at hx hy)]
      · obtain ⟨s4, g4⟩ := hP
        rw [take_all (by rw [mulAdd_len]; omega)] at g4
        have gf4 := s4 _ _ gf3
        -- found.append(list(some))
        refine ⟨.ref f, rfl, .inl ⟨rfl, _, SqL.of gf4⟩, .ref D, rfl, D, _, rfl, .inl (SqL.of g4), fun q1 hq1 => ?_⟩
        have k4 := k3.same s4
        have d5 := new_same (o := .lst ((mulAdd k ms m).map V.int)) hq1
        have nq1 : q1 ≠ t := k4.ne hq1
        have q1f : q1 ≠ f := fun z => by rw [z, gf4] at hq1; cases hq1
        have gf5 := d5 _ _ gf4
        have gq1 : upd H4 q1 (.lst ((mulAdd k ms m).map V.int)) q1 = some (.lst ((mulAdd k ms m).map V.int)) := upd_same
        generalize upd H4 q1 (.lst ((mulAdd k ms m).map V.int)) = H5 at d5 gf5 gq1 ⊢
        have abN := mulAdd_ab hkb (by omega) abm abr
        refine ⟨f, _, .ref q1, rfl, rfl, gf5, sz40 (by omega), ?_⟩
        have u5 : But t H1 H5 := u03.trans (But.of (s4.trans d5))
        have uf : But2 t f H5 (upd H5 f (.lst (xs ++ [.ref q1]))) := fun b o e _ n2 => by rw [upd_ne n2]; exact e
        have k5 := k4.same d5
        refine ⟨D, mulAdd k ms m, xs ++ [.ref q1], _, _, _, _, rfl, fun b o e n1 n2 => uf _ _ (u5 _ _ (u1 b o e n1 n2) n1) n1 n2, ?_, nD, Df, ?_, by rw [mulAdd_len]; omega, abN, upd_same, by rw [List.length_append]; show xs.length + 1 ≤ 11 + (i + 1); omega, fun x hx => ?_⟩
        · obtain ⟨a1, a2, a3, e, b1, b2, b3, b4, b5⟩ := k5
          exact ⟨a1, a2, a3, by rw [upd_ne nf.symm]; exact e, b1, b2, b3, b4, by omega⟩
        · rw [upd_ne Df]
          exact d5 _ _ g4
        · rcases List.mem_append.mp hx with h | h
          · exact ((hth x h).but (but_mask u5)).but (but2_mask uf)
          · rw [List.mem_singleton.mp h]
            have e1 : (mask f H5) q1 = some (.lst ((mulAdd k ms m).map V.int)) := by rw [mask_ne q1f]; exact gq1
            have tq : T9 t (mask f H5) (.ref q1) := t9_ints e1 nq1 (by rw [mulAdd_len]; omega) (Ab.mono abN (by omega))
            exact tq.but (but2_mask uf)
    obtain ⟨sm, ms, xs, y6, y7, y8, y9, rfl, u1, k1, nsm, smf, gsm1, lms, abm, gf1, hxl, hth⟩ := hP
    have htl : (rs.take (9 : Int).toNat).length ≤ 9 := by rw [List.length_take]; exact Nat.min_le_left _ _
    have ab1 : Ab 1000 ms := abm.mono (by omega)
    have hth1 : ∀ x ∈ xs, T9 t H1 x := fun x hx => (hth x hx).out
    have uH : But t H H1 := fun b o e n => u1 _ _ (dL _ _ (sF _ _ e)) n (ne_of_none e fH)
    have a1 := uH _ _ ha hat
    have hxl : xs.length ≤ 20 := by omega
    have k1 := k1.mono (d := c + 18) (by omega)
    clear hth u1 gf gsm THf TH dL gL aF SF
    -- spot
    refine ⟨.ref t, rfl, .int ns.length, rfl, t, _, c + 18, rfl, by omega, by omega, k1, by omega, fun sp H2 sp0 sp1 k2 u2 => ?_⟩
    have gs := u2 _ _ gsm1 nsm
    have gf2 := u2 _ _ gf1 nf
    have a2 := u2 _ _ a1 hat
    have uH2 := uH.trans u2
    have hth2 : ∀ x ∈ xs, T9 t H2 x := fun x hx => (hth1 x hx).but u2
    clear gsm1 gf1 a1 uH hth1 k1 u2
    have cl : ∀ (lo hi : Option Int), (cutV (ms.map V.int) lo hi).length ≤ 40 := fun lo hi => by
      have := cutV_length (ms.map V.int) lo hi
      rw [List.length_map] at this
      omega
    have ce : ∀ {HZ : Hp} (lo hi : Option Int), ∀ z ∈ cutV (ms.map V.int) lo hi, E9 t HZ z := fun lo hi z hz => e9_ints ab1 z (cut_memV hz)
    obtain ⟨x0, hx0, hatx0⟩ := at_in (ns := ms) sp0 (by omega)
    have hx0b : (x0 + 1).natAbs < 2 ^ 1000 := by
      have h1 : x0.natAbs < 2 ^ 700 := Nat.lt_of_lt_of_le (abm.at hx0) (pow_up (by omega))
      have h2 : (2 : Nat) ^ 701 ≤ 2 ^ 1000 := pow_up (by decide)
      rw [Nat.pow_succ] at h2
      have h3 := Nat.one_le_two_pow (n := 700)
      omega
    simp only [List.set_cons_zero, List.set_cons_succ]
    -- found + [some[:spot] + [some[spot] + 1] + some[spot + 1:], ..]
    refine ⟨.ref f, rfl, .ref sm, rfl, .int sp, rfl, sp, rfl, sm, _, rfl, SqL.of gs, fun j1 hj1 => ?_⟩
    have o1 := new_same (o := .lst (cutV (ms.map V.int) none (some sp))) hj1
    refine ⟨.ref sm, rfl, .int sp, rfl, sm, _, sp, .int x0, rfl, rfl, SqL.of (o1 _ _ gs), hatx0, x0, 1, rfl, rfl, one, fun j2 hj2 => ?_⟩
    have o2 := o1.trans (new_same (o := .lst [.int (x0 + 1)]) hj2)
    have w1 : (upd (upd H2 j1 (.lst (cutV (ms.map V.int) none (some sp)))) j2 (.lst [.int (x0 + 1)])) j1 = some (.lst (cutV (ms.map V.int) none (some sp))) := (new_same hj2) _ _ upd_same
    refine ⟨j1, j2, _, _, rfl, rfl, w1, upd_same, sz40' (by have := cl none (some sp); show _ + 1 ≤ 100000; omega), fun j3 hj3 => ?_⟩
    have o3 := o2.trans (new_same (o := .lst (cutV (ms.map V.int) none (some sp) ++ [.int (x0 + 1)])) hj3)
    have w3 : (upd (upd (upd H2 j1 (.lst (cutV (ms.map V.int) none (some sp)))) j2 (.lst [.int (x0 + 1)])) j3 (.lst (cutV (ms.map V.int) none (some sp) ++ [.int (x0 + 1)]))) j3 = some (.lst (cutV (ms.map V.int) none (some sp) ++ [.int (x0 + 1)])) := upd_same
    generalize upd (upd (upd H2 j1 (.lst (cutV (ms.map V.int) none (some sp)))) j2 (.lst [.int (x0 + 1)])) j3 (.lst (cutV (ms.map V.int) none (some sp) ++ [.int (x0 + 1)])) = H3 at o3 w3 ⊢
    refine ⟨.ref sm, rfl, .int sp, rfl, sp, 1, rfl, rfl, _, rfl, sm, _, rfl, SqL.of (o3 _ _ gs), fun j4 hj4 => ?_⟩
    have o4 := new_same (o := .lst (cutV (ms.map V.int) (some (sp + 1)) none)) hj4
    refine ⟨j3, j4, _, _, rfl, rfl, o4 _ _ w3, upd_same, sz40' (by have := cl none (some sp); have := cl (some (sp + 1)) none; rw [List.length_append]; show _ + 1 + _ ≤ 100000; omega), fun j5 hj5 => ?_⟩
    have o5 := (o3.trans o4).trans (new_same (o := .lst (cutV (ms.map V.int) none (some sp) ++ [.int (x0 + 1)] ++ cutV (ms.map V.int) (some (sp + 1)) none)) hj5)
    have k4 := k2.same (o3.trans o4)
    have w5 : (upd (upd H3 j4 (.lst (cutV (ms.map V.int) (some (sp + 1)) none))) j5 (.lst (cutV (ms.map V.int) none (some sp) ++ [.int (x0 + 1)] ++ cutV (ms.map V.int) (some (sp + 1)) none))) j5 = some (.lst (cutV (ms.map V.int) none (some sp) ++ [.int (x0 + 1)] ++ cutV (ms.map V.int) (some (sp + 1)) none)) := upd_same
    generalize upd (upd H3 j4 (.lst (cutV (ms.map V.int) (some (sp + 1)) none))) j5 (.lst (cutV (ms.map V.int) none (some sp) ++ [.int (x0 + 1)] ++ cutV (ms.map V.int) (some (sp + 1)) none)) = H5 at o5 w5 ⊢
    have t5 : T9 t H5 (.ref j5) := t9_list w5 (k4.ne hj5) (by have := cl none (some sp); have := cl (some (sp + 1)) none; rw [List.length_append, List.length_append]; show _ + 1 + _ ≤ 200; omega) fun z hz => by
      rcases List.mem_append.mp hz with h | h
      · rcases List.mem_append.mp h with h | h
        · exact ce _ _ z h
        · rw [List.mem_singleton.mp h]
          exact e9_int hx0b
      · exact ce _ _ z h
    clear w1 w3 o1 o2 o3 o4 hj1 hj2 hj3 hj4 hj5
    -- some[1:] + some[:1]
    have k5 := k2.same o5
    refine ⟨.ref sm, rfl, 1, rfl, sm, _, rfl, SqL.of (o5 _ _ gs), fun j6 hj6 => ?_⟩
    have o6 := new_same (o := .lst (cutV (ms.map V.int) (some 1) none)) hj6
    refine ⟨.ref sm, rfl, 1, rfl, sm, _, rfl, SqL.of (o6 _ _ (o5 _ _ gs)), fun j7 hj7 => ?_⟩
    have o7 := o6.trans (new_same (o := .lst (cutV (ms.map V.int) none (some 1))) hj7)
    have w6 : (upd (upd H5 j6 (.lst (cutV (ms.map V.int) (some 1) none))) j7 (.lst (cutV (ms.map V.int) none (some 1)))) j6 = some (.lst (cutV (ms.map V.int) (some 1) none)) := (new_same hj7) _ _ upd_same
    refine ⟨j6, j7, _, _, rfl, rfl, w6, upd_same, sz40' (by have := cl (some 1) none; have := cl none (some 1); omega), fun j8 hj8 => ?_⟩
    have o8 := o7.trans (new_same (o := .lst (cutV (ms.map V.int) (some 1) none ++ cutV (ms.map V.int) none (some 1))) hj8)
    have w8 : (upd (upd (upd H5 j6 (.lst (cutV (ms.map V.int) (some 1) none))) j7 (.lst (cutV (ms.map V.int) none (some 1)))) j8 (.lst (cutV (ms.map V.int) (some 1) none ++ cutV (ms.map V.int) none (some 1)))) j8 = some (.lst (cutV (ms.map V.int) (some 1) none ++ cutV (ms.map V.int) none (some 1))) := upd_same
    have n8 : j8 ≠ t := (k5.same o7).ne hj8
    generalize upd (upd (upd H5 j6 (.lst (cutV (ms.map V.int) (some 1) none))) j7 (.lst (cutV (ms.map V.int) none (some 1)))) j8 (.lst (cutV (ms.map V.int) (some 1) none ++ cutV (ms.map V.int) none (some 1))) = H8 at o8 w8 ⊢
    have t8 : T9 t H8 (.ref j8) := t9_list w8 n8 (by have := cl (some 1) none; have := cl none (some 1); rw [List.length_append]; omega) fun z hz => by
      rcases List.mem_append.mp hz with h | h <;> exact ce _ _ z h
    have t5 := t5.but (b0 o8)
    have o58 := o5.trans o8
    have k8 := k2.same o58
    clear w6 o6 o7 hj6 hj7 hj8 k5
    -- some[::-1], tuple(some)
    refine ⟨.ref sm, rfl, sm, _, rfl, SqL.of (o58 _ _ gs), fun j9 hj9 => ?_⟩
    have o9 := new_same (o := .lst (ms.map V.int).reverse) hj9
    have w9 : upd H8 j9 (.lst (ms.map V.int).reverse) j9 = some (.lst (ms.map V.int).reverse) := upd_same
    have n9 : j9 ≠ t := k8.ne hj9
    generalize upd H8 j9 (.lst (ms.map V.int).reverse) = H9 at o9 w9 ⊢
    have t9' : T9 t H9 (.ref j9) := t9_list w9 n9 (by rw [List.length_reverse, List.length_map]; omega) fun z hz => e9_ints ab1 z (List.mem_reverse.mp hz)
    refine ⟨.ref sm, rfl, sm, _, rfl, .inl ⟨SqL.of (o9 _ _ (o58 _ _ gs)), fun j10 hj10 => ?_⟩⟩
    have oA := new_same (o := .tup (ms.map V.int)) hj10
    have wA : upd H9 j10 (.tup (ms.map V.int)) j10 = some (.tup (ms.map V.int)) := upd_same
    have n10 : j10 ≠ t := (k8.same o9).ne hj10
    generalize upd H9 j10 (.tup (ms.map V.int)) = HA at oA wA ⊢
    have tA : T9 t HA (.ref j10) := t9_tuple wA n10 (by rw [List.length_map]; omega) (e9_ints ab1)
    refine ⟨(by show 4 ≤ sizeLine; decide), fun j11 hj11 => ?_⟩
    have oB := new_same (o := .lst [.ref j5, .ref j8, .ref j9, .ref j10]) hj11
    have o9B := (o9.trans oA).trans oB
    have gfB := o9B _ _ (o58 _ _ gf2)
    refine ⟨f, j11, _, _, rfl, rfl, gfB, upd_same, sz40' (by show _ + 4 ≤ 100000; omega), fun f2 hf2 => ?_⟩
    have oC := new_same (o := .lst (xs ++ [.ref j5, .ref j8, .ref j9, .ref j10])) hf2
    have nf2 : f2 ≠ t := ((k8.same (o9.trans oA)).same oB).ne hf2
    have gf3 : upd (upd HA j11 (.lst [.ref j5, .ref j8, .ref j9, .ref j10])) f2 (.lst (xs ++ [.ref j5, .ref j8, .ref j9, .ref j10])) f2 = some (.lst (xs ++ [.ref j5, .ref j8, .ref j9, .ref j10])) := upd_same
    have o2C := (o58.trans o9B).trans oC
    have TX : ∀ x ∈ xs ++ [.ref j5, .ref j8, .ref j9, .ref j10], T9 t (upd (upd HA j11 (.lst [.ref j5, .ref j8, .ref j9, .ref j10])) f2 (.lst (xs ++ [.ref j5, .ref j8, .ref j9, .ref j10]))) x := fun x hx => by
      rcases List.mem_append.mp hx with h | h
      · exact (hth2 x h).but (b0 o2C)
      · simp only [List.mem_cons, List.not_mem_nil, or_false] at h
        rcases h with rfl | rfl | rfl | rfl
        · exact t5.but (b0 (o9B.trans oC))
        · exact t8.but (b0 (o9B.trans oC))
        · exact t9'.but (b0 ((oA.trans oB).trans oC))
        · exact tA.but (b0 (oB.trans oC))
    generalize upd (upd HA j11 (.lst [.ref j5, .ref j8, .ref j9, .ref j10])) f2 (.lst (xs ++ [.ref j5, .ref j8, .ref j9, .ref j10])) = HD at o2C gf3 TX ⊢
    clear t5 t8 t9' tA w5 w8 w9 wA o5 o8 o58 o9 oA oB o9B oC gfB k4 k8
    have hxl4 : (xs ++ [V.ref j5, .ref j8, .ref j9, .ref j10]).length ≤ 24 := by rw [List.length_append]; show xs.length + 4 ≤ 24; omega
    generalize xs ++ [V.ref j5, .ref j8, .ref j9, .ref j10] = ys at gf3 TX hxl4
    have kD := k2.same o2C
    have gsD := o2C _ _ gs
    have aD := o2C _ _ a2
    have uD := uH2.trans (b0 o2C)
    -- for thing in (..)
    refine ⟨one, fun w1 hw1 => ⟨one, fun w2 hw2 => ⟨(by show 6 ≤ sizeLine; decide), fun tp htp => ?_⟩⟩⟩
    have c1 := new_same (o := .lst [.int 0]) hw1
    have c2 := new_same (o := .tup [.int 0]) hw2
    have v1 : upd (upd HD w1 (.lst [.int 0])) w2 (.tup [.int 0]) w1 = some (.lst [.int 0]) := c2 _ _ upd_same
    have v2 : upd (upd HD w1 (.lst [.int 0])) w2 (.tup [.int 0]) w2 = some (.tup [.int 0]) := upd_same
    have nw1 : w1 ≠ t := kD.ne hw1
    have nw2 : w2 ≠ t := (kD.same c1).ne hw2
    have kX := (kD.same c1).same c2
    have cX := c1.trans c2
    generalize upd (upd HD w1 (.lst [.int 0])) w2 (.tup [.int 0]) = HX at v1 v2 kX cX htp ⊢
    have c4 := new_same (o := .tup [.non, .bl true, .bl false, .str "0", .ref w1, .ref w2]) htp
    have g4 : upd HX tp (.tup [.non, .bl true, .bl false, .str "0", .ref w1, .ref w2]) tp = some (.tup [.non, .bl true, .bl false, .str "0", .ref w1, .ref w2]) := upd_same
    have cY := cX.trans c4
    generalize upd HX tp (.tup [.non, .bl true, .bl false, .str "0", .ref w1, .ref w2]) = HY at c4 g4 cY ⊢
    have kY := kD.same cY
    have uY := uD.trans (b0 cY)
    have gsY := cY _ _ gsD
    have EL : ∀ x ∈ ([.non, .bl true, .bl false, .str "0", .ref w1, .ref w2] : List V), E9 t HY x := fun x hxx => by
      simp only [List.mem_cons, List.not_mem_nil, or_false] at hxx
      rcases hxx with rfl | rfl | rfl | rfl | rfl | rfl
      · exact e9_non
      · exact e9_bl true
      · exact e9_bl false
      · exact e9_str0
      · exact e9_list0 (c4 _ _ v1) nw1
      · exact e9_tup0 (c4 _ _ v2) nw2
    refine ⟨tp, rfl, ⟨_, SqT.of g4⟩, for_tup (K := K) (a := tp) (xs := [.non, .bl true, .bl false, .str "0", .ref w1, .ref w2])
      (fun i σ H' => ∃ (g : Addr) (zs : List V) (y : Option V), σ = [some (.ref t), some (.ref a), some (.ref S), some (.int ns.length), some (.ref sm), some (.ref g), y6, y7, y8, y9, some (.int sp), y] ∧ Same HY H' ∧ g ≠ t ∧ H' g = some (.lst zs) ∧ zs.length ≤ 24 + 2 * i ∧ ∀ x ∈ zs, T9 t H' x)
      ⟨f2, ys, _, rfl, Same.refl _, nf2, cY _ _ gf3, hxl4, fun x hx => (TX x hx).but (b0 cY)⟩ (fun i σ H' _ ⟨_, _, _, _, s2, _⟩ => s2.seqT g4) (fun i x σ HZ hx hP => ?_) (fun σ HZ hP => ?_)⟩
    · obtain ⟨g, zs, y, rfl, sZ, ng, gg, hzl, hzt⟩ := hP
      have hi6 : i < 6 := (List.getElem?_eq_some_iff.mp hx).1
      have ex : E9 t HZ x := (EL x (List.mem_of_getElem? hx)).but (b0 sZ)
      have kZ := kY.same sZ
      have gsZ := sZ _ _ gsY
      -- some[:-1] + [thing]
      refine ⟨.ref g, rfl, .ref sm, rfl, 1, rfl, _, rfl, sm, _, rfl, SqL.of gsZ, fun i1 hi1 => ⟨x, rfl, one, fun i2 hi2 => ?_⟩⟩
      have q1 := (new_same (o := .lst (cutV (ms.map V.int) none (some (-1)))) hi1).trans (new_same (o := .lst [x]) hi2)
      have v3 : (upd (upd HZ i1 (.lst (cutV (ms.map V.int) none (some (-1))))) i2 (.lst [x])) i1 = some (.lst (cutV (ms.map V.int) none (some (-1)))) := (new_same hi2) _ _ upd_same
      have v4 : (upd (upd HZ i1 (.lst (cutV (ms.map V.int) none (some (-1))))) i2 (.lst [x])) i2 = some (.lst [x]) := upd_same
      generalize upd (upd HZ i1 (.lst (cutV (ms.map V.int) none (some (-1))))) i2 (.lst [x]) = HE at q1 v3 v4 ⊢
      refine ⟨i1, i2, _, _, rfl, rfl, v3, v4, sz40' (by have := cl none (some (-1)); show _ + 1 ≤ 100000; omega), fun i3 hi3 => ?_⟩
      have q2 := q1.trans (new_same (o := .lst (cutV (ms.map V.int) none (some (-1)) ++ [x])) hi3)
      have v5 : upd HE i3 (.lst (cutV (ms.map V.int) none (some (-1)) ++ [x])) i3 = some (.lst (cutV (ms.map V.int) none (some (-1)) ++ [x])) := upd_same
      have ni3 : i3 ≠ t := (kZ.same q1).ne hi3
      generalize upd HE i3 (.lst (cutV (ms.map V.int) none (some (-1)) ++ [x])) = HG at q2 v5 ⊢
      have r3 : T9 t HG (.ref i3) := t9_list v5 ni3 (by have := cl none (some (-1)); rw [List.length_append]; show _ + 1 ≤ 200; omega) fun z hz => by
        rcases List.mem_append.mp hz with h | h
        · exact ce _ _ z h
        · rw [List.mem_singleton.mp h]
          exact ex.but (b0 q2)
      -- [thing] + some[1:]
      refine ⟨x, rfl, one, fun i4 hi4 => ⟨.ref sm, rfl, 1, rfl, sm, _, rfl, SqL.of ((new_same hi4) _ _ (q2 _ _ gsZ)), fun i5 hi5 => ?_⟩⟩
      have q3 := (new_same (o := .lst [x]) hi4).trans (new_same (o := .lst (cutV (ms.map V.int) (some 1) none)) hi5)
      have v6 : (upd (upd HG i4 (.lst [x])) i5 (.lst (cutV (ms.map V.int) (some 1) none))) i4 = some (.lst [x]) := (new_same hi5) _ _ upd_same
      have v7 : (upd (upd HG i4 (.lst [x])) i5 (.lst (cutV (ms.map V.int) (some 1) none))) i5 = some (.lst (cutV (ms.map V.int) (some 1) none)) := upd_same
      generalize upd (upd HG i4 (.lst [x])) i5 (.lst (cutV (ms.map V.int) (some 1) none)) = HI at q3 v6 v7 ⊢
      refine ⟨i4, i5, _, _, rfl, rfl, v6, v7, sz40' (by have := cl (some 1) none; show 1 + _ ≤ 100000; omega), fun i6 hi6' => ?_⟩
      have q4 := q3.trans (new_same (o := .lst ([x] ++ cutV (ms.map V.int) (some 1) none)) hi6')
      have v8 : upd HI i6 (.lst ([x] ++ cutV (ms.map V.int) (some 1) none)) i6 = some (.lst ([x] ++ cutV (ms.map V.int) (some 1) none)) := upd_same
      have ni6 : i6 ≠ t := ((kZ.same q2).same q3).ne hi6'
      generalize upd HI i6 (.lst ([x] ++ cutV (ms.map V.int) (some 1) none)) = HJ at q4 v8 ⊢
      have r6 : T9 t HJ (.ref i6) := t9_list v8 ni6 (by have := cl (some 1) none; rw [List.length_append]; show 1 + _ ≤ 200; omega) fun z hz => by
        rcases List.mem_append.mp hz with h | h
        · rw [List.mem_singleton.mp h]
          exact ex.but (b0 (q2.trans q4))
        · exact ce _ _ z h
      refine ⟨(by show 2 ≤ sizeLine; decide), fun i7 hi7 => ?_⟩
      have q5 := new_same (o := .lst [.ref i3, .ref i6]) hi7
      refine ⟨g, i7, _, _, rfl, rfl, q5 _ _ (q4 _ _ (q2 _ _ gg)), upd_same, sz40' (by show _ + 2 ≤ 100000; omega), fun i8 hi8 => ?_⟩
      have q6 := q5.trans (new_same (o := .lst (zs ++ [.ref i3, .ref i6])) hi8)
      refine ⟨i8, _, _, rfl, sZ.trans ((q2.trans q4).trans q6), (((kZ.same q2).same q4).same q5).ne hi8, upd_same, by rw [List.length_append]; show zs.length + 2 ≤ _; omega, fun z hz => ?_⟩
      rcases List.mem_append.mp hz with h | h
      · exact (hzt z h).but (b0 ((q2.trans q4).trans q6))
      · simp only [List.mem_cons, List.not_mem_nil, or_false] at h
        rcases h with rfl | rfl
        · exact r3.but (b0 (q4.trans q6))
        · exact r6.but (b0 q6)
    obtain ⟨g, zs, y, rfl, sZ, ng, gg, hzl, hzt⟩ := hP
    have hzl : zs.length ≤ 36 := hzl
    have kZ := kY.same sZ
    have gsZ := sZ _ _ gsY
    have aZ := sZ _ _ (cY _ _ aD)
    have uZ := uY.trans (b0 sZ)
    clear EL sZ gsY uY kY cY g4 c4 kX cX v1 v2 aD gsD kD uD TX gf3
    -- return found + [..]
    refine ⟨.ref g, rfl, one, fun e1 he1 => ?_⟩
    have m1 := new_same (o := .lst [.int 0]) he1
    refine ⟨.int ns.length, rfl, e1, ns.length, _, rfl, rfl, upd_same, by omega, by omega, (by show 1 * _ ≤ sizeLine; exact sz40' (by omega)), fun e2 he2 => ?_⟩
    have m2 := m1.trans (new_same (o := .lst (List.replicate ((ns.length : Nat) : Int).toNat [V.int 0]).flatten) he2)
    have x2 : (upd (upd HZ e1 (.lst [.int 0])) e2 (.lst (List.replicate ((ns.length : Nat) : Int).toNat [V.int 0]).flatten)) e2 = some (.lst (List.replicate ((ns.length : Nat) : Int).toNat [V.int 0]).flatten) := upd_same
    have ne2 : e2 ≠ t := (kZ.same m1).ne he2
    generalize upd (upd HZ e1 (.lst [.int 0])) e2 (.lst (List.replicate ((ns.length : Nat) : Int).toNat [V.int 0]).flatten) = Y2 at m2 x2 ⊢
    have X2 : T9 t Y2 (.ref e2) := t9_rep x2 ne2 (by omega) z0
    refine ⟨one, fun e3 he3 => ?_⟩
    have m3 := new_same (o := .lst [.int 1]) he3
    refine ⟨.int ns.length, rfl, e3, ns.length, _, rfl, rfl, upd_same, by omega, by omega, (by show 1 * _ ≤ sizeLine; exact sz40' (by omega)), fun e4 he4 => ?_⟩
    have m4 := m3.trans (new_same (o := .lst (List.replicate ((ns.length : Nat) : Int).toNat [V.int 1]).flatten) he4)
    have x4 : (upd (upd Y2 e3 (.lst [.int 1])) e4 (.lst (List.replicate ((ns.length : Nat) : Int).toNat [V.int 1]).flatten)) e4 = some (.lst (List.replicate ((ns.length : Nat) : Int).toNat [V.int 1]).flatten) := upd_same
    have ne4 : e4 ≠ t := ((kZ.same m2).same m3).ne he4
    generalize upd (upd Y2 e3 (.lst [.int 1])) e4 (.lst (List.replicate ((ns.length : Nat) : Int).toNat [V.int 1]).flatten) = Y4 at m4 x4 ⊢
    have X4 : T9 t Y4 (.ref e4) := t9_rep x4 ne4 (by omega) z1
    have m24 := m2.trans m4
    refine ⟨.ref a, rfl, a, _, rfl, .inl (SqL.of (m24 _ _ aZ)), fun e5 he5 => ?_⟩
    have m5 := new_same (o := .lst (ns.map V.int)) he5
    have x5 : upd Y4 e5 (.lst (ns.map V.int)) e5 = some (.lst (ns.map V.int)) := upd_same
    have ne5 : e5 ≠ t := (kZ.same m24).ne he5
    generalize upd Y4 e5 (.lst (ns.map V.int)) = Y5 at m5 x5 ⊢
    have X5 : T9 t Y5 (.ref e5) := t9_ints x5 ne5 (by omega) hR.abs
    have m25 := m24.trans m5
    refine ⟨.ref sm, rfl, sm, rfl, ⟨_, SqL.of (m25 _ _ gsZ)⟩, fun D hD => ?_⟩
    have gs5 := m25 _ _ gsZ
    refine lc_list (K := K) (a := sm) (xs := ms.map V.int) (fun i H' => Same Y5 H' ∧ H' D = some (.lst (((ms.map fun m => 0 - m).take i).map V.int)))
      ⟨new_same hD, upd_same⟩ (fun i H' _ hP => SqL.of (hP.1 _ _ gs5)) (fun i x H7 hx hP => ⟨rfl, ?_⟩) (fun H7 hP => ?_)
    · obtain ⟨s7, g7⟩ := hP
      obtain ⟨b, hb, rfl⟩ := int_at hx
      refine ⟨.int b, rfl, 0, b, rfl, rfl, _, g7, by rw [List.length_map, List.length_take, List.length_map]; exact sz40 (by omega), same_over s7 hD, ?_⟩
      rw [upd_same, take_next]
      rw [List.getElem?_map, hb]
      rfl
    obtain ⟨s7, g7⟩ := hP
    rw [take_all (by rw [List.length_map, List.length_map]; exact Nat.le_refl _)] at g7
    have k7 := (kZ.same m25).same s7
    have nD : D ≠ t := (kZ.same m25).ne hD
    have XD : T9 t H7 (.ref D) := t9_ints g7 nD (by rw [List.length_map]; omega) fun z hz => by
      obtain ⟨m, hm, rfl⟩ := List.mem_map.mp hz
      have := ab1 m hm
      omega
    have m27 := m25.trans s7
    refine ⟨.ref sm, rfl, 1, rfl, _, rfl, sm, _, rfl, SqL.of (m27 _ _ gsZ), fun e6 he6 => ?_⟩
    have m6 := new_same (o := .lst (cutV (ms.map V.int) none (some (-1)))) he6
    have x6 : upd H7 e6 (.lst (cutV (ms.map V.int) none (some (-1)))) e6 = some (.lst (cutV (ms.map V.int) none (some (-1)))) := upd_same
    have ne6 : e6 ≠ t := k7.ne he6
    generalize upd H7 e6 (.lst (cutV (ms.map V.int) none (some (-1)))) = Y6 at m6 x6 ⊢
    have X6 : T9 t Y6 (.ref e6) := t9_list x6 ne6 (by have := cl none (some (-1)); omega) (ce _ _)
    have m28 := m27.trans m6
    refine ⟨.ref sm, rfl, one, fun e7 he7 => ?_⟩
    have m7 := new_same (o := .lst [.int 0]) he7
    refine ⟨sm, e7, _, _, rfl, rfl, m7 _ _ (m28 _ _ gsZ), upd_same, sz40' (by rw [List.length_map]; show _ + 1 ≤ 100000; omega), fun e8 he8 => ?_⟩
    have m8 := m7.trans (new_same (o := .lst (ms.map V.int ++ [.int 0])) he8)
    have x8 : upd (upd Y6 e7 (.lst [.int 0])) e8 (.lst (ms.map V.int ++ [.int 0])) e8 = some (.lst (ms.map V.int ++ [.int 0])) := upd_same
    have ne8 : e8 ≠ t := ((k7.same m6).same m7).ne he8
    generalize upd (upd Y6 e7 (.lst [.int 0])) e8 (.lst (ms.map V.int ++ [.int 0])) = Y8 at m8 x8 ⊢
    have X8 : T9 t Y8 (.ref e8) := t9_list x8 ne8 (by rw [List.length_append, List.length_map]; show _ + 1 ≤ 200; omega) fun z hz => by
      rcases List.mem_append.mp hz with h | h
      · exact e9_ints ab1 z h
      · rw [List.mem_singleton.mp h]
        exact e9_int z0
    have m2A := m28.trans m8
    refine ⟨(by show 6 ≤ sizeLine; decide), fun e9 he9 => ?_⟩
    have m9 := new_same (o := .lst [.ref e2, .ref e4, .ref e5, .ref D, .ref e6, .ref e8]) he9
    refine ⟨g, e9, _, _, rfl, rfl, m9 _ _ (m2A _ _ gg), upd_same, sz40' (by show _ + 6 ≤ 100000; omega), fun e10 he10 => ?_⟩
    have mB := m9.trans (new_same (o := .lst (zs ++ [.ref e2, .ref e4, .ref e5, .ref D, .ref e6, .ref e8])) he10)
    have kE := (kZ.same m2A).same mB
    refine q e10 _ _ (uZ.trans (b0 (m2A.trans mB))) (kE.mono (by omega)) (((kZ.same m2A).same m9).ne he10) upd_same (by rw [List.length_append]; show zs.length + 6 ≤ 200; omega) fun z hz => ?_
    rcases List.mem_append.mp hz with h | h
    · exact (hzt z h).but (b0 (m2A.trans mB))
    · simp only [List.mem_cons, List.not_mem_nil, or_false] at h
      rcases h with rfl | rfl | rfl | rfl | rfl | rfl
      · exact X2.but (b0 (((((m4.trans m5).trans s7).trans m6).trans m8).trans mB))
      · exact X4.but (b0 ((((m5.trans s7).trans m6).trans m8).trans mB))
      · exact X5.but (b0 (((s7.trans m6).trans m8).trans mB))
      · exact XD.but (b0 ((m6.trans m8).trans mB))
      · exact X6.but (b0 (m8.trans mB))
      · exact X8.but (b0 mB)

/-! ### _law_is_int, _law_due -/
theorem ok_law_is_int (T : Txt K mg) : FnOk P w K mg base CX0 1 T.a_law_is_int T.d_law_is_int ["thing"] spIsIntQ := by
  refine T.F_law_is_int.ok sc_law_is_int (fun vs H Q E h => ?_) (fun cdv A outer s H vs Q E hr h => ?_)
  · obtain ⟨_, _, rfl, _⟩ := h
    rfl
  · obtain ⟨v, d, rfl, hd, q⟩ := h
    refine ⟨_, (pss_one (ps_ret (pe_and (pe_callB (isiL (K := K) rfl) (by rfl) T.n_isinstance (by decide +kernel) (pa_cons (pv 0) (pa_cons (pe_bltn (v := .ty "int") (u := Value.type "int") rfl T.n_int (by decide +kernel) rfl) pa_nil))) (pe_one (pe_not (pe_callB (isiL (K := K) rfl) (by rfl) T.n_isinstance (by decide +kernel) (pa_cons (pv 0) (pa_cons (pe_bltn (v := .ty "bool") (u := Value.type "bool") rfl T.n_bool (by decide +kernel) rfl) pa_nil)))))))), ?_⟩
    refine ⟨v, rfl, v, .ty "int", _, _, _, rfl, .ty _, ty_q hd, kit_intQ d, _, rfl, ?_⟩
    have e := oneQ_eq d
    cases h1 : intQ d with
    | false =>
      rw [h1] at e
      refine iteF ?_
      show Q (.bl false) H
      rw [show (false && !boolQ d) = false from rfl] at e
      rw [e]
      exact q
    | true =>
      rw [h1] at e
      refine ⟨v, rfl, v, .ty "bool", _, _, _, rfl, .ty _, ty_q hd, kit_boolQ d, _, rfl, ?_⟩
      show Q (.bl (!boolQ d)) H
      rw [Bool.true_and] at e
      rw [e]
      exact q
theorem lay_all : ∀ {ds : List PyData}, PyData.canLayAll0 ds = true ↔ ∀ d ∈ ds, d.canLay0 = true
  | [] => ⟨fun _ d hd => (List.not_mem_nil hd).elim, fun _ => by simp only [PyData.canLayAll0]⟩
  | d :: ds => by
    simp only [PyData.canLayAll0, Bool.and_eq_true, lay_all (ds := ds), List.mem_cons, forall_eq_or_imp]
theorem nd_all : ∀ {ds : List PyData}, PyData.hasDictAll ds = false ↔ ∀ d ∈ ds, d.hasDict = false
  | [] => ⟨fun _ d hd => (List.not_mem_nil hd).elim, fun _ => by simp only [PyData.hasDictAll]⟩
  | d :: ds => by
    simp only [PyData.hasDictAll, Bool.or_eq_false_iff, nd_all (ds := ds), List.mem_cons, forall_eq_or_imp]
theorem dep_all {k : Nat} : ∀ {ds : List PyData}, PyData.depthAll ds ≤ k ↔ ∀ d ∈ ds, d.depth ≤ k
  | [] => ⟨fun _ d hd => (List.not_mem_nil hd).elim, fun _ => by simp only [PyData.depthAll]; omega⟩
  | d :: ds => by
    have ih := dep_all (k := k) (ds := ds)
    simp only [PyData.depthAll, List.mem_cons, forall_eq_or_imp]
    rw [← ih]
    omega
theorem shaped_of {ds : List PyData} (h1 : PyData.canLayAll0 ds = true) (h2 : PyData.depthAll ds ≤ 20) : SeqAt.shaped (.list ds) = true :=
  Bool.and_eq_true_iff.mpr ⟨by simp only [PyData.canLay0, h1], decide_eq_true (by simp only [PyData.depth]; omega)⟩
theorem lay_intsL (l : List Int) : PyData.canLayAll0 (l.map PyData.int) = true := lay_all.mpr fun d hd => by
  obtain ⟨n, _, rfl⟩ := List.mem_map.mp hd
  simp only [PyData.canLay0]
theorem shaped_dI (l : List Int) : SeqAt.shaped (dI l) = true := shaped_of (lay_intsL l) (by rw [depthAll_ints]; omega)
theorem shaped_dIs (S : List (List Int)) : SeqAt.shaped (.list (S.map dI)) = true := shaped_of (lay_all.mpr fun d hd => by
  obtain ⟨n, _, rfl⟩ := List.mem_map.mp hd
  show (dI n).canLay0 = true
  unfold dI
  simp only [PyData.canLay0, lay_intsL]) (by have := depthAll_dI S; omega)
theorem filt_one {ds : List PyData} : (ds.filter fun d => !oneQ d).isEmpty = ds.all oneQ := by
  induction ds with
  | nil => rfl
  | cons d ds ih =>
    rw [List.filter_cons, List.all_cons]
    cases h : oneQ d with
    | true =>
      rw [if_neg (by decide), ih, Bool.true_and]
    | false =>
      rw [if_pos (by decide), Bool.false_and]
      rfl
theorem filt_zero {l : List Int} : (l.filter fun x => decide (x ≠ 0)).isEmpty = l.all fun x => decide (x = 0) := by
  have := ones_all l
  rw [← this]
  cases l.filter fun x => decide (x ≠ 0) <;> rfl
theorem showAll_ab : ∀ {ds : List PyData}, PyData.showableAll ds = true → Ab 1920 (ds.map toI)
  | [], _ => fun n hn => (List.not_mem_nil hn).elim
  | d :: ds, h => fun n hn => by
    simp only [PyData.showableAll, Bool.and_eq_true] at h
    rw [List.map_cons] at hn
    rcases List.mem_cons.mp hn with z | z
    · rw [z]
      cases d with
      | int i =>
        have h1 := h.1
        simp only [PyData.showable, decide_eq_true_eq] at h1
        show i.natAbs < 2 ^ 1920
        by_cases z0 : i.natAbs = 0
        · rw [z0]
          exact Nat.pos_of_ne_zero (by have := Nat.one_le_two_pow (n := 1920); omega)
        · exact (Nat.log2_lt z0).mp h1
      | _ => exact Nat.pos_of_ne_zero (by have := Nat.one_le_two_pow (n := 1920); omega)
    · exact showAll_ab h.2 n z
theorem abd_show : ∀ {d : PyData}, d.showable = true → AbD 1920 d := fun {d} h => by
  cases d with
  | list ds =>
    simp only [PyData.showable] at h
    exact showAll_ab h
  | _ => trivial
theorem dqAll_snoc {H : Hp} {x : V} {d : PyData} (h : Dq H x d) : ∀ {xs : List V} {ds : List PyData}, DqAll H xs ds → DqAll H (xs ++ [x]) (ds ++ [d])
  | _, _, .nil => .cons h .nil
  | _, _, .cons h1 h2 => .cons h1 (dqAll_snoc h h2)
def spDue : Sp := fun vs H Q _ => ∃ (a : Addr) (ns : List Int) (v : V) (d : PyData), vs = [.ref a, v] ∧ H a = some (.lst (ns.map V.int)) ∧ Rim ns ∧ Dq H v d ∧ d.showable = true ∧ d.depth ≤ 3 ∧ NDk d ∧ ∀ H', Same H H' → Q (.bl (hidB ns d)) H'
theorem ok_law_due (T : Txt K mg) : FnOk P w K mg base CX0 2 T.a_law_due T.d_law_due ["disc_here", "thing"] spDue := by
  have G_law_is_int := ok_law_is_int (P := P) (w := w) (base := base) T
  have G_law_lights := ok_law_lights (P := P) (w := w) (base := base) T
  refine T.F_law_due.ok sc_law_due (fun vs H Q E h => ?_) (fun cdv A outer s H vs Q E hr h => ?_)
  · obtain ⟨_, _, _, _, rfl, _⟩ := h
    rfl
  · obtain ⟨a, ns, v, d, rfl, hA, hR, hd, hsh, hdep, hnd, q⟩ := h
    refine ⟨_, (pss_cons (ps_if (PW.pt (pw_or (pt_not (pt_val (pe_callB (isiL (K := K) rfl) (by rfl) T.n_isinstance (by decide +kernel) (pa_cons (pv 1) (pa_cons (pe_bltn (v := .ty "list") (u := Value.type "list") rfl T.n_list (by decide +kernel) rfl) pa_nil))))) (pw_or1 (pt_cmpR op_ne (pe_callB (lenL (K := K) rfl) (by rfl) T.n_len (by decide +kernel) (pa_cons (pv 1) pa_nil)) (pe_callB (lenL (K := K) rfl) (by rfl) T.n_len (by decide +kernel) (pa_cons (pv 0) pa_nil)) (nomark _))))) (pss_one (ps_ret pe_bl)) pss_nil)
      (pss_cons (ps_if (pt_cmpR (neD (K := K) rfl hr) (pe_lc (own := [("one", 2)]) (g := gName 2) (by rfl) sc_law_due.nd (pi_listL (K := K) rfl (pv 1)) (blkOk_by (own := [("one", 2)]) (N := ["disc_here", "thing", "one"]) (sc := defScope s_law_due) (by decide +kernel))
        (fun _ _ _ _ _ => (pg_name (i := 2) sc_law_due.nd rfl (Or.inl rfl))) (fun _ _ _ _ _ => (pts_one (pt_not (pt_val (pe_call G_law_is_int hr (by rfl) T.g_law_is_int T.F_law_is_int.kp T.b_law_is_int .nil pass0 (pa_cons (pv 2) pa_nil)))))) (fun _ _ _ _ _ => (pv 2))) (pe_lst pa_nil) (nomark _)) (pss_one (ps_ret pe_bl)) pss_nil)
      (pss_one (ps_ret (pe_cmpR (eqD (K := K) rfl hr) (pe_lc (own := [("one", 2)]) (g := gName 2) (by rfl) sc_law_due.nd (pi_listL (K := K) rfl (pe_call G_law_lights hr (by rfl) T.g_law_lights T.F_law_lights.kp T.b_law_lights .nil pass0 (pa_cons (pv 0) (pa_cons (pv 1) pa_nil)))) (blkOk_by (own := [("one", 2)]) (N := ["disc_here", "thing", "one"]) (sc := defScope s_law_due) (by decide +kernel))
        (fun _ _ _ _ _ => (pg_name (i := 2) sc_law_due.nd rfl (Or.inl rfl))) (fun _ _ _ _ _ => (pts_one (pt_cmpR op_ne (pv 2) pe_int (nomark _)))) (fun _ _ _ _ _ => (pv 2))) (pe_lst pa_nil) (nomark _)))))), ?_⟩
    have l40 := hR.le
    have l1 := hR.pos
    refine ⟨v, rfl, v, .ty "list", _, _, _, rfl, .ty _, ty_q hd, kit_listQ d, _, rfl, ?_⟩
    have q0 := q H (Same.refl H)
    cases hd with
    | @lst b xs ds h1 h2 =>
      have e := h2.length
      have q3 : ∀ H', Same H H' → Q (.bl ((decide (ds.length = ns.length) && ds.all oneQ) && (lightsV ns (ds.map toI)).all fun x => decide (x = 0))) H' := q
      simp only [PyData.showable] at hsh
      simp only [PyData.depth] at hdep
      have hab := showAll_ab hsh
      refine iteF ⟨.ref b, rfl, b, _, rfl, .inl (SqL.of h1), .ref a, rfl, a, _, rfl, .inl (SqL.of hA), rfl, _, rfl, ?_⟩
      by_cases z : ds.length = ns.length
      · refine iteNS (by rw [List.length_map, e, z]) ?_
        refine ⟨.ref b, rfl, b, rfl, ⟨_, SqL.of h1⟩, fun D hD => ?_⟩
        refine lc_list (K := K) (a := b) (xs := xs) (fun i H' => Same H H' ∧ ∃ (vs2 : List V), H' D = some (.lst vs2) ∧ DqAll H vs2 ((ds.take i).filter fun d => !oneQ d) ∧ vs2.length ≤ i)
          ⟨new_same hD, [], upd_same, .nil, Nat.le_refl _⟩ (fun i H' _ hP => SqL.of (hP.1 _ _ h1)) (fun i x H1 hx hP => ⟨rfl, ?_⟩) (fun H1 hP => ?_)
        · obtain ⟨s1, vs2, g1, dq2, hl2⟩ := hP
          obtain ⟨d, hd, dq⟩ := h2.at hx
          have hi : i < xs.length := (List.getElem?_eq_some_iff.mp hx).1
          have tk : ds.take (i + 1) = ds.take i ++ [d] := by
            rw [List.take_add_one, hd]
            rfl
          refine ⟨x, rfl, x, d, rfl, dq.same s1, _, rfl, ?_⟩
          cases ho : oneQ d with
          | true =>
            refine iteF ⟨s1, vs2, g1, ?_, by omega⟩
            rw [tk, List.filter_append, List.filter_cons, if_neg (by rw [ho]; decide), List.filter_nil, List.append_nil]
            exact dq2
          | false =>
            refine iteT ⟨x, rfl, vs2, g1, sz40 (by omega), same_over s1 hD, vs2 ++ [x], upd_same, ?_, by rw [List.length_append]; show vs2.length + 1 ≤ i + 1; omega⟩
            rw [tk, List.filter_append, List.filter_cons, if_pos (by rw [ho]; decide), List.filter_nil]
            exact dqAll_snoc dq dq2
        · obtain ⟨s1, vs2, g1, dq2, hl2⟩ := hP
          rw [e, List.take_of_length_le (Nat.le_refl _)] at dq2
          refine ⟨Nat.zero_le _, fun z1 hz1 => ?_⟩
          have sz := new_same (o := .lst []) hz1
          have s2 := s1.trans sz
          have nd1 : PyData.hasDictAll (ds.filter fun d => !oneQ d) = false := nd_all.mpr fun d hd => nd_all.mp hnd.1 d (List.mem_filter.mp hd).1
          have la1 : PyData.canLayAll0 (ds.filter fun d => !oneQ d) = true := lay_all.mpr fun d hd => lay_all.mp hnd.2 d (List.mem_filter.mp hd).1
          have dp1 : PyData.depthAll (ds.filter fun d => !oneQ d) ≤ 20 := dep_all.mpr fun d hd => (dep_all (k := 20)).mp (by omega) d (List.mem_filter.mp hd).1
          refine ⟨.list (ds.filter fun d => !oneQ d), .list [], .lst (SqL.of (sz _ _ g1)) (DqAll.dp (dq2.same s2) nd1), .lst (SqL.of upd_same) .nil, shaped_of la1 dp1, shaped_of (by simp only [PyData.canLayAll0]) (by simp only [PyData.depthAll]; omega), ?_⟩
          rw [eqv_nil, filt_one]
          cases ho : ds.all oneQ with
          | false =>
            have q4 := q3 _ s2
            rw [ho, Bool.and_false, Bool.false_and] at q4
            exact ⟨_, rfl, iteT q4⟩
          | true =>
            refine ⟨_, rfl, iteF ?_⟩
            have ex := h2.ones ho
            have hB : H b = some (.lst ((ds.map toI).map V.int)) := by rw [← ex]; exact h1
            refine ⟨.ref a, rfl, .ref b, rfl, a, b, ns, ds.map toI, rfl, SqL.of (s2 _ _ hA), SqL.of (s2 _ _ hB), by rw [List.length_map]; exact z.symm, l1, l40, hR.ab, hab, fun l H3 s3 f3 e3 => ?_⟩
            refine ⟨l, rfl, ⟨_, SqL.of e3⟩, fun D2 hD2 => ?_⟩
            refine lc_list (K := K) (a := l) (xs := (lightsV ns (ds.map toI)).map V.int) (fun j H' => Same H3 H' ∧ H' D2 = some (.lst ((((lightsV ns (ds.map toI)).take j).filter fun x => decide (x ≠ 0)).map V.int)))
              ⟨new_same hD2, upd_same⟩ (fun j H' _ hP => SqL.of (hP.1 _ _ e3)) (fun j x H5 hx hP => ⟨rfl, ?_⟩) (fun H5 hP => ?_)
            · obtain ⟨s5, g5⟩ := hP
              obtain ⟨x, hxx, rfl⟩ := int_at hx
              refine ⟨.int x, rfl, rfl, _, rfl, ite2 (fun h => ?_) (fun h => ?_)⟩
              · have hx0 : ¬ x = 0 := fun z => by
                  subst z
                  revert h
                  decide
                refine ⟨.int x, rfl, _, g5, ?_, same_over s5 hD2, ?_⟩
                · rw [List.length_map]
                  have := List.length_filter_le (fun x => decide (x ≠ 0)) ((lightsV ns (ds.map toI)).take j)
                  rw [List.length_take, lightsV_len] at this
                  exact sz40 (by omega)
                · rw [upd_same, filt_next hxx, if_neg hx0, List.map_append]
                  rfl
              · have hx0 : x = 0 := by
                  by_cases z : x = 0
                  · exact z
                  · exfalso
                    refine h ?_
                    show (!decide (V.int x = V.int 0)) = true
                    rw [decide_eq_false (fun y => z (V.int.inj y))]
                    rfl
                refine ⟨s5, ?_⟩
                rw [filt_next hxx, if_pos hx0, List.append_nil]
                exact g5
            · obtain ⟨s5, g5⟩ := hP
              rw [List.length_map, List.take_of_length_le (Nat.le_refl _)] at g5
              refine ⟨Nat.zero_le _, fun z2 hz2 => ?_⟩
              have sy := new_same (o := .lst []) hz2
              refine ⟨_, _, dp_ints (SqL.of (sy _ _ g5)), dp_ints (ns := []) (SqL.of upd_same), shaped_dI _, shaped_dI _, ?_⟩
              rw [eqv_dI0, filt_zero]
              have q4 := q3 _ (((s2.trans s3).trans s5).trans sy)
              rw [ho, decide_eq_true z, Bool.and_self, Bool.true_and] at q4
              exact q4
      · have c2 : decide (V.int (xs.length : Int) = V.int ((ns.map V.int).length : Int)) = false := decide_eq_false fun y => z (by
          have := V.int.inj y
          rw [List.length_map] at this
          omega)
        show if (!decide (V.int (xs.length : Int) = V.int ((ns.map V.int).length : Int))) = true then _ else _
        rw [c2]
        have q4 := q3 H (Same.refl H)
        rw [decide_eq_false z, Bool.false_and, Bool.false_and] at q4
        exact iteT q4
    | non => exact iteT (iteT q0)
    | bl _ => exact iteT (iteT q0)
    | int _ => exact iteT (iteT q0)
    | str _ => exact iteT (iteT q0)
    | tup _ _ => exact iteT (iteT q0)
    | emp _ => exact iteT (iteT q0)

/-! ### _law_right, law -/
def spRight09 : Sp := fun vs H Q _ => ∃ (t a : Addr) (ns : List Int) (c : Int), vs = [.ref t, .ref a] ∧ Tank H t c ∧ 0 ≤ c ∧ c < 2 ^ 37 ∧ a ≠ t ∧ H a = some (.lst (ns.map V.int)) ∧ Rim ns ∧
  ∀ H', But t H H' → Tank H' t (c + 20) → Q (.bl true) H'
theorem start09 (x y : V) : L2.start [Str.ofString "jar", Str.ofString "disc_here", Str.ofString "hiding", Str.ofString "kept", Str.ofString "thing", Str.ofString "due", Str.ofString "before", Str.ofString "told"] [x, y] = [some x, some y, none, none, none, none, none, none] := rfl
def d2 (x : Bool) : PyData := .list [.bool x, .bool x]
theorem d2_rp (x : Bool) : RP (d2 x) ∧ (d2 x).shown.length ≤ sizeLine := by
  cases x
  · exact ⟨⟨by decide, by decide, by decide, by decide⟩, Nat.le_trans (m := 1000) (by decide +kernel) (by decide)⟩
  · exact ⟨⟨by decide, by decide, by decide, by decide⟩, Nat.le_trans (m := 1000) (by decide +kernel) (by decide)⟩
theorem d2_dp {K : PySem.W.Frag} {H : Hp} {l : Addr} {x : Bool} (h : H l = some (.lst [.bl x, .bl x])) : Dp K H (.ref l) (d2 x) := .lst (SqL.of h) (.cons (.bl x) (.cons (.bl x) .nil))
theorem d2_dq {H : Hp} {l : Addr} {x : Bool} (h : H l = some (.lst [.bl x, .bl x])) : Dq H (.ref l) (d2 x) := .lst h (.cons (.bl x) (.cons (.bl x) .nil))
def d4 (x : Bool) (n : Nat) : PyData := .list [.bool x, .bool x, .int n, .int n]
theorem d4_rp (x : Bool) {n : Nat} (h : n ≤ 40) : RP (d4 x n) ∧ (d4 x n).shown.length ≤ sizeLine := by
  have hb : ((n : Int)).natAbs < 2 ^ 1000 := Nat.lt_of_lt_of_le (m := 41) (by omega) (by decide +kernel)
  have ri := rp_int hb
  have rb : RP (.bool x) := ⟨by simp only [PyData.showable], by simp only [PyData.hasDict], by simp only [PyData.canLay0], by simp only [PyData.depth]; omega⟩
  have di : (PyData.int n).depth ≤ 1 := by simp only [PyData.depth]; omega
  have db : (PyData.bool x).depth ≤ 1 := by simp only [PyData.depth]; omega
  refine ⟨((RPs.cons rb db (RPs.cons rb db (RPs.cons ri di (RPs.cons ri di RPs.nil)))).list (by omega)).1, ?_⟩
  have := shown_list (B := 1001) (ds := [.bool x, .bool x, .int n, .int n]) fun d hd => by
    simp only [List.mem_cons, List.not_mem_nil, or_false] at hd
    rcases hd with rfl | rfl | rfl | rfl
    · cases x <;> exact Nat.le_trans (m := 10) (by decide +kernel) (by decide)
    · cases x <;> exact Nat.le_trans (m := 10) (by decide +kernel) (by decide)
    · exact shown_int hb
    · exact shown_int hb
  exact Nat.le_trans this (by show (1001 + 2) * 4 + 3 ≤ sizeLine; decide)
theorem d4_dp {K : PySem.W.Frag} {H : Hp} {l : Addr} {x : Bool} {n : Nat} (h : H l = some (.lst [.bl x, .bl x, .int n, .int n])) : Dp K H (.ref l) (d4 x n) := .lst (SqL.of h) (.cons (.bl x) (.cons (.bl x) (.cons (.int n) (.cons (.int n) .nil))))
theorem rows_but {t : Addr} {c : Int} {H0 H H' : Hp} {rs : List V} {S : List (List Int)} (hT : Tank H0 t c) (r : Rows H0 H rs S) (u : But t H H') : Rows H0 H' rs S := by
  induction r with
  | nil => exact .nil
  | cons h1 h2 _ ih => exact .cons h1 (u _ _ h2 (hT.ne h1)) ih
theorem ok_law_right (T : Txt K mg) : FnG P w K mg base CX0 11 T.a_law_right T.d_law_right ["jar", "disc_here"] spRight09 := by
  have G_law_hiding := ok_law_hiding (P := P) (w := w) (base := base) T
  have G_law_things := ok_law_things (P := P) (w := w) (base := base) T
  have G_law_due := ok_law_due (P := P) (w := w) (base := base) T
  have G_is_hidden := ok_is_hidden (P := P) (w := w) (base := base) T
  have G_is_telling := ok_is_telling (P := P) (w := w) (base := base) T
  have G_hidden_count := ok_hidden_count (P := P) (w := w) (base := base) T
  refine okG T.F_law_right sc_law_right (fun vs H Q E h => ?_) (fun cdv A outer s H vs Q E hg hr h => ?_)
  · obtain ⟨_, _, _, _, rfl, _⟩ := h
    rfl
  · obtain ⟨t, a, ns, c, rfl, hT, hc0, hc, hat, ha, hR, q⟩ := h
    refine ⟨_, (pss_cons (ps_par (i := 2) (j := 3) (by rfl) sc_law_right.nd rfl rfl (by decide) rfl rfl (pa_cons (pe_call G_law_hiding hr (by rfl) T.g_law_hiding T.F_law_hiding.kp T.b_law_hiding .nil pass0 (pa_cons (pv 1) pa_nil)) (pa_cons (pe_callB (reprL (K := K) rfl hg hr) (by rfl) T.n_repr (by decide +kernel) (pa_cons (pv 1) pa_nil)) pa_nil)) (by rfl))
      (pss_cons (ps_for PassesOwn.never rfl (pi_listL (K := K) rfl (pe_call G_law_things (hr.mono (by decide)) (by rfl) T.g_law_things T.F_law_things.kp T.b_law_things .nil pass0 (pa_cons (pv 0) (pa_cons (pv 1) (pa_cons (pv 2) pa_nil))))) (pg_name (i := 4) sc_law_right.nd rfl (.inl rfl)) (pss_cons (ps_par (i := 5) (j := 6) (by rfl) sc_law_right.nd rfl rfl (by decide) rfl rfl (pa_cons (pe_call G_law_due (hr.mono (by decide)) (by rfl) T.g_law_due T.F_law_due.kp T.b_law_due .nil pass0 (pa_cons (pv 1) (pa_cons (pv 4) pa_nil))) (pa_cons (pe_callB (reprQ hg hr) (by rfl) T.n_repr (by decide +kernel) (pa_cons (pv 4) pa_nil)) pa_nil)) (by rfl))
      (pss_cons (ps_if (pt_cmpR op_ne (pe_callB (reprL (K := K) rfl hg hr) (by rfl) T.n_repr (by decide +kernel) (pa_cons (pe_lst (pa_cons (pe_callW G_is_hidden (hr.mono (by decide)) rfl T.g_is_hidden T.F_is_hidden.kp (kb_is_hidden_value_disc T) pass0 (pk_cons (pv 4) (pk_cons (pv 1) pk_nil))) (pa_cons (pe_call G_is_hidden (hr.mono (by decide)) (by rfl) T.g_is_hidden T.F_is_hidden.kp T.b_is_hidden .nil pass0 (pa_cons (pv 1) (pa_cons (pv 4) pa_nil))) pa_nil))) pa_nil)) (pe_callB (reprL (K := K) rfl hg hr) (by rfl) T.n_repr (by decide +kernel) (pa_cons (pe_lst (pa_cons (pv 5) (pa_cons (pv 5) pa_nil))) pa_nil)) (nomark _)) (pss_one (ps_ret pe_bl)) pss_nil)
      (pss_one (ps_if (pt_cmpR op_ne (pe_callB (reprQ hg hr) (by rfl) T.n_repr (by decide +kernel) (pa_cons (pv 4) pa_nil)) (pv 6) (nomark _)) (pss_one (ps_ret pe_bl)) pss_nil)))))
      (pss_cons (ps_set (i := 7) sc_law_right.nd rfl (.inl rfl) (pe_lst (pa_cons (pe_callW G_is_telling (hr.mono (by decide)) rfl T.g_is_telling T.F_is_telling.kp (kb_is_telling_disc T) pass0 (pk_cons (pv 1) pk_nil)) (pa_cons (pe_call G_is_telling (hr.mono (by decide)) (by rfl) T.g_is_telling T.F_is_telling.kp T.b_is_telling .nil pass0 (pa_cons (pv 1) pa_nil)) (pa_cons (pe_callW G_hidden_count (hr.mono (by decide)) rfl T.g_hidden_count T.F_hidden_count.kp (kb_hidden_count_disc T) pass0 (pk_cons (pv 1) pk_nil)) (pa_cons (pe_call G_hidden_count (hr.mono (by decide)) (by rfl) T.g_hidden_count T.F_hidden_count.kp T.b_hidden_count .nil pass0 (pa_cons (pv 1) pa_nil)) pa_nil))))))
      (pss_cons (ps_set (i := 5) sc_law_right.nd rfl (.inl rfl) (pe_op op_cat (pe_op op_rep (pe_lst (pa_cons (pe_cmpR (eqD (K := K) rfl hr) (pv 2) (pe_lst pa_nil) (nomark _)) pa_nil)) pe_int) (pe_op op_rep (pe_lst (pa_cons (pe_callB (lenL (K := K) rfl) (by rfl) T.n_len (by decide +kernel) (pa_cons (pv 2) pa_nil)) pa_nil)) pe_int)))
      (pss_one (ps_ret (pe_and (pe_cmpR op_eq (pe_callB (reprL (K := K) rfl hg hr) (by rfl) T.n_repr (by decide +kernel) (pa_cons (pv 7) pa_nil)) (pe_callB (reprL (K := K) rfl hg hr) (by rfl) T.n_repr (by decide +kernel) (pa_cons (pv 5) pa_nil)) (nomark _)) (pe_one (pe_cmpR op_eq (pe_callB (reprL (K := K) rfl hg hr) (by rfl) T.n_repr (by decide +kernel) (pa_cons (pv 1) pa_nil)) (pv 3) (nomark _)))))))))), ?_⟩
    have l40 := hR.le
    have l1 := hR.pos
    -- hiding, kept
    refine ⟨.ref a, rfl, a, ns, rfl, ha, hR, fun S rs H1 s1 fS gS rR => ?_⟩
    have a1 := s1 _ _ ha
    have nS : S ≠ t := hT.ne fS
    have k1 := hT.same s1
    refine ⟨.ref a, rfl, a, dI ns, rfl, dp_ints (SqL.of a1), hR.rp.sh, hR.rp.nd, hR.rp.dp, hR.fits, _, _, rfl, ?_⟩
    simp only [start09, List.set_cons_zero, List.set_cons_succ]
    have hrl : rs.length = degS (blindL ns) := by rw [rR.len, hidRows_len]
    have hbd := blind_deg l1 l40
    -- the things
    refine ⟨.ref t, rfl, .ref a, rfl, .ref S, rfl, t, a, S, ns, rs, c, rfl, k1, hc0, by omega, hat, nS, a1, hR, gS, by omega, fun i v hv => ?_, fun f xs H2 u2 k2 nf gf hxl hth => ?_⟩
    · obtain ⟨r, m, rfl, hm, fr, er⟩ := rR.at hv
      have hi : i < degS (blindL ns) := by
        have := (List.getElem?_eq_some_iff.mp hv).1
        omega
      have em : m = hidRow ns i := by
        unfold hidRows at hm
        rw [List.getElem?_map, List.getElem?_range hi] at hm
        exact (Option.some.inj hm).symm
      exact ⟨r, m, rfl, hT.ne fr, by rw [em]; exact hidRow_len l1 l40 hi, by rw [em]; exact hidRow_ab l1 l40 i, er⟩
    have a2 := u2 _ _ a1 hat
    have S2 := u2 _ _ gS nS
    have rR2 : Rows H H2 rs (hidRows ns) := rows_but hT rR u2
    refine ⟨f, rfl, ⟨_, SqL.of gf⟩, for_list (K := K) (a := f) (xs := xs) (fun i σ H' => ∃ y4 y5 y6 : Option V, σ = [some (.ref t), some (.ref a), some (.ref S), some (.str (dI ns).shown), y4, y5, y6, none] ∧ Same H2 H')
      ⟨_, _, _, rfl, Same.refl H2⟩ (fun i σ H' _ ⟨_, _, _, _, s⟩ => SqL.of (s _ _ gf)) (fun i x σ H3 hx hP => ?_) (fun σ H3 hP => ?_)⟩
    · obtain ⟨y4, y5, y6, rfl, s3⟩ := hP
      obtain ⟨d, hq, hsh, hdep, hlen, hnd⟩ := (hth x (List.mem_of_getElem? hx)).but (But.of (T := t) s3)
      have hq3 : Dq H3 x d := hq.same (mask_same t H3)
      have a3 := s3 _ _ a2
      have hfit : d.shown.length ≤ sizeLine := Nat.le_trans hlen (by decide)
      -- due, before
      refine ⟨.ref a, rfl, x, rfl, a, ns, x, d, rfl, a3, hR, hq3, hsh, hdep, hnd, fun H4 s4 => ?_⟩
      refine ⟨x, rfl, x, d, rfl, hq3.same s4, hsh, by omega, hfit, _, _, rfl, ?_⟩
      obtain ⟨r2, f2⟩ := d2_rp (hidB ns d)
      refine ⟨x, rfl, .ref a, rfl, a, ns, x, d, rfl, s4 _ _ a3, hR, hq3.same s4, abd_show hsh, fun H5 s5 => ?_⟩
      have s45 := s4.trans s5
      refine ⟨.ref a, rfl, x, rfl, a, ns, x, d, rfl, s45 _ _ a3, hR, hq3.same s45, abd_show hsh, fun H6 s6 => ?_⟩
      have s46 := s45.trans s6
      refine ⟨(by show 2 ≤ sizeLine; decide), fun z1 hz1 => ?_⟩
      have s7 := s46.trans (new_same (o := .lst [.bl (hidB ns d), .bl (hidB ns d)]) hz1)
      refine ⟨z1, _, rfl, d2_dp upd_same, r2.sh, r2.nd, r2.dp, f2, ?_⟩
      refine ⟨.bl (hidB ns d), rfl, .bl (hidB ns d), rfl, (by show 2 ≤ sizeLine; decide), fun z2 hz2 => ?_⟩
      have s8 := s7.trans (new_same (o := .lst [.bl (hidB ns d), .bl (hidB ns d)]) hz2)
      refine ⟨z2, d2 (hidB ns d), rfl, d2_dp upd_same, r2.sh, r2.nd, r2.dp, f2, rfl, _, rfl, iteNS rfl ?_⟩
      refine ⟨x, rfl, x, d, rfl, hq3.same s8, hsh, by omega, hfit, .str d.shown, rfl, rfl, _, rfl, iteNS rfl ?_⟩
      exact ⟨_, _, _, rfl, s3.trans s8⟩
    obtain ⟨y4, y5, y6, rfl, s3⟩ := hP
    have a3 := s3 _ _ a2
    have S3 := s3 _ _ S2
    -- told
    refine ⟨.ref a, rfl, a, ns, rfl, a3, hR, fun H4 s4 => ?_⟩
    refine ⟨.ref a, rfl, a, ns, rfl, s4 _ _ a3, hR, fun H5 s5 => ?_⟩
    have s45 := s4.trans s5
    refine ⟨.ref a, rfl, a, ns, rfl, s45 _ _ a3, hR, fun H6 s6 => ?_⟩
    have s46 := s45.trans s6
    refine ⟨.ref a, rfl, a, ns, rfl, s46 _ _ a3, hR, fun H7 s7 => ?_⟩
    have s47 := s46.trans s7
    refine ⟨(by show 4 ≤ sizeLine; decide), fun tl htl => ?_⟩
    have dt := new_same (o := .lst [.bl (decide (degS (blindL ns) = 0)), .bl (decide (degS (blindL ns) = 0)), .int (degS (blindL ns)), .int (degS (blindL ns))]) htl
    have gtl : upd H7 tl (.lst [.bl (decide (degS (blindL ns) = 0)), .bl (decide (degS (blindL ns) = 0)), .int (degS (blindL ns)), .int (degS (blindL ns))]) tl = some (.lst [.bl (decide (degS (blindL ns) = 0)), .bl (decide (degS (blindL ns) = 0)), .int (degS (blindL ns)), .int (degS (blindL ns))]) := upd_same
    have s4t := s47.trans dt
    generalize upd H7 tl (.lst [.bl (decide (degS (blindL ns) = 0)), .bl (decide (degS (blindL ns) = 0)), .int (degS (blindL ns)), .int (degS (blindL ns))]) = H8 at gtl s4t ⊢
    -- due
    have S8 := s4t _ _ S3
    have dpS : ∀ {HZ : Hp}, Same H8 HZ → Dp K HZ (.ref S) (.list ((hidRows ns).map dI)) := fun sz => .lst (SqL.of (sz _ _ S8)) (rR2.up ((s3.trans s4t).trans sz)).dp
    refine ⟨.ref S, rfl, Nat.zero_le _, fun z1 hz1 => ?_⟩
    have sz1 := new_same (o := .lst []) hz1
    refine ⟨.list ((hidRows ns).map dI), .list [], dpS sz1, .lst (SqL.of upd_same) .nil, shaped_dIs _, shaped_of (by simp only [PyData.canLayAll0]) (by simp only [PyData.depthAll]; omega), ?_⟩
    have eb : PyData.eqv (.list ((hidRows ns).map dI)) (.list []) = decide (degS (blindL ns) = 0) := by
      rw [eqv_nil]
      have hl := hidRows_len ns
      cases e : hidRows ns with
      | nil =>
        rw [e] at hl
        have : degS (blindL ns) = 0 := hl.symm
        rw [this]
        rfl
      | cons x xs =>
        rw [e] at hl
        have : ¬ degS (blindL ns) = 0 := by rw [← hl]; exact Nat.succ_ne_zero _
        rw [decide_eq_false this]
        rfl
    rw [eb]
    refine ⟨(by show 1 ≤ sizeLine; decide), fun z2 hz2 => ?_⟩
    have sz2 := sz1.trans (new_same (o := .lst [.bl (decide (degS (blindL ns) = 0))]) hz2)
    refine ⟨z2, 2, _, rfl, rfl, upd_same, by decide, by decide, (by show 1 * 2 ≤ sizeLine; decide), fun z3 hz3 => ?_⟩
    have dz3 := new_same (o := .lst [.bl (decide (degS (blindL ns) = 0)), .bl (decide (degS (blindL ns) = 0))]) hz3
    have gz3 : upd (upd (upd H8 z1 (.lst [])) z2 (.lst [.bl (decide (degS (blindL ns) = 0))])) z3 (.lst [.bl (decide (degS (blindL ns) = 0)), .bl (decide (degS (blindL ns) = 0))]) z3 = some (.lst [.bl (decide (degS (blindL ns) = 0)), .bl (decide (degS (blindL ns) = 0))]) := upd_same
    have sz3 := sz2.trans dz3
    refine ⟨.ref S, rfl, S, _, rfl, .inl (SqL.of (sz3 _ _ S8)), ?_⟩
    rw [hrl]
    refine ⟨(by show 1 ≤ sizeLine; decide), fun z4 hz4 => ?_⟩
    have dz4 := new_same (o := .lst [.int (degS (blindL ns))]) hz4
    refine ⟨z4, 2, _, rfl, rfl, upd_same, by decide, by decide, (by show 1 * 2 ≤ sizeLine; decide), fun z5 hz5 => ?_⟩
    have dz5 := dz4.trans (new_same (o := .lst [.int (degS (blindL ns)), .int (degS (blindL ns))]) hz5)
    refine ⟨z3, z5, _, _, rfl, rfl, dz5 _ _ gz3, upd_same, (by show 2 + 2 ≤ sizeLine; decide), fun z6 hz6 => ?_⟩
    have sz6 := (sz3.trans dz5).trans (new_same (o := .lst [.bl (decide (degS (blindL ns) = 0)), .bl (decide (degS (blindL ns) = 0)), .int (degS (blindL ns)), .int (degS (blindL ns))]) hz6)
    -- the last line
    obtain ⟨r4, f4⟩ := d4_rp (decide (degS (blindL ns) = 0)) (n := degS (blindL ns)) (by omega)
    refine ⟨.ref tl, rfl, tl, d4 _ _, rfl, d4_dp (sz6 _ _ gtl), r4.sh, r4.nd, r4.dp, f4, ?_⟩
    refine ⟨.ref z6, rfl, z6, d4 (decide (degS (blindL ns) = 0)) (degS (blindL ns)), rfl, d4_dp upd_same, r4.sh, r4.nd, r4.dp, f4, rfl, _, rfl, ?_⟩
    rw [if_pos (decide_eq_true rfl)]
    have sE := (s3.trans s4t).trans sz6
    refine ⟨.ref a, rfl, a, dI ns, rfl, dp_ints (SqL.of (sE _ _ a2)), hR.rp.sh, hR.rp.nd, hR.rp.dp, hR.fits, .str (dI ns).shown, rfl, rfl, ?_⟩
    show Q (.bl (decide (V.str (dI ns).shown = V.str (dI ns).shown))) _
    rw [decide_eq_true rfl]
    exact q _ ((But.of s1).trans (u2.trans (But.of sE))) (k2.same sE)
def spLaw (K : PySem.W.Frag) : Sp := fun vs H Q _ => ∃ (a : Addr) (ns : List Int), vs = [.ref a] ∧ SqL K H a (ns.map V.int) ∧ ns.length ≤ 63 ∧ ∀ H', Q (.bl true) H'

theorem ok_law (T : Txt K mg) : FnG P w K mg base CX0 12 T.a_law T.d_law ["script"] (spLaw K) := by
  have G_law_jar := ok_law_jar (P := P) (w := w) (base := base) T
  have G_law_size := ok_law_size (P := P) (w := w) (base := base) T
  have G_law_some_disc := ok_law_some_disc (P := P) (w := w) (base := base) T
  have G_law_right := ok_law_right (P := P) (w := w) (base := base) T
  have G_is_telling := ok_is_telling (P := P) (w := w) (base := base) T
  have G_is_hidden := ok_is_hidden (P := P) (w := w) (base := base) T
  refine okG T.F_law sc_law (fun vs H Q E h => ?_) (fun cdv A outer s H vs Q E hg hr h => ?_)
  · obtain ⟨_, _, rfl, _⟩ := h
    rfl
  · obtain ⟨a, ns, rfl, hS, hlen, q⟩ := h
    refine ⟨_, (pss_cons (ps_for PassesOwn.never rfl (pi_range1 (by rfl) T.n_range (pa_cons (pe_callB (call_max2 rfl) (by rfl) T.n_max (by decide +kernel) (pa_cons pe_int (pa_cons (pe_callB (call_min2 rfl) (by rfl) T.n_min (by decide +kernel) (pa_cons pe_int (pa_cons (pe_callB (lenL (K := K) rfl) (by rfl) T.n_len (by decide +kernel) (pa_cons (pv 0) pa_nil)) pa_nil))) pa_nil))) pa_nil)) (pg_name (i := 1) sc_law.nd rfl (.inl rfl)) (pss_cons (ps_set (i := 2) sc_law.nd rfl (.inl rfl) (pe_call G_law_jar (hr.mono (by decide)) (by rfl) T.g_law_jar T.F_law_jar.kp T.b_law_jar .nil pass0 (pa_cons (pv 0) (pa_cons (pv 1) pa_nil))))
      (pss_one (ps_for PassesOwn.never rfl (pi_range1 (by rfl) T.n_range (pa_cons pe_int pa_nil)) (pg_name (i := 3) sc_law.nd rfl (.inl rfl)) (pss_one (ps_if (pt_not (pt_val (pe_callG G_law_right hg hr (by rfl) T.g_law_right T.F_law_right.kp T.b_law_right .nil pass0 (pa_cons (pv 2) (pa_cons (pe_call G_law_some_disc (hr.mono (by decide)) (by rfl) T.g_law_some_disc T.F_law_some_disc.kp T.b_law_some_disc .nil pass0 (pa_cons (pv 2) (pa_cons (pe_call G_law_size (hr.mono (by decide)) (by rfl) T.g_law_size T.F_law_size.kp T.b_law_size .nil pass0 (pa_cons (pv 2) (pa_cons (pe_ix (ixL (K := K) rfl) (pe_lst (pa_cons pe_int (pa_cons pe_int (pa_cons pe_int pa_nil)))) (pv 3) (fun _ _ => rfl)) pa_nil))) pa_nil))) pa_nil))))) (pss_one (ps_ret pe_bl)) pss_nil))))))
      (pss_cons (ps_setLc (i := 4) (own := [("some", 5)]) (g := gName 5) (tt := tYes) (by rfl) sc_law.nd rfl rfl (sw_true rfl rfl rfl (by decide +kernel)) (pi_tupL (K := K) rfl (pe_tup (pa_cons (pe_lst (pa_cons pe_int (pa_cons pe_int (pa_cons pe_int (pa_cons pe_int (pa_cons pe_int (pa_cons pe_int (pa_cons pe_int pa_nil)))))))) (pa_cons (pe_lst (pa_cons pe_int (pa_cons pe_int (pa_cons pe_int (pa_cons pe_int pa_nil))))) (pa_cons (pe_lst (pa_cons pe_int (pa_cons pe_int (pa_cons pe_int pa_nil)))) (pa_cons (pe_lst (pa_cons (pe_op op_pow pe_int pe_int) pa_nil)) pa_nil)))))) (blkOk_by (own := [("some", 5)]) (N := ["script", "at", "jar", "lap", "told", "some"]) (sc := defScope s_law) (by decide +kernel))
        (fun _ _ _ _ _ => (pg_name (i := 5) sc_law.nd rfl (Or.inl rfl))) (fun _ _ _ _ _ => pts_nil) (fun _ _ _ _ _ => (pe_call G_is_telling (hr.mono (by decide)) (by rfl) T.g_is_telling T.F_is_telling.kp T.b_is_telling .nil pass0 (pa_cons (pv 5) pa_nil))))
      (pss_one (ps_ret (pe_and (pe_cmpR (eqD (K := K) rfl hr) (pv 4) (pe_lst (pa_cons pe_bl (pa_cons pe_bl (pa_cons pe_bl (pa_cons pe_bl pa_nil))))) (nomark _)) (pe_one (pe_call G_is_hidden (hr.mono (by decide)) (by rfl) T.g_is_hidden T.F_is_hidden.kp T.b_is_hidden .nil pass0 (pa_cons (pe_lst (pa_cons pe_int (pa_cons pe_int (pa_cons pe_int (pa_cons pe_int pa_nil))))) (pa_cons (pe_lst (pa_cons pe_int (pa_cons (pe_un un_neg pe_int) (pa_cons (pe_un un_neg pe_int) (pa_cons pe_int pa_nil))))) pa_nil))))))))), ?_⟩
    refine ⟨.ref a, rfl, a, _, rfl, .inl hS, 5, _, rfl, 1, _, rfl, _, rfl, ?_, ?_, for_range (lo := 0)
      (fun i σ H' => ∃ y1 y2 y3 : Option V, σ = [some (.ref a), y1, y2, y3, none, none] ∧ Same H H' ∧ i ≤ 6) ⟨none, none, none, rfl, Same.refl H, by omega⟩ (fun i σ H1 hi hP => ?_) (fun σ H1 hP => ?_)⟩
    · split <;> split <;> omega
    · split <;> split <;> omega
    · obtain ⟨y1, y2, y3, rfl, s1, _⟩ := hP
      have hi6 : i < 6 := by
        revert hi
        split <;> split <;> omega
      refine ⟨.ref a, rfl, .int (0 + i), rfl, a, ns, 0 + i, rfl, s1.seq hS, by omega, by omega, fun t H2 s2 ht k2 => ?_⟩
      refine ⟨3, rfl, by decide, by decide, for_range (lo := 0) (n := (3 : Int).toNat) (fun j σ H' => ∃ z3 : Option V, σ = [some (.ref a), some (.int (0 + i)), some (.ref t), z3, none, none] ∧ But t H2 H' ∧ Tank H' t (1000 * j))
        ⟨_, rfl, But.refl t H2, k2.mono (by omega)⟩ (fun j σ H3 hj hP => ?_) (fun σ H3 hP => ?_)⟩
      · obtain ⟨z3, rfl, u3, k3⟩ := hP
        have hj3 : j < 3 := hj
        refine ⟨.ref t, rfl, .ref t, rfl, .ref t, rfl, (by show 3 ≤ sizeLine; decide), fun l hl => ?_⟩
        obtain ⟨m, hm, hat⟩ := at_in (ns := [40, 14, 12]) (i := 0 + (j : Int)) (by omega) (by show _ < ((3 : Nat) : Int); omega)
        have hm1 : 1 ≤ m ∧ m ≤ 40 := by
          have := List.mem_of_getElem? hm
          simp only [List.mem_cons, List.not_mem_nil, or_false] at this
          omega
        refine ⟨.int (0 + j), rfl, l, _, _, .int m, rfl, rfl, SqL.of upd_same, hat, ?_⟩
        refine ⟨t, m, 1000 * j, rfl, hm1.1, hm1.2, k3.up hl, by omega, by omega, fun r H4 r1 r2 k4 u4 => ?_⟩
        refine ⟨t, r, 1000 * j + 2, rfl, r1, by omega, k4, by omega, by omega, fun l2 ns2 H5 hR hl2 u5 hf5 hl5 k5 => ?_⟩
        refine ⟨t, l2, ns2, 1000 * j + 2 + 150, rfl, k5, by omega, by omega, k4.ne hf5, hl5, hR, fun H6 u6 k6 => ?_⟩
        refine ⟨true, rfl, iteF ?_⟩
        exact ⟨_, rfl, (((u3.trans (But.of (new_same hl))).trans u4).trans u5).trans u6, k6.mono (by omega)⟩
      · obtain ⟨z3, rfl, u3, k3⟩ := hP
        refine ⟨_, _, _, rfl, fun b o e => u3 _ _ (s2 _ _ (s1 _ _ e)) (fun z => ?_), by omega⟩
        have e1 := s1 _ _ e
        rw [z, ht] at e1
        cases e1
    · obtain ⟨y1, y2, y3, rfl, s1, _⟩ := hP
      have e30 : (10 : Int) ^ (30 : Int).toNat = 1000000000000000000000000000000 := by decide +kernel
      have hR1 : Rim [1, 1, 0, 1, 0, 0, 0] := ⟨by decide, by decide, by decide⟩
      have hR2 : Rim [1, 0, 1, 0] := ⟨by decide, by decide, by decide⟩
      have hR3 : Rim [0, 0, 0] := ⟨by decide, by decide, by decide⟩
      have hR4 : Rim [10 ^ (30 : Int).toNat] := by rw [e30]; exact ⟨by decide, by decide, by decide⟩
      have x1 : decide (degS (blindL [1, 1, 0, 1, 0, 0, 0]) = 0) = true := by decide +kernel
      have x2 : decide (degS (blindL [1, 0, 1, 0]) = 0) = false := by decide +kernel
      have x3 : decide (degS (blindL [0, 0, 0]) = 0) = false := by decide +kernel
      have x4 : decide (degS (blindL [10 ^ (30 : Int).toNat]) = 0) = true := by decide +kernel
      have x5 : hidB [1, 0, 1, 0] (dI [1, -2, -1, 2]) = true := by decide +kernel
      -- the four
      refine ⟨(by show 7 ≤ sizeLine; decide), fun p1 h1 => ⟨(by show 4 ≤ sizeLine; decide), fun p2 h2 => ⟨(by show 3 ≤ sizeLine; decide), fun p3 h3 => ⟨10, 30, rfl, rfl, ⟨by decide, by decide, by decide⟩, (by show 1 ≤ sizeLine; decide), fun p4 h4 => ⟨(by show 4 ≤ sizeLine; decide), fun tp htp => ?_⟩⟩⟩⟩⟩
      have d1 := new_same (o := .lst [.int 1, .int 1, .int 0, .int 1, .int 0, .int 0, .int 0]) h1
      have d2 := new_same (o := .lst [.int 1, .int 0, .int 1, .int 0]) h2
      have d3 := new_same (o := .lst [.int 0, .int 0, .int 0]) h3
      have d4 := new_same (o := .lst [.int (10 ^ (30 : Int).toNat)]) h4
      have d5 := new_same (o := .tup [.ref p1, .ref p2, .ref p3, .ref p4]) htp
      have g1 := d5 _ _ (d4 _ _ (d3 _ _ (d2 _ _ (upd_same (H := H1) (a := p1) (o := .lst [.int 1, .int 1, .int 0, .int 1, .int 0, .int 0, .int 0])))))
      have g2 := d5 _ _ (d4 _ _ (d3 _ _ (upd_same (H := upd H1 p1 (.lst [.int 1, .int 1, .int 0, .int 1, .int 0, .int 0, .int 0])) (a := p2) (o := .lst [.int 1, .int 0, .int 1, .int 0]))))
      have g3 := d5 _ _ (d4 _ _ (upd_same (H := upd (upd H1 p1 (.lst [.int 1, .int 1, .int 0, .int 1, .int 0, .int 0, .int 0])) p2 (.lst [.int 1, .int 0, .int 1, .int 0])) (a := p3) (o := .lst [.int 0, .int 0, .int 0])))
      have g4 := d5 _ _ (upd_same (H := upd (upd (upd H1 p1 (.lst [.int 1, .int 1, .int 0, .int 1, .int 0, .int 0, .int 0])) p2 (.lst [.int 1, .int 0, .int 1, .int 0])) p3 (.lst [.int 0, .int 0, .int 0])) (a := p4) (o := .lst [.int (10 ^ (30 : Int).toNat)]))
      have gt : upd (upd (upd (upd (upd H1 p1 (.lst [.int 1, .int 1, .int 0, .int 1, .int 0, .int 0, .int 0])) p2 (.lst [.int 1, .int 0, .int 1, .int 0])) p3 (.lst [.int 0, .int 0, .int 0])) p4 (.lst [.int (10 ^ (30 : Int).toNat)])) tp (.tup [.ref p1, .ref p2, .ref p3, .ref p4]) tp = some (.tup [.ref p1, .ref p2, .ref p3, .ref p4]) := upd_same
      generalize upd (upd (upd (upd (upd H1 p1 (.lst [.int 1, .int 1, .int 0, .int 1, .int 0, .int 0, .int 0])) p2 (.lst [.int 1, .int 0, .int 1, .int 0])) p3 (.lst [.int 0, .int 0, .int 0])) p4 (.lst [.int (10 ^ (30 : Int).toNat)])) tp (.tup [.ref p1, .ref p2, .ref p3, .ref p4]) = H2 at g1 g2 g3 g4 gt ⊢
      refine ⟨tp, rfl, ⟨_, SqT.of gt⟩, fun D hD => ?_⟩
      refine lc_tup (K := K) (a := tp) (xs := [.ref p1, .ref p2, .ref p3, .ref p4]) (fun i H' => Same H2 H' ∧ H' D = some (.lst ([V.bl true, .bl false, .bl false, .bl true].take i)))
        ⟨new_same hD, upd_same⟩ (fun i H' _ hP => SqT.of (hP.1 _ _ gt)) (fun i x H9 hx hP => ⟨rfl, ?_⟩) (fun H9 hP => ?_)
      · obtain ⟨s9, hD9⟩ := hP
        have step : ∃ (b : Addr) (ls : List Int) (v : Bool), x = .ref b ∧ H2 b = some (.lst (ls.map V.int)) ∧ Rim ls ∧ decide (degS (blindL ls) = 0) = v ∧ [V.bl true, .bl false, .bl false, .bl true][i]? = some (.bl v) := by
          match i, hx with
          | 0, hx => exact ⟨p1, [1, 1, 0, 1, 0, 0, 0], true, (Option.some.inj hx).symm, g1, hR1, x1, rfl⟩
          | 1, hx => exact ⟨p2, [1, 0, 1, 0], false, (Option.some.inj hx).symm, g2, hR2, x2, rfl⟩
          | 2, hx => exact ⟨p3, [0, 0, 0], false, (Option.some.inj hx).symm, g3, hR3, x3, rfl⟩
          | 3, hx => exact ⟨p4, [10 ^ (30 : Int).toNat], true, (Option.some.inj hx).symm, g4, hR4, x4, rfl⟩
          | k + 4, hx => exact absurd hx (by show ¬ (([] : List V)[k]? = some x); rw [List.getElem?_nil]; exact fun z => nomatch z)
        obtain ⟨b, ls, v, rfl, e2, e3, e4, e5⟩ := step
        refine ⟨.ref b, rfl, b, ls, rfl, s9 _ _ e2, e3, fun HA sA => ?_⟩
        refine ⟨_, sA _ _ hD9, by rw [List.length_take]; exact sz40 (by show min i 4 ≤ 100000; omega), same_over (s9.trans sA) hD, ?_⟩
        rw [upd_same, e4, List.take_add_one, e5]
        rfl
      · obtain ⟨s9, hD9⟩ := hP
        have gD : H9 D = some (.lst [.bl true, .bl false, .bl false, .bl true]) := hD9
        refine ⟨.ref D, rfl, (by show 4 ≤ sizeLine; decide), fun o2 ho2 => ?_⟩
        have s5 := new_same (o := .lst [.bl true, .bl false, .bl false, .bl true]) ho2
        have dpb : ∀ {HZ : Hp} {l : Addr}, HZ l = some (.lst [.bl true, .bl false, .bl false, .bl true]) → Dp K HZ (.ref l) (.list [.bool true, .bool false, .bool false, .bool true]) := fun e => .lst (SqL.of e) (.cons (.bl _) (.cons (.bl _) (.cons (.bl _) (.cons (.bl _) .nil))))
        refine ⟨_, _, dpb (s5 _ _ gD), dpb upd_same, by decide, by decide, ?_⟩
        have er : PyData.eqv (.list [.bool true, .bool false, .bool false, .bool true]) (.list [.bool true, .bool false, .bool false, .bool true]) = true := by decide
        rw [er]
        refine ⟨true, rfl, iteT ?_⟩
        refine ⟨(by show 4 ≤ sizeLine; decide), fun o3 ho3 => ⟨2, rfl, 1, rfl, (by show 4 ≤ sizeLine; decide), fun o4 ho4 => ?_⟩⟩
        refine ⟨o3, [1, 0, 1, 0], .ref o4, dI [1, -2, -1, 2], rfl, new_same ho4 _ _ upd_same, hR2, dq_ints (ns := [1, -2, -1, 2]) upd_same, abd_show (rp_ints (ns := [1, -2, -1, 2]) (by decide +kernel)).sh, fun HF sF => ?_⟩
        rw [x5]
        exact q _

end
/-! ### what the top has written, and the end -/
theorem all_mk {l : PySem.W.OpenLaw} {w : World} {K : PySem.W.Frag} {h : Heap} {mg : Str → Option Value} {fa : Addr} (X : K.In h) (G : h.Ns mainGlobals mg) (hfa : mg "law" = some (.ref fa))
    {f0 : Addr} {od0 an0 : Option Addr} {sl0 : Array (Option Value)} {oc0 kV0 dc0 pm0 cd0 ct0 : Value}
    (a0 : PySem.W.nsIn K mainGlobals "turned_list" = some (some (.ref f0))) (l0 : K.lookup f0 = some ⟨oc0, od0, .func (PySem.W.fnOf "turned_list" "turned_list" (defArgs s_turned_list) (defBody s_turned_list) (defScope s_turned_list) .none kV0 dc0 pm0 an0 cd0 ct0), sl0⟩) (c0 : PySem.W.codeIn K cd0 "turned_list" = true) (k0 : PySem.W.keepIn K (.ref f0) = true)
    {f1 : Addr} {od1 an1 : Option Addr} {sl1 : Array (Option Value)} {oc1 kV1 dc1 pm1 cd1 ct1 : Value}
    (a1 : PySem.W.nsIn K mainGlobals "light_between" = some (some (.ref f1))) (l1 : K.lookup f1 = some ⟨oc1, od1, .func (PySem.W.fnOf "light_between" "light_between" (defArgs s_light_between) (defBody s_light_between) (defScope s_light_between) .none kV1 dc1 pm1 an1 cd1 ct1), sl1⟩) (c1 : PySem.W.codeIn K cd1 "light_between" = true) (k1 : PySem.W.keepIn K (.ref f1) = true)
    {f2 : Addr} {od2 an2 : Option Addr} {sl2 : Array (Option Value)} {oc2 kV2 dc2 pm2 cd2 ct2 : Value}
    (a2 : PySem.W.nsIn K mainGlobals "lights_between" = some (some (.ref f2))) (l2 : K.lookup f2 = some ⟨oc2, od2, .func (PySem.W.fnOf "lights_between" "lights_between" (defArgs s_lights_between) (defBody s_lights_between) (defScope s_lights_between) .none kV2 dc2 pm2 an2 cd2 ct2), sl2⟩) (c2 : PySem.W.codeIn K cd2 "lights_between" = true) (k2 : PySem.W.keepIn K (.ref f2) = true)
    {f3 : Addr} {od3 an3 : Option Addr} {sl3 : Array (Option Value)} {oc3 kV3 dc3 pm3 cd3 ct3 : Value}
    (a3 : PySem.W.nsIn K mainGlobals "is_integer" = some (some (.ref f3))) (l3 : K.lookup f3 = some ⟨oc3, od3, .func (PySem.W.fnOf "is_integer" "is_integer" (defArgs s_is_integer) (defBody s_is_integer) (defScope s_is_integer) .none kV3 dc3 pm3 an3 cd3 ct3), sl3⟩) (c3 : PySem.W.codeIn K cd3 "is_integer" = true) (k3 : PySem.W.keepIn K (.ref f3) = true)
    {f4 : Addr} {od4 an4 : Option Addr} {sl4 : Array (Option Value)} {oc4 kV4 dc4 pm4 cd4 ct4 : Value}
    (a4 : PySem.W.nsIn K mainGlobals "has_slots" = some (some (.ref f4))) (l4 : K.lookup f4 = some ⟨oc4, od4, .func (PySem.W.fnOf "has_slots" "has_slots" (defArgs s_has_slots) (defBody s_has_slots) (defScope s_has_slots) .none kV4 dc4 pm4 an4 cd4 ct4), sl4⟩) (c4 : PySem.W.codeIn K cd4 "has_slots" = true) (k4 : PySem.W.keepIn K (.ref f4) = true)
    {f5 : Addr} {od5 an5 : Option Addr} {sl5 : Array (Option Value)} {oc5 kV5 dc5 pm5 cd5 ct5 : Value}
    (a5 : PySem.W.nsIn K mainGlobals "wrong_integer" = some (some (.ref f5))) (l5 : K.lookup f5 = some ⟨oc5, od5, .func (PySem.W.fnOf "wrong_integer" "wrong_integer" (defArgs s_wrong_integer) (defBody s_wrong_integer) (defScope s_wrong_integer) .none kV5 dc5 pm5 an5 cd5 ct5), sl5⟩) (c5 : PySem.W.codeIn K cd5 "wrong_integer" = true) (k5 : PySem.W.keepIn K (.ref f5) = true)
    {f6 : Addr} {od6 an6 : Option Addr} {sl6 : Array (Option Value)} {oc6 kV6 dc6 pm6 cd6 ct6 : Value}
    (a6 : PySem.W.nsIn K mainGlobals "wrong_light" = some (some (.ref f6))) (l6 : K.lookup f6 = some ⟨oc6, od6, .func (PySem.W.fnOf "wrong_light" "wrong_light" (defArgs s_wrong_light) (defBody s_wrong_light) (defScope s_wrong_light) .none kV6 dc6 pm6 an6 cd6 ct6), sl6⟩) (c6 : PySem.W.codeIn K cd6 "wrong_light" = true) (k6 : PySem.W.keepIn K (.ref f6) = true)
    {f7 : Addr} {od7 an7 : Option Addr} {sl7 : Array (Option Value)} {oc7 kV7 dc7 pm7 cd7 ct7 : Value}
    (a7 : PySem.W.nsIn K mainGlobals "wrong_slot" = some (some (.ref f7))) (l7 : K.lookup f7 = some ⟨oc7, od7, .func (PySem.W.fnOf "wrong_slot" "wrong_slot" (defArgs s_wrong_slot) (defBody s_wrong_slot) (defScope s_wrong_slot) .none kV7 dc7 pm7 an7 cd7 ct7), sl7⟩) (c7 : PySem.W.codeIn K cd7 "wrong_slot" = true) (k7 : PySem.W.keepIn K (.ref f7) = true)
    {f8 : Addr} {od8 an8 : Option Addr} {sl8 : Array (Option Value)} {oc8 kV8 dc8 pm8 cd8 ct8 : Value}
    (a8 : PySem.W.nsIn K mainGlobals "is_row" = some (some (.ref f8))) (l8 : K.lookup f8 = some ⟨oc8, od8, .func (PySem.W.fnOf "is_row" "is_row" (defArgs s_is_row) (defBody s_is_row) (defScope s_is_row) .none kV8 dc8 pm8 an8 cd8 ct8), sl8⟩) (c8 : PySem.W.codeIn K cd8 "is_row" = true) (k8 : PySem.W.keepIn K (.ref f8) = true)
    {f9 : Addr} {od9 an9 : Option Addr} {sl9 : Array (Option Value)} {oc9 kV9 dc9 pm9 cd9 ct9 : Value}
    (a9 : PySem.W.nsIn K mainGlobals "check_disc" = some (some (.ref f9))) (l9 : K.lookup f9 = some ⟨oc9, od9, .func (PySem.W.fnOf "check_disc" "check_disc" (defArgs s_check_disc) (defBody s_check_disc) (defScope s_check_disc) .none kV9 dc9 pm9 an9 cd9 ct9), sl9⟩) (c9 : PySem.W.codeIn K cd9 "check_disc" = true) (k9 : PySem.W.keepIn K (.ref f9) = true)
    {f10 : Addr} {od10 an10 : Option Addr} {sl10 : Array (Option Value)} {oc10 kV10 dc10 pm10 cd10 ct10 : Value}
    (a10 : PySem.W.nsIn K mainGlobals "divisor_polynomials" = some (some (.ref f10))) (l10 : K.lookup f10 = some ⟨oc10, od10, .func (PySem.W.fnOf "divisor_polynomials" "divisor_polynomials" (defArgs s_divisor_polynomials) (defBody s_divisor_polynomials) (defScope s_divisor_polynomials) .none kV10 dc10 pm10 an10 cd10 ct10), sl10⟩) (c10 : PySem.W.codeIn K cd10 "divisor_polynomials" = true) (k10 : PySem.W.keepIn K (.ref f10) = true)
    {f11 : Addr} {od11 an11 : Option Addr} {sl11 : Array (Option Value)} {oc11 kV11 dc11 pm11 cd11 ct11 : Value}
    (a11 : PySem.W.nsIn K mainGlobals "rest_by" = some (some (.ref f11))) (l11 : K.lookup f11 = some ⟨oc11, od11, .func (PySem.W.fnOf "rest_by" "rest_by" (defArgs s_rest_by) (defBody s_rest_by) (defScope s_rest_by) .none kV11 dc11 pm11 an11 cd11 ct11), sl11⟩) (c11 : PySem.W.codeIn K cd11 "rest_by" = true) (k11 : PySem.W.keepIn K (.ref f11) = true)
    {f12 : Addr} {od12 an12 : Option Addr} {sl12 : Array (Option Value)} {oc12 kV12 dc12 pm12 cd12 ct12 : Value}
    (a12 : PySem.W.nsIn K mainGlobals "_next_polynomial" = some (some (.ref f12))) (l12 : K.lookup f12 = some ⟨oc12, od12, .func (PySem.W.fnOf "_next_polynomial" "_next_polynomial" (defArgs s_next_polynomial) (defBody s_next_polynomial) (defScope s_next_polynomial) .none kV12 dc12 pm12 an12 cd12 ct12), sl12⟩) (c12 : PySem.W.codeIn K cd12 "_next_polynomial" = true) (k12 : PySem.W.keepIn K (.ref f12) = true)
    {f13 : Addr} {od13 an13 : Option Addr} {sl13 : Array (Option Value)} {oc13 kV13 dc13 pm13 cd13 ct13 : Value}
    (a13 : PySem.W.nsIn K mainGlobals "_divided" = some (some (.ref f13))) (l13 : K.lookup f13 = some ⟨oc13, od13, .func (PySem.W.fnOf "_divided" "_divided" (defArgs s_divided) (defBody s_divided) (defScope s_divided) .none kV13 dc13 pm13 an13 cd13 ct13), sl13⟩) (c13 : PySem.W.codeIn K cd13 "_divided" = true) (k13 : PySem.W.keepIn K (.ref f13) = true)
    {f14 : Addr} {od14 an14 : Option Addr} {sl14 : Array (Option Value)} {oc14 kV14 dc14 pm14 cd14 ct14 : Value}
    (a14 : PySem.W.nsIn K mainGlobals "blind_polynomials" = some (some (.ref f14))) (l14 : K.lookup f14 = some ⟨oc14, od14, .func (PySem.W.fnOf "blind_polynomials" "blind_polynomials" (defArgs s_blind_polynomials) (defBody s_blind_polynomials) (defScope s_blind_polynomials) .none kV14 dc14 pm14 an14 cd14 ct14), sl14⟩) (c14 : PySem.W.codeIn K cd14 "blind_polynomials" = true) (k14 : PySem.W.keepIn K (.ref f14) = true)
    {f15 : Addr} {od15 an15 : Option Addr} {sl15 : Array (Option Value)} {oc15 kV15 dc15 pm15 cd15 ct15 : Value}
    (a15 : PySem.W.nsIn K mainGlobals "is_telling" = some (some (.ref f15))) (l15 : K.lookup f15 = some ⟨oc15, od15, .func (PySem.W.fnOf "is_telling" "is_telling" (defArgs s_is_telling) (defBody s_is_telling) (defScope s_is_telling) .none kV15 dc15 pm15 an15 cd15 ct15), sl15⟩) (c15 : PySem.W.codeIn K cd15 "is_telling" = true) (k15 : PySem.W.keepIn K (.ref f15) = true)
    {f16 : Addr} {od16 an16 : Option Addr} {sl16 : Array (Option Value)} {oc16 kV16 dc16 pm16 cd16 ct16 : Value}
    (a16 : PySem.W.nsIn K mainGlobals "hidden_count" = some (some (.ref f16))) (l16 : K.lookup f16 = some ⟨oc16, od16, .func (PySem.W.fnOf "hidden_count" "hidden_count" (defArgs s_hidden_count) (defBody s_hidden_count) (defScope s_hidden_count) .none kV16 dc16 pm16 an16 cd16 ct16), sl16⟩) (c16 : PySem.W.codeIn K cd16 "hidden_count" = true) (k16 : PySem.W.keepIn K (.ref f16) = true)
    {f17 : Addr} {od17 an17 : Option Addr} {sl17 : Array (Option Value)} {oc17 kV17 dc17 pm17 cd17 ct17 : Value}
    (a17 : PySem.W.nsIn K mainGlobals "is_hidden" = some (some (.ref f17))) (l17 : K.lookup f17 = some ⟨oc17, od17, .func (PySem.W.fnOf "is_hidden" "is_hidden" (defArgs s_is_hidden) (defBody s_is_hidden) (defScope s_is_hidden) .none kV17 dc17 pm17 an17 cd17 ct17), sl17⟩) (c17 : PySem.W.codeIn K cd17 "is_hidden" = true) (k17 : PySem.W.keepIn K (.ref f17) = true)
    {f18 : Addr} {od18 an18 : Option Addr} {sl18 : Array (Option Value)} {oc18 kV18 dc18 pm18 cd18 ct18 : Value}
    (a18 : PySem.W.nsIn K mainGlobals "_law_jar" = some (some (.ref f18))) (l18 : K.lookup f18 = some ⟨oc18, od18, .func (PySem.W.fnOf "_law_jar" "_law_jar" (defArgs s_law_jar) (defBody s_law_jar) (defScope s_law_jar) .none kV18 dc18 pm18 an18 cd18 ct18), sl18⟩) (c18 : PySem.W.codeIn K cd18 "_law_jar" = true) (k18 : PySem.W.keepIn K (.ref f18) = true)
    {f19 : Addr} {od19 an19 : Option Addr} {sl19 : Array (Option Value)} {oc19 kV19 dc19 pm19 cd19 ct19 : Value}
    (a19 : PySem.W.nsIn K mainGlobals "_law_pick" = some (some (.ref f19))) (l19 : K.lookup f19 = some ⟨oc19, od19, .func (PySem.W.fnOf "_law_pick" "_law_pick" (defArgs s_law_pick) (defBody s_law_pick) (defScope s_law_pick) .none kV19 dc19 pm19 an19 cd19 ct19), sl19⟩) (c19 : PySem.W.codeIn K cd19 "_law_pick" = true) (k19 : PySem.W.keepIn K (.ref f19) = true)
    {f20 : Addr} {od20 an20 : Option Addr} {sl20 : Array (Option Value)} {oc20 kV20 dc20 pm20 cd20 ct20 : Value}
    (a20 : PySem.W.nsIn K mainGlobals "_law_spread" = some (some (.ref f20))) (l20 : K.lookup f20 = some ⟨oc20, od20, .func (PySem.W.fnOf "_law_spread" "_law_spread" (defArgs s_law_spread) (defBody s_law_spread) (defScope s_law_spread) .none kV20 dc20 pm20 an20 cd20 ct20), sl20⟩) (c20 : PySem.W.codeIn K cd20 "_law_spread" = true) (k20 : PySem.W.keepIn K (.ref f20) = true)
    {f21 : Addr} {od21 an21 : Option Addr} {sl21 : Array (Option Value)} {oc21 kV21 dc21 pm21 cd21 ct21 : Value}
    (a21 : PySem.W.nsIn K mainGlobals "_law_some_disc" = some (some (.ref f21))) (l21 : K.lookup f21 = some ⟨oc21, od21, .func (PySem.W.fnOf "_law_some_disc" "_law_some_disc" (defArgs s_law_some_disc) (defBody s_law_some_disc) (defScope s_law_some_disc) .none kV21 dc21 pm21 an21 cd21 ct21), sl21⟩) (c21 : PySem.W.codeIn K cd21 "_law_some_disc" = true) (k21 : PySem.W.keepIn K (.ref f21) = true)
    {f22 : Addr} {od22 an22 : Option Addr} {sl22 : Array (Option Value)} {oc22 kV22 dc22 pm22 cd22 ct22 : Value}
    (a22 : PySem.W.nsIn K mainGlobals "_law_lights" = some (some (.ref f22))) (l22 : K.lookup f22 = some ⟨oc22, od22, .func (PySem.W.fnOf "_law_lights" "_law_lights" (defArgs s_law_lights) (defBody s_law_lights) (defScope s_law_lights) .none kV22 dc22 pm22 an22 cd22 ct22), sl22⟩) (c22 : PySem.W.codeIn K cd22 "_law_lights" = true) (k22 : PySem.W.keepIn K (.ref f22) = true)
    {f23 : Addr} {od23 an23 : Option Addr} {sl23 : Array (Option Value)} {oc23 kV23 dc23 pm23 cd23 ct23 : Value}
    (a23 : PySem.W.nsIn K mainGlobals "_law_size" = some (some (.ref f23))) (l23 : K.lookup f23 = some ⟨oc23, od23, .func (PySem.W.fnOf "_law_size" "_law_size" (defArgs s_law_size) (defBody s_law_size) (defScope s_law_size) .none kV23 dc23 pm23 an23 cd23 ct23), sl23⟩) (c23 : PySem.W.codeIn K cd23 "_law_size" = true) (k23 : PySem.W.keepIn K (.ref f23) = true)
    {f24 : Addr} {od24 an24 : Option Addr} {sl24 : Array (Option Value)} {oc24 kV24 dc24 pm24 cd24 ct24 : Value}
    (a24 : PySem.W.nsIn K mainGlobals "_law_parted" = some (some (.ref f24))) (l24 : K.lookup f24 = some ⟨oc24, od24, .func (PySem.W.fnOf "_law_parted" "_law_parted" (defArgs s_law_parted) (defBody s_law_parted) (defScope s_law_parted) .none kV24 dc24 pm24 an24 cd24 ct24), sl24⟩) (c24 : PySem.W.codeIn K cd24 "_law_parted" = true) (k24 : PySem.W.keepIn K (.ref f24) = true)
    {f25 : Addr} {od25 an25 : Option Addr} {sl25 : Array (Option Value)} {oc25 kV25 dc25 pm25 cd25 ct25 : Value}
    (a25 : PySem.W.nsIn K mainGlobals "_law_root" = some (some (.ref f25))) (l25 : K.lookup f25 = some ⟨oc25, od25, .func (PySem.W.fnOf "_law_root" "_law_root" (defArgs s_law_root) (defBody s_law_root) (defScope s_law_root) .none kV25 dc25 pm25 an25 cd25 ct25), sl25⟩) (c25 : PySem.W.codeIn K cd25 "_law_root" = true) (k25 : PySem.W.keepIn K (.ref f25) = true)
    {f26 : Addr} {od26 an26 : Option Addr} {sl26 : Array (Option Value)} {oc26 kV26 dc26 pm26 cd26 ct26 : Value}
    (a26 : PySem.W.nsIn K mainGlobals "_law_blind" = some (some (.ref f26))) (l26 : K.lookup f26 = some ⟨oc26, od26, .func (PySem.W.fnOf "_law_blind" "_law_blind" (defArgs s_law_blind) (defBody s_law_blind) (defScope s_law_blind) .none kV26 dc26 pm26 an26 cd26 ct26), sl26⟩) (c26 : PySem.W.codeIn K cd26 "_law_blind" = true) (k26 : PySem.W.keepIn K (.ref f26) = true)
    {f27 : Addr} {od27 an27 : Option Addr} {sl27 : Array (Option Value)} {oc27 kV27 dc27 pm27 cd27 ct27 : Value}
    (a27 : PySem.W.nsIn K mainGlobals "_law_hiding" = some (some (.ref f27))) (l27 : K.lookup f27 = some ⟨oc27, od27, .func (PySem.W.fnOf "_law_hiding" "_law_hiding" (defArgs s_law_hiding) (defBody s_law_hiding) (defScope s_law_hiding) .none kV27 dc27 pm27 an27 cd27 ct27), sl27⟩) (c27 : PySem.W.codeIn K cd27 "_law_hiding" = true) (k27 : PySem.W.keepIn K (.ref f27) = true)
    {f28 : Addr} {od28 an28 : Option Addr} {sl28 : Array (Option Value)} {oc28 kV28 dc28 pm28 cd28 ct28 : Value}
    (a28 : PySem.W.nsIn K mainGlobals "_law_is_int" = some (some (.ref f28))) (l28 : K.lookup f28 = some ⟨oc28, od28, .func (PySem.W.fnOf "_law_is_int" "_law_is_int" (defArgs s_law_is_int) (defBody s_law_is_int) (defScope s_law_is_int) .none kV28 dc28 pm28 an28 cd28 ct28), sl28⟩) (c28 : PySem.W.codeIn K cd28 "_law_is_int" = true) (k28 : PySem.W.keepIn K (.ref f28) = true)
    {f29 : Addr} {od29 an29 : Option Addr} {sl29 : Array (Option Value)} {oc29 kV29 dc29 pm29 cd29 ct29 : Value}
    (a29 : PySem.W.nsIn K mainGlobals "_law_things" = some (some (.ref f29))) (l29 : K.lookup f29 = some ⟨oc29, od29, .func (PySem.W.fnOf "_law_things" "_law_things" (defArgs s_law_things) (defBody s_law_things) (defScope s_law_things) .none kV29 dc29 pm29 an29 cd29 ct29), sl29⟩) (c29 : PySem.W.codeIn K cd29 "_law_things" = true) (k29 : PySem.W.keepIn K (.ref f29) = true)
    {f30 : Addr} {od30 an30 : Option Addr} {sl30 : Array (Option Value)} {oc30 kV30 dc30 pm30 cd30 ct30 : Value}
    (a30 : PySem.W.nsIn K mainGlobals "_law_due" = some (some (.ref f30))) (l30 : K.lookup f30 = some ⟨oc30, od30, .func (PySem.W.fnOf "_law_due" "_law_due" (defArgs s_law_due) (defBody s_law_due) (defScope s_law_due) .none kV30 dc30 pm30 an30 cd30 ct30), sl30⟩) (c30 : PySem.W.codeIn K cd30 "_law_due" = true) (k30 : PySem.W.keepIn K (.ref f30) = true)
    {f31 : Addr} {od31 an31 : Option Addr} {sl31 : Array (Option Value)} {oc31 kV31 dc31 pm31 cd31 ct31 : Value}
    (a31 : PySem.W.nsIn K mainGlobals "_law_right" = some (some (.ref f31))) (l31 : K.lookup f31 = some ⟨oc31, od31, .func (PySem.W.fnOf "_law_right" "_law_right" (defArgs s_law_right) (defBody s_law_right) (defScope s_law_right) .none kV31 dc31 pm31 an31 cd31 ct31), sl31⟩) (c31 : PySem.W.codeIn K cd31 "_law_right" = true) (k31 : PySem.W.keepIn K (.ref f31) = true)
    {f32 : Addr} {od32 an32 : Option Addr} {sl32 : Array (Option Value)} {oc32 kV32 dc32 pm32 cd32 ct32 : Value}
    (a32 : PySem.W.nsIn K mainGlobals "law" = some (some (.ref f32))) (l32 : K.lookup f32 = some ⟨oc32, od32, .func (PySem.W.fnOf "law" "law" (defArgs s_law) (defBody s_law) (defScope s_law) .none kV32 dc32 pm32 an32 cd32 ct32), sl32⟩) (c32 : PySem.W.codeIn K cd32 "law" = true) (k32 : PySem.W.keepIn K (.ref f32) = true)
    {t_MOST_SLOTS : Tok} (m_MOST_SLOTS : PySem.W.nsIn K mainGlobals "MOST_SLOTS" = some (some (.int (40) t_MOST_SLOTS)))
    {t_MOST_LIGHT : Tok} (m_MOST_LIGHT : PySem.W.nsIn K mainGlobals "MOST_LIGHT" = some (some (.int (1000000000000000000000000000000) t_MOST_LIGHT)))
    (z_abs : PySem.W.nsIn K mainGlobals "abs" = some none)
    (z_any : PySem.W.nsIn K mainGlobals "any" = some none)
    (z_bool : PySem.W.nsIn K mainGlobals "bool" = some none)
    (z_enumerate : PySem.W.nsIn K mainGlobals "enumerate" = some none)
    (z_int : PySem.W.nsIn K mainGlobals "int" = some none)
    (z_isinstance : PySem.W.nsIn K mainGlobals "isinstance" = some none)
    (z_len : PySem.W.nsIn K mainGlobals "len" = some none)
    (z_list : PySem.W.nsIn K mainGlobals "list" = some none)
    (z_max : PySem.W.nsIn K mainGlobals "max" = some none)
    (z_min : PySem.W.nsIn K mainGlobals "min" = some none)
    (z_range : PySem.W.nsIn K mainGlobals "range" = some none)
    (z_repr : PySem.W.nsIn K mainGlobals "repr" = some none)
    (z_sum : PySem.W.nsIn K mainGlobals "sum" = some none)
    (z_tuple : PySem.W.nsIn K mainGlobals "tuple" = some none)
    (z_zip : PySem.W.nsIn K mainGlobals "zip" = some none)
    : ∃ fd : FuncData, (∀ (s : Shared) (u : Value), BindsTo s fd ⟨[u], []⟩ [("script", u)]) ∧ ∀ base : Heap, K.In base → base.Ns mainGlobals mg → FnG l.prog w K mg base CX0 12 fa fd ["script"] (spLaw K) := by
  have e := hfa.symm.trans (PySem.W.mg_of X G a32)
  cases e
  have F0 := fun_mk (st := s_turned_list) l0 c0 k0
  have b0 := F0.binds (ps := ["items", "turn"]) fun _ _ _ _ _ _ us hl => match us, hl with | [_, _], _ => rfl
  have F1 := fun_mk (st := s_light_between) l1 c1 k1
  have b1 := F1.binds (ps := ["disc", "row", "turn"]) fun _ _ _ _ _ _ us hl => match us, hl with | [_, _, _], _ => rfl
  have F2 := fun_mk (st := s_lights_between) l2 c2 k2
  have b2 := F2.binds (ps := ["disc", "row"]) fun _ _ _ _ _ _ us hl => match us, hl with | [_, _], _ => rfl
  have F3 := fun_mk (st := s_is_integer) l3 c3 k3
  have b3 := F3.binds (ps := ["value"]) fun _ _ _ _ _ _ us hl => match us, hl with | [_], _ => rfl
  have F4 := fun_mk (st := s_has_slots) l4 c4 k4
  have b4 := F4.binds (ps := ["value"]) fun _ _ _ _ _ _ us hl => match us, hl with | [_], _ => rfl
  have F5 := fun_mk (st := s_wrong_integer) l5 c5 k5
  have b5 := F5.binds (ps := ["items"]) fun _ _ _ _ _ _ us hl => match us, hl with | [_], _ => rfl
  have F6 := fun_mk (st := s_wrong_light) l6 c6 k6
  have b6 := F6.binds (ps := ["items", "most"]) fun _ _ _ _ _ _ us hl => match us, hl with | [_, _], _ => rfl
  have F7 := fun_mk (st := s_wrong_slot) l7 c7 k7
  have b7 := F7.binds (ps := ["items"]) fun _ _ _ _ _ _ us hl => match us, hl with | [_], _ => rfl
  have F8 := fun_mk (st := s_is_row) l8 c8 k8
  have b8 := F8.binds (ps := ["value", "slots"]) fun _ _ _ _ _ _ us hl => match us, hl with | [_, _], _ => rfl
  have F9 := fun_mk (st := s_check_disc) l9 c9 k9
  have b9 := F9.binds (ps := ["disc"]) fun _ _ _ _ _ _ us hl => match us, hl with | [_], _ => rfl
  have F10 := fun_mk (st := s_divisor_polynomials) l10 c10 k10
  have b10 := F10.binds (ps := ["number"]) fun _ _ _ _ _ _ us hl => match us, hl with | [_], _ => rfl
  have F11 := fun_mk (st := s_rest_by) l11 c11 k11
  have b11 := F11.binds (ps := ["polynomial", "divisor"]) fun _ _ _ _ _ _ us hl => match us, hl with | [_, _], _ => rfl
  have F12 := fun_mk (st := s_next_polynomial) l12 c12 k12
  have b12 := F12.binds (ps := ["divisor", "smaller"]) fun _ _ _ _ _ _ us hl => match us, hl with | [_, _], _ => rfl
  have F13 := fun_mk (st := s_divided) l13 c13 k13
  have b13 := F13.binds (ps := ["polynomial", "divisor"]) fun _ _ _ _ _ _ us hl => match us, hl with | [_, _], _ => rfl
  have F14 := fun_mk (st := s_blind_polynomials) l14 c14 k14
  have b14 := F14.binds (ps := ["disc"]) fun _ _ _ _ _ _ us hl => match us, hl with | [_], _ => rfl
  have F15 := fun_mk (st := s_is_telling) l15 c15 k15
  have b15 := F15.binds (ps := ["disc"]) fun _ _ _ _ _ _ us hl => match us, hl with | [_], _ => rfl
  have F16 := fun_mk (st := s_hidden_count) l16 c16 k16
  have b16 := F16.binds (ps := ["disc"]) fun _ _ _ _ _ _ us hl => match us, hl with | [_], _ => rfl
  have F17 := fun_mk (st := s_is_hidden) l17 c17 k17
  have b17 := F17.binds (ps := ["disc", "value"]) fun _ _ _ _ _ _ us hl => match us, hl with | [_, _], _ => rfl
  have F18 := fun_mk (st := s_law_jar) l18 c18 k18
  have b18 := F18.binds (ps := ["script", "at"]) fun _ _ _ _ _ _ us hl => match us, hl with | [_, _], _ => rfl
  have F19 := fun_mk (st := s_law_pick) l19 c19 k19
  have b19 := F19.binds (ps := ["jar", "bound"]) fun _ _ _ _ _ _ us hl => match us, hl with | [_, _], _ => rfl
  have F20 := fun_mk (st := s_law_spread) l20 c20 k20
  have b20 := F20.binds (ps := ["some", "step", "many"]) fun _ _ _ _ _ _ us hl => match us, hl with | [_, _, _], _ => rfl
  have F21 := fun_mk (st := s_law_some_disc) l21 c21 k21
  have b21 := F21.binds (ps := ["jar", "size"]) fun _ _ _ _ _ _ us hl => match us, hl with | [_, _], _ => rfl
  have F22 := fun_mk (st := s_law_lights) l22 c22 k22
  have b22 := F22.binds (ps := ["disc_here", "other_here"]) fun _ _ _ _ _ _ us hl => match us, hl with | [_, _], _ => rfl
  have F23 := fun_mk (st := s_law_size) l23 c23 k23
  have b23 := F23.binds (ps := ["jar", "most"]) fun _ _ _ _ _ _ us hl => match us, hl with | [_, _], _ => rfl
  have F24 := fun_mk (st := s_law_parted) l24 c24 k24
  have b24 := F24.binds (ps := ["top", "low"]) fun _ _ _ _ _ _ us hl => match us, hl with | [_, _], _ => rfl
  have F25 := fun_mk (st := s_law_root) l25 c25 k25
  have b25 := F25.binds (ps := ["part"]) fun _ _ _ _ _ _ us hl => match us, hl with | [_], _ => rfl
  have F26 := fun_mk (st := s_law_blind) l26 c26 k26
  have b26 := F26.binds (ps := ["disc_here"]) fun _ _ _ _ _ _ us hl => match us, hl with | [_], _ => rfl
  have F27 := fun_mk (st := s_law_hiding) l27 c27 k27
  have b27 := F27.binds (ps := ["disc_here"]) fun _ _ _ _ _ _ us hl => match us, hl with | [_], _ => rfl
  have F28 := fun_mk (st := s_law_is_int) l28 c28 k28
  have b28 := F28.binds (ps := ["thing"]) fun _ _ _ _ _ _ us hl => match us, hl with | [_], _ => rfl
  have F29 := fun_mk (st := s_law_things) l29 c29 k29
  have b29 := F29.binds (ps := ["jar", "disc_here", "hiding"]) fun _ _ _ _ _ _ us hl => match us, hl with | [_, _, _], _ => rfl
  have F30 := fun_mk (st := s_law_due) l30 c30 k30
  have b30 := F30.binds (ps := ["disc_here", "thing"]) fun _ _ _ _ _ _ us hl => match us, hl with | [_, _], _ => rfl
  have F31 := fun_mk (st := s_law_right) l31 c31 k31
  have b31 := F31.binds (ps := ["jar", "disc_here"]) fun _ _ _ _ _ _ us hl => match us, hl with | [_, _], _ => rfl
  have F32 := fun_mk (st := s_law) l32 c32 k32
  exact ⟨_, fun s v => .of_eq rfl, fun base _ _ => ok_law ⟨f0, _, F0, b0, PySem.W.mg_of X G a0, f1, _, F1, b1, PySem.W.mg_of X G a1, f2, _, F2, b2, PySem.W.mg_of X G a2, f3, _, F3, b3, PySem.W.mg_of X G a3, f4, _, F4, b4, PySem.W.mg_of X G a4, f5, _, F5, b5, PySem.W.mg_of X G a5, f6, _, F6, b6, PySem.W.mg_of X G a6, f7, _, F7, b7, PySem.W.mg_of X G a7, f8, _, F8, b8, PySem.W.mg_of X G a8, f9, _, F9, b9, PySem.W.mg_of X G a9, f10, _, F10, b10, PySem.W.mg_of X G a10, f11, _, F11, b11, PySem.W.mg_of X G a11, f12, _, F12, b12, PySem.W.mg_of X G a12, f13, _, F13, b13, PySem.W.mg_of X G a13, f14, _, F14, b14, PySem.W.mg_of X G a14, f15, _, F15, b15, PySem.W.mg_of X G a15, f16, _, F16, b16, PySem.W.mg_of X G a16, f17, _, F17, b17, PySem.W.mg_of X G a17, f18, _, F18, b18, PySem.W.mg_of X G a18, f19, _, F19, b19, PySem.W.mg_of X G a19, f20, _, F20, b20, PySem.W.mg_of X G a20, f21, _, F21, b21, PySem.W.mg_of X G a21, f22, _, F22, b22, PySem.W.mg_of X G a22, f23, _, F23, b23, PySem.W.mg_of X G a23, f24, _, F24, b24, PySem.W.mg_of X G a24, f25, _, F25, b25, PySem.W.mg_of X G a25, f26, _, F26, b26, PySem.W.mg_of X G a26, f27, _, F27, b27, PySem.W.mg_of X G a27, f28, _, F28, b28, PySem.W.mg_of X G a28, f29, _, F29, b29, PySem.W.mg_of X G a29, f30, _, F30, b30, PySem.W.mg_of X G a30, f31, _, F31, b31, PySem.W.mg_of X G a31, fa, _, F32, PySem.W.mg_of X G a32, t_MOST_SLOTS, PySem.W.mg_of X G m_MOST_SLOTS, t_MOST_LIGHT, PySem.W.mg_of X G m_MOST_LIGHT, PySem.W.mg_none_of X G z_abs, PySem.W.mg_none_of X G z_any, PySem.W.mg_none_of X G z_bool, PySem.W.mg_none_of X G z_enumerate, PySem.W.mg_none_of X G z_int, PySem.W.mg_none_of X G z_isinstance, PySem.W.mg_none_of X G z_len, PySem.W.mg_none_of X G z_list, PySem.W.mg_none_of X G z_max, PySem.W.mg_none_of X G z_min, PySem.W.mg_none_of X G z_range, PySem.W.mg_none_of X G z_repr, PySem.W.mg_none_of X G z_sum, PySem.W.mg_none_of X G z_tuple, PySem.W.mg_none_of X G z_zip⟩⟩
end Sd
open PySem PySem.W PyProof.Rows
set_option maxRecDepth 100000 in
set_option maxHeartbeats 0 in
theorem PySem.Challenge.cw_slitdiscs_k09_hidden_rows_judged_holds : PySem.Challenge.rw_slitdiscs_k09_hidden_rows_judged.Holds := by
  w_on; o_law; k_head; (case hw => w_witness2)
  k_fill
  refine Sd.gwalk (l := PySem.Challenge.rw_slitdiscs_k09_hidden_rows_judged) (n := 63) (k := 12) (x := "script") (sp := Sd.spLaw) rfl (by decide) rfl ⟨rfl, by decide, by decide⟩ (fun w h Y => PySem.W.kIn_of Y) ?F (fun _ _ a ns hl hS => ⟨a, ns, rfl, hS, hl, fun _ => rfl⟩)
  case F =>
    intro w mg fa h KX G hmg
    refine' Sd.all_mk KX G hmg ?a0 ?l0 ?c0 ?k0 ?a1 ?l1 ?c1 ?k1 ?a2 ?l2 ?c2 ?k2 ?a3 ?l3 ?c3 ?k3 ?a4 ?l4 ?c4 ?k4 ?a5 ?l5 ?c5 ?k5 ?a6 ?l6 ?c6 ?k6 ?a7 ?l7 ?c7 ?k7 ?a8 ?l8 ?c8 ?k8 ?a9 ?l9 ?c9 ?k9 ?a10 ?l10 ?c10 ?k10 ?a11 ?l11 ?c11 ?k11 ?a12 ?l12 ?c12 ?k12 ?a13 ?l13 ?c13 ?k13 ?a14 ?l14 ?c14 ?k14 ?a15 ?l15 ?c15 ?k15 ?a16 ?l16 ?c16 ?k16 ?a17 ?l17 ?c17 ?k17 ?a18 ?l18 ?c18 ?k18 ?a19 ?l19 ?c19 ?k19 ?a20 ?l20 ?c20 ?k20 ?a21 ?l21 ?c21 ?k21 ?a22 ?l22 ?c22 ?k22 ?a23 ?l23 ?c23 ?k23 ?a24 ?l24 ?c24 ?k24 ?a25 ?l25 ?c25 ?k25 ?a26 ?l26 ?c26 ?k26 ?a27 ?l27 ?c27 ?k27 ?a28 ?l28 ?c28 ?k28 ?a29 ?l29 ?c29 ?k29 ?a30 ?l30 ?c30 ?k30 ?a31 ?l31 ?c31 ?k31 ?a32 ?l32 ?c32 ?k32 ?m_MOST_SLOTS ?m_MOST_LIGHT ?z_abs ?z_any ?z_bool ?z_enumerate ?z_int ?z_isinstance ?z_len ?z_list ?z_max ?z_min ?z_range ?z_repr ?z_sum ?z_tuple ?z_zip
    (case a0 => k_is)
    (case l0 => k_is)
    (case c0 => k_is)
    (case k0 => k_is)
    (case a1 => k_is)
    (case l1 => k_is)
    (case c1 => k_is)
    (case k1 => k_is)
    (case a2 => k_is)
    (case l2 => k_is)
    (case c2 => k_is)
    (case k2 => k_is)
    (case a3 => k_is)
    (case l3 => k_is)
    (case c3 => k_is)
    (case k3 => k_is)
    (case a4 => k_is)
    (case l4 => k_is)
    (case c4 => k_is)
    (case k4 => k_is)
    (case a5 => k_is)
    (case l5 => k_is)
    (case c5 => k_is)
    (case k5 => k_is)
    (case a6 => k_is)
    (case l6 => k_is)
    (case c6 => k_is)
    (case k6 => k_is)
    (case a7 => k_is)
    (case l7 => k_is)
    (case c7 => k_is)
    (case k7 => k_is)
    (case a8 => k_is)
    (case l8 => k_is)
    (case c8 => k_is)
    (case k8 => k_is)
    (case a9 => k_is)
    (case l9 => k_is)
    (case c9 => k_is)
    (case k9 => k_is)
    (case a10 => k_is)
    (case l10 => k_is)
    (case c10 => k_is)
    (case k10 => k_is)
    (case a11 => k_is)
    (case l11 => k_is)
    (case c11 => k_is)
    (case k11 => k_is)
    (case a12 => k_is)
    (case l12 => k_is)
    (case c12 => k_is)
    (case k12 => k_is)
    (case a13 => k_is)
    (case l13 => k_is)
    (case c13 => k_is)
    (case k13 => k_is)
    (case a14 => k_is)
    (case l14 => k_is)
    (case c14 => k_is)
    (case k14 => k_is)
    (case a15 => k_is)
    (case l15 => k_is)
    (case c15 => k_is)
    (case k15 => k_is)
    (case a16 => k_is)
    (case l16 => k_is)
    (case c16 => k_is)
    (case k16 => k_is)
    (case a17 => k_is)
    (case l17 => k_is)
    (case c17 => k_is)
    (case k17 => k_is)
    (case a18 => k_is)
    (case l18 => k_is)
    (case c18 => k_is)
    (case k18 => k_is)
    (case a19 => k_is)
    (case l19 => k_is)
    (case c19 => k_is)
    (case k19 => k_is)
    (case a20 => k_is)
    (case l20 => k_is)
    (case c20 => k_is)
    (case k20 => k_is)
    (case a21 => k_is)
    (case l21 => k_is)
    (case c21 => k_is)
    (case k21 => k_is)
    (case a22 => k_is)
    (case l22 => k_is)
    (case c22 => k_is)
    (case k22 => k_is)
    (case a23 => k_is)
    (case l23 => k_is)
    (case c23 => k_is)
    (case k23 => k_is)
    (case a24 => k_is)
    (case l24 => k_is)
    (case c24 => k_is)
    (case k24 => k_is)
    (case a25 => k_is)
    (case l25 => k_is)
    (case c25 => k_is)
    (case k25 => k_is)
    (case a26 => k_is)
    (case l26 => k_is)
    (case c26 => k_is)
    (case k26 => k_is)
    (case a27 => k_is)
    (case l27 => k_is)
    (case c27 => k_is)
    (case k27 => k_is)
    (case a28 => k_is)
    (case l28 => k_is)
    (case c28 => k_is)
    (case k28 => k_is)
    (case a29 => k_is)
    (case l29 => k_is)
    (case c29 => k_is)
    (case k29 => k_is)
    (case a30 => k_is)
    (case l30 => k_is)
    (case c30 => k_is)
    (case k30 => k_is)
    (case a31 => k_is)
    (case l31 => k_is)
    (case c31 => k_is)
    (case k31 => k_is)
    (case a32 => k_is)
    (case l32 => k_is)
    (case c32 => k_is)
    (case k32 => k_is)
    (case m_MOST_SLOTS => k_is)
    (case m_MOST_LIGHT => k_is)
    (case z_abs => k_is)
    (case z_any => k_is)
    (case z_bool => k_is)
    (case z_enumerate => k_is)
    (case z_int => k_is)
    (case z_isinstance => k_is)
    (case z_len => k_is)
    (case z_list => k_is)
    (case z_max => k_is)
    (case z_min => k_is)
    (case z_range => k_is)
    (case z_repr => k_is)
    (case z_sum => k_is)
    (case z_tuple => k_is)
    (case z_zip => k_is)
