import PyProof.Rows.All
import Wide.All
import OpenK.AllK
import Wide.FinOn
import HandS.Comp
import HandS.Ends
import HandS.Iter
import HandS.Words
import HandS.WordsList
import HandS.Walk
import HandS.IsInst
import HandS.Wide
import PyProof.ReprRoads
import PyProof.ReprLen
import KE.DataMinMax
import HandS.Deep
import HandS.Walk
import HandS.DictComp
import HandS.Iter
import HandS.WordsDict
import HandS.More
import HandS.Style
import HandS.Conv
import HandS.Gcd
import HandS.Flow
import PySem.Challenge.RW_slitdiscs_k39_rings_tick_by_tick
set_option Elab.async false
set_option linter.all false
set_option maxRecDepth 100000
set_option maxHeartbeats 4000000
/-! Own layer over HandS: defs that run where no repr is under way (FnG), repr of data, powers of great ints, calls by keywords alone. -/
namespace Sd
open PySem PySem.Spec PyProof.Rows L2

/-! ### a def called where no repr is under way -/
structure FnG (P : Program) (w : World) (K : PySem.W.Frag) (mg : Str → Option Value) (base : Heap) (C : CXT) (k : Nat) (f : Addr) (fd : FuncData) (ps : List Str) (sp : Sp) : Prop where
  cnt : ∀ {vs H Q E}, sp vs H Q E → vs.length = ps.length
  go : ∀ (A : Around) (out : List Env) (s : Shared) (H : Hp) (ar : Args) (us : List Value) (vs : List V) (Q : VK) (E : XK), A.guards = some [] → Room k A →
    Env0 P w K mg base A out s H → BindsTo s fd ar (ps.zip us) → Vals vs us → sp vs H Q E →
    codeAny (model P w) A (.call (.ref f) ar) (CR C out P w H s Q E) s

section
variable {P : Program} {w : World} {K : PySem.W.Frag} {mg : Str → Option Value} {base : Heap} {C : CXT}
theorem gfn_of {k : Nat} {f : Addr} {nm ql : Str} {pms : Arguments} {bd : List Stmt} {sc : Scope} {v1 v2 v3 v4 cd v5 oc : Value} {an od : Option Addr}
    {osl : Array (Option Value)} {N ps : List Str} {sp : Sp}
    (lk : K.lookup f = some ⟨oc, od, .func (PySem.W.fnOf nm ql pms bd sc v1 v2 v3 v4 an cd v5), osl⟩)
    (hc : PySem.W.codeIn K cd ql = true) (S : FnScope N ps sc)
    (len : ∀ vs H Q E, sp vs H Q E → vs.length = ps.length)
    (hb : ∀ (A : Around) (out : List Env) (s : Shared) (H : Hp) (vs : List V) (Q : VK) (E : XK), A.guards = some [] →
      Room k (A.deeper (envOfC ql sc s.heap.objs.size f cd)) → sp vs H Q E →
      ∃ t, PSs (cxOf C P w K mg base N ql sc f cd A out s H E) bd t ∧ t { nx := fun _ H' => Q .non H', rt := Q } (start N vs) H) :
    FnG P w K mg base C (k + 1) f (PySem.W.fnOf nm ql pms bd sc v1 v2 v3 v4 an cd v5) ps sp := by
  refine ⟨fun h => len _ _ _ _ h, fun A out s H ar us vs Q E hg hr e0 hbd r hsp => ?_⟩
  have n1 := len _ _ _ _ hsp
  have kx : K.In s.heap := e0.mod.kin.keeps fun b o e => (e0.bs b o e).1
  have li : s.heap.NoLimit := e0.mod.nolimit.keeps fun b o e => (e0.bs b o e).1
  refine codeAny_call_function hr.depth (kx _ _ lk) rfl S.co S.gen rfl (PySem.W.codeRec_of kx hc) (hbd _ _ _ _ ?_)
  refine wpAny_newFunctionEnv_cells S.kind (fun ⟨n, v⟩ hy => ?_) fun env he s1 x => ?_
  · rcases S.par n (List.of_mem_zip hy).1 with q | q
    · exact .inl q
    · exact .inr ⟨q, PySem.W.cellsFrom_some _ _ _ (.inl q)⟩
  subst he
  refine ⟨li.keeps x.toInCall.keep, codeAny_func ?_⟩
  obtain ⟨t, ht, hq⟩ := hb A out s H vs Q E hg (hr.deeper _) hsp
  have I0 := inv_start (CX := C) (E := E) S hr.hd e0 n1 r x
  refine wpAny_mono (ht.run [] s1 (start N vs) H _ I0 hq) (fun fl s' hs => ?_) fun e s' hs => hs
  cases fl with
  | next =>
    obtain ⟨σ', H', J, q⟩ := hs
    exact ⟨.non, H', J.os, J.bare, J.base, J.hok, rfl, q⟩
  | ret u =>
    obtain ⟨v, σ', H', J, rv, q⟩ := hs
    exact ⟨v, H', J.os, J.bare, J.base, J.hok, rv, q⟩
  | brk => exact hs.elim fun _ ⟨_, _, q⟩ => False.elim q
  | cont => exact hs.elim fun _ ⟨_, _, q⟩ => False.elim q

/-- as Fun.ok, where no repr is under way -/
theorem okG {x ql : Str} {st : Stmt} {f : Addr} {fd : FuncData} {N ps : List Str} {k : Nat} {sp : Sp} (F : Fun K x ql st f fd) (S : FnScope N ps (defScope st))
    (len : ∀ vs H Q E, sp vs H Q E → vs.length = ps.length)
    (hb : ∀ (cd : Value) (A : Around) (out : List Env) (s : Shared) (H : Hp) (vs : List V) (Q : VK) (E : XK), A.guards = some [] →
      Room k (A.deeper (envOfC ql (defScope st) s.heap.objs.size f cd)) → sp vs H Q E →
      ∃ t, PSs (cxOf CX0 P w K mg base N ql (defScope st) f cd A out s H E).nox (defBody st) t ∧ t { nx := fun _ H' => Q .non H', rt := Q } (start N vs) H) :
    FnG P w K mg base CX0 (k + 1) f fd ps sp := by
  obtain ⟨oc, od, v2, v3, v4, an, cd, v5, osl, rfl, lk, hc⟩ := F.ex
  refine gfn_of lk hc S len fun A out s H vs Q E hg hr hsp => ?_
  obtain ⟨t, h, q⟩ := hb cd A out s H vs Q E hg hr hsp
  exact ⟨t, h.nox, q⟩
end

section
variable {X : Cx} {C : CXT} {k : Nat} {f : Addr} {fd : FuncData} {ps ks : List Str} {sp : Sp} {dvs : List V} {ds : List Value} {E : XK} {x : Str} {p pos : Pos} {e : Expr} {es : List Expr} {kws : List Keyword} {t tk : TA}
theorem endG {pins : List (Addr × Obj)} {σ : L2.St} {H : Hp} {s s' : Shared} {Q : VK} {r : Result} (hx : Passes C X E) (I : Inv X pins σ H s) (h : CR C X.stack X.prog X.w H s Q E r s') :
    (match r with | .ok (.ret u) => EP X pins σ Q u s' | .ok _ => False | .error e => X.xe e s') := by
  cases r with
  | error e => exact hx pins σ H s e s' I h
  | ok fl =>
    cases fl with
    | ret u => exact I.after h
    | next => exact h
    | brk => exact h
    | cont => exact h
theorem goG {pins : List (Addr × Obj)} {σ : L2.St} {H : Hp} {s : Shared} {Q : VK} {us : List Value} {vs : List V} (F : FnG X.prog X.w X.K X.mg X.base C k f fd ps sp) (hA : X.A.guards = some []) (hr : Room k X.A)
    (hb : Binds X.K fd ps ds) (hd : Vals dvs ds) (hx : Passes C X E) (I : Inv X pins σ H s) (r : Vals vs us) (h : sp (vs ++ dvs) H Q E) :
    wpAny (model X.prog X.w) X.A (call (.ref f) us) (EP X pins σ Q) X.xe s := by
  have r2 := r.append hd
  have n2 : (us ++ ds).length = ps.length := r2.length.symm.trans (F.cnt h)
  refine wpAny_call (codeAny_mono (F.go X.A X.stack s H ⟨us, []⟩ _ _ Q E hA hr I.env0 (hb s us I.kIn n2) r2 h) fun r s' hq => ?_)
  have z := endG hx I hq
  cases r with
  | error e => exact z
  | ok fl => cases fl <;> exact z
/-- f(e, ..) where no repr is under way -/
theorem pe_callG (F : FnG X.prog X.w X.K X.mg X.base C k f fd ps sp) (hA : X.A.guards = some []) (hr : Room k X.A) (hg : Gl X x) (hm : X.mg x = some (.ref f)) (hk : PySem.W.keepIn X.K (.ref f) = true)
    (hb : Binds X.K fd ps ds) (hd : Vals dvs ds) (hx : Passes C X E) (ha : PA X (e :: es) t) (hdb : (x == ("__debug__" : Str)) = false := by decide)
    (he : starEach (e :: es) X.env = (false, eval e X.env) :: starEach es X.env := by rfl) (hpl : (backTo pos (starEach es X.env)).any (·.1) = false := by rfl) :
    PE X (.Call (.Name x p) (e :: es) [] pos) (tCall sp dvs E t) := by
  refine ⟨fun pins s σ H Q I h => wpAny_Call_Name_kw (ld_glob I hg hm ?_ hdb)⟩
  refine PySem.W.callWith_K (h₀ := X.base) I.ok.mod.kin hk (thn (ha.run pos pins s σ H _ I h) fun us s1 z => ?_) he hpl
  obtain ⟨vs, H1, I1, r, q⟩ := z
  exact ⟨I1.kIn, goG F hA hr hb hd hx I1 r q⟩
/-- f(k = v, ..): keywords alone -/
def tCallW (sp : Sp) (gV : List V → List V) (E : XK) (tk : TA) : TE := fun σ H Q => tk σ H fun zs H2 => sp (gV zs) H2 Q E
variable {g : List Value → List Value → List Value} {gV : List V → List V → List V}
theorem pe_callW (F : FnOk X.prog X.w X.K X.mg X.base C k f fd ps sp) (hr : Room k X.A) (hg : Gl X x) (hm : X.mg x = some (.ref f)) (hk : PySem.W.keepIn X.K (.ref f) = true) (hb : KBinds X.K fd ps ks g gV) (hx : Passes C X E)
    (hkw : PK X kws tk) (hall : (backToKw pos (keywordEach kws X.env)).all (·.1.isSome) = true := by rfl) (hks : (backToKw pos (keywordEach kws X.env)).filterMap (·.1) = ks := by rfl)
    (hdb : (x == ("__debug__" : Str)) = false := by decide)
    (hpl : ((backTo pos (starEach [] X.env)).any (·.1) || (backToKw pos (keywordEach kws X.env)).any (·.1.isNone)) = false := by rfl) :
    PE X (.Call (.Name x p) [] kws pos) (tCallW sp (gV []) E tk) := by
  refine ⟨fun pins s σ H Q I h => wpAny_Call_Name_kw (ld_glob I hg hm ?_ hdb)⟩
  refine PySem.W.callWith_KW0 (h₀ := X.base) I.ok.mod.kin hk hall (thn (hkw.run pos pins s σ H _ I h) fun ws s2 z => ?_) hpl
  obtain ⟨zs, H2, I2, rz, q2⟩ := z
  refine ⟨I2.kIn, ?_⟩
  rw [hks]
  exact run_fnk F hr hb hx I2 .nil rz q2
end

/-! ### the law's call -/
theorem glaw {P : Program} {w : World} {K : PySem.W.Frag} {mg mb : Str → Option Value} {k : Nat} {fa a : Addr} {fd : FuncData} {x : Str} {sp : Sp} {s1 : Shared} {vs : List Value} {ns : List Int}
    (kx : K.In s1.heap) (hn : s1.heap.Ns mainGlobals mg) (hb : s1.heap.Ns builtinsNs mb) (hbb : ∀ x : Str, x ≠ "__name__" → mb x = bootBuiltins x) (hlim : s1.heap.NoLimit) (hgs : s1.gens = #[])
    (ha : s1.heap.get? a = some { cls := .type "list", data := .seq vs.toArray }) (hi : IntsAre vs ns) (hl : ns.length ≤ sizeLine) (hr : Room k callerA)
    (F : ∀ base : Heap, K.In base → base.Ns mainGlobals mg → FnG P w K mg base CX0 k fa fd [x] sp) (hbind : ∀ (s : Shared) (u : Value), BindsTo s fd ⟨[u], []⟩ [(x, u)])
    (hsp : ∀ H : Hp, SqL K H a (ns.map V.int) → sp [.ref a] H (fun v _ => v = .bl true) E0) :
    codeAny (model P w) callerA (.call (.ref fa) ⟨[.ref a], []⟩) (fun r s' => r = .ok (.ret (.bool true)) ∧ OldK s1.heap s'.heap ∧ s'.os = s1.os ∧ AllBare s'.gens) s1 := by
  have rv := vals_ints hi
  have nv := hi.length
  -- the abstract heap: the script, locked, unless the module itself holds it
  have main : ∀ H : Hp, (∀ b, H b = none ∨ (b = a ∧ H b = some (.frz { cls := .type "list", data := .seq vs.toArray } (.lst (ns.map V.int))))) → (H a ≠ none → K.lookup a = none) →
      SqL K H a (ns.map V.int) → HOk P w H s1.heap →
      codeAny (model P w) callerA (.call (.ref fa) ⟨[.ref a], []⟩) (fun r s' => r = .ok (.ret (.bool true)) ∧ OldK s1.heap s'.heap ∧ s'.os = s1.os ∧ AllBare s'.gens) s1 := by
    intro H hO hK hS hok
    have out : ∀ {b : Addr} {o : Obj}, s1.heap.get? b = some o → (b = a → H b = none) → (hidT s1.heap H).get? b = some o := fun {b o} e n => hidT_get e (by
      rcases hO b with z | ⟨z, _⟩
      · exact z
      · exact n z)
    have dct : ∀ {b : Addr} {m : Str → Option Value}, s1.heap.Ns b m → (hidT s1.heap H).Ns b m := fun {b m} ⟨o, es, ep, e, d, r⟩ => ⟨o, es, ep, out e (fun z => by
      subst z
      rw [ha] at e
      cases e
      cases (show Data.seq vs.toArray _ = Data.dict es ep from d)), d, r⟩
    have kb : K.In (hidT s1.heap H) := fun b o e => out (kx b o e) fun z => by
      subst z
      cases q : H b with
      | none => rfl
      | some u =>
        rw [hK (by rw [q]; exact fun z => nomatch z)] at e
        cases e
    have md : Mod K mg (hidT s1.heap H) := ⟨kb, dct hn, ⟨mb, dct hb, hbb⟩, let ⟨mc, h1, h2⟩ := hlim; ⟨mc, dct h1, h2⟩⟩
    have en : Env0 P w K mg (hidT s1.heap H) callerA [] s1 H := ⟨rfl, md, fun b o e => of_hidT e, Nat.le_of_eq (hidT_size _ _), trivial, fun b z => (List.not_mem_nil z).elim, hok, .of_eq hgs⟩
    refine codeAny_mono ((F _ kb (dct hn)).go callerA [] s1 H ⟨[.ref a], []⟩ [.ref a] [.ref a] _ _ rfl hr en (hbind s1 (.ref a)) (.cons rfl .nil) (hsp H hS)) fun r s' h => ?_
    cases r with
    | error e => exact False.elim h
    | ok fl =>
      cases fl with
      | next => exact False.elim h
      | brk => exact False.elim h
      | cont => exact False.elim h
      | ret u =>
        obtain ⟨v, H', os, br, un, ok', r', q⟩ := h
        cases (show v = .bl true from q)
        cases (show u = Value.bool true from r')
        refine ⟨rfl, OldK.of_keep fun b o e => ?_, os, br⟩
        rcases hO b with z | ⟨_, z⟩
        · exact un.keep b o e z (fun z => (List.not_mem_nil z).elim) (fun z => (List.not_mem_nil z).elim)
        · have e1 := (hok b _ z).1
          have e2 := (ok' b _ (un.frzs b _ _ z)).1
          rw [e] at e1
          cases e1
          exact e2
  cases hk : K.lookup a with
  | some o =>
    have e := kx a o hk
    rw [ha] at e
    cases e
    refine main (fun _ => none) (fun _ => .inl rfl) (fun z => absurd rfl z) (.inr ⟨_, vs.toArray, _, hk, rfl, rfl, rfl, ?_, ?_⟩) fun b u z => nomatch (show (none : Option HO) = some u from z)
    · rw [List.size_toArray, nv]
      exact hl
    · simpa using rv
  | none =>
    refine main (fun b => if b = a then some (.frz { cls := .type "list", data := .seq vs.toArray } (.lst (ns.map V.int))) else none) (fun b => ?_) (fun _ => hk) (.inl (.inr ⟨{ cls := .type "list", data := .seq vs.toArray }, if_pos rfl⟩)) (fun b u z => ?_)
    · by_cases q : b = a
      · exact .inr ⟨q, if_pos q⟩
      · exact .inl (if_neg q)
    · by_cases q : b = a
      · have z2 := (if_pos q).symm.trans z
        cases z2
        subst q
        exact ⟨ha, by rw [List.length_map]; exact hl, vs, _, rv, ha⟩
      · have z2 := (if_neg q).symm.trans z
        cases z2
theorem gwalk {l : PySem.W.OpenLaw} {n k : Nat} {q : Program} {lo : List Str} {XP : (Str → Option Value) → Heap → Prop} {YP : World → Heap → Prop} {d : DefRec} {K : Params → PySem.W.Frag} {sp : PySem.W.Frag → Sp} {x : Str}
    (hn : l.most = some n) (hn2 : n ≤ sizeLine) (hdf : d.params.defaults = []) (hr : Room k callerA) (hY : ∀ (w : World) (h : Heap), YP w h → (K w.params).In h)
    (F : ∀ (w : World) (mg : Str → Option Value) (fa : Addr) (h : Heap), (K w.params).In h → h.Ns mainGlobals mg → mg d.name = some (.ref fa) →
      ∃ fd : FuncData, (∀ (s : Shared) (u : Value), BindsTo s fd ⟨[u], []⟩ [(x, u)]) ∧
        ∀ base : Heap, (K w.params).In base → base.Ns mainGlobals mg → FnG l.prog w (K w.params) mg base CX0 k fa fd [x] (sp (K w.params)))
    (hsp : ∀ (K : PySem.W.Frag) (H : Hp) (a : Addr) (ns : List Int), ns.length ≤ n → SqL K H a (ns.map V.int) → sp K [.ref a] H (fun v _ => v = .bl true) E0) :
    PySem.W.WalkO q lo XP YP l.row.toRowW d [] (fun f vs => PySem.call f vs) := by
  refine Att.attach_call hn hdf fun w s₀ s₁ mg mb fa o pm cd doc a vs ns G Y ho hd hcd hmg hobj hints hlen hg => ?_
  have kx := hY w _ Y
  obtain ⟨fd, hb, hF⟩ := F w mg fa _ kx G.T.g hmg
  exact glaw kx G.T.g G.T.b G.T.builtins G.T.nolimit hg hobj hints (Nat.le_trans hlen hn2) hr hF hb fun H hS => hsp (K w.params) H a ns hlen hS

/-! ### repr of data -/
def rRepr (K : PySem.W.Frag) : List V → Hp → VK → Prop := fun xs H Q => ∃ (a : Addr) (d : PyData), xs = [.ref a] ∧ Dp K H (.ref a) d ∧ d.showable = true ∧ d.hasDict = false ∧ d.depth ≤ 32 ∧ d.shown.length ≤ sizeLine ∧ Q (.str d.shown) H
theorem call_repr {X : Cx} (hA : X.A.guards = some []) {k : Nat} (hr : Room k X.A) : CallR X (.builtin "repr") (rRepr X.K) := by
  intro pins s σ H xs us Q I r h
  obtain ⟨a, d, rfl, hd, h1, h2, h3, h4, q⟩ := h
  cases r with
  | cons r1 r2 =>
    cases r2
    cases r1
    obtain ⟨as, rd⟩ := Dp.reads I d _ _ hd rfl
    have hu := hr.units
    refine repr_of_reads' rd h1 (fun z => by rw [h2] at z; cases z) hA (by omega) (fun _ _ e => e) (fun h' u tk kp => ?_) h4
    exact ⟨.str d.shown, H, I.kept (t' := tk) kp, ⟨u, rfl⟩, q⟩

/-- repr of any data -/
def rReprV (K : PySem.W.Frag) : List V → Hp → VK → Prop := fun xs H Q => ∃ (x : V) (d : PyData), xs = [x] ∧ Dp K H x d ∧ d.showable = true ∧ d.hasDict = false ∧ d.depth ≤ 32 ∧ d.shown.length ≤ sizeLine ∧ Q (.str d.shown) H
theorem reprV {X : Cx} {K : PySem.W.Frag} (hK : X.K = K) (hA : X.A.guards = some []) {k : Nat} (hr : Room k X.A) : CallR X (.builtin "repr") (rReprV K) := by
  subst hK
  intro pins s σ H xs us Q I r h
  obtain ⟨x, d, rfl, hd, h1, h2, h3, h4, q⟩ := h
  have ref : ∀ a : Addr, x = .ref a → wpAny (model X.prog X.w) X.A (call (.builtin "repr") us) (EP X pins σ Q) X.xe s := fun a e => by
    subst e
    exact call_repr hA hr pins s σ H _ us Q I r ⟨a, d, rfl, hd, h1, h2, h3, h4, q⟩
  cases hd with
  | lst _ _ => exact ref _ rfl
  | tup _ _ => exact ref _ rfl
  | non =>
    cases r with
    | cons r1 r2 =>
      cases r2
      cases r1
      exact PySem.P.repr_of_none ⟨.str (PyData.shown .none), H, I.tok _, ⟨_, rfl⟩, q⟩
  | bl b =>
    cases r with
    | cons r1 r2 =>
      cases r2
      cases r1
      cases b with
      | true => exact PySem.P.repr_of_bool ⟨.str (PyData.shown (.bool true)), H, I.tok _, ⟨_, rfl⟩, q⟩
      | false => exact PySem.P.repr_of_bool ⟨.str (PyData.shown (.bool false)), H, I.tok _, ⟨_, rfl⟩, q⟩
  | int i =>
    cases r with
    | cons r1 r2 =>
      cases r2
      obtain ⟨t, rfl⟩ := r1
      have z : i.natAbs.log2 < 1920 := by
        simp only [PyData.showable] at h1
        exact of_decide_eq_true h1
      exact PySem.P.repr_of_int z ⟨.str (PyData.shown (.int i)), H, I.tok _, ⟨_, rfl⟩, q⟩
  | str y =>
    cases r with
    | cons r1 r2 =>
      cases r2
      obtain ⟨t, rfl⟩ := r1
      exact PySem.P.repr_of_str ⟨.str (PyData.shown (.str y)), H, I.tok _, ⟨_, rfl⟩, q⟩ h4

/-! ### a statement, then the rest by a word between them -/
def tMid (t u : TS) : TS := fun D σ H => ∃ M : L2.St → Hp → Prop, t { D with nx := M } σ H ∧ ∀ σ' H', M σ' H' → u D σ' H'
theorem pss_mid {X : Cx} {st : Stmt} {rs : List Stmt} {t u : TS} (h1 : PS X st t) (h2 : PSs X rs u) : PSs X (st :: rs) (tMid t u) :=
  ⟨fun pins s σ H D I ⟨M, hm, hu⟩ => wpAny_execs_cons (thn (h1.run pins s σ H { D with nx := M } I hm) fun f s1 q => by
    cases f with
    | next => exact q.elim fun σ' ⟨H', I', z⟩ => h2.run pins s1 σ' H' D I' (hu σ' H' z)
    | ret v => exact q
    | brk => exact q
    | cont => exact q)⟩

/-! ### rules with the written part named (for blocks of comprehensions) -/
theorem ixL {X : Cx} {K : PySem.W.Frag} (h : X.K = K) : IxR X (rIxL K) := h ▸ ix_list
theorem slL {X : Cx} {K : PySem.W.Frag} (h : X.K = K) : SlR X (rSlL K) := h ▸ sl_list
def rLenL (K : PySem.W.Frag) : List V → Hp → VK → Prop := fun xs H Q => ∃ (p : Addr) (ys : List V), xs = [.ref p] ∧ (SqL K H p ys ∨ SqT K H p ys) ∧ Q (.int ys.length) H
theorem lenL {X : Cx} {K : PySem.W.Frag} (h : X.K = K) : CallR X (.builtin "len") (rLenL K) := h ▸ call_len_seq
theorem sumL {X : Cx} {K : PySem.W.Frag} (h : X.K = K) (hc : X.calm = true) : CallR X (.builtin "sum") (rSum K) := h ▸ cr_sum hc
theorem maxL {X : Cx} {K : PySem.W.Frag} (h : X.K = K) (hc : X.calm = true) : CallR X (.builtin "max") (rMax K) := h ▸ cr_max hc
theorem minL {X : Cx} {K : PySem.W.Frag} (h : X.K = K) (hc : X.calm = true) : CallR X (.builtin "min") (rMin K) := h ▸ cr_min hc
theorem isiL {X : Cx} {K : PySem.W.Frag} (h : X.K = K) : CallR X (.builtin "isinstance") (rIsi K) := h ▸ call_isi
theorem reprL {X : Cx} {K : PySem.W.Frag} (h : X.K = K) (hA : X.A.guards = some []) {k : Nat} (hr : Room k X.A) : CallR X (.builtin "repr") (rRepr K) := h ▸ call_repr hA hr
theorem pg_tupL {X : Cx} {K : PySem.W.Frag} {es : List Expr} {j : Nat} {pos : Pos} {t : TGs} {n : Nat} (h : X.K = K) (hc : X.calm = true) (hs : PGs X es t)
    (hn : (assignEach es X.env).length = n := by rfl) (hst : (assignEach es X.env).findIdx? (·.1) = none := by rfl) : PG X (.Tuple es j pos) (gTup K n t) := h ▸ pg_tup hc hs hn hst
theorem enumL {X : Cx} {K : PySem.W.Frag} {elts : List Expr} {kk : Nat} {tpos p pos : Pos} {e : Expr} {ta : TA} (h : X.K = K) (hg : Gl X "enumerate") (hm : X.mg "enumerate" = none) (ha : PA X [e] ta)
    (hs : starEach [e] X.env = [(false, eval e X.env)] := by rfl) : PI X (.Tuple elts kk tpos) (.Call (.Name "enumerate" p) [e] [] pos) (iEnum K ta) := h ▸ pi_enum hg hm ha hs
theorem zipL {X : Cx} {K : PySem.W.Frag} {elts : List Expr} {kk : Nat} {tpos p pos : Pos} {e e2 : Expr} {ta : TA} (h : X.K = K) (hg : Gl X "zip") (hm : X.mg "zip" = none) (ha : PA X [e, e2] ta)
    (hs : starEach [e, e2] X.env = (false, eval e X.env) :: starEach [e2] X.env := by rfl) (hpl : (backTo pos (starEach [e2] X.env)).any (·.1) = false := by rfl) :
    PI X (.Tuple elts kk tpos) (.Call (.Name "zip" p) [e, e2] [] pos) (iZip K ta) := h ▸ pi_zip hg hm ha hs hpl
theorem pi_tupL {X : Cx} {K : PySem.W.Frag} {tg l : Expr} {tl : TE} (h : X.K = K) (hl : PE X l tl) : PI X tg l (iTup K tl) := h ▸ pi_tup hl
theorem pi_listL {X : Cx} {K : PySem.W.Frag} {tg l : Expr} {tl : TE} (h : X.K = K) (hl : PE X l tl) : PI X tg l (iList K tl) := h ▸ pi_list hl
def rListL (K : PySem.W.Frag) : List V → Hp → VK → Prop := fun xs H Q => ∃ (p : Addr) (ys : List V), xs = [.ref p] ∧ (SqL K H p ys ∨ SqT K H p ys) ∧ ∀ l, H l = none → Q (.ref l) (upd H l (.lst ys))
theorem listL {X : Cx} {K : PySem.W.Frag} (h : X.K = K) : CallR X (.type "list") (rListL K) := h ▸ call_list_of
theorem eqD {X : Cx} {K : PySem.W.Frag} (h : X.K = K) {k : Nat} (hr : Room k X.A) : OpR X (compareOp .Eq) (rEqD K) := h ▸ op_eqD hr.units
theorem neD {X : Cx} {K : PySem.W.Frag} (h : X.K = K) {k : Nat} (hr : Room k X.A) : OpR X (compareOp .NotEq) (rNeD K) := h ▸ op_neD hr.units

/-! ### a power of a great int, the exponent small -/
def CPow3 (i j : Int) : Prop := j = 3 ∧ 0 ≤ i ∧ i.natAbs < 2 ^ 200
theorem op_pow3 {X : Cx} : OpR X (binaryOp .Pow) (rI CPow3 fun i j => .int (i ^ j.toNat)) := opI fun i j t u s Q E hc q => by
  obtain ⟨rfl, h0, h1⟩ := hc
  by_cases e : (i == 0 || i == 1) = true
  · refine PySem.AutoIntOps.pow_1 (by decide) (by decide) e ?_
    have e2 : i ^ (3 : Int).toNat = i := by
      rcases (Bool.or_eq_true _ _).mp e with z | z
      · rw [eq_of_beq z]; rfl
      · rw [eq_of_beq z]; rfl
    rw [e2] at q
    exact q
  · refine PySem.AutoIntOps.pow_4 (by decide) (by decide) e ?_ ?_ q
    · intro z
      have := eq_of_beq z
      omega
    · intro z
      unfold Builtin.Int.intTooBig at z
      have z3 := of_decide_eq_true z
      have b : Builtin.Int.intBits i ≤ 201 := by
        unfold Builtin.Int.intBits
        have y := PySem.Flt.log2_lt_of (show 0 < 200 by decide) h1
        split <;> omega
      have e : bitsLine = 134217728 := by decide
      rw [e] at z3
      omega
end Sd

namespace Sd
open PySem PySem.Spec PyProof.Rows L2

/-! ### heaps -/
/-- all but T is as it was -/
def But (T : Addr) (H H' : Hp) : Prop := ∀ b o, H b = some o → b ≠ T → H' b = some o
theorem But.refl (T : Addr) (H : Hp) : But T H H := fun _ _ h _ => h
theorem But.trans {T : Addr} {H H1 H2 : Hp} (a : But T H H1) (b : But T H1 H2) : But T H H2 := fun c o h n => b c o (a c o h n) n
theorem But.of {T : Addr} {H H' : Hp} (s : Same H H') : But T H H' := fun b o h _ => s b o h
theorem But.lst {T : Addr} {H H' : Hp} {a : Addr} {o : HO} (s : But T H H') (h : H a = some o) (n : a ≠ T) : H' a = some o := s a o h n
theorem new_same {H : Hp} {p : Addr} {o : HO} (h : H p = none) : Same H (upd H p o) := fun b x e => by
  rw [upd_ne (ne_of_none e h)]
  exact e
theorem upd_but {H : Hp} {T : Addr} {o : HO} : But T H (upd H T o) := fun b x e n => by
  rw [upd_ne n]
  exact e
theorem free_but {T : Addr} {H H' : Hp} {p : Addr} {o : HO} (s : But T H H') (hT : H T = some o) (h : H' p = none) (hT' : H' T ≠ none) : H p = none := by
  cases q : H p with
  | none => rfl
  | some u =>
    by_cases e : p = T
    · subst e
      exact absurd h hT'
    · rw [s p u q e] at h
      cases h
/-- the law's tank -/
def Tank (H : Hp) (T : Addr) (c : Int) : Prop := ∃ x y z : Int, H T = some (.lst [.int x, .int y, .int z]) ∧ 0 ≤ x ∧ 0 ≤ y ∧ y < 2 ^ 100 ∧ 0 ≤ z ∧ z ≤ c
theorem Tank.some {H : Hp} {T : Addr} {c : Int} (h : Tank H T c) : ∃ o, H T = some o := let ⟨_, _, _, e, _⟩ := h; ⟨_, e⟩
theorem Tank.same {H H' : Hp} {T : Addr} {c : Int} (h : Tank H T c) (s : Same H H') : Tank H' T c := let ⟨x, y, z, e, r⟩ := h; ⟨x, y, z, s _ _ e, r⟩
theorem Tank.ne {H : Hp} {T p : Addr} {c : Int} (h : Tank H T c) (n : H p = none) : p ≠ T := fun e => by
  obtain ⟨o, q⟩ := h.some
  rw [e, q] at n
  cases n
theorem Tank.up {H : Hp} {T p : Addr} {c : Int} {o : HO} (h : Tank H T c) (n : H p = none) : Tank (upd H p o) T c := h.same (new_same n)
theorem Tank.mono {H : Hp} {T : Addr} {c d : Int} (h : Tank H T c) (l : c ≤ d) : Tank H T d := let ⟨x, y, z, e, a, b, r, f, g⟩ := h; ⟨x, y, z, e, a, b, r, f, by omega⟩

/-! ### lists of ints -/
theorem tyx_list {K : PySem.W.Frag} {H : Hp} {a : Addr} {xs : List V} (h : SqL K H a xs) : TyX K H (.ref a) (.type "list") := by
  rcases h with (h | ⟨o, h⟩) | ⟨o, its, n, hk, hc, _⟩
  · exact .base (.lst h)
  · exact .base (.frz h)
  · exact .kList hk hc
theorem kit_int_int {K : PySem.W.Frag} : PySem.W.kitOne K (.type "int") (.type "int") = some true := kit_ty (by decide +kernel)
theorem kit_int_bool {K : PySem.W.Frag} : PySem.W.kitOne K (.type "int") (.type "bool") = some false := kit_ty (by decide +kernel)
theorem kit_list_list {K : PySem.W.Frag} : PySem.W.kitOne K (.type "list") (.type "list") = some true := kit_ty (by decide +kernel)
/-- a rim: from 1 to 40 numbers from 0 to 10 ** 30 -/
structure Rim (ns : List Int) : Prop where
  pos : 1 ≤ ns.length
  le : ns.length ≤ 40
  all : ∀ n ∈ ns, 0 ≤ n ∧ n ≤ 1000000000000000000000000000000
theorem sz40 {n : Nat} (h : n ≤ 100000) : n < sizeLine := Nat.lt_of_le_of_lt h (by decide)
theorem sz40' {n : Nat} (h : n ≤ 100000) : n ≤ sizeLine := Nat.le_of_lt (sz40 h)
theorem int_at {ns : List Int} {i : Nat} {x : V} (h : (ns.map V.int)[i]? = some x) : ∃ n, ns[i]? = some n ∧ x = .int n := by
  rw [List.getElem?_map] at h
  cases e : ns[i]? with
  | none =>
    rw [e] at h
    cases h
  | some n =>
    rw [e] at h
    exact ⟨n, rfl, (Option.some.inj h).symm⟩
theorem at_int {ns : List Int} {i : Nat} {n : Int} (h : ns[i]? = some n) : (ns.map V.int)[i]? = some (.int n) := by
  rw [List.getElem?_map, h]
  rfl
/-- xs[i] at an int that lies within -/
theorem at_in {ns : List Int} {i : Int} (h0 : 0 ≤ i) (h1 : i < ns.length) : ∃ n, ns[i.toNat]? = some n ∧ atI (ns.map V.int) i = some (.int n) := by
  have h2 : i.toNat < ns.length := by omega
  obtain ⟨j, rfl⟩ : ∃ j : Nat, i = (j : Int) := ⟨i.toNat, by omega⟩
  have h3 : j < ns.length := by omega
  exact ⟨ns[j], List.getElem?_eq_getElem h3, atI_nat (at_int (List.getElem?_eq_getElem h3))⟩
theorem ixN_in {n : Nat} {i : Int} (h0 : 0 ≤ i) (h1 : i < n) : ixN n i = some i.toNat := by
  unfold ixN
  rw [if_pos h0, if_pos h1]

/-! ### turning, mirroring -/
/-- what stands at slot j behind a turn by t -/
def rot (ns : List Int) (t : Int) : List Int := (List.range ns.length).map fun (j : Nat) => ns.getD ((((j : Int) - t) % (ns.length : Int)).toNat) 0
def mir (ns : List Int) : List Int := (List.range ns.length).map fun (j : Nat) => ns.getD (((-(j : Int)) % (ns.length : Int)).toNat) 0
theorem rot_len (ns : List Int) (t : Int) : (rot ns t).length = ns.length := by
  unfold rot
  rw [List.length_map, List.length_range]
theorem mir_len (ns : List Int) : (mir ns).length = ns.length := by
  unfold mir
  rw [List.length_map, List.length_range]
theorem rot_at {ns : List Int} {t : Int} {j : Nat} (h : j < ns.length) : (rot ns t)[j]? = some (ns.getD ((((j : Int) - t) % (ns.length : Int)).toNat) 0) := by
  unfold rot
  rw [List.getElem?_map, List.getElem?_range h]
  rfl
theorem mir_at {ns : List Int} {j : Nat} (h : j < ns.length) : (mir ns)[j]? = some (ns.getD (((-(j : Int)) % (ns.length : Int)).toNat) 0) := by
  unfold mir
  rw [List.getElem?_map, List.getElem?_range h]
  rfl
theorem mod_in {i : Int} {n : Nat} (h : 0 < n) : 0 ≤ i % (n : Int) ∧ i % (n : Int) < n := ⟨Int.emod_nonneg _ (by omega), Int.emod_lt_of_pos _ (by omega)⟩
theorem getD_at {ns : List Int} {j : Nat} {n : Int} (h : ns[j]? = some n) : ns.getD j 0 = n := by
  rw [List.getD_eq_getElem?_getD, h]
  rfl
theorem at_getD {ns : List Int} {j : Nat} (h : j < ns.length) : ns[j]? = some (ns.getD j 0) := by
  rw [List.getD_eq_getElem?_getD, List.getElem?_eq_getElem h]
  rfl
theorem rot_all {ns : List Int} {t : Int} {P : Int → Prop} (h : ∀ n ∈ ns, P n) : ∀ n ∈ rot ns t, P n := fun n hn => by
  unfold rot at hn
  obtain ⟨j, hj, rfl⟩ := List.mem_map.mp hn
  have hj := List.mem_range.mp hj
  have hm := mod_in (i := (j : Int) - t) (show 0 < ns.length by omega)
  exact h _ (List.mem_of_getElem? (at_getD (show (((j : Int) - t) % (ns.length : Int)).toNat < ns.length by omega)))
theorem mir_all {ns : List Int} {P : Int → Prop} (h : ∀ n ∈ ns, P n) : ∀ n ∈ mir ns, P n := fun n hn => by
  unfold mir at hn
  obtain ⟨j, hj, rfl⟩ := List.mem_map.mp hn
  have hj := List.mem_range.mp hj
  have hm := mod_in (i := -(j : Int)) (show 0 < ns.length by omega)
  exact h _ (List.mem_of_getElem? (at_getD (show ((-(j : Int)) % (ns.length : Int)).toNat < ns.length by omega)))
theorem Rim.rot {ns : List Int} (h : Rim ns) (t : Int) : Rim (rot ns t) := ⟨by rw [rot_len]; exact h.pos, by rw [rot_len]; exact h.le, rot_all h.all⟩
theorem Rim.mir {ns : List Int} (h : Rim ns) : Rim (mir ns) := ⟨by rw [mir_len]; exact h.pos, by rw [mir_len]; exact h.le, mir_all h.all⟩
/-- filling slot by slot: found[(i + t) % n] = ns[i] for i below k leaves rot where it was filled -/
theorem rot_back {ns : List Int} {t : Int} {i : Nat} (hi : i < ns.length) : (rot ns t)[((((i : Int) + t) % (ns.length : Int)).toNat)]? = ns[i]? := by
  have hm := mod_in (i := (i : Int) + t) (show 0 < ns.length by omega)
  rw [rot_at (by omega), at_getD hi]
  have e : ((((((i : Int) + t) % (ns.length : Int)).toNat : Nat) : Int) - t) % (ns.length : Int) = (i : Int) := by
    rw [Int.toNat_of_nonneg hm.1, Int.emod_sub_emod]
    rw [show (i : Int) + t - t = (i : Int) by omega]
    exact Int.emod_eq_of_lt (by omega) (by omega)
  rw [e, Int.toNat_natCast]
theorem mir_back {ns : List Int} {i : Nat} (hi : i < ns.length) : (mir ns)[((((0 : Int) - (i : Int)) % (ns.length : Int)).toNat)]? = ns[i]? := by
  have hm := mod_in (i := (0 : Int) - (i : Int)) (show 0 < ns.length by omega)
  rw [mir_at (by omega), at_getD hi]
  have e : (-((((((0 : Int) - (i : Int)) % (ns.length : Int)).toNat : Nat) : Int))) % (ns.length : Int) = (i : Int) := by
    rw [Int.toNat_of_nonneg hm.1]
    rw [show -(((0 : Int) - (i : Int)) % (ns.length : Int)) = 0 - ((0 : Int) - (i : Int)) % (ns.length : Int) by omega, Int.sub_emod_emod]
    rw [show (0 : Int) - (0 - (i : Int)) = (i : Int) by omega]
    exact Int.emod_eq_of_lt (by omega) (by omega)
  rw [e, Int.toNat_natCast]
/-- filled at the places f 0, f 1 .. f (k - 1) as res is -/
def Filled (f : Nat → Nat) (res ms : List Int) (k : Nat) : Prop := ms.length = res.length ∧ ∀ p, (∃ j, j < k ∧ f j = p) → ms[p]? = res[p]?
theorem Filled.step {f : Nat → Nat} {res ms : List Int} {k : Nat} {v : Int} (h : Filled f res ms k) (e : res[f k]? = some v) : Filled f res (ms.set (f k) v) (k + 1) := by
  refine ⟨by rw [List.length_set]; exact h.1, fun p ⟨j, hj, hp⟩ => ?_⟩
  have hk : f k < ms.length := by
    rw [h.1]
    exact (List.getElem?_eq_some_iff.mp e).1
  by_cases q : f k = p
  · subst q
    rw [List.getElem?_set_self hk, e]
  · rw [List.getElem?_set_ne q]
    refine h.2 p ⟨j, ?_, hp⟩
    rcases Nat.lt_or_ge j k with z | z
    · exact z
    · have : j = k := by omega
      subst this
      exact absurd hp q
theorem Filled.done {f : Nat → Nat} {res ms : List Int} {n : Nat} (h : Filled f res ms n) (on : ∀ p, p < res.length → ∃ j, j < n ∧ f j = p) : ms = res := by
  refine List.ext_getElem? fun p => ?_
  by_cases q : p < res.length
  · exact h.2 p (on p q)
  · rw [List.getElem?_eq_none (by rw [h.1]; omega), List.getElem?_eq_none (by omega)]
theorem rot_on {ns : List Int} {t : Int} {p : Nat} (hp : p < ns.length) : ∃ j, j < ns.length ∧ (((j : Int) + t) % (ns.length : Int)).toNat = p := by
  have hm := mod_in (i := (p : Int) - t) (show 0 < ns.length by omega)
  refine ⟨(((p : Int) - t) % (ns.length : Int)).toNat, by omega, ?_⟩
  have e : ((((((p : Int) - t) % (ns.length : Int)).toNat : Nat) : Int) + t) % (ns.length : Int) = (p : Int) := by
    rw [Int.toNat_of_nonneg hm.1, Int.emod_add_emod]
    rw [show (p : Int) - t + t = (p : Int) by omega]
    exact Int.emod_eq_of_lt (by omega) (by omega)
  rw [e, Int.toNat_natCast]
theorem mir_on {ns : List Int} {p : Nat} (hp : p < ns.length) : ∃ j, j < ns.length ∧ (((0 : Int) - (j : Int)) % (ns.length : Int)).toNat = p := by
  have hm := mod_in (i := (0 : Int) - (p : Int)) (show 0 < ns.length by omega)
  refine ⟨(((0 : Int) - (p : Int)) % (ns.length : Int)).toNat, by omega, ?_⟩
  have e : ((0 : Int) - (((((0 : Int) - (p : Int)) % (ns.length : Int)).toNat : Nat) : Int)) % (ns.length : Int) = (p : Int) := by
    rw [Int.toNat_of_nonneg hm.1, Int.sub_emod_emod]
    rw [show (0 : Int) - (0 - (p : Int)) = (p : Int) by omega]
    exact Int.emod_eq_of_lt (by omega) (by omega)
  rw [e, Int.toNat_natCast]
theorem map_set {ns : List Int} {j : Nat} {v : Int} : (ns.map V.int).set j (.int v) = (ns.set j v).map V.int := by
  rw [List.map_set]
theorem take_next {l : List Int} {i : Nat} {v : Int} (h : l[i]? = some v) : (l.take i).map V.int ++ [.int v] = (l.take (i + 1)).map V.int := by
  rw [List.take_add_one, h, List.map_append]
  rfl
theorem take_all {l : List Int} {n : Nat} (h : l.length ≤ n) : l.take n = l := List.take_of_length_le h
theorem rep_one (v : Int) : ∀ k : Nat, (List.replicate k [V.int v]).flatten = (List.replicate k v).map V.int
  | 0 => rfl
  | k + 1 => by
    rw [List.replicate_succ, List.replicate_succ, List.flatten_cons, List.map_cons, rep_one v k]
    rfl
theorem rep_map (ns : List Int) : ∀ k : Nat, (List.replicate k (ns.map V.int)).flatten = ((List.replicate k ns).flatten).map V.int
  | 0 => rfl
  | k + 1 => by
    rw [List.replicate_succ, List.replicate_succ, List.flatten_cons, List.flatten_cons, List.map_append, rep_map ns k]
theorem rep_len (ns : List Int) : ∀ k : Nat, ((List.replicate k ns).flatten).length = k * ns.length
  | 0 => by simp
  | k + 1 => by
    rw [List.replicate_succ, List.flatten_cons, List.length_append, rep_len ns k, Nat.succ_mul, Nat.add_comm]
theorem rep_mem {ns : List Int} {k : Nat} {x : Int} (h : x ∈ (List.replicate k ns).flatten) : x ∈ ns := by
  obtain ⟨l, hl, hx⟩ := List.mem_flatten.mp h
  rw [(List.mem_replicate.mp hl).2] at hx
  exact hx
theorem cut_take (ns : List Int) (s : Int) (h0 : 0 ≤ s) : cutV (ns.map V.int) none (some s) = (ns.take s.toNat).map V.int := by
  obtain ⟨k, rfl⟩ : ∃ k : Nat, s = (k : Int) := ⟨s.toNat, by omega⟩
  unfold cutV
  rw [HT.sIx_none, HT.sIx_nat, Int.toNat_natCast, List.drop_zero, Nat.sub_zero, List.map_take]
  rcases Nat.le_total k (ns.map V.int).length with z | z
  · rw [Nat.min_eq_left z]
  · rw [Nat.min_eq_right z, List.take_of_length_le (Nat.le_refl _), List.take_of_length_le z]

/-! ### data: lists of ints, for repr and == -/
def dI (ns : List Int) : PyData := .list (ns.map PyData.int)
theorem dpAll_ints {K : PySem.W.Frag} {H : Hp} : ∀ ns : List Int, DpAll K H (ns.map V.int) (ns.map PyData.int)
  | [] => .nil
  | n :: ns => .cons (.int n) (dpAll_ints ns)
theorem dp_ints {K : PySem.W.Frag} {H : Hp} {a : Addr} {ns : List Int} (h : SqL K H a (ns.map V.int)) : Dp K H (.ref a) (dI ns) := .lst h (dpAll_ints ns)
/-- what repr and == ask of data -/
structure RP (d : PyData) : Prop where
  sh : d.showable = true
  nd : d.hasDict = false
  cl : d.canLay0 = true
  dp : d.depth ≤ 32
theorem RP.shaped {d : PyData} (h : RP d) : SeqAt.shaped d = true := by
  have := h.dp
  exact Bool.and_eq_true_iff.mpr ⟨h.cl, decide_eq_true (by omega)⟩
theorem RP.refl {d : PyData} (h : RP d) : PyData.eqv d d = true := SeqAt.eqv_refl d h.cl
theorem rp_int {i : Int} (h : i.natAbs < 2 ^ 1000) : RP (.int i) := ⟨by simp only [PyData.showable]; exact decide_eq_true (Nat.lt_trans (PySem.Flt.log2_lt_of (by decide) h) (by decide)), by simp only [PyData.hasDict], by simp only [PyData.canLay0], by simp only [PyData.depth]; omega⟩
/-- all of a list: depth one less -/
structure RPs (k : Nat) (ds : List PyData) : Prop where
  sh : PyData.showableAll ds = true
  nd : PyData.hasDictAll ds = false
  cl : PyData.canLayAll0 ds = true
  dp : PyData.depthAll ds ≤ k
theorem RPs.nil {k : Nat} : RPs k [] := ⟨by simp only [PyData.showableAll], by simp only [PyData.hasDictAll], by simp only [PyData.canLayAll0], by simp only [PyData.depthAll]; omega⟩
theorem RPs.cons {k : Nat} {d : PyData} {ds : List PyData} (h : RP d) (hk : d.depth ≤ k) (hs : RPs k ds) : RPs k (d :: ds) := by
  refine ⟨?_, ?_, ?_, ?_⟩
  · simp only [PyData.showableAll, h.sh, hs.sh, Bool.and_self]
  · simp only [PyData.hasDictAll, h.nd, hs.nd, Bool.or_self]
  · simp only [PyData.canLayAll0, h.cl, hs.cl, Bool.and_self]
  · simp only [PyData.depthAll]
    have := hs.dp
    omega
theorem RPs.list {k : Nat} {ds : List PyData} (h : RPs k ds) (hk : k ≤ 31) : RP (.list ds) ∧ (PyData.list ds).depth ≤ k + 1 := by
  have hd : (PyData.list ds).depth ≤ k + 1 := by
    simp only [PyData.depth]
    have := h.dp
    omega
  refine ⟨⟨?_, ?_, ?_, by omega⟩, hd⟩
  · simp only [PyData.showable, h.sh]
  · simp only [PyData.hasDict, h.nd]
  · simp only [PyData.canLay0, h.cl]
theorem rps_ints : ∀ {ns : List Int}, (∀ n ∈ ns, n.natAbs < 2 ^ 1000) → RPs 0 (ns.map PyData.int)
  | [], _ => RPs.nil
  | n :: ns, h => RPs.cons (rp_int (h n List.mem_cons_self)) (by simp only [PyData.depth]; omega) (rps_ints fun x hx => h x (List.mem_cons_of_mem _ hx))
theorem rp_ints {ns : List Int} (h : ∀ n ∈ ns, n.natAbs < 2 ^ 1000) : RP (dI ns) := ((rps_ints h).list (by omega)).1
theorem dp_ints_depth {ns : List Int} (h : ∀ n ∈ ns, n.natAbs < 2 ^ 1000) : (dI ns).depth ≤ 1 := ((rps_ints h).list (by omega)).2
theorem sum_bound {B : Nat} : ∀ {l : List Nat}, (∀ x ∈ l, x ≤ B) → l.sum ≤ B * l.length
  | [], _ => Nat.zero_le _
  | x :: l, h => by
    have h1 := h x List.mem_cons_self
    have h2 := sum_bound (B := B) (l := l) fun y hy => h y (List.mem_cons_of_mem _ hy)
    rw [List.sum_cons, List.length_cons, Nat.mul_succ]
    omega
theorem shownAll_map (ds : List PyData) : PyData.shownAll ds = ds.map PyData.shown := by
  induction ds with
  | nil => rfl
  | cons d ds ih =>
    simp only [PyData.shownAll, List.map_cons, ih]
/-- how long a list's text is at most, by its items' -/
theorem shown_list {B : Nat} {ds : List PyData} (h : ∀ d ∈ ds, d.shown.length ≤ B) : (PyData.list ds).shown.length ≤ (B + 2) * ds.length + 3 := by
  simp only [PyData.shown]
  have h1 := listText_len_le (PyData.shownAll ds)
  have h2 : ((PyData.shownAll ds).map (·.length)).sum ≤ B * ds.length := by
    rw [shownAll_map, List.map_map]
    have := sum_bound (B := B) (l := ds.map ((fun x => x.length) ∘ PyData.shown)) fun x hx => by
      obtain ⟨d, hd, rfl⟩ := List.mem_map.mp hx
      exact h d hd
    rw [List.length_map] at this
    exact this
  have h3 : (PyData.shownAll ds).length = ds.length := by rw [shownAll_map, List.length_map]
  rw [h3] at h1
  rw [Nat.add_mul]
  omega
theorem shown_int {i : Int} (h : i.natAbs < 2 ^ 1000) : (PyData.int i).shown.length ≤ 1001 := by
  simp only [PyData.shown]
  rw [PySem.ofString_length]
  exact int_text_length_le (by decide) (PySem.Flt.log2_lt_of (by decide) h)
theorem shown_ints {ns : List Int} (h : ∀ n ∈ ns, n.natAbs < 2 ^ 1000) : (dI ns).shown.length ≤ 1003 * ns.length + 3 := by
  have := shown_list (B := 1001) (ds := ns.map PyData.int) fun d hd => by
    obtain ⟨n, hn, rfl⟩ := List.mem_map.mp hd
    exact shown_int (h n hn)
  rw [List.length_map] at this
  exact this
theorem small_abs {n : Int} (h0 : 0 ≤ n) (h1 : n ≤ 1000000000000000000000000000000) : n.natAbs < 2 ^ 1000 := Nat.lt_of_le_of_lt (m := 1000000000000000000000000000000) (by omega) (by decide +kernel)
theorem Rim.abs {ns : List Int} (h : Rim ns) : ∀ n ∈ ns, n.natAbs < 2 ^ 1000 := fun n hn => small_abs (h.all n hn).1 (h.all n hn).2
theorem Rim.rp {ns : List Int} (h : Rim ns) : RP (dI ns) := rp_ints h.abs
theorem Rim.fits {ns : List Int} (h : Rim ns) : (dI ns).shown.length ≤ sizeLine := by
  have := shown_ints h.abs
  have := h.le
  exact sz40' (by omega)
/-- an object that was not there is written -/
theorem same_over {H H4 : Hp} {l : Addr} {o : HO} (s : Same H H4) (n : H l = none) : Same H (upd H4 l o) := fun b x e => by
  rw [upd_ne (ne_of_none e n)]
  exact s b x e
/-- turned back -/
theorem rot_rot {ns : List Int} {t : Int} : rot (rot ns t) (0 - t) = ns := by
  refine List.ext_getElem? fun j => ?_
  by_cases h : j < ns.length
  · rw [rot_at (by rw [rot_len]; exact h), rot_len]
    have hm := mod_in (i := (j : Int) - (0 - t)) (show 0 < ns.length by omega)
    have e := rot_back (t := t) h
    rw [show (j : Int) - (0 - t) = (j : Int) + t by omega]
    rw [show (j : Int) - (0 - t) = (j : Int) + t by omega] at hm
    rw [← e, ← at_getD (by rw [rot_len]; omega)]
  · rw [List.getElem?_eq_none (by rw [rot_len, rot_len]; omega), List.getElem?_eq_none (by omega)]
theorem mir_mir {ns : List Int} : mir (mir ns) = ns := by
  refine List.ext_getElem? fun j => ?_
  by_cases h : j < ns.length
  · rw [mir_at (by rw [mir_len]; exact h), mir_len]
    have hm := mod_in (i := (0 : Int) - (j : Int)) (show 0 < ns.length by omega)
    have e := mir_back h
    rw [show -(j : Int) = (0 : Int) - (j : Int) by omega]
    rw [← e, ← at_getD (by rw [mir_len]; omega)]
  · rw [List.getElem?_eq_none (by rw [mir_len, mir_len]; omega), List.getElem?_eq_none (by omega)]
end Sd

namespace Sd
open PySem PySem.Spec PyProof.Rows L2

/-! ### lights -/
def Ab (k : Nat) (ns : List Int) : Prop := ∀ n ∈ ns, n.natAbs < 2 ^ k
theorem pow_up {a b : Nat} (h : a ≤ b) : (2 : Nat) ^ a ≤ 2 ^ b := Nat.pow_le_pow_right (by decide) h
theorem Ab.mono {k j : Nat} {ns : List Int} (h : Ab k ns) (l : k ≤ j) : Ab j ns := fun n hn => Nat.lt_of_lt_of_le (h n hn) (pow_up l)
theorem Rim.ab {ns : List Int} (h : Rim ns) : Ab 100 ns := fun n hn => by
  have := h.all n hn
  exact Nat.lt_of_le_of_lt (m := 1000000000000000000000000000000) (by omega) (by decide +kernel)
theorem Ab.rot {k : Nat} {ns : List Int} (h : Ab k ns) (t : Int) : Ab k (rot ns t) := rot_all h
theorem Ab.at {k : Nat} {ns : List Int} (h : Ab k ns) {i : Nat} {n : Int} (e : ns[i]? = some n) : n.natAbs < 2 ^ k := h n (List.mem_of_getElem? e)
def prods (ns ms : List Int) : List Int := List.zipWith (· * ·) ns ms
theorem prods_len (ns ms : List Int) : (prods ns ms).length = min ns.length ms.length := List.length_zipWith
theorem prods_at {ns ms : List Int} {i : Nat} {x y : Int} (h1 : ns[i]? = some x) (h2 : ms[i]? = some y) : (prods ns ms)[i]? = some (x * y) := by
  unfold prods
  rw [List.getElem?_zipWith, h1, h2]
theorem prods_ab {a b : Nat} : ∀ {ns ms : List Int}, Ab a ns → Ab b ms → Ab (a + b) (prods ns ms)
  | [], _, _, _ => fun n hn => by
    simp only [prods, List.zipWith_nil_left] at hn
    exact (List.not_mem_nil hn).elim
  | _ :: _, [], _, _ => fun n hn => by
    simp only [prods, List.zipWith_nil_right] at hn
    exact (List.not_mem_nil hn).elim
  | x :: ns, y :: ms, h1, h2 => fun n hn => by
    have hn : n ∈ x * y :: prods ns ms := hn
    rcases List.mem_cons.mp hn with e | e
    · subst e
      exact wide_lt (h1 x List.mem_cons_self) (h2 y List.mem_cons_self)
    · exact prods_ab (fun z hz => h1 z (List.mem_cons_of_mem _ hz)) (fun z hz => h2 z (List.mem_cons_of_mem _ hz)) n e
theorem sum_ab {k : Nat} : ∀ {ns : List Int}, Ab k ns → ns.sum.natAbs ≤ ns.length * 2 ^ k
  | [], _ => Nat.zero_le _
  | x :: ns, h => by
    have h1 := h x List.mem_cons_self
    have h2 := sum_ab (k := k) (ns := ns) fun z hz => h z (List.mem_cons_of_mem _ hz)
    rw [List.sum_cons, List.length_cons, Nat.succ_mul]
    have := Int.natAbs_add_le x ns.sum
    omega
theorem sum_lt {k : Nat} {ns : List Int} (h : Ab k ns) (hl : ns.length < 1024) : ns.sum.natAbs < 2 ^ (k + 10) := by
  have h1 := sum_ab h
  rw [Nat.pow_add]
  refine Nat.lt_of_le_of_lt h1 ?_
  rw [Nat.mul_comm]
  exact Nat.mul_lt_mul_of_pos_left hl (Nat.two_pow_pos k)
/-- the light at a turn -/
def lightV (ns ms : List Int) (t : Int) : Int := (prods ns (rot ms t)).sum
def lightsV (ns ms : List Int) : List Int := (List.range ns.length).map fun (i : Nat) => lightV ns ms (i : Int)
theorem lightsV_len (ns ms : List Int) : (lightsV ns ms).length = ns.length := by
  unfold lightsV
  rw [List.length_map, List.length_range]
theorem lightsV_at {ns ms : List Int} {i : Nat} (h : i < ns.length) : (lightsV ns ms)[i]? = some (lightV ns ms (i : Int)) := by
  unfold lightsV
  rw [List.getElem?_map, List.getElem?_range h]
  rfl
theorem lightV_lt {a b : Nat} {ns ms : List Int} (h1 : Ab a ns) (h2 : Ab b ms) (hl : ns.length < 1024) (t : Int) : (lightV ns ms t).natAbs < 2 ^ (a + b + 10) := by
  refine sum_lt (prods_ab h1 (h2.rot t)) ?_
  rw [prods_len]
  omega
theorem lightsV_ab {a b : Nat} {ns ms : List Int} (h1 : Ab a ns) (h2 : Ab b ms) (hl : ns.length < 1024) : Ab (a + b + 10) (lightsV ns ms) := fun n hn => by
  unfold lightsV at hn
  obtain ⟨i, _, rfl⟩ := List.mem_map.mp hn
  exact lightV_lt h1 h2 hl i
theorem rot_mod (ms : List Int) (t : Int) : rot ms (t % (ms.length : Int)) = rot ms t := by
  unfold rot
  refine List.map_congr_left fun j _ => ?_
  rw [Int.sub_emod_emod]
theorem lightV_mod {ns ms : List Int} (t : Int) : lightV ns ms (t % (ms.length : Int)) = lightV ns ms t := by
  unfold lightV
  rw [rot_mod]
/-- lights[t % n], whatever the turn -/
theorem lights_any {ns ms : List Int} (t : Int) (hl : ns.length = ms.length) (h1 : 1 ≤ ns.length) : atI ((lightsV ns ms).map V.int) (t % (ns.length : Int)) = some (.int (lightV ns ms t)) := by
  have hm := mod_in (i := t) (show 0 < ns.length by omega)
  obtain ⟨n, hn, hat⟩ := at_in (ns := lightsV ns ms) hm.1 (by rw [lightsV_len]; exact hm.2)
  rw [lightsV_at (by omega), Int.toNat_of_nonneg hm.1, hl, lightV_mod] at hn
  rw [hat, ← Option.some.inj hn]
/-! ### the greatest, the places of some -/
theorem max_ex : ∀ {ns : List Int}, 1 ≤ ns.length → ∃ m, m ∈ ns ∧ ∀ y ∈ ns, y ≤ m
  | [], h => absurd h (by decide)
  | [x], _ => ⟨x, List.mem_cons_self, fun y hy => by rw [List.mem_singleton.mp hy]; exact Int.le_refl _⟩
  | x :: z :: ns, _ => by
    obtain ⟨m, hm, hg⟩ := max_ex (ns := z :: ns) (by simp)
    by_cases h : x ≤ m
    · refine ⟨m, List.mem_cons_of_mem _ hm, fun y hy => ?_⟩
      rcases List.mem_cons.mp hy with e | e
      · rw [e]
        exact h
      · exact hg y e
    · refine ⟨x, List.mem_cons_self, fun y hy => ?_⟩
      rcases List.mem_cons.mp hy with e | e
      · rw [e]
        exact Int.le_refl _
      · have := hg y e
        omega
theorem max_one {ns : List Int} {m m' : Int} (h1 : m ∈ ns) (h2 : ∀ y ∈ ns, y ≤ m) (h3 : m' ∈ ns) (h4 : ∀ y ∈ ns, y ≤ m') : m = m' := Int.le_antisymm (h4 _ h1) (h2 _ h3)
/-- the places below k of the items for which p holds -/
def places (p : Int → Bool) (ns : List Int) (k : Nat) : List Int := ((List.range k).filter fun i => p (ns.getD i 0)).map fun (i : Nat) => (i : Int)
theorem places_len (p : Int → Bool) (ns : List Int) (k : Nat) : (places p ns k).length ≤ k := by
  unfold places
  rw [List.length_map]
  refine Nat.le_trans (List.length_filter_le _ _) ?_
  rw [List.length_range]
  exact Nat.le_refl _
theorem places_yes {p : Int → Bool} {ns : List Int} {k : Nat} {n : Int} (h : ns[k]? = some n) (hp : p n = true) : places p ns (k + 1) = places p ns k ++ [(k : Int)] := by
  unfold places
  rw [List.range_succ, List.filter_append, List.map_append]
  have : ([k].filter fun i => p (ns.getD i 0)) = [k] := by
    rw [List.filter_cons, getD_at h, if_pos hp]
    rfl
  rw [this]
  rfl
theorem places_no {p : Int → Bool} {ns : List Int} {k : Nat} {n : Int} (h : ns[k]? = some n) (hp : ¬ p n = true) : places p ns (k + 1) = places p ns k := by
  unfold places
  rw [List.range_succ, List.filter_append, List.map_append]
  have : ([k].filter fun i => p (ns.getD i 0)) = [] := by
    rw [List.filter_cons, getD_at h, if_neg hp]
    rfl
  rw [this]
  simp
theorem places_ab (p : Int → Bool) (ns : List Int) {k : Nat} (h : k < 1000) : Ab 100 (places p ns k) := fun n hn => by
  unfold places at hn
  obtain ⟨i, hi, rfl⟩ := List.mem_map.mp hn
  have := List.mem_range.mp (List.mem_filter.mp hi).1
  exact Nat.lt_of_lt_of_le (m := 1000) (by omega) (by decide)
theorem Ab.rp {k : Nat} {ns : List Int} (h : Ab k ns) (hk : k ≤ 1000) : RP (dI ns) := rp_ints (h.mono hk)
theorem Ab.fits {k : Nat} {ns : List Int} (h : Ab k ns) (hk : k ≤ 1000) (hl : ns.length ≤ 2000) : (dI ns).shown.length ≤ 2100000 := by
  have := shown_ints (h.mono hk)
  omega
theorem fit_le {n : Nat} (h : n ≤ 16000000) : n ≤ sizeLine := Nat.le_trans h (by decide)
/-- some lists of ints, in a list -/
def dL (ls : List (List Int)) : PyData := .list (ls.map dI)
theorem rps_lists {k : Nat} (hk : k ≤ 1000) : ∀ {ls : List (List Int)}, (∀ l ∈ ls, Ab k l) → RPs 1 (ls.map dI)
  | [], _ => RPs.nil
  | l :: ls, h => RPs.cons ((h l List.mem_cons_self).rp hk) (dp_ints_depth ((h l List.mem_cons_self).mono hk)) (rps_lists hk fun x hx => h x (List.mem_cons_of_mem _ hx))
theorem rp_lists {k : Nat} (hk : k ≤ 1000) {ls : List (List Int)} (h : ∀ l ∈ ls, Ab k l) : RP (dL ls) := ((rps_lists hk h).list (by omega)).1
theorem fits_lists {k : Nat} (hk : k ≤ 1000) {ls : List (List Int)} (h : ∀ l ∈ ls, Ab k l) (hl : ∀ l ∈ ls, l.length ≤ 1000) (hn : ls.length ≤ 7) : (dL ls).shown.length ≤ sizeLine := by
  have h1 := shown_list (B := 2100000) (ds := ls.map dI) fun d hd => by
    obtain ⟨l, hm, rfl⟩ := List.mem_map.mp hd
    exact (h l hm).fits hk (by have := hl l hm; omega)
  rw [List.length_map] at h1
  refine fit_le (Nat.le_trans h1 ?_)
  omega
theorem all2 {P : List Int → Prop} {a b : List Int} (h1 : P a) (h2 : P b) : ∀ l ∈ [a, b], P l := fun l hl => by
  simp only [List.mem_cons, List.not_mem_nil, or_false] at hl
  rcases hl with rfl | rfl <;> assumption
theorem all3 {P : List Int → Prop} {a b c : List Int} (h1 : P a) (h2 : P b) (h3 : P c) : ∀ l ∈ [a, b, c], P l := fun l hl => by
  simp only [List.mem_cons, List.not_mem_nil, or_false] at hl
  rcases hl with rfl | rfl | rfl <;> assumption
end Sd

namespace Sd
open PySem PySem.Spec PyProof.Rows L2

/-! ### by steps -/
def stepsV (ns ms : List Int) (f st : Int) (k : Nat) : List Int := (List.range k).map fun (i : Nat) => lightV ns ms (f + st * (i : Int))
theorem stepsV_len (ns ms : List Int) (f st : Int) (k : Nat) : (stepsV ns ms f st k).length = k := by
  unfold stepsV
  rw [List.length_map, List.length_range]
theorem stepsV_at {ns ms : List Int} {f st : Int} {k i : Nat} (h : i < k) : (stepsV ns ms f st k)[i]? = some (lightV ns ms (f + st * (i : Int))) := by
  unfold stepsV
  rw [List.getElem?_map, List.getElem?_range h]
  rfl
/-- the first of them, None if there is none -/
def headV : List Int → V
  | [] => .non
  | x :: _ => .int x
def headD : List Int → PyData
  | [] => .none
  | x :: _ => .int x
theorem places_more (p : Int → Bool) (ns : List Int) (i : Nat) : ∀ d : Nat, ∃ r, places p ns (i + d) = places p ns i ++ r
  | 0 => ⟨[], by simp⟩
  | d + 1 => by
    obtain ⟨r, e⟩ := places_more p ns i d
    refine ⟨r ++ ([i + d].filter fun j => p (ns.getD j 0)).map fun (j : Nat) => (j : Int), ?_⟩
    rw [← List.append_assoc, ← e]
    unfold places
    rw [show i + (d + 1) = (i + d) + 1 from rfl, List.range_succ, List.filter_append, List.map_append]
theorem places_head {p : Int → Bool} {ns : List Int} {i k : Nat} {x : Int} (hx : ns[i]? = some x) (hp : p x = true) (hno : places p ns i = []) (hk : i < k) : headV (places p ns k) = .int i := by
  obtain ⟨r, e⟩ := places_more p ns (i + 1) (k - (i + 1))
  rw [show i + 1 + (k - (i + 1)) = k by omega, places_yes hx hp, hno] at e
  rw [e]
  rfl
theorem places_none {p : Int → Bool} {ns : List Int} {k : Nat} : places p ns k = [] ↔ ∀ i, i < k → ¬ p (ns.getD i 0) = true := by
  unfold places
  rw [List.map_eq_nil_iff, List.filter_eq_nil_iff]
  exact ⟨fun h i hi => h i (List.mem_range.mpr hi), fun h i hi => h i (List.mem_range.mp hi)⟩
theorem places_congr {p : Int → Bool} {ns ms : List Int} {k : Nat} (h : ∀ i, i < k → ns.getD i 0 = ms.getD i 0) : places p ns k = places p ms k := by
  unfold places
  refine congrArg _ (List.filter_congr fun i hi => ?_)
  rw [h i (List.mem_range.mp hi)]
theorem stepsV_getD {ns ms : List Int} {f st : Int} {k i : Nat} (h : i < k) : (stepsV ns ms f st k).getD i 0 = lightV ns ms (f + st * (i : Int)) := getD_at (stepsV_at h)
/-- twice around tells nothing more -/
theorem twice {p : Int → Bool} {ns ms : List Int} {f st : Int} (hl : ns.length = ms.length) : headV (places p (stepsV ns ms f st (2 * ns.length)) (2 * ns.length)) = headV (places p (stepsV ns ms f st ns.length) ns.length) := by
  have e1 : places p (stepsV ns ms f st (2 * ns.length)) ns.length = places p (stepsV ns ms f st ns.length) ns.length :=
    places_congr fun i hi => by rw [stepsV_getD (by omega), stepsV_getD hi]
  obtain ⟨r, e2⟩ := places_more p (stepsV ns ms f st (2 * ns.length)) ns.length ns.length
  rw [show ns.length + ns.length = 2 * ns.length by omega, e1] at e2
  cases e3 : places p (stepsV ns ms f st ns.length) ns.length with
  | cons x xs =>
    rw [e2, e3]
    rfl
  | nil =>
    have h0 := places_none.mp e3
    have h1 : places p (stepsV ns ms f st (2 * ns.length)) (2 * ns.length) = [] := places_none.mpr fun i hi => by
      by_cases hn : i < ns.length
      · have := h0 i hn
        rw [stepsV_getD hn] at this
        rw [stepsV_getD hi]
        exact this
      · have := h0 (i - ns.length) (by omega)
        rw [stepsV_getD (by omega)] at this
        rw [stepsV_getD hi]
        have e4 : lightV ns ms (f + st * (i : Int)) = lightV ns ms (f + st * ((i - ns.length : Nat) : Int)) := by
          rw [← lightV_mod (f + st * (i : Int)), ← lightV_mod (f + st * ((i - ns.length : Nat) : Int)), ← hl]
          have e5 : f + st * (i : Int) = (f + st * ((i - ns.length : Nat) : Int)) + (ns.length : Int) * st := by
            have e6 : (i : Int) = ((i - ns.length : Nat) : Int) + (ns.length : Int) := by omega
            rw [e6, Int.mul_add, Int.mul_comm (ns.length : Int) st]
            have e7 : ((((i - ns.length : Nat) : Int) + (ns.length : Int)) : Int) = (i : Int) := e6.symm
            omega
          rw [e5, Int.add_mul_emod_self_left]
        rw [e4]
        exact this
    rw [h1]
theorem dp_head {K : PySem.W.Frag} {H : Hp} : ∀ l : List Int, Dp K H (headV l) (headD l)
  | [] => .non
  | x :: _ => .int x
theorem rp_head : ∀ {l : List Int}, Ab 100 l → RP (headD l)
  | [], _ => ⟨rfl, rfl, rfl, by decide⟩
  | x :: _, h => rp_int (Nat.lt_of_lt_of_le (h x List.mem_cons_self) (pow_up (by decide)))
theorem fits_head : ∀ {l : List Int}, Ab 100 l → (headD l).shown.length ≤ sizeLine
  | [], _ => by decide +kernel
  | x :: _, h => fit_le (Nat.le_trans (shown_int (Nat.lt_of_lt_of_le (h x List.mem_cons_self) (pow_up (by decide)))) (by decide))
end Sd

namespace Sd
open PySem PySem.Spec PyProof.Rows L2

/-! ### far sums -/
def farV (ns ms : List Int) (f st N : Int) : Int := N / (ns.length : Int) * (stepsV ns ms f st ns.length).sum + ((stepsV ns ms f st ns.length).take (N % (ns.length : Int)).toNat).sum
theorem stepsV_take {ns ms : List Int} {f st : Int} {k r : Nat} (h : r ≤ k) : (stepsV ns ms f st k).take r = stepsV ns ms f st r := by
  unfold stepsV
  rw [← List.map_take, List.take_range, Nat.min_eq_left h]
theorem stepsV_next (ns ms : List Int) (f st : Int) (k : Nat) : (stepsV ns ms f st (k + 1)).sum = (stepsV ns ms f st k).sum + lightV ns ms (f + st * (k : Int)) := by
  unfold stepsV
  rw [List.range_succ, List.map_append, List.sum_append]
  simp
theorem stepsV_add (ns ms : List Int) (f st : Int) (a : Nat) : ∀ b : Nat, (stepsV ns ms f st (a + b)).sum = (stepsV ns ms f st a).sum + (stepsV ns ms (f + st * (a : Int)) st b).sum
  | 0 => by
    show (stepsV ns ms f st a).sum = (stepsV ns ms f st a).sum + 0
    omega
  | b + 1 => by
    rw [show a + (b + 1) = (a + b) + 1 from rfl, stepsV_next, stepsV_next, stepsV_add ns ms f st a b]
    rw [show f + st * (((a + b : Nat)) : Int) = f + st * (a : Int) + st * (b : Int) by rw [Int.natCast_add, Int.mul_add]; omega]
    omega
theorem lightV_congr {ns ms : List Int} {t u : Int} (h : t % (ms.length : Int) = u % (ms.length : Int)) : lightV ns ms t = lightV ns ms u := by
  rw [← lightV_mod t, h, lightV_mod]
theorem stepsV_mod (ns ms : List Int) (f st : Int) (k : Nat) : stepsV ns ms (f % (ms.length : Int)) st k = stepsV ns ms f st k := by
  unfold stepsV
  refine List.map_congr_left fun i _ => lightV_congr ?_
  rw [Int.emod_add_emod]
theorem stepsV_round {ns ms : List Int} (hl : ns.length = ms.length) (f st : Int) (k : Nat) : stepsV ns ms (f + st * (ns.length : Int)) st k = stepsV ns ms f st k := by
  unfold stepsV
  refine List.map_congr_left fun i _ => lightV_congr ?_
  rw [hl, show f + st * (ms.length : Int) + st * (i : Int) = f + st * (i : Int) + st * (ms.length : Int) by omega, Int.add_mul_emod_self_right]
theorem stepsV_rounds {ns ms : List Int} (hl : ns.length = ms.length) (f st : Int) (r : Nat) : ∀ q : Nat, (stepsV ns ms f st (q * ns.length + r)).sum = (q : Int) * (stepsV ns ms f st ns.length).sum + (stepsV ns ms f st r).sum
  | 0 => by simp
  | q + 1 => by
    rw [show (q + 1) * ns.length + r = ns.length + (q * ns.length + r) by rw [Nat.succ_mul]; omega, stepsV_add, stepsV_round hl, stepsV_rounds hl f st r q]
    rw [Int.natCast_succ, Int.add_mul]
    omega
theorem far_eq {ns ms : List Int} (hl : ns.length = ms.length) (h1 : 1 ≤ ns.length) (f st : Int) {N : Int} (h0 : 0 ≤ N) : farV ns ms f st N = (stepsV ns ms f st N.toNat).sum := by
  have hm := mod_in (i := N) (show 0 < ns.length by omega)
  have hq : 0 ≤ N / (ns.length : Int) := Int.ediv_nonneg h0 (by omega)
  have e : N.toNat = (N / (ns.length : Int)).toNat * ns.length + (N % (ns.length : Int)).toNat := by
    have e1 := Int.mul_ediv_add_emod N (ns.length : Int)
    have e2 : (((N / (ns.length : Int)).toNat * ns.length + (N % (ns.length : Int)).toNat : Nat) : Int) = N := by
      rw [Int.natCast_add, Int.natCast_mul, Int.toNat_of_nonneg hq, Int.toNat_of_nonneg hm.1, Int.mul_comm]
      exact e1
    omega
  rw [e, stepsV_rounds hl, Int.toNat_of_nonneg hq]
  unfold farV
  rw [stepsV_take (by omega)]
theorem far_parts {ns ms : List Int} (hl : ns.length = ms.length) (h1 : 1 ≤ ns.length) (f st : Int) {N M : Int} (h0 : 0 ≤ M) (hM : M ≤ N) : farV ns ms f st M + farV ns ms ((f + M * st) % (ns.length : Int)) st (N - M) = farV ns ms f st N := by
  rw [far_eq hl h1 f st h0, far_eq hl h1 _ st (show 0 ≤ N - M by omega), far_eq hl h1 f st (show 0 ≤ N by omega)]
  rw [show N.toNat = M.toNat + (N - M).toNat by omega, stepsV_add, hl, stepsV_mod, Int.toNat_of_nonneg h0, Int.mul_comm st M]
theorem stepsV_ab {a b : Nat} {ns ms : List Int} (h1 : Ab a ns) (h2 : Ab b ms) (hl : ns.length < 1024) (f st : Int) (k : Nat) : Ab (a + b + 10) (stepsV ns ms f st k) := fun n hn => by
  unfold stepsV at hn
  obtain ⟨i, _, rfl⟩ := List.mem_map.mp hn
  exact lightV_lt h1 h2 hl _
theorem steps_sum_lt {ns ms : List Int} (h1 : Ab 100 ns) (h2 : Ab 100 ms) (hl : ns.length < 1024) (f st : Int) (k : Nat) (hk : k < 1024) : (stepsV ns ms f st k).sum.natAbs < 2 ^ 220 :=
  sum_lt (stepsV_ab h1 h2 hl f st k) (by rw [stepsV_len]; exact hk)
theorem far_lt {ns ms : List Int} (h1 : Ab 100 ns) (h2 : Ab 100 ms) (hl : ns.length < 1024) (hp : 1 ≤ ns.length) (f st : Int) {N : Int} (h0 : 0 ≤ N) (hN : N.natAbs < 2 ^ 200) : (farV ns ms f st N).natAbs < 2 ^ 430 := by
  have hm := mod_in (i := N) (show 0 < ns.length by omega)
  have hq : 0 ≤ N / (ns.length : Int) := Int.ediv_nonneg h0 (by omega)
  have hqn : N / (ns.length : Int) ≤ N := Int.ediv_le_self _ h0
  have a1 : (N / (ns.length : Int)).natAbs < 2 ^ 200 := by omega
  have a2 := steps_sum_lt h1 h2 hl f st ns.length hl
  have a3 := wide_lt a1 a2
  unfold farV
  rw [stepsV_take (by omega)]
  have a4 := steps_sum_lt h1 h2 hl f st (N % (ns.length : Int)).toNat (by omega)
  have a5 := Int.natAbs_add_le (N / (ns.length : Int) * (stepsV ns ms f st ns.length).sum) (stepsV ns ms f st (N % (ns.length : Int)).toNat).sum
  have p1 : (2 : Nat) ^ 420 + 2 ^ 220 ≤ 2 ^ 430 := by decide +kernel
  have a3' : (N / (ns.length : Int) * (stepsV ns ms f st ns.length).sum).natAbs < 2 ^ 420 := a3
  exact Nat.lt_of_le_of_lt a5 (Nat.lt_of_lt_of_le (Nat.add_lt_add a3' a4) p1)
end Sd

namespace Sd
open PySem PySem.Spec PyProof.Rows L2

/-! ### lists of ints by their order -/
def LtI (a b : List Int) : Bool := PySem.W.dataLt (dI a) (dI b)
theorem ltI_irr (a : List Int) : LtI a a = false := lex_irrefl _
theorem ltI_trans {a b c : List Int} (h : LtI a b = true) (k : LtI b c = true) : LtI a c = true := lex_trans _ _ _ h k
theorem toks_int (x : Int) : PySem.W.keyToks (.int x) = [.inl x] := by rw [PySem.W.keyToks]
theorem toks_inj : ∀ {a b : List Int}, PySem.W.keyToksAll (a.map PyData.int) = PySem.W.keyToksAll (b.map PyData.int) → a = b
  | [], [], _ => rfl
  | [], y :: b, h => by
    rw [List.map_nil, List.map_cons, PySem.W.toks_all_cons, PySem.W.keyToksAll] at h
    have := (List.cons.inj h).1
    cases this
  | x :: a, [], h => by
    rw [List.map_nil, List.map_cons, PySem.W.toks_all_cons, PySem.W.keyToksAll] at h
    have := (List.cons.inj h).1
    cases this
  | x :: a, y :: b, h => by
    rw [List.map_cons, List.map_cons, PySem.W.toks_all_cons, PySem.W.toks_all_cons, toks_int, toks_int] at h
    have h2 := (List.cons.inj h).2
    have h3 := (List.cons.inj h2).1
    have h4 := (List.cons.inj h2).2
    cases h3
    rw [toks_inj h4]
theorem ltI_total {a b : List Int} (h : LtI a b = false) (k : LtI b a = false) : a = b := by
  have e := lex_total _ _ h k
  unfold dI at e
  rw [PySem.W.keyToks, PySem.W.keyToks] at e
  exact toks_inj e
/-- the least of some lists -/
def LeastI (S : List (List Int)) (m : List Int) : Prop := m ∈ S ∧ ∀ y ∈ S, LtI y m = false
theorem least_one {S : List (List Int)} {m m' : List Int} (h : LeastI S m) (k : LeastI S m') : m = m' := ltI_total (k.2 _ h.1) (h.2 _ k.1)
theorem least_set {S S' : List (List Int)} {m : List Int} (h : LeastI S m) (e : ∀ x, x ∈ S ↔ x ∈ S') : LeastI S' m := ⟨(e _).mp h.1, fun y hy => h.2 y ((e _).mpr hy)⟩
theorem least_le {S : List (List Int)} {m y : List Int} (h : LeastI S m) (hy : y ∈ S) : m = y ∨ LtI m y = true := by
  cases q : LtI m y with
  | true => exact .inr rfl
  | false => exact .inl (ltI_total q (h.2 _ hy))
theorem least_app {S S' : List (List Int)} {a b : List Int} (h : LeastI S a) (k : LeastI S' b) : LeastI (S ++ S') (if LtI b a then b else a) := by
  cases q : LtI b a with
  | true =>
    refine ⟨List.mem_append_right _ k.1, fun y hy => ?_⟩
    rcases List.mem_append.mp hy with hy | hy
    · cases z : LtI y b with
      | false => exact z
      | true =>
        have := ltI_trans z q
        rw [h.2 _ hy] at this
        cases this
    · exact k.2 _ hy
  | false =>
    refine ⟨List.mem_append_left _ h.1, fun y hy => ?_⟩
    rcases List.mem_append.mp hy with hy | hy
    · exact h.2 _ hy
    · cases z : LtI y a with
      | false => exact z
      | true =>
        exfalso
        rcases least_le k hy with e | e
        · rw [e, z] at q
          cases q
        · rw [ltI_trans e z] at q
          cases q
theorem minD_least (x : List Int) (xs : List (List Int)) : ∃ m, PySem.W.minD (dI x) (xs.map dI) = dI m ∧ LeastI (x :: xs) m := by
  have key : ∀ (xs done : List (List Int)) (x : List Int), LeastI done x → ∃ m, PySem.W.minD (dI x) (xs.map dI) = dI m ∧ LeastI (done ++ xs) m := by
    intro xs
    induction xs with
    | nil =>
      intro done x h
      exact ⟨x, rfl, by rw [List.append_nil]; exact h⟩
    | cons y r ih =>
      intro done x h
      have h2 : LeastI (done ++ [y]) (if LtI y x then y else x) := least_app h ⟨List.mem_singleton.mpr rfl, fun z hz => by rw [List.mem_singleton.mp hz]; exact ltI_irr _⟩
      obtain ⟨m, e, hm⟩ := ih _ _ h2
      refine ⟨m, ?_, by rw [List.append_assoc] at hm; exact hm⟩
      rw [← e]
      unfold PySem.W.minD
      rw [List.map_cons, List.foldl_cons]
      have e2 : (if PySem.W.dataLt (dI y) (dI x) then dI y else dI x) = dI (if LtI y x then y else x) := by
        show (if LtI y x = true then dI y else dI x) = dI (if LtI y x then y else x)
        cases LtI y x <;> rfl
      rw [e2]
  exact key xs [x] x ⟨List.mem_singleton.mpr rfl, fun z hz => by rw [List.mem_singleton.mp hz]; exact ltI_irr _⟩

theorem dI_inj {a b : List Int} (h : dI a = dI b) : a = b := by
  unfold dI at h
  have h2 := PyData.list.inj h
  have : ∀ {a b : List Int}, a.map PyData.int = b.map PyData.int → a = b := by
    intro a
    induction a with
    | nil => intro b h; cases b with
      | nil => rfl
      | cons _ _ => cases h
    | cons x a ih => intro b h; cases b with
      | nil => cases h
      | cons y b =>
        rw [List.map_cons, List.map_cons] at h
        have := PyData.int.inj (List.cons.inj h).1
        rw [this, ih (List.cons.inj h).2]
  exact this h2
theorem alike_ints : ∀ a b : List Int, PySem.W.alikeAll (a.map PyData.int) (b.map PyData.int) = true
  | [], _ => by rw [List.map_nil, PySem.W.alikeAll]
  | _ :: _, [] => by rw [List.map_nil, List.map_cons, PySem.W.alikeAll]
  | x :: a, y :: b => by
    rw [List.map_cons, List.map_cons, PySem.W.alikeAll, alike_ints a b, PySem.W.alike]
    rfl
theorem alike_dI (a b : List Int) : PySem.W.alike (dI a) (dI b) = true := by
  unfold dI
  rw [PySem.W.alike]
  exact alike_ints a b
theorem alikeAll_dI (S : List (List Int)) : PySem.W.AlikeAll (S.map dI) := by
  refine ⟨fun x hx y hy => ?_, fun x hx e => ?_⟩
  · obtain ⟨a, _, rfl⟩ := List.mem_map.mp hx
    obtain ⟨b, _, rfl⟩ := List.mem_map.mp hy
    exact alike_dI a b
  · obtain ⟨a, _, rfl⟩ := List.mem_map.mp hx
    unfold dI at e
    cases e
theorem depthAll_ints : ∀ a : List Int, PyData.depthAll (a.map PyData.int) = 0
  | [] => rfl
  | x :: a => by
    show max (PyData.depth (.int x)) (PyData.depthAll (a.map PyData.int)) = 0
    rw [depthAll_ints a]
    simp only [PyData.depth, Nat.max_self]
theorem depth_dI (a : List Int) : (dI a).depth ≤ 1 := by
  unfold dI
  simp only [PyData.depth]
  rw [depthAll_ints]
  exact Nat.le_refl _
theorem depthAll_dI : ∀ S : List (List Int), PyData.depthAll (S.map dI) ≤ 1
  | [] => by show (0 : Nat) ≤ 1; omega
  | a :: S => by
    show max (dI a).depth (PyData.depthAll (S.map dI)) ≤ 1
    have h1 := depth_dI a
    have h2 := depthAll_dI S
    omega

theorem readsAll_kp {h h' : Heap} (k : ∀ c o, h.get? c = some o → h'.get? c = some o) : ∀ {us : List Value} {ds : List PyData} {as : List Addr}, PySem.ReadsAll h us ds as → PySem.ReadsAll h' us ds as
  | _, _, _, .nil => .nil
  | _, _, _, .cons r rs => .cons (PySem.W.reads_keeps k r) (readsAll_kp k rs)
theorem readsAll_ix {h : Heap} : ∀ {us : List Value} {ds : List PyData} {as : List Addr} {i : Nat} {u : Value}, PySem.ReadsAll h us ds as → us[i]? = some u → ∃ d bs, ds[i]? = some d ∧ PySem.Reads h u d bs
  | _, _, _, _, _, .nil, e => by simp at e
  | _, _, _, 0, _, .cons r _, e => by
    have e := Option.some.inj (show some _ = some _ from e)
    subst e
    exact ⟨_, _, rfl, r⟩
  | _, _, _, i + 1, _, .cons _ rs, e => by
    obtain ⟨d, bs, h1, h2⟩ := readsAll_ix (i := i) rs (by simpa using e)
    exact ⟨d, bs, by simpa using h1, h2⟩
theorem vals_ix : ∀ {vs : List V} {us : List Value} {i : Nat} {u : Value}, Vals vs us → us[i]? = some u → ∃ v, vs[i]? = some v ∧ RelV v u
  | _, _, _, _, .nil, e => by simp at e
  | _, _, 0, _, .cons r _, e => by
    have e := Option.some.inj (show some _ = some _ from e)
    subst e
    exact ⟨_, rfl, r⟩
  | _, _, i + 1, _, .cons _ rs, e => by
    obtain ⟨d, h1, h2⟩ := vals_ix (i := i) rs (by simpa using e)
    exact ⟨d, by simpa using h1, h2⟩

/-! ### min(S), S a list of lists of ints -/
def rMinI (K : PySem.W.Frag) : List V → Hp → VK → Prop := fun vs H Q => ∃ (a : Addr) (xs : List V) (S : List (List Int)), vs = [V.ref a] ∧ SqL K H a xs ∧ DpAll K H xs (S.map dI) ∧ 0 < S.length ∧
  ∀ (i : Nat) (v : V) (m : List Int), xs[i]? = some v → S[i]? = some m → LeastI S m → Q v H
theorem cr_minI {X : Cx} {K : PySem.W.Frag} (hK : X.K = K) (hc : X.calm = true) {k : Nat} (hr : Room k X.A) : CallR X (.builtin "min") (rMinI K) := by
  subst hK
  intro pins s σ H vs us Q I r h
  obtain ⟨a, xs, S, rfl, hs, hd, hne, q⟩ := h
  obtain ⟨its, rv, hl, _⟩ := I.list hs
  rw [Vals.ref1 r]
  obtain ⟨as, hR⟩ := Dp.readsAll I _ _ _ hd rv
  cases S with
  | nil => exact absurd hne (Nat.lt_irrefl 0)
  | cons x S =>
    have hu := hr.units
    have hd1 := depthAll_dI (x :: S)
    refine PySem.W.min_list_data (x := dI x) (xs := S.map dI) (as := as) (I.ok.hd hc) hl.isList hR (alikeAll_dI (x :: S)) ?_ fun i v h' tk bs hv hR' kp => ?_
    · have e : PyData.depthAll (dI x :: S.map dI) ≤ 1 := hd1
      omega
    · obtain ⟨m, em, hm⟩ := minD_least x S
      have hv' : its[i]? = some v := by simpa using hv
      obtain ⟨d, cs, hd2, hR2⟩ := readsAll_ix hR hv'
      obtain ⟨y, hy, ry⟩ := vals_ix rv hv'
      obtain ⟨n, hn, e⟩ : ∃ n, (x :: S)[i]? = some n ∧ d = dI n := by
        rw [List.getElem?_map] at hd2
        cases z : (x :: S)[i]? with
        | none =>
          rw [z] at hd2
          cases hd2
        | some n =>
          rw [z] at hd2
          exact ⟨n, rfl, (Option.some.inj hd2).symm⟩
      subst e
      rw [em] at hR'
      have e2 := PySem.W.alike_unique _ _ v _ _ (alike_dI n m) (PySem.W.reads_keeps kp hR2) hR'
      have e3 := dI_inj e2
      subst e3
      exact ⟨y, H, I.kept kp, ry, q i y n hy hn hm⟩
/-! ### min(a, b) of two values, compared where a heap stands -/
section
variable {prog : Program} {w : World} {A : Around} {E : Value → Shared → Prop} {s : Shared}
theorem min_pair {a b : Value} {x y : PyData} {as : List Addr} {Q : Value → Shared → Prop} (hh : A.handled = none) (hR : PySem.ReadsAll s.heap [a, b] [x, y] as) (ha : PySem.W.AlikeAll [x, y]) (hu : A.units + 1 + PyData.depthAll [x, y] < cLine)
    (h : ∀ h' tk, (∀ c o, s.heap.get? c = some o → h'.get? c = some o) → Q (if PySem.W.dataLt y x then b else a) { s with heap := h', toks := tk }) : wpAny (model prog w) A (call (.builtin "min") [a, b]) Q E s := by
  have nm : (toString "min" ++ toString ".loop" : String) = "min.loop" := by decide
  have hT : (s.heap.push { cls := .type "tuple", data := .seq #[a, b] }).IsTuple s.heap.objs.size #[a, b] := ⟨_, Heap.get?_push_size _ rfl, rfl, 0, rfl⟩
  have kp0 : ∀ c o, s.heap.get? c = some o → (s.heap.push { cls := .type "tuple", data := .seq #[a, b] }).get? c = some o := fun c o e => Heap.get?_push_of_some _ e
  have hR2 : PySem.ReadsAll (s.heap.push { cls := .type "tuple", data := .seq #[a, b] }) (#[a, b] : Array Value).toList [x, y] as := readsAll_kp kp0 hR
  refine call_function_tree F.kind_min F.plain_min F.entry_min (F.args_min2 _ _) ?_
  show wpAny _ A.in1 (Builtin.Builtins.bindParams _ _ _ _ >>= _) _ _ s
  refine wpAny_bind (wpAny_of_eq (show Builtin.Builtins.bindParams "min" ["key", "default"] 0 ⟨[], []⟩ = pure [none, none] from rfl) (show wpAny _ A.in1 (newTuple [a, b] >>= _) _ _ s from wpAny_bind (wpAny_newObj_type (wpAny_bind ?_))))
  refine PySem.W.iter_tupleW (A := A.in1) (s := { s with heap := s.heap.push { cls := .type "tuple", data := .seq #[a, b] } }) hh hT fun s₂ e W st hfp hw hk => ?_
  have hS : s₂.heap.objs.size ∉ _ := fun hm => Nat.lt_irrefl _ (hfp _ hm)
  refine wpAny_bind (wpAny_newObj_type ?_)
  rw [nm]
  refine wpAny_pure ⟨plainId_quiet F.plain_min_loop _, codeAny_min_loop_firstH W (s.heap.push { cls := .type "tuple", data := .seq #[a, b] }) hw (fun i j => PySem.W.dataLt ([x, y].getD i .none) ([x, y].getD j .none)) ?_ s₂.heap.objs.size hS (fresh_in hk) _ (show 0 < 2 by decide) (fun c o e => Heap.get?_push_of_some _ (hk c o e)) (W.frame 0 s₂ _ s₂.toks st (Nat.le_refl _) fun c _ o e => Heap.get?_push_of_some _ e) (Heap.get?_push_size _ rfl) fun v s' hP hm => ?_⟩
  · exact PySem.W.cmpIn_lt (A := A.in1) (s := { s with heap := s.heap.push { cls := .type "tuple", data := .seq #[a, b] } }) hR2 ha hu
  · obtain ⟨h', tk, rfl, hk'⟩ := PySem.W.moved_old e rfl (Moved.drop_new (tk := s₂.toks) hm (Nat.le_refl _))
    have q := h h' tk fun c o e => hk' c o (kp0 c o e)
    have ev : v = if PySem.W.dataLt y x then b else a := by
      cases z : PySem.W.dataLt y x with
      | true =>
        have e1 : argBest (fun i j => PySem.W.dataLt ([x, y].getD i .none) ([x, y].getD j .none)) 1 = 1 := if_pos z
        rw [show (#[a, b] : Array Value).size - 1 = 1 from rfl, e1] at hP
        exact (Option.some.inj hP).symm
      | false =>
        have e1 : argBest (fun i j => PySem.W.dataLt ([x, y].getD i .none) ([x, y].getD j .none)) 1 = 0 := if_neg (fun c => by
          have c : PySem.W.dataLt y x = true := c
          rw [z] at c
          cases c)
        rw [show (#[a, b] : Array Value).size - 1 = 1 from rfl, e1] at hP
        exact (Option.some.inj hP).symm
    rw [ev]
    exact q
end
/-- min(a, b) of two lists of ints -/
def rMin2 (K : PySem.W.Frag) : List V → Hp → VK → Prop := fun vs H Q => ∃ (x y : V) (a b : List Int), vs = [x, y] ∧ Dp K H x (dI a) ∧ Dp K H y (dI b) ∧ Q (if LtI b a then y else x) H
theorem cr_min2 {X : Cx} {K : PySem.W.Frag} (hK : X.K = K) (hc : X.calm = true) {k : Nat} (hr : Room k X.A) : CallR X (.builtin "min") (rMin2 K) := by
  subst hK
  intro pins s σ H vs us Q I r h
  obtain ⟨x, y, a, b, rfl, hx, hy, q⟩ := h
  obtain ⟨as, hR⟩ := Dp.readsAll I _ _ _ (.cons hx (.cons hy .nil)) r
  cases r with
  | cons r1 r2 =>
    cases r2 with
    | cons r2 r3 =>
      cases r3
      have hu := hr.units
      have hd1 := depthAll_dI [a, b]
      refine min_pair (I.ok.hd hc) hR (alikeAll_dI [a, b]) ?_ fun h' tk kp => ?_
      · have e : PyData.depthAll [dI a, dI b] ≤ 1 := hd1
        omega
      · have q : Q (if PySem.W.dataLt (dI b) (dI a) then y else x) H := q
        cases z : PySem.W.dataLt (dI b) (dI a) with
        | true =>
          rw [z] at q
          exact ⟨y, H, I.kept kp, r2, q⟩
        | false =>
          rw [z] at q
          exact ⟨x, H, I.kept kp, r1, q⟩
end Sd

namespace Sd
open PySem PySem.Spec PyProof.Rows L2

/-! ### turns, and all that are like -/
theorem ext_getD {a b : List Int} (hl : a.length = b.length) (h : ∀ j, j < a.length → a.getD j 0 = b.getD j 0) : a = b := by
  refine List.ext_getElem? fun j => ?_
  by_cases q : j < a.length
  · rw [at_getD q, at_getD (by omega), h j q]
  · rw [List.getElem?_eq_none (by omega), List.getElem?_eq_none (by omega)]
theorem rot_get {ns : List Int} {t : Int} {j : Nat} (h : j < ns.length) : (rot ns t).getD j 0 = ns.getD ((((j : Int) - t) % (ns.length : Int)).toNat) 0 := getD_at (rot_at h)
theorem mir_get {ns : List Int} {j : Nat} (h : j < ns.length) : (mir ns).getD j 0 = ns.getD (((-(j : Int)) % (ns.length : Int)).toNat) 0 := getD_at (mir_at h)
theorem rot_add (ns : List Int) (s t : Int) : rot (rot ns s) t = rot ns (s + t) := by
  refine ext_getD (by simp only [rot_len]) fun j hj => ?_
  simp only [rot_len] at hj
  have hm := mod_in (i := (j : Int) - t) (show 0 < ns.length by omega)
  rw [rot_get (by rw [rot_len]; exact hj), rot_len, rot_get (by omega), rot_get hj]
  rw [Int.toNat_of_nonneg hm.1, Int.emod_sub_emod]
  rw [show (j : Int) - t - s = (j : Int) - (s + t) by omega]
theorem rot_zero (ns : List Int) : rot ns 0 = ns := by
  refine ext_getD (rot_len _ _) fun j hj => ?_
  rw [rot_len] at hj
  rw [rot_get hj, Int.sub_zero, Int.emod_eq_of_lt (by omega) (by omega), Int.toNat_natCast]
theorem rot_full (ns : List Int) : rot ns (ns.length : Int) = ns := by
  rw [← rot_mod, Int.emod_self, rot_zero]
theorem mir_rot (ns : List Int) (t : Int) : mir (rot ns t) = rot (mir ns) (-t) := by
  refine ext_getD (by simp only [rot_len, mir_len]) fun j hj => ?_
  simp only [rot_len, mir_len] at hj
  have hm := mod_in (i := -(j : Int)) (show 0 < ns.length by omega)
  have hm2 := mod_in (i := (j : Int) - -t) (show 0 < ns.length by omega)
  rw [mir_get (by rw [rot_len]; exact hj), rot_len, rot_get (by omega), rot_get (by rw [mir_len]; exact hj), mir_len, mir_get (by omega)]
  rw [Int.toNat_of_nonneg hm.1, Int.toNat_of_nonneg hm2.1, Int.emod_sub_emod]
  have e : (-(((j : Int) - -t) % (ns.length : Int))) % (ns.length : Int) = (-((j : Int) - -t)) % (ns.length : Int) := by
    rw [← Int.zero_sub, ← Int.zero_sub ((j : Int) - -t), Int.sub_emod_emod]
  rw [e, show -((j : Int) - -t) = -(j : Int) - t by omega]
def turnsL (ns : List Int) : List (List Int) := (List.range ns.length).map fun (t : Nat) => rot ns (t : Int)
def bothL (ns : List Int) : List (List Int) := turnsL ns ++ turnsL (mir ns)
theorem turns_len (ns : List Int) : (turnsL ns).length = ns.length := by
  unfold turnsL
  rw [List.length_map, List.length_range]
theorem mem_turns {ns x : List Int} (h : 1 ≤ ns.length) : x ∈ turnsL ns ↔ ∃ t : Int, x = rot ns t := by
  unfold turnsL
  constructor
  · intro hx
    obtain ⟨t, _, rfl⟩ := List.mem_map.mp hx
    exact ⟨_, rfl⟩
  · intro ⟨t, ht⟩
    have hm := mod_in (i := t) (show 0 < ns.length by omega)
    refine List.mem_map.mpr ⟨(t % (ns.length : Int)).toNat, List.mem_range.mpr (by omega), ?_⟩
    rw [Int.toNat_of_nonneg hm.1, rot_mod, ht]
theorem mem_both {ns x : List Int} (h : 1 ≤ ns.length) : x ∈ bothL ns ↔ ∃ t : Int, x = rot ns t ∨ x = rot (mir ns) t := by
  unfold bothL
  rw [List.mem_append, mem_turns h, mem_turns (by rw [mir_len]; exact h)]
  constructor
  · rintro (⟨t, e⟩ | ⟨t, e⟩)
    · exact ⟨t, .inl e⟩
    · exact ⟨t, .inr e⟩
  · rintro ⟨t, e | e⟩
    · exact .inl ⟨t, e⟩
    · exact .inr ⟨t, e⟩
theorem both_len {ns x : List Int} (h : 1 ≤ ns.length) (hx : x ∈ bothL ns) : x.length = ns.length := by
  obtain ⟨t, rfl | rfl⟩ := (mem_both h).mp hx
  · exact rot_len _ _
  · rw [rot_len, mir_len]
theorem both_sub {ns ms x : List Int} (h : 1 ≤ ns.length) (hm : ms ∈ bothL ns) (hx : x ∈ bothL ms) : x ∈ bothL ns := by
  have hl := both_len h hm
  obtain ⟨s, e⟩ := (mem_both (by omega)).mp hx
  obtain ⟨t, rfl | rfl⟩ := (mem_both h).mp hm
  · rcases e with rfl | rfl
    · rw [rot_add]
      exact (mem_both h).mpr ⟨_, .inl rfl⟩
    · rw [mir_rot, rot_add]
      exact (mem_both h).mpr ⟨_, .inr rfl⟩
  · rcases e with rfl | rfl
    · rw [rot_add]
      exact (mem_both h).mpr ⟨_, .inr rfl⟩
    · rw [mir_rot, mir_mir, rot_add]
      exact (mem_both h).mpr ⟨_, .inl rfl⟩
theorem both_symm {ns ms : List Int} (h : 1 ≤ ns.length) (hm : ms ∈ bothL ns) : ns ∈ bothL ms := by
  have hl := both_len h hm
  obtain ⟨t, rfl | rfl⟩ := (mem_both h).mp hm
  · refine (mem_both (by omega)).mpr ⟨-t, .inl ?_⟩
    rw [rot_add, show t + -t = 0 by omega, rot_zero]
  · refine (mem_both (by omega)).mpr ⟨t, .inr ?_⟩
    rw [mir_rot, mir_mir, rot_add, show -t + t = 0 by omega, rot_zero]
theorem like_iff {ns ms m m' : List Int} (h : 1 ≤ ns.length) (h2 : 1 ≤ ms.length) (hm : LeastI (bothL ns) m) (hm' : LeastI (bothL ms) m') : m = m' ↔ ms ∈ bothL ns := by
  constructor
  · rintro rfl
    exact both_sub h hm.1 (both_symm h2 hm'.1)
  · intro e
    refine least_one hm (least_set hm' fun x => ⟨both_sub h e, both_sub h2 (both_symm h e)⟩)
theorem eqv_dI (a b : List Int) : PyData.eqv (dI a) (dI b) = decide (a = b) := by
  by_cases e : a = b
  · subst e
    rw [decide_eq_true rfl]
    exact PySem.W.eqv_refl_alike _ (alike_dI a a)
  · rw [decide_eq_false e]
    cases q : PyData.eqv (dI a) (dI b) with
    | false => rfl
    | true =>
      exfalso
      have z := (PySem.W.toks_eqv (dI a) (dI b) (alike_dI a b)).1 q
      unfold dI at z
      rw [PySem.W.keyToks, PySem.W.keyToks] at z
      exact e (toks_inj z)
theorem any_dI (S : List (List Int)) (m : List Int) : ((S.map dI).any fun z => PyData.eqv z (dI m)) = decide (m ∈ S) := by
  induction S with
  | nil => simp
  | cons a S ih =>
    rw [List.map_cons, List.any_cons, ih, eqv_dI]
    by_cases e : a = m
    · subst e
      simp
    · have e2 : ¬ m = a := fun z => e z.symm
      simp [e, e2]

/-! ### the turns at which one becomes the other -/
def hits (xs ys : List Int) (o : Int) : Nat → List Int
  | 0 => []
  | k + 1 => hits xs ys o k ++ (if rot xs (o + (k : Int)) = ys then [o + (k : Int)] else [])
theorem hits_yes {xs ys : List Int} {o : Int} {k : Nat} (h : rot xs (o + (k : Int)) = ys) : hits xs ys o (k + 1) = hits xs ys o k ++ [o + (k : Int)] := by
  rw [hits, if_pos h]
theorem hits_no {xs ys : List Int} {o : Int} {k : Nat} (h : ¬ rot xs (o + (k : Int)) = ys) : hits xs ys o (k + 1) = hits xs ys o k := by
  rw [hits, if_neg h, List.append_nil]
theorem hits_more (xs ys : List Int) (o : Int) (k : Nat) : ∀ m, ∃ r, hits xs ys o (k + m) = hits xs ys o k ++ r
  | 0 => ⟨[], by rw [List.append_nil]; rfl⟩
  | m + 1 => by
    obtain ⟨r, e⟩ := hits_more xs ys o k m
    refine ⟨r ++ (if rot xs (o + ((k + m : Nat) : Int)) = ys then [o + ((k + m : Nat) : Int)] else []), ?_⟩
    rw [← List.append_assoc, ← e]
    rfl
theorem hits_head {xs ys : List Int} {o : Int} {k n : Nat} (h0 : hits xs ys o k = []) (h : rot xs (o + (k : Int)) = ys) (hk : k < n) : ∃ r, hits xs ys o n = (o + (k : Int)) :: r := by
  obtain ⟨r, e⟩ := hits_more xs ys o (k + 1) (n - (k + 1))
  rw [show k + 1 + (n - (k + 1)) = n by omega, hits_yes h, h0] at e
  exact ⟨r, e⟩
theorem hits_shift (xs ys : List Int) (o : Int) : ∀ k, hits xs ys o k = (hits (rot xs o) ys 0 k).map (o + ·)
  | 0 => rfl
  | k + 1 => by
    have e : rot (rot xs o) (0 + (k : Int)) = rot xs (o + (k : Int)) := by rw [rot_add, show o + (0 + (k : Int)) = o + (k : Int) by omega]
    by_cases q : rot xs (o + (k : Int)) = ys
    · rw [hits_yes q, hits_yes (by rw [e]; exact q), hits_shift xs ys o k, List.map_append]
      simp
    · rw [hits_no q, hits_no (by rw [e]; exact q), hits_shift xs ys o k]
theorem hits_all {xs ys : List Int} {o : Int} : ∀ {k : Nat}, ∀ t ∈ hits xs ys o k, o ≤ t ∧ t < o + (k : Int)
  | 0, t, h => by cases h
  | k + 1, t, h => by
    rw [hits] at h
    rcases List.mem_append.mp h with h | h
    · have := hits_all t h
      omega
    · split at h
      · have := List.mem_singleton.mp h
        omega
      · cases h
theorem hits_len (xs ys : List Int) (o : Int) : ∀ k, (hits xs ys o k).length ≤ k
  | 0 => Nat.le_refl _
  | k + 1 => by
    have := hits_len xs ys o k
    rw [hits, List.length_append]
    split
    · simp only [List.length_singleton]; omega
    · simp only [List.length_nil]; omega
theorem hits_ab {xs ys : List Int} {o : Int} {k : Nat} (h0 : 0 ≤ o) (ho : o ≤ 10) (hk : k ≤ 1000) : Ab 100 (hits xs ys o k) := fun t ht => by
  have := hits_all t ht
  exact Nat.lt_of_lt_of_le (m := 1100) (by omega) (by decide)
/-- the period -/
def perL (ns : List Int) : List Int := hits ns ns 1 ns.length
theorem per_ex {ns : List Int} (h : 1 ≤ ns.length) : ∃ p r, perL ns = p :: r := by
  unfold perL
  cases e : hits ns ns 1 ns.length with
  | cons p r => exact ⟨p, r, rfl⟩
  | nil =>
    exfalso
    obtain ⟨k, hk⟩ : ∃ k, ns.length = k + 1 := ⟨ns.length - 1, by omega⟩
    rw [hk, hits_yes (by rw [show (1 : Int) + (k : Int) = ((k + 1 : Nat) : Int) by omega, ← hk]; exact rot_full ns)] at e
    have := congrArg List.length e
    simp at this

/-! ### rows of new lists -/
inductive Rows (H H' : Hp) : List V → List (List Int) → Prop
  | nil : Rows H H' [] []
  | cons {l : Addr} {m : List Int} {vs : List V} {S : List (List Int)} : H l = none → H' l = some (.lst (m.map V.int)) → Rows H H' vs S → Rows H H' (.ref l :: vs) (m :: S)
theorem Rows.up {H H1 H2 : Hp} {vs : List V} {S : List (List Int)} (h : Rows H H1 vs S) (s : Same H1 H2) : Rows H H2 vs S := by
  induction h with
  | nil => exact .nil
  | cons a b _ ih => exact .cons a (s _ _ b) ih
theorem Rows.down {H0 H H1 : Hp} {vs : List V} {S : List (List Int)} (h : Rows H H1 vs S) (s : Same H0 H) : Rows H0 H1 vs S := by
  induction h with
  | nil => exact .nil
  | cons a b _ ih => exact .cons (s.free a) b ih
theorem Rows.snoc {H H1 : Hp} {vs : List V} {S : List (List Int)} {l : Addr} {m : List Int} (h : Rows H H1 vs S) (a : H l = none) (b : H1 l = some (.lst (m.map V.int))) : Rows H H1 (vs ++ [.ref l]) (S ++ [m]) := by
  induction h with
  | nil => exact .cons a b .nil
  | cons c d _ ih => exact .cons c d ih
theorem Rows.app {H H1 : Hp} {vs ws : List V} {S T : List (List Int)} (h : Rows H H1 vs S) (k : Rows H H1 ws T) : Rows H H1 (vs ++ ws) (S ++ T) := by
  induction h with
  | nil => exact k
  | cons c d _ ih => exact .cons c d ih
theorem Rows.len {H H1 : Hp} {vs : List V} {S : List (List Int)} (h : Rows H H1 vs S) : vs.length = S.length := by
  induction h with
  | nil => rfl
  | cons _ _ _ ih => rw [List.length_cons, List.length_cons, ih]
theorem Rows.dp {K : PySem.W.Frag} {H H1 : Hp} {vs : List V} {S : List (List Int)} (h : Rows H H1 vs S) : DpAll K H1 vs (S.map dI) := by
  induction h with
  | nil => exact .nil
  | cons _ b _ ih => exact .cons (dp_ints (SqL.of b)) ih
theorem Rows.at {H H1 : Hp} {vs : List V} {S : List (List Int)} (h : Rows H H1 vs S) {i : Nat} {v : V} (hv : vs[i]? = some v) : ∃ l m, v = .ref l ∧ S[i]? = some m ∧ H l = none ∧ H1 l = some (.lst (m.map V.int)) := by
  induction h generalizing i with
  | nil => simp at hv
  | cons a b _ ih =>
    cases i with
    | zero =>
      have e := Option.some.inj (show some _ = some _ from hv)
      subst e
      exact ⟨_, _, rfl, rfl, a, b⟩
    | succ i => exact ih (i := i) (by simpa using hv)
theorem take_map_next {f : Nat → List Int} {n i : Nat} (h : i < n) : ((List.range n).map f).take i ++ [f i] = ((List.range n).map f).take (i + 1) := by
  rw [List.take_add_one, List.getElem?_map, List.getElem?_range h]
  rfl
theorem rows_over {H H1 : Hp} {vs : List V} {S : List (List Int)} {D : Addr} {o : HO} (h : Rows H H1 vs S) (k : ∀ l, V.ref l ∈ vs → l ≠ D) : Rows H (upd H1 D o) vs S := by
  induction h with
  | nil => exact .nil
  | cons a b _ ih => exact .cons a (by rw [upd_ne (k _ List.mem_cons_self)]; exact b) (ih fun l hl => k l (List.mem_cons_of_mem _ hl))
theorem Rows.ne {H H1 : Hp} {vs : List V} {S : List (List Int)} {D : Addr} {o : HO} (h : Rows H H1 vs S) (e : H1 D = some (.lst vs)) : ∀ l, V.ref l ∈ vs → l ≠ D := by
  intro l hl z
  subst z
  have : ∀ {ws : List V} {T : List (List Int)}, Rows H H1 ws T → V.ref l ∈ ws → ∃ m : List Int, H1 l = some (.lst (m.map V.int)) := by
    intro ws T h2
    induction h2 with
    | nil => intro z; cases z
    | cons a b _ ih =>
      intro z
      rcases List.mem_cons.mp z with z | z
      · cases z
        exact ⟨_, b⟩
      · exact ih z
  obtain ⟨m, hm⟩ := this h hl
  rw [e] at hm
  have hm : vs = m.map V.int := by
    have := Option.some.inj hm
    injection this
  rw [hm] at hl
  obtain ⟨i, _, z⟩ := List.mem_map.mp hl
  cases z
theorem Rim.of_both {ns m : List Int} (h : Rim ns) (hm : m ∈ bothL ns) : Rim m := by
  obtain ⟨t, rfl | rfl⟩ := (mem_both h.pos).mp hm
  · exact h.rot t
  · exact h.mir.rot t
theorem tank_free {T : Addr} {H H' : Hp} {c d : Int} {p : Addr} (u : But T H H') (k : Tank H T c) (k' : Tank H' T d) (h : H' p = none) : H p = none := by
  obtain ⟨o, e⟩ := k.some
  obtain ⟨o', e'⟩ := k'.some
  exact free_but u e h (by rw [e']; exact fun z => nomatch z)
/-- one of some new lists -/
def OneOf (H H' : Hp) (T : Addr) (n : Nat) (v : V) : Prop := ∃ (l : Addr) (ms : List Int), v = .ref l ∧ H l = none ∧ l ≠ T ∧ H' l = some (.lst (ms.map V.int)) ∧ Rim ms ∧ ms.length = n
theorem OneOf.but {H H1 H2 : Hp} {T : Addr} {n : Nat} {v : V} (h : OneOf H H1 T n v) (u : But T H1 H2) : OneOf H H2 T n v := by
  obtain ⟨l, ms, e, a, b, c, d, f⟩ := h
  exact ⟨l, ms, e, a, b, u _ _ c b, d, f⟩
theorem at_any {xs : List V} {i : Int} (h0 : 0 ≤ i) (h1 : i < xs.length) : ∃ v, v ∈ xs ∧ atI xs i = some v := by
  obtain ⟨j, rfl⟩ : ∃ j : Nat, i = (j : Int) := ⟨i.toNat, by omega⟩
  have h3 : j < xs.length := by omega
  exact ⟨xs[j], List.getElem_mem h3, atI_nat (List.getElem?_eq_getElem h3)⟩
theorem rows_step {H H1 H2 : Hp} {D l : Addr} {vs : List V} {S : List (List Int)} {i : Nat} {m : List Int} (hD : H D = none) (s1 : Same H H1) (hD1 : H1 D = some (.lst vs)) (hr1 : Rows H H1 vs (S.take i)) (s2 : Same H1 H2) (hl : H1 l = none) (hl2 : H2 l = some (.lst (m.map V.int))) (hi : S[i]? = some m) :
    Same H (upd H2 D (.lst (vs ++ [.ref l]))) ∧ Rows H (upd H2 D (.lst (vs ++ [.ref l]))) (vs ++ [.ref l]) (S.take (i + 1)) := by
  refine ⟨same_over (s1.trans s2) hD, ?_⟩
  have nl : l ≠ D := fun e => by
    rw [e, hD1] at hl
    cases hl
  have hr3 := hr1.up s2
  have hr4 := rows_over (o := .lst (vs ++ [.ref l])) hr3 (hr3.ne (o := .lst vs) (s2 _ _ hD1))
  have := hr4.snoc (s1.free hl) (m := m) (by rw [upd_ne nl]; exact hl2)
  rw [List.take_add_one, hi]
  exact this
theorem turns_at {ns : List Int} {i : Nat} (h : i < ns.length) : (turnsL ns)[i]? = some (rot ns (0 + (i : Int))) := by
  unfold turnsL
  rw [List.getElem?_map, List.getElem?_range h, Int.zero_add]
  rfl
theorem rows_fit {H H1 : Hp} {vs : List V} {S : List (List Int)} {i n : Nat} (h : Rows H H1 vs (S.take i)) (hn : S.length = n) (hk : n ≤ 100000) : vs.length < sizeLine := by
  have := h.len
  rw [List.length_take] at this
  exact sz40 (by omega)
/-- the answers, as data -/
def ansD (p hs : List Int) (m m2 : List Int) (x : Bool) : PyData := .list [headD p, headD hs, dI m, dI m2, .bool x]
theorem rp_bl (x : Bool) : RP (.bool x) := ⟨by simp only [PyData.showable], by simp only [PyData.hasDict], by simp only [PyData.canLay0], by simp only [PyData.depth]; omega⟩
theorem depth_head : ∀ l : List Int, (headD l).depth ≤ 1
  | [] => by simp only [headD, PyData.depth]; omega
  | _ :: _ => by simp only [headD, PyData.depth]; omega
theorem shown_head {l : List Int} (h : Ab 100 l) : (headD l).shown.length ≤ 100000 := by
  cases l with
  | nil => decide +kernel
  | cons x r => exact Nat.le_trans (shown_int (Nat.lt_of_lt_of_le (h x List.mem_cons_self) (pow_up (by decide)))) (by decide)
theorem ansD_rp {p hs m m2 : List Int} {x : Bool} (h1 : Ab 100 p) (h2 : Ab 100 hs) (h3 : Rim m) (h4 : Rim m2) : RP (ansD p hs m m2 x) ∧ (ansD p hs m m2 x).shown.length ≤ sizeLine := by
  have d3 := dp_ints_depth h3.abs
  have d4 := dp_ints_depth h4.abs
  refine ⟨((RPs.cons (rp_head h1) (depth_head p) (RPs.cons (rp_head h2) (depth_head hs) (RPs.cons h3.rp d3 (RPs.cons h4.rp d4 (RPs.cons (rp_bl x) (by simp only [PyData.depth]; omega) RPs.nil))))).list (by omega)).1, ?_⟩
  have e := shown_list (B := 100000) (ds := [headD p, headD hs, dI m, dI m2, .bool x]) fun d hd => by
    simp only [List.mem_cons, List.not_mem_nil, or_false] at hd
    rcases hd with rfl | rfl | rfl | rfl | rfl
    · exact shown_head h1
    · exact shown_head h2
    · have := shown_ints h3.abs
      have := h3.le
      omega
    · have := shown_ints h4.abs
      have := h4.le
      omega
    · cases x <;> decide +kernel
  exact fit_le (Nat.le_trans e (by show (100000 + 2) * 5 + 3 ≤ 16000000; decide))
theorem ansD_dp {K : PySem.W.Frag} {H : Hp} {l a b : Addr} {p hs m m2 : List Int} {x : Bool} (h : SqL K H l [headV p, headV hs, .ref a, .ref b, .bl x]) (ha : SqL K H a (m.map V.int)) (hb : SqL K H b (m2.map V.int)) : Dp K H (.ref l) (ansD p hs m m2 x) :=
  .lst h (.cons (dp_head p) (.cons (dp_head hs) (.cons (dp_ints ha) (.cons (dp_ints hb) (.cons (.bl x) .nil)))))
theorem atI_cons {v : V} {vs : List V} : atI (v :: vs) 0 = some v := atI_nat (j := 0) rfl
theorem perL_ab {ns : List Int} (h : ns.length ≤ 40) : Ab 100 (perL ns) := hits_ab (by decide) (by decide) (by omega)
theorem inD {X : Cx} {K : PySem.W.Frag} (h : X.K = K) {k : Nat} (hr : Room k X.A) : OpR X (compareOp .In) (rInD K) := h ▸ op_inD (by have := hr.un; omega)
end Sd

namespace Sd
open PySem PySem.Spec PyProof.Rows L2

/-! ### lights of turned and of mirrored discs -/
def cutAt (l : List Int) (b : Int) : Nat := ((0 - b) % (l.length : Int)).toNat
theorem on_rot {l : List Int} (b : Int) (h : 1 ≤ l.length) : l.drop (cutAt l b) ++ l.take (cutAt l b) = rot l b := by
  have hm := mod_in (i := 0 - b) (show 0 < l.length by omega)
  have hc : ((cutAt l b : Nat) : Int) = (0 - b) % (l.length : Int) := Int.toNat_of_nonneg hm.1
  generalize cutAt l b = c at hc
  have hcl : c < l.length := by omega
  refine ext_getD ?_ fun j hj => ?_
  · rw [List.length_append, List.length_drop, List.length_take, rot_len]
    omega
  · rw [List.length_append, List.length_drop, List.length_take] at hj
    have hj : j < l.length := by omega
    rw [rot_get hj]
    have e : ((j : Int) - b) % (l.length : Int) = ((c : Int) + j) % (l.length : Int) := by
      rw [hc, Int.emod_add_emod]
      exact congrArg (· % (l.length : Int)) (by omega)
    rw [e]
    rw [List.getD_eq_getElem?_getD, List.getD_eq_getElem?_getD]
    by_cases q : j < l.length - c
    · rw [List.getElem?_append_left (by rw [List.length_drop]; exact q), List.getElem?_drop, Int.emod_eq_of_lt (by omega) (by omega)]
      rw [show ((c : Int) + (j : Int)).toNat = c + j by omega]
    · rw [List.getElem?_append_right (by rw [List.length_drop]; omega), List.length_drop, List.getElem?_take_of_lt (by omega)]
      rw [show ((c : Int) + (j : Int)) = ((j - (l.length - c) : Nat) : Int) + (l.length : Int) by omega, Int.add_emod_right, Int.emod_eq_of_lt (by omega) (by omega), Int.toNat_natCast]
theorem sum_rot (l : List Int) (b : Int) : (rot l b).sum = l.sum := by
  by_cases h : 1 ≤ l.length
  · rw [← on_rot b h, List.sum_append, Int.add_comm, ← List.sum_append, List.take_append_drop]
  · have : l = [] := List.length_eq_zero_iff.mp (by omega)
    subst this
    rfl
theorem mir_cut {l : List Int} (h : 1 ≤ l.length) : l.take 1 ++ (l.drop 1).reverse = mir l := by
  refine ext_getD ?_ fun j hj => ?_
  · rw [List.length_append, List.length_reverse, List.length_drop, List.length_take, mir_len]
    omega
  · rw [List.length_append, List.length_reverse, List.length_drop, List.length_take] at hj
    have hj : j < l.length := by omega
    rw [mir_get hj, List.getD_eq_getElem?_getD, List.getD_eq_getElem?_getD]
    by_cases q : j = 0
    · subst q
      rw [List.getElem?_append_left (by rw [List.length_take]; omega), List.getElem?_take_of_lt (by omega)]
      rw [show (-((0 : Nat) : Int)) % (l.length : Int) = 0 by simp]
      rfl
    · rw [List.getElem?_append_right (by rw [List.length_take]; omega), List.length_take, List.getElem?_reverse (by rw [List.length_drop]; omega), List.length_drop, List.getElem?_drop]
      have e : (-(j : Int)) % (l.length : Int) = (l.length : Int) - j := by
        rw [← Int.add_emod_right, Int.emod_eq_of_lt (by omega) (by omega)]
        omega
      rw [e]
      rw [show 1 + (l.length - 1 - 1 - (j - min 1 l.length)) = ((l.length : Int) - (j : Int)).toNat by omega]
theorem sum_mir (l : List Int) : (mir l).sum = l.sum := by
  by_cases h : 1 ≤ l.length
  · rw [← mir_cut h, List.sum_append, List.sum_reverse, ← List.sum_append, List.take_append_drop]
  · have : l = [] := List.length_eq_zero_iff.mp (by omega)
    subst this
    rfl
theorem prods_get {a b : List Int} {j : Nat} (h1 : j < a.length) (h2 : j < b.length) : (prods a b).getD j 0 = a.getD j 0 * b.getD j 0 := getD_at (prods_at (at_getD h1) (at_getD h2))
theorem prods_rot {a b : List Int} (hl : a.length = b.length) (s : Int) : prods (rot a s) (rot b s) = rot (prods a b) s := by
  have lp : (prods a b).length = a.length := by rw [prods_len]; omega
  refine ext_getD (by rw [prods_len, rot_len, rot_len, rot_len, lp]; omega) fun j hj => ?_
  rw [prods_len, rot_len, rot_len] at hj
  have hm := mod_in (i := (j : Int) - s) (show 0 < a.length by omega)
  rw [prods_get (by rw [rot_len]; omega) (by rw [rot_len]; omega), rot_get (by omega), rot_get (by omega), rot_get (by omega), lp, ← hl, prods_get (by omega) (by omega)]
theorem prods_mir {a b : List Int} (hl : a.length = b.length) : prods (mir a) (mir b) = mir (prods a b) := by
  have lp : (prods a b).length = a.length := by rw [prods_len]; omega
  refine ext_getD (by rw [prods_len, mir_len, mir_len, mir_len, lp]; omega) fun j hj => ?_
  rw [prods_len, mir_len, mir_len] at hj
  have hm := mod_in (i := -(j : Int)) (show 0 < a.length by omega)
  rw [prods_get (by rw [mir_len]; omega) (by rw [mir_len]; omega), mir_get (by omega), mir_get (by omega), mir_get (by omega), lp, ← hl, prods_get (by omega) (by omega)]
theorem prods_comm (a b : List Int) : prods a b = prods b a := by
  unfold prods
  exact List.zipWith_comm_of_comm Int.mul_comm
theorem light_rot2 (ns ms : List Int) (b t : Int) : lightV ns (rot ms b) t = lightV ns ms (t + b) := by
  unfold lightV
  rw [rot_add, Int.add_comm]
theorem light_rot1 {ns ms : List Int} (hl : ns.length = ms.length) (b t : Int) : lightV (rot ns b) ms t = lightV ns ms (t - b) := by
  unfold lightV
  rw [show rot ms t = rot (rot ms (t - b)) b by rw [rot_add, show t - b + b = t by omega], prods_rot (by rw [rot_len]; exact hl), sum_rot]
theorem light_mir {ns ms : List Int} (hl : ns.length = ms.length) (t : Int) : lightV (mir ns) (mir ms) t = lightV ns ms (-t) := by
  unfold lightV
  rw [show rot (mir ms) t = mir (rot ms (-t)) by rw [mir_rot, Int.neg_neg], prods_mir (by rw [rot_len]; exact hl), sum_mir]
theorem light_swap {ns ms : List Int} (hl : ns.length = ms.length) (t : Int) : lightV ms ns t = lightV ns ms (-t) := by
  have e := light_rot1 hl t 0
  rw [show (0 : Int) - t = -t by omega] at e
  rw [← e]
  unfold lightV
  rw [rot_zero, prods_comm]
theorem lights_get {ns ms : List Int} {i : Nat} (h : i < ns.length) : (lightsV ns ms).getD i 0 = lightV ns ms (i : Int) := getD_at (lightsV_at h)
theorem lights_getM {ns ms : List Int} (hl : ns.length = ms.length) (h1 : 1 ≤ ns.length) (t : Int) : (lightsV ns ms).getD ((t % (ns.length : Int)).toNat) 0 = lightV ns ms t := by
  have hm := mod_in (i := t) (show 0 < ns.length by omega)
  rw [lights_get (by omega), Int.toNat_of_nonneg hm.1, hl, lightV_mod]
theorem lights_rotG {ns ms as bs : List Int} (hl : ns.length = ms.length) (ha : as.length = ns.length) (b : Int) (h : ∀ t, lightV as bs t = lightV ns ms (t - b)) : lightsV as bs = rot (lightsV ns ms) b := by
  refine ext_getD (by rw [rot_len, lightsV_len, lightsV_len, ha]) fun j hj => ?_
  rw [lightsV_len] at hj
  rw [lights_get hj, rot_get (by rw [lightsV_len]; omega), lightsV_len, lights_getM hl (by omega), h]
theorem lights_mirG {ns ms as bs : List Int} (hl : ns.length = ms.length) (ha : as.length = ns.length) (h : ∀ t, lightV as bs t = lightV ns ms (-t)) : lightsV as bs = mir (lightsV ns ms) := by
  refine ext_getD (by rw [mir_len, lightsV_len, lightsV_len, ha]) fun j hj => ?_
  rw [lightsV_len] at hj
  rw [lights_get hj, mir_get (by rw [lightsV_len]; omega), lightsV_len, lights_getM hl (by omega), h]
theorem lights_rot2 {ns ms : List Int} (hl : ns.length = ms.length) (b : Int) : lightsV ns (rot ms b) = rot (lightsV ns ms) (0 - b) :=
  lights_rotG hl rfl _ fun t => by rw [light_rot2, show t - (0 - b) = t + b by omega]
theorem lights_rot1 {ns ms : List Int} (hl : ns.length = ms.length) (b : Int) : lightsV (rot ns b) ms = rot (lightsV ns ms) b :=
  lights_rotG hl (rot_len _ _) _ fun t => light_rot1 hl b t
theorem lights_both {ns ms : List Int} (hl : ns.length = ms.length) (b : Int) : lightsV (rot ns b) (rot ms b) = lightsV ns ms := by
  have := lights_rotG (as := rot ns b) (bs := rot ms b) hl (rot_len _ _) 0 fun t => by rw [light_rot2, light_rot1 hl, show t + b - b = t - 0 by omega]
  rw [this, rot_zero]
theorem lights_mir {ns ms : List Int} (hl : ns.length = ms.length) : lightsV (mir ns) (mir ms) = mir (lightsV ns ms) := lights_mirG hl (mir_len _) fun t => light_mir hl t
theorem lights_swap {ns ms : List Int} (hl : ns.length = ms.length) : lightsV ms ns = mir (lightsV ns ms) := lights_mirG hl hl.symm fun t => light_swap hl t
theorem steps_rot2 (ns ms : List Int) (b f st : Int) (k : Nat) : stepsV ns (rot ms b) f st k = stepsV ns ms (f + b) st k := by
  unfold stepsV
  refine List.map_congr_left fun i _ => ?_
  rw [light_rot2, show f + st * (i : Int) + b = f + b + st * (i : Int) by omega]
theorem far_rot2 {ns ms : List Int} (hl : ns.length = ms.length) (b f st N : Int) : farV ns (rot ms b) f st N = farV ns ms ((f + b) % (ns.length : Int)) st N := by
  unfold farV
  rw [steps_rot2, hl, stepsV_mod]

/-! ### the period -/
theorem hits_congr {xs ys xs' ys' : List Int} {o : Int} (h : ∀ t, rot xs t = ys ↔ rot xs' t = ys') : ∀ k, hits xs ys o k = hits xs' ys' o k
  | 0 => rfl
  | k + 1 => by
    by_cases q : rot xs (o + (k : Int)) = ys
    · rw [hits_yes q, hits_yes ((h _).mp q), hits_congr h k]
    · rw [hits_no q, hits_no (fun z => q ((h _).mpr z)), hits_congr h k]
theorem hits_first {xs ys : List Int} {o p : Int} {r : List Int} : ∀ {k : Nat}, hits xs ys o k = p :: r → rot xs p = ys ∧ o ≤ p ∧ p < o + (k : Int) ∧ ∀ t, o ≤ t → t < p → ¬ rot xs t = ys
  | 0, h => by cases h
  | k + 1, h => by
    by_cases q : rot xs (o + (k : Int)) = ys
    · rw [hits_yes q] at h
      cases e : hits xs ys o k with
      | nil =>
        rw [e] at h
        have hp := (List.cons.inj h).1
        subst hp
        refine ⟨q, by omega, by omega, fun t h1 h2 z => ?_⟩
        have : ∀ {k : Nat} {t : Int}, o ≤ t → t < o + (k : Int) → rot xs t = ys → hits xs ys o k ≠ [] := by
            intro k
            induction k with
            | zero => intro t a b _; omega
            | succ k ih =>
              intro t a b z e
              by_cases c : t = o + (k : Int)
              · subst c
                rw [hits_yes z] at e
                have := congrArg List.length e
                simp at this
              · refine ih a (by omega) z ?_
                rw [hits] at e
                exact (List.append_eq_nil_iff.mp e).1
        exact this h1 h2 z e
      | cons p' r' =>
        rw [e] at h
        have hp : p' = p := (List.cons.inj h).1
        subst hp
        obtain ⟨a, b, c, d⟩ := hits_first (k := k) e
        exact ⟨a, b, by omega, d⟩
    · rw [hits_no q] at h
      obtain ⟨a, b, c, d⟩ := hits_first (k := k) h
      exact ⟨a, b, by omega, d⟩
theorem hits_ex {xs ys : List Int} {o t : Int} : ∀ {k : Nat}, o ≤ t → t < o + (k : Int) → rot xs t = ys → ∃ p r, hits xs ys o k = p :: r
  | 0, a, b, _ => by omega
  | k + 1, a, b, z => by
    by_cases c : t = o + (k : Int)
    · subst c
      rw [hits_yes z]
      cases hits xs ys o k with
      | nil => exact ⟨_, _, rfl⟩
      | cons p r => exact ⟨_, _, rfl⟩
    · obtain ⟨p, r, e⟩ := hits_ex (k := k) a (by omega) z
      rw [hits, e]
      exact ⟨_, _, rfl⟩
theorem rot_inj {ns : List Int} {s t : Int} (h : rot ns s = rot ns t) : rot ns (s - t) = ns := by
  have e := congrArg (fun l => rot l (0 - t)) h
  simp only [rot_add] at e
  rw [show t + (0 - t) = 0 by omega, rot_zero, show s + (0 - t) = s - t by omega] at e
  exact e
/-- what the period is -/
structure Per (ns : List Int) (p : Int) : Prop where
  fix : rot ns p = ns
  pos : 1 ≤ p
  le : p ≤ ns.length
  low : ∀ t, 1 ≤ t → t < p → ¬ rot ns t = ns
theorem per_of {ns : List Int} {p : Int} {r : List Int} (h : perL ns = p :: r) : Per ns p := by
  unfold perL at h
  obtain ⟨a, b, c, d⟩ := hits_first h
  exact ⟨a, b, by omega, d⟩
theorem Per.mul {ns : List Int} {p : Int} (h : Per ns p) : ∀ q : Nat, rot ns (p * (q : Int)) = ns
  | 0 => by rw [show p * ((0 : Nat) : Int) = 0 by simp, rot_zero]
  | q + 1 => by
    rw [show p * ((q + 1 : Nat) : Int) = p * (q : Int) + p by rw [Int.natCast_succ, Int.mul_add, Int.mul_one], ← rot_add, h.mul q, h.fix]
theorem Per.mulZ {ns : List Int} {p : Int} (h : Per ns p) (q : Int) : rot ns (p * q) = ns := by
  rcases Int.eq_nat_or_neg q with ⟨k, e | e⟩
  · rw [e]
    exact h.mul k
  · have e2 := rot_inj (ns := ns) (s := 0) (t := p * (k : Int)) (by rw [rot_zero, h.mul k])
    rw [show (0 : Int) - p * (k : Int) = p * q by rw [e, Int.mul_neg]; omega] at e2
    exact e2
theorem Per.mod {ns : List Int} {p : Int} (h : Per ns p) (t : Int) : rot ns (t % p) = rot ns t := by
  have e := Int.mul_ediv_add_emod t p
  have e2 : rot (rot ns (p * (t / p))) (t % p) = rot ns t := by rw [rot_add, e]
  rw [h.mulZ] at e2
  exact e2
theorem Per.zero {ns : List Int} {p : Int} (h : Per ns p) {t : Int} (e : rot ns t = ns) : t % p = 0 := by
  have hp := h.pos
  have a := Int.emod_nonneg t (show p ≠ 0 by omega)
  have b := Int.emod_lt_of_pos t (show 0 < p by omega)
  rw [← h.mod] at e
  by_cases c : 1 ≤ t % p
  · exact absurd e (h.low _ c b)
  · omega
theorem Per.dvd {ns : List Int} {p : Int} (h : Per ns p) : (ns.length : Int) % p = 0 := h.zero (rot_full ns)
/-- the least turn from one to the other lies below the period -/
theorem Per.first {ns ms : List Int} {p q : Int} {r : List Int} {k : Nat} (h : Per ns p) (e : hits ns ms 0 k = q :: r) : 0 ≤ q ∧ q < p ∧ rot ns q = ms := by
  obtain ⟨a, b, _, d⟩ := hits_first e
  have hp := h.pos
  have m0 := Int.emod_nonneg q (show p ≠ 0 by omega)
  have m1 := Int.emod_lt_of_pos q (show 0 < p by omega)
  refine ⟨b, ?_, a⟩
  by_cases c : q < p
  · exact c
  · exact absurd (by rw [h.mod]; exact a) (d (q % p) m0 (by omega))
theorem Per.between {ns : List Int} {p q b : Int} {r : List Int} {k : Nat} (h : Per ns p) (e : hits ns (rot ns b) 0 k = q :: r) : q = b % p := by
  obtain ⟨q0, q1, q2⟩ := h.first e
  have z := h.zero (rot_inj q2)
  have e2 : q % p = b % p := Int.emod_eq_emod_iff_emod_sub_eq_zero.mpr z
  rw [Int.emod_eq_of_lt q0 q1] at e2
  exact e2
theorem per_rot {ns : List Int} (b : Int) : perL (rot ns b) = perL ns := by
  unfold perL
  rw [rot_len]
  refine hits_congr (fun t => ?_) _
  rw [rot_add]
  constructor
  · intro h
    have := rot_inj h
    rw [show b + t - b = t by omega] at this
    exact this
  · intro h
    rw [show b + t = t + b by omega, ← rot_add, h]
theorem per_mir {ns : List Int} : perL (mir ns) = perL ns := by
  unfold perL
  rw [mir_len]
  refine hits_congr (fun t => ?_) _
  have key : ∀ {xs : List Int} {t : Int}, rot xs t = xs → rot (mir xs) t = mir xs := fun {xs t} h => by
    have e := congrArg mir h
    rw [mir_rot] at e
    have e2 := rot_inj (ns := mir xs) (s := 0) (t := -t) (by rw [rot_zero, e])
    rw [show (0 : Int) - -t = t by omega] at e2
    exact e2
  constructor
  · intro h
    have := key h
    rw [mir_mir] at this
    exact this
  · exact key

/-! ### sorted lists -/
theorem sorted_eq : ∀ {a b : List Int}, a.Perm b → a.Pairwise (· ≤ ·) → b.Pairwise (· ≤ ·) → a = b
  | [], b, p, _, _ => (List.nil_perm.mp p).symm
  | x :: a, b, p, ha, hb => by
    cases b with
    | nil => exact absurd p.length_eq (by simp)
    | cons y b =>
      have h1 := List.pairwise_cons.mp ha
      have h2 := List.pairwise_cons.mp hb
      have e : x = y := by
        rcases List.mem_cons.mp (p.mem_iff.mp List.mem_cons_self) with e | e
        · exact e
        · rcases List.mem_cons.mp (p.mem_iff.mpr List.mem_cons_self) with e' | e'
          · exact e'.symm
          · have := h1.1 y e'
            have := h2.1 x e
            omega
      subst e
      rw [sorted_eq p.cons_inv h1.2 h2.2]
theorem perm_mem : ∀ {a b : List Int}, a.Nodup → b.Nodup → (∀ x, x ∈ a ↔ x ∈ b) → a.Perm b
  | [], b, _, _, h => by
    cases b with
    | nil => exact .nil
    | cons y b => exact absurd ((h y).mpr List.mem_cons_self) (List.not_mem_nil)
  | x :: a, b, ha, hb, h => by
    have h1 := List.nodup_cons.mp ha
    have hx : x ∈ b := (h x).mp List.mem_cons_self
    have p := List.perm_cons_erase hx
    refine List.Perm.trans (List.Perm.cons x (perm_mem h1.2 (hb.erase x) fun y => ?_)) p.symm
    rw [hb.mem_erase_iff]
    constructor
    · intro hy
      exact ⟨fun e => h1.1 (by rw [← e]; exact hy), (h y).mp (List.mem_cons_of_mem _ hy)⟩
    · rintro ⟨n, hy⟩
      rcases List.mem_cons.mp ((h y).mpr hy) with e | e
      · exact absurd e n
      · exact e
theorem mem_places {p : Int → Bool} {ns : List Int} {k : Nat} {x : Int} : x ∈ places p ns k ↔ ∃ i : Nat, x = (i : Int) ∧ i < k ∧ p (ns.getD i 0) = true := by
  unfold places
  constructor
  · intro h
    obtain ⟨i, hi, rfl⟩ := List.mem_map.mp h
    have := List.mem_filter.mp hi
    exact ⟨i, rfl, List.mem_range.mp this.1, this.2⟩
  · rintro ⟨i, rfl, h1, h2⟩
    exact List.mem_map.mpr ⟨i, List.mem_filter.mpr ⟨List.mem_range.mpr h1, h2⟩, rfl⟩
theorem places_sorted (p : Int → Bool) (ns : List Int) (k : Nat) : (places p ns k).Pairwise (· < ·) := by
  unfold places
  rw [List.pairwise_map]
  refine List.Pairwise.imp (fun {a b} h => by show (a : Int) < (b : Int); omega) (List.Pairwise.filter _ List.pairwise_lt_range)
theorem nodup_lt {l : List Int} (h : l.Pairwise (· < ·)) : l.Nodup := List.Pairwise.imp (fun {a b} h e => by omega) h
/-- the brightest turns of the turned one -/
theorem brights_rot {ns ms : List Int} (hl : ns.length = ms.length) (h1 : 1 ≤ ns.length) (b m : Int) {s : List Int}
    (hp : s.Perm ((places (fun x => decide (x = m)) (lightsV ns ms) ns.length).map fun one => (one - b) % (ns.length : Int))) (hs : s.Pairwise (· ≤ ·)) :
    places (fun x => decide (x = m)) (lightsV ns (rot ms b)) ns.length = s := by
  refine sorted_eq (List.Perm.trans (perm_mem (nodup_lt (places_sorted _ _ _)) ?_ fun x => ?_) hp.symm) (List.Pairwise.imp (fun {a b} h => by omega) (places_sorted _ _ _)) hs
  · rw [List.Nodup, List.pairwise_map]
    refine List.Pairwise.imp_of_mem (fun {x y} hx hy hxy e => ?_) (places_sorted _ _ _)
    obtain ⟨i, rfl, hi, _⟩ := mem_places.mp hx
    obtain ⟨j, rfl, hj, _⟩ := mem_places.mp hy
    have e2 := Int.emod_eq_emod_iff_emod_sub_eq_zero.mp e
    rw [show (i : Int) - b - ((j : Int) - b) = (i : Int) - j by omega] at e2
    have e3 := Int.emod_eq_emod_iff_emod_sub_eq_zero.mpr e2
    rw [Int.emod_eq_of_lt (by omega) (by omega), Int.emod_eq_of_lt (by omega) (by omega)] at e3
    omega
  · rw [mem_places, List.mem_map]
    constructor
    · rintro ⟨i, rfl, hi, hq⟩
      have hm := mod_in (i := (i : Int) + b) (show 0 < ns.length by omega)
      refine ⟨((i : Int) + b) % (ns.length : Int), mem_places.mpr ⟨(((i : Int) + b) % (ns.length : Int)).toNat, by omega, by omega, ?_⟩, ?_⟩
      · rw [lights_getM hl h1]
        rw [lights_get hi, light_rot2] at hq
        exact hq
      · rw [Int.emod_sub_emod, show (i : Int) + b - b = i by omega, Int.emod_eq_of_lt (by omega) (by omega)]
    · rintro ⟨x', hx, rfl⟩
      obtain ⟨i, rfl, hi, hq⟩ := mem_places.mp hx
      have hm := mod_in (i := (i : Int) - b) (show 0 < ns.length by omega)
      refine ⟨(((i : Int) - b) % (ns.length : Int)).toNat, by omega, by omega, ?_⟩
      rw [lights_get (by omega), Int.toNat_of_nonneg hm.1, light_rot2]
      rw [lights_get hi] at hq
      rw [← lightV_mod, ← hl, Int.emod_add_emod, hl, lightV_mod, show (i : Int) - b + b = i by omega]
      exact hq
end Sd

namespace Sd
open PySem PySem.Spec PyProof.Rows L2

/-! ### data of any kind, with empty dicts -/
mutual
inductive Dq (H : Hp) : V → PyData → Prop
  | non : Dq H .non .none
  | bl (b : Bool) : Dq H (.bl b) (.bool b)
  | int (i : Int) : Dq H (.int i) (.int i)
  | str (x : Str) : Dq H (.str x) (.str x)
  | lst {a : Addr} {xs : List V} {ds : List PyData} : H a = some (.lst xs) → DqAll H xs ds → Dq H (.ref a) (.list ds)
  | tup {a : Addr} {xs : List V} {ds : List PyData} : H a = some (.tup xs) → DqAll H xs ds → Dq H (.ref a) (.tuple ds)
  | emp {a : Addr} : H a = some (.dK []) → Dq H (.ref a) (.dict [])
inductive DqAll (H : Hp) : List V → List PyData → Prop
  | nil : DqAll H [] []
  | cons {v : V} {vs : List V} {d : PyData} {ds : List PyData} : Dq H v d → DqAll H vs ds → DqAll H (v :: vs) (d :: ds)
end
mutual
theorem Dq.same {H H' : Hp} (s : Same H H') : ∀ {v : V} {d : PyData}, Dq H v d → Dq H' v d
  | _, _, .non => .non
  | _, _, .bl b => .bl b
  | _, _, .int i => .int i
  | _, _, .str x => .str x
  | _, _, .lst h1 h2 => .lst (s _ _ h1) (DqAll.same s h2)
  | _, _, .tup h1 h2 => .tup (s _ _ h1) (DqAll.same s h2)
  | _, _, .emp h => .emp (s _ _ h)
theorem DqAll.same {H H' : Hp} (s : Same H H') : ∀ {vs : List V} {ds : List PyData}, DqAll H vs ds → DqAll H' vs ds
  | _, _, .nil => .nil
  | _, _, .cons h1 h2 => .cons (Dq.same s h1) (DqAll.same s h2)
end
section
variable {X : Cx} {pins : List (Addr × Obj)} {σ : L2.St} {H : Hp} {s : Shared}
theorem emp_reads (I : Inv X pins σ H s) {a : Addr} (h : H a = some (.dK [])) : Reads s.heap (.ref a) (.dict []) (a :: [] ++ []) ∧ sysModules ∉ (a :: [] ++ [] : List Addr) ∧ s.TypeIs (.ref a) "dict" := by
  obtain ⟨_, hsys, vs, kv, o, es, ep, e, ex, ed, _, pr, _⟩ := (show ObjOk X.prog X.w H s.heap a (.dK []) from I.hok a _ h)
  cases kv
  have he : es.toList = [] := by
    cases hl : es.toList with
    | nil => rfl
    | cons x l =>
      rw [hl] at pr
      cases pr
  refine ⟨.dict e ex.1 ed ?_ ?_, ?_, ⟨o, e, ex.1⟩⟩
  · rw [he]
    exact .nil
  · rw [he]
    exact .nil
  · intro z
    simp only [List.append_nil, List.mem_cons, List.not_mem_nil, or_false] at z
    rw [← z] at hsys
    exact absurd hsys (by decide)
mutual
theorem reprK_q (I : Inv X pins σ H s) : ∀ (d : PyData) (v : V) (u : Value), Dq H v d → RelV v u → d.showable = true → d.shown.length ≤ sizeLine →
    ∃ as bs, Reads s.heap u d as ∧ ReadAtMost s.heap d.depth bs ∧ ReprK X.prog X.w bs s.heap d.depth u d.shown
  | .none, _, u, q, r, hs, hz => by
    cases q
    cases r
    obtain ⟨bs, h1, h2⟩ := ReprK.of_reads (prog := X.prog) (w := X.w) (Reads.none (h := s.heap)) hs (fun z => by simp only [PyData.hasDict] at z; cases z) hz
    exact ⟨_, bs, .none, h1, h2⟩
  | .bool b, _, u, q, r, hs, hz => by
    cases q
    cases r
    obtain ⟨bs, h1, h2⟩ := ReprK.of_reads (prog := X.prog) (w := X.w) (Reads.bool (h := s.heap) b) hs (fun z => by simp only [PyData.hasDict] at z; cases z) hz
    exact ⟨_, bs, .bool b, h1, h2⟩
  | .int i, _, u, q, r, hs, hz => by
    cases q
    obtain ⟨t, rfl⟩ := r
    obtain ⟨bs, h1, h2⟩ := ReprK.of_reads (prog := X.prog) (w := X.w) (Reads.int (h := s.heap) i t) hs (fun z => by simp only [PyData.hasDict] at z; cases z) hz
    exact ⟨_, bs, .int i t, h1, h2⟩
  | .str x, _, u, q, r, hs, hz => by
    cases q
    obtain ⟨t, rfl⟩ := r
    obtain ⟨bs, h1, h2⟩ := ReprK.of_reads (prog := X.prog) (w := X.w) (Reads.str (h := s.heap) x t) hs (fun z => by simp only [PyData.hasDict] at z; cases z) hz
    exact ⟨_, bs, .str x t, h1, h2⟩
  | .dict kvs, _, u, q, r, hs, hz => by
    cases q with
    | emp h =>
      cases r
      obtain ⟨rd, ns, _⟩ := emp_reads I h
      obtain ⟨bs, h1, h2⟩ := ReprK.of_reads (prog := X.prog) (w := X.w) rd hs (fun _ => ns) hz
      exact ⟨_, bs, rd, h1, h2⟩
  | .list ds, _, u, q, r, hs, hz => by
    cases q with
    | lst h hq =>
      cases r
      obtain ⟨_, its, n, rv, e⟩ := (show ObjOk X.prog X.w H s.heap _ (.lst _) from I.hok _ _ h)
      have hz2 : (listText (PyData.shownAll ds)).length ≤ sizeLine := by simpa only [PyData.shown] using hz
      obtain ⟨as, bs, ra, hb, hk⟩ := reprAllK_q I ds _ its hq rv (by simpa [PyData.showable] using hs) fun t ht => Nat.le_trans (listText_mem_le ht) hz2
      have rd : Reads s.heap (.ref _) (.list ds) _ := .list e rfl rfl ra
      have hna := not_mem_of_deeper rd (by simp only [PyData.depth]; omega) hb
      refine ⟨_, _, rd, ReadAtMost.cons rd (by simp only [PyData.depth]; omega) hb, ?_⟩
      simp only [PyData.depth, PyData.shown]
      cases its with
      | nil =>
        cases ra
        simp only [PyData.shownAll, listText_nil]
        exact ReprK.listEmpty e rfl rfl
      | cons y l => exact ReprK.list e rfl rfl hna (by simpa using hk.length_eq) fun i y e => hk.item i y (by simpa using e)
  | .tuple ds, _, u, q, r, hs, hz => by
    cases q with
    | tup h hq =>
      cases r
      obtain ⟨_, its, rv, o, e, hc, n, hd⟩ := (show ObjOk X.prog X.w H s.heap _ (.tup _) from I.hok _ _ h)
      have hz2 : (tupleText (PyData.shownAll ds)).length ≤ sizeLine := by simpa only [PyData.shown] using hz
      obtain ⟨as, bs, ra, hb, hk⟩ := reprAllK_q I ds _ its hq rv (by simpa [PyData.showable] using hs) fun t ht => Nat.le_trans (tupleText_mem_le ht) hz2
      have rd : Reads s.heap (.ref _) (.tuple ds) _ := .tuple e hc hd ra
      have hna := not_mem_of_deeper rd (by simp only [PyData.depth]; omega) hb
      refine ⟨_, _, rd, ReadAtMost.cons rd (by simp only [PyData.depth]; omega) hb, ?_⟩
      simp only [PyData.depth, PyData.shown]
      exact ReprK.tuple e hc hd hna hk
theorem reprAllK_q (I : Inv X pins σ H s) : ∀ (ds : List PyData) (vs : List V) (us : List Value), DqAll H vs ds → Vals vs us → PyData.showableAll ds = true → (∀ t ∈ PyData.shownAll ds, t.length ≤ sizeLine) →
    ∃ as bs, ReadsAll s.heap us ds as ∧ ReadAtMost s.heap (PyData.depthAll ds) bs ∧ ReprAllK X.prog X.w bs s.heap (PyData.depthAll ds) us (PyData.shownAll ds)
  | [], _, us, q, r, _, _ => by
    cases q
    cases r
    exact ⟨[], [], .nil, (fun _ h => nomatch h), by simp only [PyData.shownAll]; exact .nil⟩
  | d :: ds, _, us, q, r, hs, hz => by
    cases q with
    | cons q1 q2 =>
      cases r with
      | cons r1 r2 =>
        have hs2 : d.showable = true ∧ PyData.showableAll ds = true := by simpa [PyData.showableAll] using hs
        obtain ⟨a1, b1, x1, y1, k1⟩ := reprK_q I d _ _ q1 r1 hs2.1 (hz _ (by simp only [PyData.shownAll]; exact List.mem_cons_self))
        obtain ⟨a2, b2, x2, y2, k2⟩ := reprAllK_q I ds _ _ q2 r2 hs2.2 fun t ht => hz t (by simp only [PyData.shownAll]; exact List.mem_cons_of_mem _ ht)
        refine ⟨_, b1 ++ b2, .cons x1 x2, (y1.mono ?_).append (y2.mono ?_), ?_⟩
        · simp only [PyData.depthAll]
          omega
        · simp only [PyData.depthAll]
          omega
        · simp only [PyData.depthAll, PyData.shownAll]
          exact .cons ((k1.more fun b hb => List.mem_append_left _ hb).level_le (by omega)) (k2.more_le (fun b hb => List.mem_append_right _ hb) (by omega))
end
/-- repr of any such thing -/
def rReprQ : List V → Hp → VK → Prop := fun xs H Q => ∃ (x : V) (d : PyData), xs = [x] ∧ Dq H x d ∧ d.showable = true ∧ d.depth ≤ 32 ∧ d.shown.length ≤ sizeLine ∧ Q (.str d.shown) H
theorem reprQ {X : Cx} (hA : X.A.guards = some []) {k : Nat} (hr : Room k X.A) : CallR X (.builtin "repr") rReprQ := by
  intro pins s σ H xs us Q I r h
  obtain ⟨x, d, rfl, hd, h1, h3, h4, q⟩ := h
  have hu := hr.units
  have flat : ∀ {d : PyData}, Dp X.K H x d → d.showable = true → d.hasDict = false → d.depth ≤ 32 → d.shown.length ≤ sizeLine → Q (.str d.shown) H → wpAny (model X.prog X.w) X.A (call (.builtin "repr") us) (EP X pins σ Q) X.xe s := fun a b c e f g =>
    reprV rfl hA hr pins s σ H _ us Q I r ⟨x, _, rfl, a, b, c, e, f, g⟩
  cases hd with
  | non => exact flat .non h1 rfl h3 h4 q
  | bl b => exact flat (.bl b) h1 (by simp only [PyData.hasDict]) h3 h4 q
  | int i => exact flat (.int i) h1 (by simp only [PyData.hasDict]) h3 h4 q
  | str y => exact flat (.str y) h1 (by simp only [PyData.hasDict]) h3 h4 q
  | emp ha =>
    cases r with
    | cons r1 r2 =>
      cases r2
      cases r1
      obtain ⟨rd, ns, _⟩ := emp_reads I ha
      exact repr_of_reads' rd h1 (fun _ => ns) hA (by omega) (fun _ _ e => e) (fun h' u tk kp => ⟨.str (PyData.shown (.dict [])), H, I.kept (t' := tk) kp, ⟨u, rfl⟩, q⟩) h4
  | @lst a xs ds ha hq =>
    cases r with
    | cons r1 r2 =>
      cases r2
      cases r1
      obtain ⟨_, its, n, rv, e⟩ := (show ObjOk X.prog X.w H s.heap a (.lst xs) from I.hok a _ ha)
      have hz2 : (listText (PyData.shownAll ds)).length ≤ sizeLine := by simpa only [PyData.shown] using h4
      obtain ⟨as, bs, ra, hb, hk⟩ := reprAllK_q I ds _ its hq rv (by simpa [PyData.showable] using h1) fun t ht => Nat.le_trans (listText_mem_le ht) hz2
      have rd : Reads s.heap (.ref a) (.list ds) _ := .list e rfl rfl ra
      have hna := not_mem_of_deeper rd (by simp only [PyData.depth]; omega) hb
      have hdp : PyData.depthAll ds + 1 ≤ 32 := by simpa only [PyData.depth] using h3
      simp only [PyData.shown] at q
      refine call_repr_slot (by omega) ⟨_, e, rfl⟩ F.slot_list_repr.toG ?_
      cases its with
      | nil =>
        cases ra
        simp only [PyData.shownAll, listText_nil] at q
        exact call_list_repr_empty ⟨_, e, rfl⟩ e rfl ⟨_, _, rfl, .str "[]", H, I.tok _, ⟨_, rfl⟩, q⟩
      | cons y l =>
        exact call_list_reprK e rfl rfl hna (by simpa using hk.length_eq) (fun i y e => hk.item i y (by simpa using e)) hA (fun b _ => Clear.nil b) (by show X.A.units + 1 + _ < cLine; omega) (fun _ _ e => e)
          (fun h' u tk kp => ⟨_, _, rfl, .str (listText (PyData.shownAll ds)), H, I.kept (t' := tk) kp, ⟨u, rfl⟩, q⟩) hz2
  | @tup a xs ds ha hq =>
    cases r with
    | cons r1 r2 =>
      cases r2
      cases r1
      obtain ⟨_, its, rv, o, e, hc, n, hd⟩ := (show ObjOk X.prog X.w H s.heap a (.tup xs) from I.hok a _ ha)
      have hz2 : (tupleText (PyData.shownAll ds)).length ≤ sizeLine := by simpa only [PyData.shown] using h4
      obtain ⟨as, bs, ra, hb, hk⟩ := reprAllK_q I ds _ its hq rv (by simpa [PyData.showable] using h1) fun t ht => Nat.le_trans (tupleText_mem_le ht) hz2
      have rd : Reads s.heap (.ref a) (.tuple ds) _ := .tuple e hc hd ra
      have hna := not_mem_of_deeper rd (by simp only [PyData.depth]; omega) hb
      have hdp : PyData.depthAll ds + 1 ≤ 32 := by simpa only [PyData.depth] using h3
      simp only [PyData.shown] at q
      refine call_repr_slot (by omega) ⟨_, e, hc⟩ F.slot_tuple_repr ?_
      exact call_tuple_reprK e hc hd hna hk hA (fun b _ => Clear.nil b) (by show X.A.units + 1 + _ < cLine; omega) (fun _ _ e => e)
          (fun h' u tk kp => ⟨_, _, rfl, .str (tupleText (PyData.shownAll ds)), H, I.kept (t' := tk) kp, ⟨u, rfl⟩, q⟩) hz2
end
end Sd

namespace Sd
open PySem PySem.Spec PyProof.Rows L2

/-! ### what isinstance says of data -/
def tyQ : PyData → String
  | .none => "NoneType"
  | .bool _ => "bool"
  | .int _ => "int"
  | .str _ => "str"
  | .list _ => "list"
  | .tuple _ => "tuple"
  | .dict _ => "dict"
def intQ : PyData → Bool
  | .int _ => true
  | .bool _ => true
  | _ => false
def boolQ : PyData → Bool
  | .bool _ => true
  | _ => false
def listQ : PyData → Bool
  | .list _ => true
  | _ => false
theorem kit_intQ {K : PySem.W.Frag} (d : PyData) : PySem.W.kitOne K (.type (tyQ d)) (.type "int") = some (intQ d) := by
  cases d with
  | none => exact kit_ty (show kitB "NoneType" "int" = some false by decide +kernel)
  | bool _ => exact kit_ty (show kitB "bool" "int" = some true by decide +kernel)
  | int _ => exact kit_ty (show kitB "int" "int" = some true by decide +kernel)
  | str _ => exact kit_ty (show kitB "str" "int" = some false by decide +kernel)
  | list _ => exact kit_ty (show kitB "list" "int" = some false by decide +kernel)
  | tuple _ => exact kit_ty (show kitB "tuple" "int" = some false by decide +kernel)
  | dict _ => exact kit_ty (show kitB "dict" "int" = some false by decide +kernel)
theorem kit_boolQ {K : PySem.W.Frag} (d : PyData) : PySem.W.kitOne K (.type (tyQ d)) (.type "bool") = some (boolQ d) := by
  cases d with
  | none => exact kit_ty (show kitB "NoneType" "bool" = some false by decide +kernel)
  | bool _ => exact kit_ty (show kitB "bool" "bool" = some true by decide +kernel)
  | int _ => exact kit_ty (show kitB "int" "bool" = some false by decide +kernel)
  | str _ => exact kit_ty (show kitB "str" "bool" = some false by decide +kernel)
  | list _ => exact kit_ty (show kitB "list" "bool" = some false by decide +kernel)
  | tuple _ => exact kit_ty (show kitB "tuple" "bool" = some false by decide +kernel)
  | dict _ => exact kit_ty (show kitB "dict" "bool" = some false by decide +kernel)
theorem kit_listQ {K : PySem.W.Frag} (d : PyData) : PySem.W.kitOne K (.type (tyQ d)) (.type "list") = some (listQ d) := by
  cases d with
  | none => exact kit_ty (show kitB "NoneType" "list" = some false by decide +kernel)
  | bool _ => exact kit_ty (show kitB "bool" "list" = some false by decide +kernel)
  | int _ => exact kit_ty (show kitB "int" "list" = some false by decide +kernel)
  | str _ => exact kit_ty (show kitB "str" "list" = some false by decide +kernel)
  | list _ => exact kit_ty (show kitB "list" "list" = some true by decide +kernel)
  | tuple _ => exact kit_ty (show kitB "tuple" "list" = some false by decide +kernel)
  | dict _ => exact kit_ty (show kitB "dict" "list" = some false by decide +kernel)
theorem ty_q {K : PySem.W.Frag} {H : Hp} {v : V} {d : PyData} (q : Dq H v d) : TyX K H v (.type (tyQ d)) := by
  cases q with
  | non => exact .base .non
  | bl b => exact .base (.bl b)
  | int i => exact .base (.int i)
  | str x => exact .base (.str x)
  | lst h _ => exact .base (.lst h)
  | tup h _ => exact .base (.tup h)
  | emp h => exact .base (.dK h)
/-- an item that a slot of a disc can have -/
def okS (top : Int) : PyData → Bool
  | .int i => decide (0 ≤ i) && decide (i ≤ top)
  | _ => false
/-- a disc with items up to top -/
def discQ (top : Int) : PyData → Bool
  | .list ds => decide (1 ≤ ds.length) && decide (ds.length ≤ 40) && ds.all (okS top)
  | _ => false
def slotsQ : PyData → Bool
  | .list ds => decide (1 ≤ ds.length) && decide (ds.length ≤ 40)
  | _ => false
theorem DqAll.length {H : Hp} : ∀ {xs : List V} {ds : List PyData}, DqAll H xs ds → xs.length = ds.length
  | _, _, .nil => rfl
  | _, _, .cons _ h => congrArg Nat.succ (DqAll.length h)
theorem DqAll.at {H : Hp} : ∀ {xs : List V} {ds : List PyData} {i : Nat} {x : V}, DqAll H xs ds → xs[i]? = some x → ∃ d, ds[i]? = some d ∧ Dq H x d
  | _, _, _, _, .nil, e => by simp at e
  | _, _, 0, _, .cons h _, e => by
    simp at e
    subst e
    exact ⟨_, rfl, h⟩
  | _, _, i + 1, x, .cons _ h, e => by
    obtain ⟨d, h1, h2⟩ := DqAll.at (i := i) (x := x) h (by simpa using e)
    exact ⟨d, by simpa using h1, h2⟩
theorem DqAll.ints {H : Hp} {top : Int} : ∀ {xs : List V} {ds : List PyData}, DqAll H xs ds → ds.all (okS top) = true → ∃ ns : List Int, xs = ns.map V.int ∧ ns.length = ds.length ∧ ds = ns.map PyData.int ∧ ∀ n ∈ ns, 0 ≤ n ∧ n ≤ top
  | _, _, .nil, _ => ⟨[], rfl, rfl, rfl, fun n hn => (List.not_mem_nil hn).elim⟩
  | _, _, .cons (d := d) h hs, e => by
    rw [List.all_cons, Bool.and_eq_true] at e
    obtain ⟨ns, h1, h2, h3, h4⟩ := DqAll.ints hs e.2
    cases h with
    | int i =>
      have e1 := (Bool.and_eq_true _ _).mp e.1
      refine ⟨i :: ns, by rw [h1]; rfl, congrArg Nat.succ h2, by rw [h3]; rfl, fun n hn => ?_⟩
      rcases List.mem_cons.mp hn with z | z
      · rw [z]
        exact ⟨of_decide_eq_true e1.1, of_decide_eq_true e1.2⟩
      · exact h4 n z
    | non => exact absurd e.1 (by show ¬ false = true; decide)
    | bl b => exact absurd e.1 (by show ¬ false = true; decide)
    | str x => exact absurd e.1 (by show ¬ false = true; decide)
    | lst _ _ => exact absurd e.1 (by show ¬ false = true; decide)
    | tup _ _ => exact absurd e.1 (by show ¬ false = true; decide)
    | emp _ => exact absurd e.1 (by show ¬ false = true; decide)
theorem ints_ok {top : Int} : ∀ {ns : List Int}, (ns.map PyData.int).all (okS top) = true ↔ ∀ n ∈ ns, 0 ≤ n ∧ n ≤ top
  | [] => by simp
  | n :: ns => by
    have ih := ints_ok (top := top) (ns := ns)
    rw [List.map_cons, List.all_cons, Bool.and_eq_true, ih]
    constructor
    · intro h m hm
      have e1 := (Bool.and_eq_true _ _).mp h.1
      rcases List.mem_cons.mp hm with z | z
      · rw [z]
        exact ⟨of_decide_eq_true e1.1, of_decide_eq_true e1.2⟩
      · exact h.2 m z
    · intro h
      have h1 := h n List.mem_cons_self
      exact ⟨(Bool.and_eq_true _ _).mpr ⟨decide_eq_true h1.1, decide_eq_true h1.2⟩, fun m hm => h m (List.mem_cons_of_mem _ hm)⟩
/-- what holds of all items up to i, one more -/
theorem all_next {p : PyData → Bool} {ds : List PyData} {i : Nat} {d : PyData} (e : ds[i]? = some d) (h : (ds.take i).all p = true) : (ds.take (i + 1)).all p = p d := by
  rw [List.take_add_one, e, List.all_append, h]
  simp
theorem all_no {p : PyData → Bool} {ds : List PyData} {i : Nat} {d : PyData} (e : ds[i]? = some d) (h : p d = false) : ds.all p = false := by
  cases z : ds.all p with
  | false => rfl
  | true =>
    rw [List.all_eq_true.mp z d (List.mem_of_getElem? e)] at h
    cases h

/-! ### things beside a tank -/
def mask (t : Addr) (H : Hp) : Hp := fun b => if b = t then none else H b
theorem mask_ne {t b : Addr} {H : Hp} (h : b ≠ t) : mask t H b = H b := if_neg h
theorem mask_same (t : Addr) (H : Hp) : Same (mask t H) H := fun b o e => by
  unfold mask at e
  split at e
  · cases e
  · exact e
theorem mask_but {t : Addr} {H H' : Hp} (u : But t H H') : Same (mask t H) (mask t H') := fun b o e => by
  unfold mask at e ⊢
  split at e
  · cases e
  · rename_i n
    rw [if_neg n]
    exact u b o e n
/-- an item; a thing -/
def El (t : Addr) (H : Hp) (v : V) : Prop := ∃ d, Dq (mask t H) v d ∧ d.showable = true ∧ d.depth ≤ 1 ∧ d.shown.length ≤ 1100
def Th (t : Addr) (H : Hp) (v : V) : Prop := ∃ d, Dq (mask t H) v d ∧ d.showable = true ∧ d.depth ≤ 3 ∧ d.shown.length ≤ 300000
theorem El.but {t : Addr} {H H' : Hp} {v : V} (h : El t H v) (u : But t H H') : El t H' v := let ⟨d, q, r⟩ := h; ⟨d, q.same (mask_but u), r⟩
theorem Th.but {t : Addr} {H H' : Hp} {v : V} (h : Th t H v) (u : But t H H') : Th t H' v := let ⟨d, q, r⟩ := h; ⟨d, q.same (mask_but u), r⟩
theorem El.th {t : Addr} {H : Hp} {v : V} (h : El t H v) : Th t H v := let ⟨d, q, r1, r2, r3⟩ := h; ⟨d, q, r1, by omega, by omega⟩
theorem el_non {t : Addr} {H : Hp} : El t H .non := ⟨.none, .non, rfl, by decide, by decide +kernel⟩
theorem el_bl {t : Addr} {H : Hp} (b : Bool) : El t H (.bl b) := ⟨.bool b, .bl b, by simp only [PyData.showable], by simp only [PyData.depth]; omega, by cases b <;> decide +kernel⟩
theorem el_int {t : Addr} {H : Hp} {i : Int} (h : i.natAbs < 2 ^ 1000) : El t H (.int i) := ⟨.int i, .int i, (rp_int h).sh, by simp only [PyData.depth]; omega, by have := shown_int h; omega⟩
theorem el_emp {t : Addr} {H : Hp} {a : Addr} (h : H a = some (.dK [])) (n : a ≠ t) : El t H (.ref a) := ⟨.dict [], .emp (by rw [mask_ne n]; exact h), by decide, by decide, by decide +kernel⟩
/-- items all told -/
theorem els {t : Addr} {H : Hp} : ∀ {xs : List V}, (∀ x ∈ xs, El t H x) → ∃ ds, DqAll (mask t H) xs ds ∧ PyData.showableAll ds = true ∧ PyData.depthAll ds ≤ 1 ∧ ∀ d ∈ ds, d.shown.length ≤ 1100
  | [], _ => ⟨[], .nil, by simp only [PyData.showableAll], by simp only [PyData.depthAll]; omega, fun d hd => (List.not_mem_nil hd).elim⟩
  | x :: xs, h => by
    obtain ⟨d, q, r1, r2, r3⟩ := h x List.mem_cons_self
    obtain ⟨ds, p1, p2, p3, p4⟩ := els (xs := xs) fun y hy => h y (List.mem_cons_of_mem _ hy)
    refine ⟨d :: ds, .cons q p1, by simp only [PyData.showableAll, r1, p2, Bool.and_self], by simp only [PyData.depthAll]; omega, fun e he => ?_⟩
    rcases List.mem_cons.mp he with z | z
    · rw [z]
      exact r3
    · exact p4 e z
theorem th_list {t : Addr} {H : Hp} {p : Addr} {xs : List V} (h : H p = some (.lst xs)) (n : p ≠ t) (hl : xs.length ≤ 200) (hx : ∀ x ∈ xs, El t H x) : Th t H (.ref p) := by
  obtain ⟨ds, p1, p2, p3, p4⟩ := els hx
  have e := p1.length
  refine ⟨.list ds, .lst (by rw [mask_ne n]; exact h) p1, by simp only [PyData.showable, p2], by simp only [PyData.depth]; omega, ?_⟩
  have := shown_list p4
  omega
theorem shown_tuple {B : Nat} {ds : List PyData} (h : ∀ d ∈ ds, d.shown.length ≤ B) : (PyData.tuple ds).shown.length ≤ (B + 2) * ds.length + 3 := by
  simp only [PyData.shown]
  have e3 : (((if (PyData.shownAll ds).length == 1 then ",)" else ")" : String) : Str)).length ≤ 2 := by split <;> decide +kernel
  have e1 : ((("(" : String) : Str)).length = 1 := rfl
  unfold tupleText
  rw [strLen_append, strLen_append, e1]
  have h2 : piled (PyData.shownAll ds) ≤ (B + 2) * ds.length := by
    unfold piled
    have := sum_bound (B := B + 2) (l := (PyData.shownAll ds).map fun t => t.length + 2) fun x hx => by
      obtain ⟨s, hs, rfl⟩ := List.mem_map.mp hx
      rw [shownAll_map] at hs
      obtain ⟨d, hd, rfl⟩ := List.mem_map.mp hs
      have := h d hd
      omega
    rw [List.length_map, shownAll_map, List.length_map] at this
    rw [shownAll_map] at *
    exact this
  by_cases z : PyData.shownAll ds = []
  · rw [z] at e3 ⊢
    have : (Str.join ", " []).length = 0 := by decide +kernel
    omega
  · have := join_length_add (PyData.shownAll ds) z
    omega
theorem th_tuple {t : Addr} {H : Hp} {p : Addr} {xs : List V} (h : H p = some (.tup xs)) (n : p ≠ t) (hl : xs.length ≤ 200) (hx : ∀ x ∈ xs, El t H x) : Th t H (.ref p) := by
  obtain ⟨ds, p1, p2, p3, p4⟩ := els hx
  have e := p1.length
  refine ⟨.tuple ds, .tup (by rw [mask_ne n]; exact h) p1, by simp only [PyData.showable, p2], by simp only [PyData.depth]; omega, ?_⟩
  have := shown_tuple p4
  omega
/-- [thing] -/
theorem th_one {t : Addr} {H : Hp} {p b : Addr} {ns : List Int} (h : H p = some (.lst [.ref b])) (n : p ≠ t) (hb : H b = some (.lst (ns.map V.int))) (nb : b ≠ t) (hl : ns.length ≤ 40) (hx : ∀ n ∈ ns, n.natAbs < 2 ^ 1000) : Th t H (.ref p) := by
  obtain ⟨ds, p1, p2, p3, p4⟩ := els (t := t) (H := H) (xs := ns.map V.int) fun x hxx => by
    obtain ⟨m, hm, rfl⟩ := List.mem_map.mp hxx
    exact el_int (hx m hm)
  have e := p1.length
  rw [List.length_map] at e
  have z := shown_list p4
  refine ⟨.list [.list ds], .lst (by rw [mask_ne n]; exact h) (.cons (.lst (by rw [mask_ne nb]; exact hb) p1) .nil), by simp only [PyData.showable, PyData.showableAll, p2, Bool.and_self], by simp only [PyData.depth, PyData.depthAll]; omega, ?_⟩
  have z2 := shown_list (B := 1102 * 40 + 3) (ds := [.list ds]) fun d hd => by
    rw [List.mem_singleton.mp hd]
    omega
  exact Nat.le_trans z2 (by show (1102 * 40 + 3 + 2) * 1 + 3 ≤ 300000; decide)
/-- [1], (1,) as items -/
theorem el_list1 {t : Addr} {H : Hp} {p : Addr} (h : H p = some (.lst [.int 1])) (n : p ≠ t) : El t H (.ref p) := ⟨.list [.int 1], .lst (by rw [mask_ne n]; exact h) (.cons (.int 1) .nil), by decide, by decide, by decide +kernel⟩
theorem el_list0 {t : Addr} {H : Hp} {p : Addr} (h : H p = some (.lst [])) (n : p ≠ t) : El t H (.ref p) := ⟨.list [], .lst (by rw [mask_ne n]; exact h) .nil, by decide, by decide, by decide +kernel⟩
theorem el_tup1 {t : Addr} {H : Hp} {p : Addr} (h : H p = some (.tup [.int 1])) (n : p ≠ t) : El t H (.ref p) := ⟨.tuple [.int 1], .tup (by rw [mask_ne n]; exact h) (.cons (.int 1) .nil), by decide, by decide, by decide +kernel⟩
theorem el_tup0 {t : Addr} {H : Hp} {p : Addr} (h : H p = some (.tup [])) (n : p ≠ t) : El t H (.ref p) := ⟨.tuple [], .tup (by rw [mask_ne n]; exact h) .nil, by decide, by decide, by decide +kernel⟩
theorem el_ints {t : Addr} {H : Hp} {ns : List Int} (h : ∀ n ∈ ns, n.natAbs < 2 ^ 1000) : ∀ x ∈ ns.map V.int, El t H x := fun x hx => by
  obtain ⟨m, hm, rfl⟩ := List.mem_map.mp hx
  exact el_int (h m hm)
theorem _root_.L2.Same.seqT {K : PySem.W.Frag} {H H' : Hp} {a : Addr} {xs : List V} (s : Same H H') (h : H a = some (.tup xs)) : SqT K H' a xs := SqT.of (s _ _ h)
end Sd

namespace Sd
open PySem PySem.Spec PyProof.Rows L2

/-! ### polynomials, lowest power first -/
/-- f times low taken away from l at s, s + 1 .. s + j - 1 -/
def subI (low : List Int) (f : Int) (s : Nat) : Nat → List Int → List Int
  | 0, l => l
  | j + 1, l => (subI low f s j l).set (s + j) ((subI low f s j l).getD (s + j) 0 - f * low.getD j 0)
/-- so many steps of the division, from the top: quotient behind, rest in front -/
def divN (low : List Int) : Nat → List Int → List Int
  | 0, l => l
  | k + 1, l => divN low k (subI low (l.getD (low.length - 1 + k) 0) k (low.length - 1) l)
def divL (low l : List Int) : List Int := divN low (l.length - (low.length - 1)) l
def quo (low l : List Int) : List Int := (divL low l).drop (low.length - 1)
def rst (low l : List Int) : List Int := (divL low l).take (low.length - 1)
theorem subI_len (low : List Int) (f : Int) (s : Nat) : ∀ (j : Nat) (l : List Int), (subI low f s j l).length = l.length
  | 0, _ => rfl
  | j + 1, l => by
    rw [subI, List.length_set, subI_len low f s j l]
theorem divN_len (low : List Int) : ∀ (k : Nat) (l : List Int), (divN low k l).length = l.length
  | 0, _ => rfl
  | k + 1, l => by
    rw [divN, divN_len low k, subI_len]
theorem divL_len (low l : List Int) : (divL low l).length = l.length := divN_len _ _ _
theorem quo_len (low l : List Int) : (quo low l).length = l.length - (low.length - 1) := by
  unfold quo
  rw [List.length_drop, divL_len]
theorem rst_len (low l : List Int) : (rst low l).length = min (low.length - 1) l.length := by
  unfold rst
  rw [List.length_take, divL_len]
/-- what lies behind stays -/
theorem subI_get (low : List Int) (f : Int) (s : Nat) : ∀ (j : Nat) (l : List Int) (i : Nat), s + j ≤ i → (subI low f s j l)[i]? = l[i]?
  | 0, _, _, _ => rfl
  | j + 1, l, i, h => by
    rw [subI, List.getElem?_set_ne (by omega)]
    exact subI_get low f s j l i (by omega)
theorem subI_drop (low : List Int) (f : Int) (s j : Nat) (l : List Int) {i : Nat} (h : s + j ≤ i) : (subI low f s j l).drop i = l.drop i := by
  refine List.ext_getElem? fun k => ?_
  rw [List.getElem?_drop, List.getElem?_drop, subI_get low f s j l (i + k) (by omega)]
/-- the table of C(1) to C(40) -/
def cycT : List (List Int) := [[], [-1, 1], [1, 1], [1, 1, 1], [1, 0, 1], [1, 1, 1, 1, 1], [1, -1, 1], [1, 1, 1, 1, 1, 1, 1], [1, 0, 0, 0, 1], [1, 0, 0, 1, 0, 0, 1], [1, -1, 1, -1, 1], [1, 1, 1, 1, 1, 1, 1, 1, 1, 1, 1], [1, 0, -1, 0, 1], [1, 1, 1, 1, 1, 1, 1, 1, 1, 1, 1, 1, 1], [1, -1, 1, -1, 1, -1, 1], [1, -1, 0, 1, -1, 1, 0, -1, 1], [1, 0, 0, 0, 0, 0, 0, 0, 1], [1, 1, 1, 1, 1, 1, 1, 1, 1, 1, 1, 1, 1, 1, 1, 1, 1], [1, 0, 0, -1, 0, 0, 1], [1, 1, 1, 1, 1, 1, 1, 1, 1, 1, 1, 1, 1, 1, 1, 1, 1, 1, 1], [1, 0, -1, 0, 1, 0, -1, 0, 1], [1, -1, 0, 1, -1, 0, 1, 0, -1, 1, 0, -1, 1], [1, -1, 1, -1, 1, -1, 1, -1, 1, -1, 1], [1, 1, 1, 1, 1, 1, 1, 1, 1, 1, 1, 1, 1, 1, 1, 1, 1, 1, 1, 1, 1, 1, 1], [1, 0, 0, 0, -1, 0, 0, 0, 1], [1, 0, 0, 0, 0, 1, 0, 0, 0, 0, 1, 0, 0, 0, 0, 1, 0, 0, 0, 0, 1], [1, -1, 1, -1, 1, -1, 1, -1, 1, -1, 1, -1, 1], [1, 0, 0, 0, 0, 0, 0, 0, 0, 1, 0, 0, 0, 0, 0, 0, 0, 0, 1], [1, 0, -1, 0, 1, 0, -1, 0, 1, 0, -1, 0, 1], [1, 1, 1, 1, 1, 1, 1, 1, 1, 1, 1, 1, 1, 1, 1, 1, 1, 1, 1, 1, 1, 1, 1, 1, 1, 1, 1, 1, 1], [1, 1, 0, -1, -1, -1, 0, 1, 1], [1, 1, 1, 1, 1, 1, 1, 1, 1, 1, 1, 1, 1, 1, 1, 1, 1, 1, 1, 1, 1, 1, 1, 1, 1, 1, 1, 1, 1, 1, 1], [1, 0, 0, 0, 0, 0, 0, 0, 0, 0, 0, 0, 0, 0, 0, 0, 1], [1, -1, 0, 1, -1, 0, 1, -1, 0, 1, -1, 1, 0, -1, 1, 0, -1, 1, 0, -1, 1], [1, -1, 1, -1, 1, -1, 1, -1, 1, -1, 1, -1, 1, -1, 1, -1, 1], [1, -1, 0, 0, 0, 1, -1, 1, -1, 0, 1, -1, 1, -1, 1, 0, -1, 1, -1, 1, 0, 0, 0, -1, 1], [1, 0, 0, 0, 0, 0, -1, 0, 0, 0, 0, 0, 1], [1, 1, 1, 1, 1, 1, 1, 1, 1, 1, 1, 1, 1, 1, 1, 1, 1, 1, 1, 1, 1, 1, 1, 1, 1, 1, 1, 1, 1, 1, 1, 1, 1, 1, 1, 1, 1], [1, -1, 1, -1, 1, -1, 1, -1, 1, -1, 1, -1, 1, -1, 1, -1, 1, -1, 1], [1, -1, 0, 1, -1, 0, 1, -1, 0, 1, -1, 0, 1, 0, -1, 1, 0, -1, 1, 0, -1, 1, 0, -1, 1], [1, 0, 0, 0, -1, 0, 0, 0, 1, 0, 0, 0, -1, 0, 0, 0, 1]]
def cyc (p : Nat) : List Int := cycT.getD p []
/-- low coefficients are 1, 0 or -1 -/
def Unt (l : List Int) : Prop := ∀ x ∈ l, -1 ≤ x ∧ x ≤ 1
theorem cyc_all : ∀ p, p < 41 → 1 ≤ p → (2 ≤ (cyc p).length ∧ (cyc p).length ≤ p + 1 ∧ (cyc p).all (fun x => decide (-1 ≤ x ∧ x ≤ 1)) = true) := by decide +kernel
theorem cyc_len {p : Nat} (h1 : 1 ≤ p) (h : p ≤ 40) : 2 ≤ (cyc p).length ∧ (cyc p).length ≤ p + 1 := ⟨(cyc_all p (by omega) h1).1, (cyc_all p (by omega) h1).2.1⟩
theorem cyc_unt {p : Nat} (h1 : 1 ≤ p) (h : p ≤ 40) : Unt (cyc p) := fun x hx => of_decide_eq_true (List.all_eq_true.mp (cyc_all p (by omega) h1).2.2 x hx)
/-- x ** p - 1 -/
def xn1 (p : Nat) : List Int := [-1] ++ List.replicate (p - 1) 0 ++ [1]
theorem xn1_len {p : Nat} (h : 1 ≤ p) : (xn1 p).length = p + 1 := by
  unfold xn1
  rw [List.length_append, List.length_append, List.length_replicate]
  show 1 + (p - 1) + 1 = p + 1
  omega
/-- x ** p - 1 without C(1), C(2) .. C(k) -/
def rootF (p : Nat) : Nat → List Int
  | 0 => xn1 p
  | k + 1 => if p % (k + 1) = 0 then quo (cyc (k + 1)) (rootF p k) else rootF p k
theorem root_all : ∀ p, p < 41 → 1 ≤ p → rootF p (p - 1) = cyc p := by decide +kernel
theorem root_cyc {p : Nat} (h1 : 1 ≤ p) (h : p ≤ 40) : rootF p (p - 1) = cyc p := root_all p (by omega) h1
theorem rootF_len (p : Nat) (h : 1 ≤ p) : ∀ k, (rootF p k).length ≤ p + 1
  | 0 => by rw [rootF, xn1_len h]; exact Nat.le_refl _
  | k + 1 => by
    have := rootF_len p h k
    rw [rootF]
    split
    · rw [quo_len]; omega
    · exact this
/-- the divisors of n up to k -/
def divs (n : Nat) : Nat → List Nat
  | 0 => []
  | k + 1 => if n % (k + 1) = 0 then divs n k ++ [k + 1] else divs n k
theorem divs_mem {n : Nat} : ∀ {k d : Nat}, d ∈ divs n k ↔ 1 ≤ d ∧ d ≤ k ∧ n % d = 0
  | 0, d => by
    rw [divs]
    exact ⟨fun h => (List.not_mem_nil h).elim, fun h => by omega⟩
  | k + 1, d => by
    rw [divs]
    by_cases c : n % (k + 1) = 0
    · rw [if_pos c, List.mem_append, divs_mem (k := k), List.mem_singleton]
      constructor
      · rintro (⟨a, b, e⟩ | rfl)
        · exact ⟨a, by omega, e⟩
        · exact ⟨by omega, Nat.le_refl _, c⟩
      · rintro ⟨a, b, e⟩
        by_cases z : d = k + 1
        · exact .inr z
        · exact .inl ⟨a, by omega, e⟩
    · rw [if_neg c, divs_mem (k := k)]
      constructor
      · rintro ⟨a, b, e⟩
        exact ⟨a, by omega, e⟩
      · rintro ⟨a, b, e⟩
        refine ⟨a, ?_, e⟩
        have : d ≠ k + 1 := fun z => c (by rw [← z]; exact e)
        omega
theorem divs_len {n : Nat} : ∀ k, (divs n k).length ≤ k
  | 0 => Nat.le_refl _
  | k + 1 => by
    have := divs_len (n := n) k
    rw [divs]
    split
    · rw [List.length_append]
      show _ + 1 ≤ _
      omega
    · omega
/-- x ** p - 1 without all C(d), d of a list that divides p -/
def foldQ (p : Nat) (ds : List Nat) : List Int := ds.foldl (fun a d => if p % d = 0 then quo (cyc d) a else a) (xn1 p)
theorem foldQ_snoc (p : Nat) (ds : List Nat) (d : Nat) : foldQ p (ds ++ [d]) = if p % d = 0 then quo (cyc d) (foldQ p ds) else foldQ p ds := by
  unfold foldQ
  rw [List.foldl_append]
  rfl
theorem foldQ_divs {n p : Nat} (hp : n % p = 0) : ∀ k, foldQ p (divs n k) = rootF p k
  | 0 => rfl
  | k + 1 => by
    rw [divs, rootF]
    by_cases c : n % (k + 1) = 0
    · rw [if_pos c, foldQ_snoc, foldQ_divs hp k]
    · rw [if_neg c, foldQ_divs hp k, if_neg]
      intro z
      exact c (Nat.mod_eq_zero_of_dvd (Nat.dvd_trans (Nat.dvd_of_mod_eq_zero z) (Nat.dvd_of_mod_eq_zero hp)))
theorem foldQ_len {p : Nat} (h : 1 ≤ p) : ∀ ds : List Nat, ∀ a : List Int, a.length ≤ p + 1 → (ds.foldl (fun a d => if p % d = 0 then quo (cyc d) a else a) a).length ≤ p + 1
  | [], a, ha => ha
  | d :: ds, a, ha => by
    rw [List.foldl_cons]
    refine foldQ_len h ds _ ?_
    split
    · rw [quo_len]; omega
    · exact ha
/-- the blind divisors -/
def blB (ns : List Int) (d : Nat) : Bool := (rst (cyc d) ns).all fun x => decide (x = 0)
def blindN (ns : List Int) (k : Nat) : List Nat := (divs ns.length k).filter (blB ns)
def blindL (ns : List Int) : List Nat := blindN ns ns.length
/-- the product of C(d) for all that are not blind -/
def hidQ (ns : List Int) : List Int := (blindL ns).foldl (fun a d => quo (cyc d) a) (xn1 ns.length)
def degS (ds : List Nat) : Nat := (ds.map fun d => (cyc d).length - 1).sum
theorem deg_all : ∀ n, n < 41 → 1 ≤ n → degS (divs n n) = n := by decide +kernel
theorem degS_filter (p : Nat → Bool) : ∀ ds : List Nat, degS (ds.filter p) ≤ degS ds
  | [] => Nat.le_refl _
  | d :: ds => by
    have := degS_filter p ds
    rw [List.filter_cons]
    split
    · unfold degS at *
      rw [List.map_cons, List.sum_cons, List.map_cons, List.sum_cons]
      omega
    · unfold degS at *
      rw [List.map_cons, List.sum_cons]
      omega
theorem fold_len : ∀ (ds : List Nat) (a : List Int), degS ds ≤ a.length → (ds.foldl (fun a d => quo (cyc d) a) a).length = a.length - degS ds
  | [], a, _ => rfl
  | d :: ds, a, h => by
    unfold degS at h
    rw [List.map_cons, List.sum_cons] at h
    rw [List.foldl_cons, fold_len ds _ (by rw [quo_len]; unfold degS; omega), quo_len]
    unfold degS
    rw [List.map_cons, List.sum_cons]
    omega
theorem blind_deg {ns : List Int} (h1 : 1 ≤ ns.length) (h : ns.length ≤ 40) : degS (blindL ns) ≤ ns.length := by
  have := degS_filter (blB ns) (divs ns.length ns.length)
  rw [deg_all ns.length (by omega) h1] at this
  exact this
theorem hidQ_len {ns : List Int} (h1 : 1 ≤ ns.length) (h : ns.length ≤ 40) : (hidQ ns).length = ns.length + 1 - degS (blindL ns) := by
  have := blind_deg h1 h
  unfold hidQ
  rw [fold_len _ _ (by rw [xn1_len h1]; omega), xn1_len h1]
theorem blind_mem {ns : List Int} {d : Nat} (h : d ∈ blindL ns) : 1 ≤ d ∧ d ≤ ns.length ∧ ns.length % d = 0 := divs_mem.mp (List.mem_filter.mp h).1
theorem degS_pos {ns : List Int} (h : ns.length ≤ 40) : degS (blindL ns) = 0 ↔ blindL ns = [] := by
  constructor
  · intro z
    cases e : blindL ns with
    | nil => rfl
    | cons d ds =>
      exfalso
      have hd := blind_mem (ns := ns) (d := d) (by rw [e]; exact List.mem_cons_self)
      have := (cyc_len hd.1 (by omega)).1
      rw [e] at z
      unfold degS at z
      rw [List.map_cons, List.sum_cons] at z
      omega
  · intro z
    rw [z]
    rfl
theorem divs_sorted {n : Nat} : ∀ {k i d e : Nat}, (divs n k)[i]? = some d → e ∈ (divs n k).take i → e < d
  | 0, _, _, _, h, _ => by
    rw [divs] at h
    cases h
  | k + 1, i, d, e, h, he => by
    rw [divs] at h he
    by_cases c : n % (k + 1) = 0
    · rw [if_pos c] at h he
      by_cases z : i < (divs n k).length
      · rw [List.getElem?_append_left z] at h
        rw [List.take_append_of_le_length (Nat.le_of_lt z)] at he
        exact divs_sorted h he
      · have hi : i = (divs n k).length := by
          have := (List.getElem?_eq_some_iff.mp h).1
          rw [List.length_append] at this
          have t : i < (divs n k).length + 1 := this
          omega
        subst hi
        rw [List.getElem?_append_right (Nat.le_refl _), Nat.sub_self] at h
        have hd : k + 1 = d := Option.some.inj h
        rw [List.take_left] at he
        have := (divs_mem.mp he).2.1
        omega
    · rw [if_neg c] at h he
      exact divs_sorted h he
theorem divs_lt {n k i d e : Nat} (h : (divs n k)[i]? = some d) (he : e ∈ (divs n k).take i) : e < d := divs_sorted h he
theorem degI : ∀ {ds : List Nat}, (∀ d ∈ ds, 1 ≤ d ∧ d ≤ 40) → (ds.map fun d => ((cyc d).length : Int) - 1).sum = (degS ds : Int)
  | [], _ => rfl
  | d :: ds, h => by
    have hd := h d List.mem_cons_self
    have hl := (cyc_len hd.1 hd.2).1
    rw [List.map_cons, List.sum_cons, degI fun x hx => h x (List.mem_cons_of_mem _ hx)]
    unfold degS
    rw [List.map_cons, List.sum_cons]
    omega
end Sd

namespace Sd
open PySem PySem.Spec PyProof.Rows L2

/-! ### rules: any of a list of ints, xs[i] -= .., a dict that is locked and left so, a dict comprehension over its items -/
section
variable {X : Cx}
theorem truth_ints {K : PySem.W.Frag} {prog : Program} {w : World} {A : Around} {ns : List Int} {its : List Value} (r : Vals (ns.map V.int) its) :
    TruthOf prog w A (fun i v => its.toArray[i]? = some v) (fun i => (ns.map fun n => decide (n ≠ 0)).getD i false) := fun i v s Q E hv hq => by
  have hv' : its[i]? = some v := by simpa using hv
  have hl := r.length
  rw [List.length_map] at hl
  have hi : i < ns.length := by
    rw [hl]
    exact (List.getElem?_eq_some_iff.mp hv').1
  obtain ⟨w1, e1, r1⟩ := r.get (i := i) (x := .int ns[i]) (by rw [List.getElem?_map, List.getElem?_eq_getElem hi]; rfl)
  rw [hv'] at e1
  cases e1
  obtain ⟨t, rfl⟩ := r1
  have hg : (ns.map fun n => decide (n ≠ 0)).getD i false = decide (ns[i] ≠ 0) := by
    rw [List.getD_eq_getElem?_getD, List.getElem?_map, List.getElem?_eq_getElem hi]
    rfl
  have hq' : Q ((ns.map fun n => decide (n ≠ 0)).getD i false) s := hq
  rw [hg] at hq'
  refine PySem.P.truthy_int ?_
  have e : (ns[i] != 0) = decide (ns[i] ≠ 0) := by
    by_cases c : ns[i] = 0
    · rw [c]; rfl
    · rw [decide_eq_true c]
      exact bne_iff_ne.mpr c
  first
    | exact hq'
    | (rw [e]; exact hq')
def rAnyI (K : PySem.W.Frag) : List V → Hp → VK → Prop := fun vs H Q => ∃ (a : Addr) (ns : List Int), vs = [V.ref a] ∧ SqL K H a (ns.map V.int) ∧ Q (.bl (!ns.all fun x => decide (x = 0))) H
theorem any_not_all : ∀ ns : List Int, (ns.map fun n => decide (n ≠ 0)).any id = !ns.all fun x => decide (x = 0)
  | [] => rfl
  | n :: ns => by
    rw [List.map_cons, List.any_cons, List.all_cons, any_not_all ns, Bool.not_and]
    congr 1
    by_cases c : n = 0
    · rw [decide_eq_true c]; subst c; rfl
    · rw [decide_eq_false c]
      exact decide_eq_true c
theorem cr_anyI {K : PySem.W.Frag} (hK : X.K = K) (hc : X.calm = true) : CallR X (.builtin "any") (rAnyI K) := by
  subst hK
  intro pins s σ H vs us Q I r h
  obtain ⟨a, ns, rfl, hs, q⟩ := h
  obtain ⟨its, rv, hl, _⟩ := I.list hs
  rw [Vals.ref1 r]
  refine call_any_walk (iter_any hl.isList fun s₂ e2 st hne => ?_)
  subst e2
  refine ⟨_, _, _, _, _, _, _, rfl, Walks.list (A := X.A.in1) (I.ok.hd hc) _ a hne its.toArray, st, truth_ints (K := X.K) rv, fun h' tk hk => ?_⟩
  refine ⟨.bl _, H, I.kept fun b o eo => hk b o (fun hmem => ?_) (Heap.get?_push_of_some _ eo), ?_, q⟩
  · rcases List.mem_cons.mp hmem with e1 | hmem
    · exact absurd (e1 ▸ Heap.lt_size eo) (Nat.lt_irrefl _)
    · cases hmem
  · show Value.bool _ = Value.bool _
    have e := any_range (ns.map fun n => decide (n ≠ 0))
    rw [← any_not_all, ← e, List.size_toArray, ← rv.length, List.length_map, List.length_map]
/-- xs[i], read by an augmented assignment -/
def rGetL (K : PySem.W.Frag) : V → V → Hp → VK → Prop := fun o i H Q => ∃ (p : Addr) (xs : List V) (k : Int) (z : V), o = .ref p ∧ i = .int k ∧ SqL K H p xs ∧ 0 ≤ k ∧ xs[k.toNat]? = some z ∧ Q z H
theorem get_listP {K : PySem.W.Frag} (hK : X.K = K) : PGet X (rGetL K) := by
  subst hK
  intro pins s σ H o i ov iv Q I ro ri h
  obtain ⟨p, xs, k, z, rfl, rfl, hq, h0, he, q⟩ := h
  cases ro
  obtain ⟨t, rfl⟩ := ri
  obtain ⟨its, r, pl, hz⟩ := I.list hq
  obtain ⟨w, ew, rw'⟩ := r.get he
  have hlt : k.toNat < its.length := (List.getElem?_eq_some_iff.mp ew).1
  have hn := line63
  have hl := r.length
  exact wpAny_getItem_list pl.isList h0 (by omega) (by simpa using ew) ⟨z, H, I, rw', q⟩
/-- the dict that an expression gives is locked from then on -/
def tLk (td : TE) : TE := fun σ H Q => td σ H fun x H1 => ∃ d kvs, x = .ref d ∧ H1 d = some (.dK kvs) ∧ ∀ od, Q x (upd H1 d (.frz od (.dK kvs)))
theorem pe_lk {e : Expr} {td : TE} (h : PE X e td) : PE X e (tLk td) := by
  refine ⟨fun pins s σ H Q I hw => ?_⟩
  refine thn (h.run pins s σ H _ I hw) fun v s1 ⟨x, H1, I1, r, d, kvs, ex, hd, q⟩ => ?_
  obtain ⟨od, I2⟩ := I1.lock hd trivial
  exact ⟨x, _, I2, r, q od⟩
theorem ixT {K : PySem.W.Frag} (h : X.K = K) : IxR X (rIxT K) := h ▸ ix_tup
theorem dc_it {J : It} {n : Nat} {G : Hp → Prop} {Y : Nat → Hp → V → Hp → Prop} (w : Walk J n G Y) {g : TG} {tt : TT} {tk tv : TE} {vs : List Nat} {σ : L2.St} {H1 : Hp} {D : Addr} {Qd : Hp → Prop} (Pv : Nat → Hp → Prop) (h0 : Pv 0 (upd H1 D (.dK []))) (hG : ∀ i H, i ≤ n → Pv i H → G H)
    (hs : ∀ i x H H', i < n → Pv i H → Y i H x H' → g x (wipe σ vs) H' fun σ2 H2 => wipe σ2 vs = wipe σ vs ∧ tt σ2 H2 fun b H3 =>
      if b = true then tk σ2 H3 fun y H4 => tv σ2 H4 fun z H5 => ∃ kvs k, y = kV k ∧ H5 D = some (.dK kvs) ∧ kvs.length < sizeLine ∧ Pv (i + 1) (upd H5 D (.dK (putK kvs k z))) else Pv (i + 1) H3) (hd : ∀ H, Pv n H → Qd H) :
    ∃ W : Nat → Nat → Hp → Prop, (∃ m, W 0 m (upd H1 D (.dK []))) ∧ ∀ i m H, W i m H →
      (J.stop i H ∧ Qd H) ∨ (J.go i H ∧ ∃ Nx : Hp → Prop, (∀ H', Nx H' → ∃ m', m' < m ∧ W (i + 1) m' H') ∧ ∀ x H', J.yld i H x H' → g x (wipe σ vs) H' fun σ2 H2 => wipe σ2 vs = wipe σ vs ∧ tt σ2 H2 fun b H3 =>
        if b = true then tk σ2 H3 fun y H4 => tv σ2 H4 fun z H5 => ∃ kvs k, y = kV k ∧ H5 D = some (.dK kvs) ∧ kvs.length < sizeLine ∧ Nx (upd H5 D (.dK (putK kvs k z))) else Nx H3) := by
  refine ⟨fun i m H => m = n - i ∧ i ≤ n ∧ Pv i H, ⟨n, by simp, Nat.zero_le _, h0⟩, ?_⟩
  rintro i m H ⟨rfl, hi, p⟩
  have q := hG i H hi p
  by_cases hlt : i < n
  · exact .inr ⟨w.goes i H hlt q, Pv (i + 1), fun H' p' => ⟨n - (i + 1), by omega, rfl, hlt, p'⟩, fun x H' y => hs i x H H' hlt p (w.yields i H x H' hlt q y)⟩
  · have e : i = n := by omega
    subst e
    exact .inl ⟨w.stops H q, hd H p⟩
end
/-! ### dicts from divisors to lists -/
inductive Tabl (H : Hp) : List (Key × V) → List Nat → Prop
  | nil : Tabl H [] []
  | cons {d : Nat} {r : Addr} {kvs : List (Key × V)} {ds : List Nat} : H r = some (.lst ((cyc d).map V.int)) → Tabl H kvs ds → Tabl H ((.inl (d : Int), .ref r) :: kvs) (d :: ds)
theorem Tabl.same {H H' : Hp} (s : Same H H') : ∀ {kvs : List (Key × V)} {ds : List Nat}, Tabl H kvs ds → Tabl H' kvs ds
  | _, _, .nil => .nil
  | _, _, .cons h t => .cons (s _ _ h) (t.same s)
theorem Tabl.but {H H' : Hp} {T : Addr} (hT : ∀ xs, H T ≠ some (.lst xs)) (s : But T H H') : ∀ {kvs : List (Key × V)} {ds : List Nat}, Tabl H kvs ds → Tabl H' kvs ds
  | _, _, .nil => .nil
  | _, _, .cons h t => .cons (s _ _ h (fun e => hT _ (by rw [← e]; exact h))) (t.but hT s)
theorem Tabl.len {H : Hp} : ∀ {kvs : List (Key × V)} {ds : List Nat}, Tabl H kvs ds → kvs.length = ds.length
  | _, _, .nil => rfl
  | _, _, .cons _ t => by rw [List.length_cons, List.length_cons, t.len]
theorem Tabl.at {H : Hp} : ∀ {kvs : List (Key × V)} {ds : List Nat} {i : Nat}, Tabl H kvs ds → i < ds.length → ∃ d r, ds[i]? = some d ∧ kvs[i]? = some (.inl (d : Int), .ref r) ∧ H r = some (.lst ((cyc d).map V.int))
  | _, _, i, .nil, h => absurd h (Nat.not_lt_zero _)
  | _, _, 0, .cons h t, _ => ⟨_, _, rfl, rfl, h⟩
  | _, _, i + 1, .cons h t, l => t.at (i := i) (Nat.lt_of_succ_lt_succ l)
theorem Tabl.snoc {H : Hp} {d : Nat} {r : Addr} (h : H r = some (.lst ((cyc d).map V.int))) : ∀ {kvs : List (Key × V)} {ds : List Nat}, Tabl H kvs ds → Tabl H (kvs ++ [(.inl (d : Int), .ref r)]) (ds ++ [d])
  | _, _, .nil => .cons h .nil
  | _, _, .cons h1 t => .cons h1 (t.snoc h)
theorem Tabl.put {H : Hp} {d : Nat} : ∀ {kvs : List (Key × V)} {ds : List Nat}, Tabl H kvs ds → (∀ e ∈ ds, e < d) → (kvs.any fun kv => decide (kv.1 = (.inl (d : Int) : Key))) = false
  | _, _, .nil, _ => rfl
  | _, _, @Tabl.cons _ e r kvs ds _ t, h => by
    rw [List.any_cons, t.put fun x hx => h x (List.mem_cons_of_mem _ hx), Bool.or_false]
    refine decide_eq_false fun z => ?_
    have h1 := h e List.mem_cons_self
    have h2 : (e : Int) = (d : Int) := Sum.inl.inj z
    omega
theorem Tabl.putK {H : Hp} {d : Nat} {v : V} {kvs : List (Key × V)} {ds : List Nat} (t : Tabl H kvs ds) (h : ∀ e ∈ ds, e < d) : putK kvs (.inl (d : Int)) v = kvs ++ [(.inl (d : Int), v)] := by
  unfold L2.putK
  rw [if_neg (by rw [t.put h]; exact Bool.false_ne_true)]
theorem eqv_dI0 (a : List Int) : PyData.eqv (dI a) (dI []) = a.isEmpty := by cases a <;> rfl
end Sd

namespace Sd
open PySem PySem.Spec PyProof.Rows L2

/-! ### things without dicts within, beside a tank -/
def NDk : PyData → Prop
  | .list ds => PyData.hasDictAll ds = false ∧ PyData.canLayAll0 ds = true
  | _ => True
def E9 (t : Addr) (H : Hp) (v : V) : Prop := ∃ d, Dq (mask t H) v d ∧ d.showable = true ∧ d.depth ≤ 1 ∧ d.shown.length ≤ 1100 ∧ d.hasDict = false ∧ d.canLay0 = true
def T9 (t : Addr) (H : Hp) (v : V) : Prop := ∃ d, Dq (mask t H) v d ∧ d.showable = true ∧ d.depth ≤ 3 ∧ d.shown.length ≤ 300000 ∧ NDk d
theorem E9.but {t : Addr} {H H' : Hp} {v : V} (h : E9 t H v) (u : But t H H') : E9 t H' v := let ⟨d, q, r⟩ := h; ⟨d, q.same (mask_but u), r⟩
theorem T9.but {t : Addr} {H H' : Hp} {v : V} (h : T9 t H v) (u : But t H H') : T9 t H' v := let ⟨d, q, r⟩ := h; ⟨d, q.same (mask_but u), r⟩
theorem ndk_of {d : PyData} (h : d.hasDict = false ∧ d.canLay0 = true) : NDk d := by
  cases d <;> first | trivial | (obtain ⟨h1, h2⟩ := h; simp only [PyData.hasDict] at h1; simp only [PyData.canLay0] at h2; exact ⟨h1, h2⟩)
theorem E9.th {t : Addr} {H : Hp} {v : V} (h : E9 t H v) : T9 t H v := let ⟨d, q, r1, r2, r3, r4⟩ := h; ⟨d, q, r1, by omega, by omega, ndk_of r4⟩
theorem e9_non {t : Addr} {H : Hp} : E9 t H .non := ⟨.none, .non, rfl, by decide, by decide +kernel, by decide, by decide⟩
theorem e9_bl {t : Addr} {H : Hp} (b : Bool) : E9 t H (.bl b) := ⟨.bool b, .bl b, by simp only [PyData.showable], by simp only [PyData.depth]; omega, by cases b <;> decide +kernel, by simp only [PyData.hasDict], by simp only [PyData.canLay0]⟩
theorem e9_int {t : Addr} {H : Hp} {i : Int} (h : i.natAbs < 2 ^ 1000) : E9 t H (.int i) := ⟨.int i, .int i, (rp_int h).sh, by simp only [PyData.depth]; omega, by have := shown_int h; omega, by simp only [PyData.hasDict], by simp only [PyData.canLay0]⟩
theorem e9_str0 {t : Addr} {H : Hp} : E9 t H (.str "0") := ⟨.str "0", .str "0", by simp only [PyData.showable], by simp only [PyData.depth]; omega, by decide +kernel, by simp only [PyData.hasDict], by decide +kernel⟩
theorem t9_emp {t : Addr} {H : Hp} {a : Addr} (h : H a = some (.dK [])) (n : a ≠ t) : T9 t H (.ref a) := ⟨.dict [], .emp (by rw [mask_ne n]; exact h), by decide, by decide, by decide +kernel, trivial⟩
theorem e9s {t : Addr} {H : Hp} : ∀ {xs : List V}, (∀ x ∈ xs, E9 t H x) → ∃ ds, DqAll (mask t H) xs ds ∧ PyData.showableAll ds = true ∧ PyData.depthAll ds ≤ 1 ∧ (∀ d ∈ ds, d.shown.length ≤ 1100) ∧ PyData.hasDictAll ds = false ∧ PyData.canLayAll0 ds = true
  | [], _ => ⟨[], .nil, by simp only [PyData.showableAll], by simp only [PyData.depthAll]; omega, fun d hd => (List.not_mem_nil hd).elim, by simp only [PyData.hasDictAll], by simp only [PyData.canLayAll0]⟩
  | x :: xs, h => by
    obtain ⟨d, q, r1, r2, r3, r4, r5⟩ := h x List.mem_cons_self
    obtain ⟨ds, p1, p2, p3, p4, p5, p6⟩ := e9s (xs := xs) fun y hy => h y (List.mem_cons_of_mem _ hy)
    refine ⟨d :: ds, .cons q p1, by simp only [PyData.showableAll, r1, p2, Bool.and_self], by simp only [PyData.depthAll]; omega, fun e he => ?_, by simp only [PyData.hasDictAll, r4, p5, Bool.or_self], by simp only [PyData.canLayAll0, r5, p6, Bool.and_self]⟩
    rcases List.mem_cons.mp he with z | z
    · rw [z]
      exact r3
    · exact p4 e z
theorem t9_list {t : Addr} {H : Hp} {p : Addr} {xs : List V} (h : H p = some (.lst xs)) (n : p ≠ t) (hl : xs.length ≤ 200) (hx : ∀ x ∈ xs, E9 t H x) : T9 t H (.ref p) := by
  obtain ⟨ds, p1, p2, p3, p4, p5⟩ := e9s hx
  have e := p1.length
  refine ⟨.list ds, .lst (by rw [mask_ne n]; exact h) p1, by simp only [PyData.showable, p2], by simp only [PyData.depth]; omega, ?_, p5⟩
  have := shown_list p4
  omega
theorem t9_tuple {t : Addr} {H : Hp} {p : Addr} {xs : List V} (h : H p = some (.tup xs)) (n : p ≠ t) (hl : xs.length ≤ 200) (hx : ∀ x ∈ xs, E9 t H x) : T9 t H (.ref p) := by
  obtain ⟨ds, p1, p2, p3, p4, p5⟩ := e9s hx
  have e := p1.length
  refine ⟨.tuple ds, .tup (by rw [mask_ne n]; exact h) p1, by simp only [PyData.showable, p2], by simp only [PyData.depth]; omega, ?_, trivial⟩
  have := shown_tuple p4
  omega
theorem e9_ints {t : Addr} {H : Hp} {ns : List Int} (h : ∀ n ∈ ns, n.natAbs < 2 ^ 1000) : ∀ x ∈ ns.map V.int, E9 t H x := fun x hx => by
  obtain ⟨m, hm, rfl⟩ := List.mem_map.mp hx
  exact e9_int (h m hm)
theorem t9_ints {t : Addr} {H : Hp} {p : Addr} {ns : List Int} (h : H p = some (.lst (ns.map V.int))) (n : p ≠ t) (hl : ns.length ≤ 200) (hx : ∀ n ∈ ns, n.natAbs < 2 ^ 1000) : T9 t H (.ref p) :=
  t9_list h n (by rw [List.length_map]; exact hl) (e9_ints hx)
theorem t9_rep {t : Addr} {H : Hp} {p : Addr} {k : Nat} {v : Int} (h : H p = some (.lst (List.replicate k [V.int v]).flatten)) (n : p ≠ t) (hl : k ≤ 200) (hv : v.natAbs < 2 ^ 1000) : T9 t H (.ref p) := by
  rw [rep_one] at h
  exact t9_ints h n (by rw [List.length_replicate]; exact hl) fun m hm => by rw [(List.mem_replicate.mp hm).2]; exact hv
theorem rep_any (v : V) : ∀ k : Nat, (List.replicate k [v]).flatten = List.replicate k v
  | 0 => rfl
  | k + 1 => by
    rw [List.replicate_succ, List.replicate_succ, List.flatten_cons, rep_any v k]
    rfl
/-- [ints] -/
theorem t9_one {t : Addr} {H : Hp} {p b : Addr} {ns : List Int} (h : H p = some (.lst [.ref b])) (n : p ≠ t) (hb : H b = some (.lst (ns.map V.int))) (nb : b ≠ t) (hl : ns.length ≤ 40) (hx : ∀ n ∈ ns, n.natAbs < 2 ^ 1000) : T9 t H (.ref p) := by
  obtain ⟨ds, p1, p2, p3, p4, p5, p6⟩ := e9s (t := t) (H := H) (xs := ns.map V.int) fun x hxx => by
    obtain ⟨m, hm, rfl⟩ := List.mem_map.mp hxx
    exact e9_int (hx m hm)
  have e := p1.length
  rw [List.length_map] at e
  have z := shown_list p4
  refine ⟨.list [.list ds], .lst (by rw [mask_ne n]; exact h) (.cons (.lst (by rw [mask_ne nb]; exact hb) p1) .nil), by simp only [PyData.showable, PyData.showableAll, p2, Bool.and_self], by simp only [PyData.depth, PyData.depthAll]; omega, ?_, by show PyData.hasDictAll [.list ds] = false ∧ PyData.canLayAll0 [.list ds] = true; simp only [PyData.hasDictAll, PyData.hasDict, p5, Bool.or_self, PyData.canLayAll0, PyData.canLay0, p6, Bool.and_self, and_self]⟩
  have z2 := shown_list (B := 1102 * 40 + 3) (ds := [.list ds]) fun d hd => by
    rw [List.mem_singleton.mp hd]
    omega
  exact Nat.le_trans z2 (by show (1102 * 40 + 3 + 2) * 1 + 3 ≤ 300000; decide)
/-- [0], (0,) as items -/
theorem e9_list0 {t : Addr} {H : Hp} {p : Addr} (h : H p = some (.lst [.int 0])) (n : p ≠ t) : E9 t H (.ref p) := ⟨.list [.int 0], .lst (by rw [mask_ne n]; exact h) (.cons (.int 0) .nil), by decide, by decide, by decide +kernel, by decide, by decide⟩
theorem e9_tup0 {t : Addr} {H : Hp} {p : Addr} (h : H p = some (.tup [.int 0])) (n : p ≠ t) : E9 t H (.ref p) := ⟨.tuple [.int 0], .tup (by rw [mask_ne n]; exact h) (.cons (.int 0) .nil), by decide, by decide, by decide +kernel, by decide, by decide⟩
/-! ### two that change -/
def But2 (t f : Addr) (H H' : Hp) : Prop := ∀ b o, H b = some o → b ≠ t → b ≠ f → H' b = some o
theorem but2_mask {t f : Addr} {H H' : Hp} (u : But2 t f H H') : But t (mask f H) (mask f H') := fun b o e n => by
  unfold mask at e ⊢
  split at e
  · cases e
  · rename_i nf
    rw [if_neg nf]
    exact u b o e n nf
theorem but_mask {t f : Addr} {H H' : Hp} (u : But t H H') : But t (mask f H) (mask f H') := but2_mask fun b o e n _ => u b o e n
theorem mask_in {t f : Addr} {H H' : Hp} (u : But t H H') (h : H f = none) : But t H (mask f H') := fun b o e n => by
  have : b ≠ f := ne_of_none e h
  rw [mask_ne this]
  exact u b o e n
theorem T9.out {t f : Addr} {H : Hp} {v : V} (h : T9 t (mask f H) v) : T9 t H v := h.but (But.of (mask_same f H))
theorem cut_takeV (xs : List V) (s : Int) (h0 : 0 ≤ s) : cutV xs none (some s) = xs.take s.toNat := by
  obtain ⟨k, rfl⟩ : ∃ k : Nat, s = (k : Int) := ⟨s.toNat, by omega⟩
  unfold cutV
  rw [HT.sIx_none, HT.sIx_nat, Int.toNat_natCast, List.drop_zero, Nat.sub_zero]
  rcases Nat.le_total k xs.length with z | z
  · rw [Nat.min_eq_left z]
  · rw [Nat.min_eq_right z, List.take_of_length_le (Nat.le_refl _), List.take_of_length_le z]
theorem cut_memV {xs : List V} {lo hi : Option Int} {x : V} (h : x ∈ cutV xs lo hi) : x ∈ xs := List.mem_of_mem_drop (List.mem_of_mem_take h)
/-! ### from told data to what is compared -/
mutual
theorem Dq.dp {K : PySem.W.Frag} {H : Hp} : ∀ {v : V} {d : PyData}, Dq H v d → d.hasDict = false → Dp K H v d
  | _, _, .non, _ => .non
  | _, _, .bl b, _ => .bl b
  | _, _, .int i, _ => .int i
  | _, _, .str x, _ => .str x
  | _, _, .lst h1 h2, n => .lst (SqL.of h1) (DqAll.dp h2 (by simp only [PyData.hasDict] at n; exact n))
  | _, _, .tup h1 h2, n => .tup (SqT.of h1) (DqAll.dp h2 (by simp only [PyData.hasDict] at n; exact n))
  | _, _, .emp _, n => by
    simp only [PyData.hasDict] at n
    cases n
theorem DqAll.dp {K : PySem.W.Frag} {H : Hp} : ∀ {vs : List V} {ds : List PyData}, DqAll H vs ds → PyData.hasDictAll ds = false → DpAll K H vs ds
  | _, _, .nil, _ => .nil
  | _, _, .cons h1 h2, n => by
    simp only [PyData.hasDictAll, Bool.or_eq_false_iff] at n
    exact .cons (Dq.dp h1 n.1) (DqAll.dp h2 n.2)
end
theorem eqv_nil (ds : List PyData) : PyData.eqv (.list ds) (.list []) = ds.isEmpty := by cases ds <;> rfl
/-! ### bounds -/
theorem subI_ab {b : Nat} {low : List Int} {f : Int} {s : Nat} (hU : Unt low) (hf : f.natAbs < 2 ^ b) : ∀ (j : Nat) {l : List Int}, Ab b l → Ab (b + 1) (subI low f s j l)
  | 0, l, h => h.mono (Nat.le_succ b)
  | j + 1, l, h => fun n hn => by
    rw [subI] at hn
    rcases List.mem_or_eq_of_mem_set hn with z | z
    · exact subI_ab hU hf j h n z
    · have h1 : ((subI low f s j l).getD (s + j) 0).natAbs < 2 ^ b := by
        rw [List.getD_eq_getElem?_getD, subI_get low f s j l (s + j) (Nat.le_refl _)]
        cases e : l[s + j]? with
        | none => exact Nat.pos_of_ne_zero (by have := Nat.one_le_two_pow (n := b); omega)
        | some x => exact h x (List.mem_of_getElem? e)
      have h2 : (f * low.getD j 0).natAbs < 2 ^ b := by
        rw [List.getD_eq_getElem?_getD]
        cases e : low[j]? with
        | none =>
          show (f * 0).natAbs < 2 ^ b
          rw [Int.mul_zero]
          exact Nat.lt_of_le_of_lt (Nat.zero_le _) hf
        | some x =>
          have hx := hU x (List.mem_of_getElem? e)
          have : x = -1 ∨ x = 0 ∨ x = 1 := by omega
          show (f * x).natAbs < 2 ^ b
          rcases this with rfl | rfl | rfl <;> omega
      rw [Nat.pow_succ]
      omega
theorem divN_ab {low : List Int} (hU : Unt low) : ∀ (k b : Nat) {l : List Int}, Ab b l → Ab (b + k) (divN low k l)
  | 0, _, _, h => h
  | k + 1, b, l, h => by
    rw [divN]
    have hf : (l.getD (low.length - 1 + k) 0).natAbs < 2 ^ b := by
      rw [List.getD_eq_getElem?_getD]
      cases e : l[low.length - 1 + k]? with
      | none => exact Nat.pos_of_ne_zero (by have := Nat.one_le_two_pow (n := b); omega)
      | some x => exact h x (List.mem_of_getElem? e)
    have := divN_ab hU k (b + 1) (subI_ab hU hf (low.length - 1) (s := k) h)
    rw [show b + (k + 1) = b + 1 + k by omega]
    exact this
theorem quo_ab {low l : List Int} (hU : Unt low) {b : Nat} (h : Ab b l) : Ab (b + l.length) (quo low l) := fun n hn => by
  have := divN_ab hU (l.length - (low.length - 1)) b h n (List.mem_of_mem_drop hn)
  exact Nat.lt_of_lt_of_le this (pow_up (by omega))
theorem divs_few : ∀ n, n < 41 → (divs n n).length ≤ 9 := by decide +kernel
theorem foldq_ab {n : Nat} : ∀ (ds : List Nat) (a : List Int) (b : Nat), (∀ d ∈ ds, 1 ≤ d ∧ d ≤ 40) → a.length ≤ n + 1 → Ab b a → Ab (b + (n + 1) * ds.length) (ds.foldl (fun a d => quo (cyc d) a) a)
  | [], a, b, _, _, h => h
  | d :: ds, a, b, hd, hl, h => by
    have h1 := hd d List.mem_cons_self
    rw [List.foldl_cons]
    have h2 := quo_ab (cyc_unt h1.1 h1.2) h
    have := foldq_ab (n := n) ds (quo (cyc d) a) (b + (n + 1)) (fun x hx => hd x (List.mem_cons_of_mem _ hx)) (by rw [quo_len]; omega) (h2.mono (by omega))
    rw [List.length_cons, Nat.mul_succ]
    rw [show b + ((n + 1) * ds.length + (n + 1)) = b + (n + 1) + (n + 1) * ds.length by omega]
    exact this
theorem xn1_ab (n : Nat) : Ab 1 (xn1 n) := fun x hx => by
  unfold xn1 at hx
  rcases List.mem_append.mp hx with h | h
  · rcases List.mem_append.mp h with h | h
    · rw [List.mem_singleton.mp h]
      decide
    · rw [(List.mem_replicate.mp h).2]
      decide
  · rw [List.mem_singleton.mp h]
    decide
theorem hidQ_ab {ns : List Int} (l1 : 1 ≤ ns.length) (h : ns.length ≤ 40) : Ab 400 (hidQ ns) := by
  have h1 := foldq_ab (n := ns.length) (blindL ns) (xn1 ns.length) 1 (fun d hd => by have := blind_mem hd; omega) (by rw [xn1_len l1]; exact Nat.le_refl _) (xn1_ab _)
  have h2 : (blindL ns).length ≤ 9 := Nat.le_trans (List.length_filter_le _ _) (divs_few _ (by omega))
  have h3 : (ns.length + 1) * (blindL ns).length ≤ 41 * 9 := Nat.mul_le_mul (by omega) h2
  exact Ab.mono h1 (by omega)
end Sd

namespace Sd
open PySem PySem.Spec PyProof.Rows L2

/-! ### polynomials that act on sequences -/
abbrev Sq := Int → Int
def act : List Int → Sq → Sq
  | [], _, _ => 0
  | a :: p, s, i => a * s i + act p s (i + 1)
theorem act_congr {s t : Sq} : ∀ {p : List Int} {i i' : Int}, (∀ j : Nat, j < p.length → s (i + j) = t (i' + j)) → act p s i = act p t i'
  | [], _, _, _ => rfl
  | a :: p, i, i', h => by
    have h0 := h 0 (Nat.succ_pos _)
    have e0 : s i = t i' := by
      have : s (i + ((0 : Nat) : Int)) = t (i' + ((0 : Nat) : Int)) := h0
      rw [show i + ((0 : Nat) : Int) = i by omega, show i' + ((0 : Nat) : Int) = i' by omega] at this
      exact this
    have ih := act_congr (s := s) (t := t) (p := p) (i := i + 1) (i' := i' + 1) fun j hj => by
      have := h (j + 1) (Nat.succ_lt_succ hj)
      rw [show i + ((j + 1 : Nat) : Int) = i + 1 + (j : Int) by omega, show i' + ((j + 1 : Nat) : Int) = i' + 1 + (j : Int) by omega] at this
      exact this
    rw [act, act, e0, ih]
theorem act_shift (p : List Int) (s : Sq) (c i : Int) : act p (fun k => s (k + c)) i = act p s (i + c) :=
  act_congr fun j _ => by show s (i + j + c) = s (i + c + j); rw [show i + (j : Int) + c = i + c + j by omega]
theorem act_add : ∀ (p : List Int) (s t : Sq) (i : Int), act p (fun k => s k + t k) i = act p s i + act p t i
  | [], _, _, _ => rfl
  | a :: p, s, t, i => by
    rw [act, act, act, act_add p s t, Int.mul_add]
    omega
theorem act_mul : ∀ (p : List Int) (c : Int) (s : Sq) (i : Int), act p (fun k => c * s k) i = c * act p s i
  | [], c, _, _ => (Int.mul_zero c).symm
  | a :: p, c, s, i => by
    rw [act, act, act_mul p c s, Int.mul_add, ← Int.mul_assoc, ← Int.mul_assoc, Int.mul_comm a c]
theorem act_zero (p : List Int) (i : Int) : act p (fun _ => 0) i = 0 := by
  have := act_mul p 0 (fun _ => 0) i
  exact (by simpa using this)
theorem act_null {p : List Int} {s : Sq} (h : ∀ i, s i = 0) (i : Int) : act p s i = 0 := by
  rw [show s = fun _ => 0 from funext h]
  exact act_zero p i
theorem act_comm : ∀ (p q : List Int) (s : Sq) (i : Int), act p (act q s) i = act q (act p s) i
  | [], q, s, i => by
    have e : act [] s = fun _ => 0 := rfl
    rw [e, act_zero]
    rfl
  | a :: p, q, s, i => by
    have e : act (a :: p) s = fun k => a * s k + act p s (k + 1) := rfl
    rw [e, act_add q (fun k => a * s k) (fun k => act p s (k + 1)), act_mul, act_shift, ← act_comm p q s (i + 1)]
    rfl
theorem act_append : ∀ (p q : List Int) (s : Sq) (i : Int), act (p ++ q) s i = act p s i + act q s (i + p.length)
  | [], q, s, i => by
    show act q s i = 0 + act q s (i + ((0 : Nat) : Int))
    rw [Int.zero_add, show i + ((0 : Nat) : Int) = i by omega]
  | a :: p, q, s, i => by
    rw [List.cons_append, act, act, act_append p q s, List.length_cons, show i + 1 + (p.length : Int) = i + ((p.length + 1 : Nat) : Int) by omega]
    omega
theorem act_zeros (s : Sq) : ∀ (k : Nat) (i : Int), act (List.replicate k 0) s i = 0
  | 0, _ => rfl
  | k + 1, i => by
    rw [List.replicate_succ, act, act_zeros s k, Int.zero_mul, Int.zero_add]
theorem act_set : ∀ (p : List Int) (m : Nat) (v : Int) (s : Sq) (i : Int), m < p.length → act (p.set m v) s i = act p s i + (v - p.getD m 0) * s (i + m)
  | [], _, _, _, _, h => absurd h (Nat.not_lt_zero _)
  | a :: p, 0, v, s, i, _ => by
    show v * s i + act p s (i + 1) = a * s i + act p s (i + 1) + (v - a) * s (i + ((0 : Nat) : Int))
    rw [show i + ((0 : Nat) : Int) = i by omega, Int.sub_mul]
    omega
  | a :: p, m + 1, v, s, i, h => by
    have ih := act_set p m v s (i + 1) (Nat.lt_of_succ_lt_succ h)
    show a * s i + act (p.set m v) s (i + 1) = a * s i + act p s (i + 1) + (v - p.getD m 0) * s (i + ((m + 1 : Nat) : Int))
    rw [ih, show i + 1 + (m : Int) = i + ((m + 1 : Nat) : Int) by omega]
    omega
/-! ### division -/
theorem subI_take {low : List Int} {f : Int} {s n : Nat} : ∀ (j : Nat) (l : List Int), s + j ≤ n → n ≤ l.length → (subI low f s j l).take n = subI low f s j (l.take n)
  | 0, _, _, _ => rfl
  | j + 1, l, h, hn => by
    rw [subI, subI, List.take_set, subI_take j l (by omega) hn]
    congr 2
    rw [← subI_take j l (by omega) hn, List.getD_eq_getElem?_getD, List.getD_eq_getElem?_getD, List.getElem?_take_of_lt (by omega)]
theorem act_subI {low : List Int} {f : Int} {k : Nat} (s : Sq) (i : Int) : ∀ (j : Nat) (l : List Int), j ≤ low.length → k + j ≤ l.length → act (subI low f k j l) s i = act l s i - f * act (low.take j) s (i + k)
  | 0, l, _, _ => by
    show act l s i = act l s i - f * 0
    rw [Int.mul_zero, Int.sub_zero]
  | j + 1, l, h, hl => by
    obtain ⟨c, hc⟩ : ∃ c, low[j]? = some c := ⟨_, List.getElem?_eq_getElem (by omega)⟩
    rw [subI, act_set _ _ _ _ _ (by rw [subI_len]; omega), act_subI s i j l (by omega) (by omega), List.take_add_one, hc, getD_at hc]
    show _ = act l s i - f * act (low.take j ++ [c]) s (i + k)
    rw [act_append, List.length_take, show min j low.length = j by omega]
    show _ = act l s i - f * (act (low.take j) s (i + k) + (c * s (i + k + j) + 0))
    rw [show i + (k : Int) + (j : Int) = i + ((k + j : Nat) : Int) by omega, Int.mul_add, Int.add_zero, ← Int.mul_assoc]
    have : ((subI low f k j l).getD (k + j) 0 - f * c - (subI low f k j l).getD (k + j) 0) * s (i + ((k + j : Nat) : Int)) = -(f * c * s (i + ((k + j : Nat) : Int))) := by
      rw [show (subI low f k j l).getD (k + j) 0 - f * c - (subI low f k j l).getD (k + j) 0 = -(f * c) by omega, Int.neg_mul]
    rw [this]
    omega
theorem divN_get (low : List Int) : ∀ (k : Nat) (l : List Int) (i : Nat), low.length - 1 + k ≤ i → (divN low k l)[i]? = l[i]?
  | 0, _, _, _ => rfl
  | k + 1, l, i, h => by
    rw [divN, divN_get low k _ i (by omega), subI_get low _ _ _ l i (by omega)]
/-- the highest coefficient is 1 -/
def Mon (low : List Int) : Prop := ∃ p, low = p ++ [1]
theorem Mon.len {low : List Int} (h : Mon low) : low.take (low.length - 1) ++ [1] = low := by
  obtain ⟨p, rfl⟩ := h
  rw [List.length_append]
  show (p ++ [1]).take (p.length + 1 - 1) ++ [1] = p ++ [1]
  rw [Nat.add_sub_cancel, List.take_left]
theorem act_divN {low : List Int} (hM : Mon low) (s : Sq) (i : Int) : ∀ (k : Nat) (l : List Int), low.length - 1 + k ≤ l.length →
    act (l.take (low.length - 1 + k)) s i = act ((divN low k l).take (low.length - 1)) s i + act (((divN low k l).drop (low.length - 1)).take k) (act low s) i
  | 0, l, _ => by
    show act (l.take (low.length - 1)) s i = act (l.take (low.length - 1)) s i + act ((l.drop (low.length - 1)).take 0) (act low s) i
    rw [List.take_zero]
    show _ = _ + 0
    rw [Int.add_zero]
  | k + 1, l, hl => by
    have hl1 : 1 ≤ low.length := by
      obtain ⟨p, rfl⟩ := hM
      rw [List.length_append]
      show 1 ≤ p.length + 1
      omega
    obtain ⟨f, hf⟩ : ∃ f, l[low.length - 1 + k]? = some f := ⟨_, List.getElem?_eq_getElem (by omega)⟩
    have hf' : l.getD (low.length - 1 + k) 0 = f := getD_at hf
    have ih := act_divN hM s i k (subI low f k (low.length - 1) l) (by rw [subI_len]; omega)
    have e1 : l.take (low.length - 1 + (k + 1)) = l.take (low.length - 1 + k) ++ [f] := by
      rw [← Nat.add_assoc, List.take_add_one, hf]
      rfl
    have hlt : (l.take (low.length - 1 + k)).length = low.length - 1 + k := by rw [List.length_take]; omega
    rw [subI_take (n := low.length - 1 + k) _ _ (by omega) (by omega), act_subI s i (low.length - 1) _ (by omega) (by omega)] at ih
    rw [divN, hf']
    have hg : (divN low k (subI low f k (low.length - 1) l))[low.length - 1 + k]? = some f := by
      rw [divN_get low k _ _ (Nat.le_refl _), subI_get low f k _ l _ (by omega)]
      exact hf
    have e2 : ((divN low k (subI low f k (low.length - 1) l)).drop (low.length - 1)).take (k + 1) = ((divN low k (subI low f k (low.length - 1) l)).drop (low.length - 1)).take k ++ [f] := by
      rw [List.take_add_one, List.getElem?_drop, hg]
      rfl
    have hlk : (((divN low k (subI low f k (low.length - 1) l)).drop (low.length - 1)).take k).length = k := by
      rw [List.length_take, List.length_drop, divN_len, subI_len]
      omega
    have em : act low s (i + k) = act (low.take (low.length - 1)) s (i + k) + s (i + k + (low.length - 1 : Nat)) := by
      have := act_append (low.take (low.length - 1)) [1] s (i + k)
      rw [hM.len, List.length_take, show min (low.length - 1) low.length = low.length - 1 by omega] at this
      rw [this]
      show _ + (1 * s _ + 0) = _
      rw [Int.one_mul, Int.add_zero]
    rw [e1, act_append, hlt, e2, act_append, hlk]
    show act (l.take (low.length - 1 + k)) s i + (f * s (i + ((low.length - 1 + k : Nat) : Int)) + 0) = _ + (_ + (f * act low s (i + k) + 0))
    rw [em, Int.mul_add, show i + ((low.length - 1 + k : Nat) : Int) = i + (k : Int) + ((low.length - 1 : Nat) : Int) by omega]
    omega
theorem act_div {low : List Int} (hM : Mon low) (l : List Int) (s : Sq) (i : Int) : act l s i = act (rst low l) s i + act (quo low l) (act low s) i := by
  by_cases c : low.length - 1 ≤ l.length
  · have := act_divN hM s i (l.length - (low.length - 1)) l (by omega)
    rw [List.take_of_length_le (by omega)] at this
    rw [this]
    unfold rst quo divL
    rw [List.take_of_length_le (i := l.length - (low.length - 1)) (by rw [List.length_drop, divN_len]; exact Nat.le_refl _)]
  · unfold rst quo divL
    rw [show l.length - (low.length - 1) = 0 by omega]
    show act l s i = act (l.take (low.length - 1)) s i + act (l.drop (low.length - 1)) (act low s) i
    rw [List.take_of_length_le (by omega), List.drop_of_length_le (by omega)]
    show _ = _ + 0
    rw [Int.add_zero]
theorem act_all0 {p : List Int} (h : (p.all fun x => decide (x = 0)) = true) (s : Sq) (i : Int) : act p s i = 0 := by
  have e : p = List.replicate p.length 0 := List.eq_replicate_iff.mpr ⟨rfl, fun b hb => of_decide_eq_true (List.all_eq_true.mp h b hb)⟩
  rw [e]
  exact act_zeros s _ i
theorem act_exact {low l : List Int} (hM : Mon low) (h : ((rst low l).all fun x => decide (x = 0)) = true) (s : Sq) (i : Int) : act l s i = act (quo low l) (act low s) i := by
  rw [act_div hM, act_all0 h, Int.zero_add]
end Sd

namespace Sd
open PySem PySem.Spec PyProof.Rows L2

/-! ### facts of C(1) to C(40) -/
theorem cyc_mon0 : ∀ p, p < 41 → 1 ≤ p → (cyc p).getLast? = some 1 := by decide +kernel
theorem cyc_mon {p : Nat} (h1 : 1 ≤ p) (h : p ≤ 40) : Mon (cyc p) := by
  have := cyc_mon0 p (by omega) h1
  obtain ⟨q, hq⟩ := List.getLast?_eq_some_iff.mp this
  exact ⟨q, hq⟩
def all0 (l : List Int) : Bool := l.all fun x => decide (x = 0)
theorem cyc_xn0 : ∀ p, p < 41 → 1 ≤ p → all0 (rst (cyc p) (xn1 p)) = true := by decide +kernel
def phi (g : Nat) : Nat → List Int
  | 0 => [1]
  | k + 1 => (1 :: List.replicate (g - 1) 0) ++ phi g k
theorem cyc_phi0 : ∀ d, d < 41 → ∀ g, g < d → 1 ≤ g → d % g = 0 → all0 (rst (cyc d) (phi g (d / g - 1))) = true := by decide +kernel
def chain : List Nat → List Int → Bool
  | [], a => decide (a = [1])
  | d :: ds, a => all0 (rst (cyc d) a) && chain ds (quo (cyc d) a)
theorem chain0 : ∀ n, n < 41 → 1 ≤ n → chain (divs n n) (xn1 n) = true := by decide +kernel
end Sd

namespace Sd
open PySem PySem.Spec PyProof.Rows L2

/-! ### many act one behind the other -/
def acts : List Nat → Sq → Sq
  | [], s => s
  | d :: ds, s => acts ds (act (cyc d) s)
theorem acts_congr {s t : Sq} (h : ∀ i, s i = t i) (ds : List Nat) (i : Int) : acts ds s i = acts ds t i := by rw [show s = t from funext h]
theorem acts_act : ∀ (ds : List Nat) (p : List Int) (s : Sq) (i : Int), acts ds (act p s) i = act p (acts ds s) i
  | [], _, _, _ => rfl
  | d :: ds, p, s, i => by
    rw [acts, acts, acts_congr (t := act p (act (cyc d) s)) (fun k => act_comm (cyc d) p s k), acts_act ds p]
theorem acts_null {s : Sq} (h : ∀ i, s i = 0) : ∀ (ds : List Nat) (i : Int), acts ds s i = 0
  | [], i => h i
  | d :: ds, i => acts_null (s := act (cyc d) s) (act_null h) ds i
theorem acts_filter (p : Nat → Bool) : ∀ (ds : List Nat) (s : Sq) (i : Int), acts ds s i = acts (ds.filter p) (acts (ds.filter fun d => !p d) s) i
  | [], _, _ => rfl
  | d :: ds, s, i => by
    rw [acts, acts_filter p ds, List.filter_cons, List.filter_cons]
    cases h : p d with
    | true =>
      rw [if_pos rfl, if_neg (by decide), acts]
      exact acts_congr (fun k => acts_act _ _ _ _) _ _
    | false =>
      rw [if_neg (by decide), if_pos (by decide), acts]
theorem xn1_act {n : Nat} (h : 1 ≤ n) (s : Sq) (i : Int) : act (xn1 n) s i = s (i + n) - s i := by
  unfold xn1
  rw [act_append, act_append, act_zeros, List.length_append, List.length_replicate]
  show -1 * s i + 0 + 0 + (1 * s (i + ((1 + (n - 1) : Nat) : Int)) + 0) = _
  rw [show ((1 + (n - 1) : Nat) : Int) = (n : Int) by omega, Int.one_mul]
  omega
theorem chain_act : ∀ {ds : List Nat} {a : List Int}, (∀ d ∈ ds, 1 ≤ d ∧ d ≤ 40) → chain ds a = true → ∀ (s : Sq) (i : Int), act a s i = acts ds s i
  | [], a, _, h, s, i => by
    have e : a = [1] := of_decide_eq_true h
    rw [e]
    show 1 * s i + 0 = s i
    omega
  | d :: ds, a, hd, h, s, i => by
    have h' := (Bool.and_eq_true _ _).mp h
    have h1 := hd d List.mem_cons_self
    rw [act_exact (cyc_mon h1.1 h1.2) h'.1, chain_act (fun x hx => hd x (List.mem_cons_of_mem _ hx)) h'.2]
    rfl
theorem all_act {n : Nat} (h1 : 1 ≤ n) (h : n ≤ 40) (s : Sq) (i : Int) : acts (divs n n) s i = s (i + n) - s i := by
  rw [← chain_act (a := xn1 n) (fun d hd => by have := divs_mem.mp hd; omega) (chain0 n (by omega) h1), xn1_act h1]
/-! ### what two different ones both kill is 0 -/
def PerS (w : Sq) (d : Nat) : Prop := ∀ i, w (i + d) = w i
theorem PerS.mul {w : Sq} {d : Nat} (h : PerS w d) : ∀ (k : Nat) (i : Int), w (i + ((k * d : Nat) : Int)) = w i
  | 0, i => by rw [Nat.zero_mul, show i + ((0 : Nat) : Int) = i by omega]
  | k + 1, i => by
    rw [Nat.succ_mul, show i + ((k * d + d : Nat) : Int) = i + ((k * d : Nat) : Int) + (d : Int) by omega, h, h.mul k]
theorem PerS.mod {w : Sq} {d e : Nat} (hd : PerS w d) (he : PerS w e) : PerS w (e % d) := fun i => by
  have h1 := hd.mul (e / d) (i + ((e % d : Nat) : Int))
  have h2 : i + ((e % d : Nat) : Int) + ((e / d * d : Nat) : Int) = i + (e : Int) := by
    have := Nat.mod_add_div e d
    rw [Nat.mul_comm] at this
    omega
  rw [h2, he] at h1
  exact h1.symm
theorem PerS.gcd {w : Sq} (d e : Nat) : PerS w d → PerS w e → PerS w (Nat.gcd d e) := by
  induction d, e using Nat.gcd.induction with
  | H0 e => intro _ he; rw [Nat.gcd_zero_left]; exact he
  | H1 d e _ ih => intro hd he; rw [Nat.gcd_rec]; exact ih (hd.mod he) hd
theorem phi_act {w : Sq} {g : Nat} (h1 : 1 ≤ g) (h : PerS w g) : ∀ (k : Nat) (i : Int), act (phi g k) w i = ((k : Int) + 1) * w i
  | 0, i => by
    show 1 * w i + 0 = ((0 : Nat) + 1 : Int) * w i
    rw [show (((0 : Nat) : Int) + 1) = 1 by omega, Int.add_zero]
  | k + 1, i => by
    rw [phi, act_append, List.length_cons, List.length_replicate, phi_act h1 h k]
    rw [show i + ((g - 1 + 1 : Nat) : Int) = i + (g : Int) by omega, h i]
    show 1 * w i + act (List.replicate (g - 1) 0) w (i + 1) + ((k : Int) + 1) * w i = (((k + 1 : Nat) : Int) + 1) * w i
    rw [act_zeros, show (((k + 1 : Nat) : Int) + 1) = 1 + ((k : Int) + 1) by omega, Int.add_mul 1]
    omega
theorem cyc_per {w : Sq} {d : Nat} (h1 : 1 ≤ d) (h : d ≤ 40) (hw : ∀ i, act (cyc d) w i = 0) : PerS w d := fun i => by
  have e := act_exact (cyc_mon h1 h) (cyc_xn0 d (by omega) h1) w i
  rw [act_null hw, xn1_act h1] at e
  omega
theorem cyc_low {w : Sq} {d g : Nat} (h : d ≤ 40) (hg : g < d) (hg1 : 1 ≤ g) (hz : d % g = 0) (hw : ∀ i, act (cyc d) w i = 0) (hp : PerS w g) (i : Int) : w i = 0 := by
  have e := act_exact (cyc_mon (by omega) h) (cyc_phi0 d (by omega) g hg hg1 hz) w i
  rw [act_null hw, phi_act hg1 hp] at e
  have : 0 < d / g := Nat.div_pos (by omega) hg1
  rcases Int.mul_eq_zero.mp e with z | z
  · omega
  · exact z
theorem two_kill {w : Sq} {d e : Nat} (d1 : 1 ≤ d) (d40 : d ≤ 40) (e1 : 1 ≤ e) (e40 : e ≤ 40) (ne : d ≠ e) (hd : ∀ i, act (cyc d) w i = 0) (he : ∀ i, act (cyc e) w i = 0) (i : Int) : w i = 0 := by
  have hg := PerS.gcd d e (cyc_per d1 d40 hd) (cyc_per e1 e40 he)
  have g1 : 1 ≤ Nat.gcd d e := Nat.gcd_pos_of_pos_left e d1
  have gd := Nat.gcd_dvd_left d e
  have ge := Nat.gcd_dvd_right d e
  by_cases c : Nat.gcd d e < d
  · exact cyc_low d40 c g1 (Nat.mod_eq_zero_of_dvd gd) hd hg i
  · have hd' : Nat.gcd d e = d := Nat.le_antisymm (Nat.le_of_dvd d1 gd) (by omega)
    rw [hd'] at ge hg
    have : d ≤ e := Nat.le_of_dvd e1 ge
    exact cyc_low e40 (by omega) d1 (Nat.mod_eq_zero_of_dvd ge) he hg i
theorem peel {d : Nat} (d1 : 1 ≤ d) (d40 : d ≤ 40) : ∀ {T : List Nat} {w : Sq}, (∀ e ∈ T, e ≠ d ∧ 1 ≤ e ∧ e ≤ 40) → (∀ i, act (cyc d) w i = 0) → (∀ i, acts T w i = 0) → ∀ i, w i = 0
  | [], _, _, _, h, i => h i
  | e :: T, w, ht, hd, h, i => by
    obtain ⟨h1, h2, h3⟩ := ht e List.mem_cons_self
    have hw1 : ∀ k, act (cyc e) w k = 0 := peel d1 d40 (T := T) (w := act (cyc e) w) (fun x hx => ht x (List.mem_cons_of_mem _ hx)) (fun k => by rw [act_comm, act_null hd]) h
    exact two_kill d1 d40 h2 h3 (fun z => h1 z.symm) hd hw1 i
theorem divs_one {n : Nat} : ∀ {k d : Nat}, d ∈ divs n k → (divs n k).filter (fun e => decide (e = d)) = [d]
  | 0, d, h => by
    rw [divs] at h
    exact (List.not_mem_nil h).elim
  | k + 1, d, h => by
    rw [divs] at h ⊢
    by_cases c : n % (k + 1) = 0
    · rw [if_pos c] at h ⊢
      rw [List.filter_append]
      by_cases z : d = k + 1
      · subst z
        have e1 : (divs n k).filter (fun e => decide (e = k + 1)) = [] := List.filter_eq_nil_iff.mpr fun a ha => by
          have := (divs_mem.mp ha).2.1
          intro y
          have := of_decide_eq_true y
          omega
        rw [e1, List.filter_cons, if_pos (decide_eq_true rfl), List.filter_nil, List.nil_append]
      · have hm : d ∈ divs n k := by
          rcases List.mem_append.mp h with y | y
          · exact y
          · exact absurd (List.mem_singleton.mp y) z
        rw [divs_one hm, List.filter_cons, if_neg (by intro y; exact z (of_decide_eq_true y).symm), List.filter_nil, List.append_nil]
    · rw [if_neg c] at h ⊢
      exact divs_one h
/-- each of some kills what the others leave: the rest kill it -/
theorem kill {n : Nat} (n1 : 1 ≤ n) (n40 : n ≤ 40) {u : Sq} (hp : PerS u n) : ∀ (T : List Nat), (∀ d ∈ T, d ∈ divs n n ∧ ∀ i, acts ((divs n n).filter fun e => decide (e ≠ d)) u i = 0) → ∀ i, acts ((divs n n).filter fun e => decide (e ∉ T)) u i = 0
  | [], _, i => by
    have e : (divs n n).filter (fun e => decide (e ∉ ([] : List Nat))) = divs n n := List.filter_eq_self.mpr fun a _ => decide_eq_true (List.not_mem_nil)
    rw [e, all_act n1 n40, hp]
    omega
  | d :: T, h, i => by
    have hT := kill n1 n40 hp T fun x hx => h x (List.mem_cons_of_mem _ hx)
    obtain ⟨hd, hk⟩ := h d List.mem_cons_self
    have hd40 := divs_mem.mp hd
    by_cases c : d ∈ T
    · have e : (divs n n).filter (fun e => decide (e ∉ d :: T)) = (divs n n).filter (fun e => decide (e ∉ T)) := List.filter_congr fun a _ => decide_eq_decide.mpr ⟨fun y z => y (List.mem_cons_of_mem _ z), fun y z => by
        rcases List.mem_cons.mp z with w | w
        · subst w; exact y c
        · exact y w⟩
      rw [e]
      exact hT i
    · refine peel (d := d) hd40.1 (by omega) (T := (divs n n).filter fun e => decide (e ∈ T)) (w := acts ((divs n n).filter fun e => decide (e ∉ d :: T)) u) (fun e he => ?_) (fun k => ?_) (fun k => ?_) i
      · have h1 := List.mem_filter.mp he
        have h2 := of_decide_eq_true h1.2
        have h3 := divs_mem.mp h1.1
        exact ⟨fun z => c (by rw [← z]; exact h2), h3.1, by omega⟩
      · have h1 := acts_filter (fun e => decide (e ≠ d)) ((divs n n).filter fun e => decide (e ∉ T)) u k
        rw [hT k, List.filter_filter, List.filter_filter] at h1
        have e1 : (divs n n).filter (fun a => decide (a ≠ d) && decide (a ∉ T)) = (divs n n).filter fun e => decide (e ∉ d :: T) := List.filter_congr fun a _ => by
          rw [← Bool.decide_and]
          exact decide_eq_decide.mpr ⟨fun y z => by rcases List.mem_cons.mp z with w | w; exact y.1 w; exact y.2 w, fun y => ⟨fun z => y (by rw [z]; exact List.mem_cons_self), fun z => y (List.mem_cons_of_mem _ z)⟩⟩
        have e2 : (divs n n).filter (fun a => (!decide (a ≠ d)) && decide (a ∉ T)) = [d] := by
          rw [← divs_one hd]
          refine List.filter_congr fun a _ => ?_
          by_cases y : a = d
          · subst y
            rw [decide_eq_false (fun z => z rfl), decide_eq_true c, decide_eq_true rfl]
            rfl
          · rw [decide_eq_true y, decide_eq_false y]
            rfl
        rw [e1, e2] at h1
        have h2 : acts ((divs n n).filter fun e => decide (e ∉ d :: T)) (acts [d] u) k = act (cyc d) (acts ((divs n n).filter fun e => decide (e ∉ d :: T)) u) k := acts_act _ _ _ _
        rw [← h2]
        exact h1.symm
      · have h1 := acts_filter (fun e => decide (e ∈ T)) ((divs n n).filter fun e => decide (e ≠ d)) u k
        rw [hk k, List.filter_filter, List.filter_filter] at h1
        have e1 : (divs n n).filter (fun a => decide (a ∈ T) && decide (a ≠ d)) = (divs n n).filter fun e => decide (e ∈ T) := List.filter_congr fun a _ => by
          rw [← Bool.decide_and]
          exact decide_eq_decide.mpr ⟨fun y => y.1, fun y => ⟨y, fun z => c (by rw [← z]; exact y)⟩⟩
        have e2 : (divs n n).filter (fun a => (!decide (a ∈ T)) && decide (a ≠ d)) = (divs n n).filter fun e => decide (e ∉ d :: T) := List.filter_congr fun a _ => by
          rw [← decide_not, ← Bool.decide_and]
          exact decide_eq_decide.mpr ⟨fun y z => by rcases List.mem_cons.mp z with w | w; exact y.2 w; exact y.1 w, fun y => ⟨fun z => y (List.mem_cons_of_mem _ z), fun z => y (by rw [z]; exact List.mem_cons_self)⟩⟩
        rw [e1, e2] at h1
        exact h1.symm
/-! ### the disc as a sequence -/
def dlt (n : Nat) : Sq := fun i => if i % (n : Int) = 0 then 1 else 0
theorem dlt_per {n : Nat} : PerS (dlt n) n := fun i => by
  unfold dlt
  rw [Int.add_emod_right]
theorem act_dlt {n : Nat} (h1 : 1 ≤ n) : ∀ (p : List Int), p.length ≤ n → ∀ i : Int, act p (dlt n) i = p.getD (((-i) % (n : Int)).toNat) 0
  | [], _, i => by
    rw [List.getD_eq_getElem?_getD, List.getElem?_nil]
    rfl
  | a :: p, h, i => by
    rw [List.length_cons] at h
    rw [act, act_dlt h1 p (by omega)]
    have hm := mod_in (i := -i) (show 0 < n by omega)
    have hm2 := mod_in (i := -(i + 1)) (show 0 < n by omega)
    by_cases c : i % (n : Int) = 0
    · have e0 : (-i) % (n : Int) = 0 := Int.emod_eq_zero_of_dvd (Int.dvd_neg.mpr (Int.dvd_of_emod_eq_zero c))
      have e1 : (-(i + 1)) % (n : Int) = n - 1 := by
        have : (-(i + 1)) % (n : Int) = (((-i) % (n : Int)) + ((n : Int) - 1)) % (n : Int) := by
          rw [Int.emod_add_emod, show -i + ((n : Int) - 1) = -(i + 1) + (n : Int) by omega, Int.add_emod_right]
        rw [this, e0, Int.zero_add, Int.emod_eq_of_lt (by omega) (by omega)]
      rw [e0, e1]
      show a * dlt n i + p.getD ((n : Int) - 1).toNat 0 = a
      have e2 : p.getD ((n : Int) - 1).toNat 0 = 0 := by
        rw [List.getD_eq_getElem?_getD, List.getElem?_eq_none (by omega)]
        rfl
      rw [e2]
      unfold dlt
      rw [if_pos c]
      omega
    · have hpos : 0 < (-i) % (n : Int) := by
        rcases Int.lt_or_eq_of_le hm.1 with y | y
        · exact y
        · exact absurd (Int.emod_eq_zero_of_dvd (Int.dvd_neg.mp (Int.dvd_of_emod_eq_zero y.symm))) c
      have e1 : (-(i + 1)) % (n : Int) = (-i) % (n : Int) - 1 := by
        have : (-(i + 1)) % (n : Int) = (((-i) % (n : Int)) - 1) % (n : Int) := by
          rw [Int.emod_sub_emod, show -i - 1 = -(i + 1) by omega]
        rw [this, Int.emod_eq_of_lt (by omega) (by omega)]
      rw [e1]
      have e3 : ((-i) % (n : Int)).toNat = ((-i) % (n : Int) - 1).toNat + 1 := by omega
      rw [e3, List.getD_cons_succ]
      unfold dlt
      rw [if_neg c, Int.mul_zero, Int.zero_add]
/-- all that are not blind kill a disc, counted backwards -/
theorem blind_kill {ns : List Int} (l1 : 1 ≤ ns.length) (l40 : ns.length ≤ 40) (i : Int) : acts ((divs ns.length ns.length).filter fun e => decide (e ∉ blindL ns)) (act ns (dlt ns.length)) i = 0 := by
  refine kill l1 l40 (fun k => ?_) (blindL ns) (fun d hd => ⟨(List.mem_filter.mp hd).1, fun k => ?_⟩) i
  · have := act_shift ns (dlt ns.length) ns.length k
    rw [← this]
    exact act_congr fun j _ => dlt_per _
  · have hm := blind_mem hd
    have hb : blB ns d = true := (List.mem_filter.mp hd).2
    have e1 : act ns (dlt ns.length) = act (quo (cyc d) ns) (act (cyc d) (dlt ns.length)) := funext fun m => act_exact (cyc_mon hm.1 (by omega)) hb _ m
    rw [e1, acts_act]
    refine act_null (fun m => ?_) k
    have h1 := acts_filter (fun e => decide (e ≠ d)) (divs ns.length ns.length) (dlt ns.length) m
    have e2 : (divs ns.length ns.length).filter (fun a => !decide (a ≠ d)) = [d] := by
      rw [← divs_one (List.mem_filter.mp hd).1]
      refine List.filter_congr fun a _ => ?_
      by_cases y : a = d
      · rw [decide_eq_true y, decide_eq_false (fun z => z y)]
        rfl
      · rw [decide_eq_false y, decide_eq_true y]
        rfl
    rw [all_act l1 l40, dlt_per, e2] at h1
    have h2 : acts ((divs ns.length ns.length).filter fun e => decide (e ≠ d)) (acts [d] (dlt ns.length)) m = acts ((divs ns.length ns.length).filter fun e => decide (e ≠ d)) (act (cyc d) (dlt ns.length)) m := rfl
    rw [← h2, ← h1]
    omega
/-! ### products -/
/-- f times q added to l at s, s + 1 .. -/
def addI (q : List Int) (f : Int) (s : Nat) : Nat → List Int → List Int
  | 0, l => l
  | j + 1, l => (addI q f s j l).set (s + j) ((addI q f s j l).getD (s + j) 0 + f * q.getD j 0)
def mulN (p q : List Int) : Nat → List Int
  | 0 => List.replicate (p.length + q.length - 1) 0
  | i + 1 => addI q (p.getD i 0) i q.length (mulN p q i)
def mulL (p q : List Int) : List Int := mulN p q p.length
theorem addI_len (q : List Int) (f : Int) (s : Nat) : ∀ (j : Nat) (l : List Int), (addI q f s j l).length = l.length
  | 0, _ => rfl
  | j + 1, l => by
    rw [addI, List.length_set, addI_len q f s j l]
theorem mulN_len (p q : List Int) : ∀ i, (mulN p q i).length = p.length + q.length - 1
  | 0 => List.length_replicate
  | i + 1 => by rw [mulN, addI_len, mulN_len p q i]
theorem act_addI {q : List Int} {f : Int} {k : Nat} (s : Sq) (i : Int) : ∀ (j : Nat) (l : List Int), j ≤ q.length → k + j ≤ l.length → act (addI q f k j l) s i = act l s i + f * act (q.take j) s (i + k)
  | 0, l, _, _ => by
    show act l s i = act l s i + f * 0
    rw [Int.mul_zero, Int.add_zero]
  | j + 1, l, h, hl => by
    obtain ⟨c, hc⟩ : ∃ c, q[j]? = some c := ⟨_, List.getElem?_eq_getElem (by omega)⟩
    rw [addI, act_set _ _ _ _ _ (by rw [addI_len]; omega), act_addI s i j l (by omega) (by omega), List.take_add_one, hc, getD_at hc]
    show _ = act l s i + f * act (q.take j ++ [c]) s (i + k)
    rw [act_append, List.length_take, show min j q.length = j by omega]
    show _ = act l s i + f * (act (q.take j) s (i + k) + (c * s (i + k + j) + 0))
    rw [show i + (k : Int) + (j : Int) = i + ((k + j : Nat) : Int) by omega, Int.mul_add, Int.add_zero, ← Int.mul_assoc]
    rw [show (addI q f k j l).getD (k + j) 0 + f * c - (addI q f k j l).getD (k + j) 0 = f * c by omega]
    omega
theorem act_mulN (p q : List Int) (hq : 1 ≤ q.length) (s : Sq) (i : Int) : ∀ k, k ≤ p.length → act (mulN p q k) s i = act (p.take k) (act q s) i
  | 0, _ => by
    rw [mulN, act_zeros]
    rfl
  | k + 1, h => by
    obtain ⟨c, hc⟩ : ∃ c, p[k]? = some c := ⟨_, List.getElem?_eq_getElem (by omega)⟩
    rw [mulN, act_addI s i q.length _ (Nat.le_refl _) (by rw [mulN_len]; omega), act_mulN p q hq s i k (by omega), List.take_add_one, hc, getD_at hc, List.take_of_length_le (Nat.le_refl _)]
    show _ = act (p.take k ++ [c]) (act q s) i
    rw [act_append, List.length_take, show min k p.length = k by omega]
    show _ = _ + (c * act q s (i + k) + 0)
    omega
theorem act_mulL (p q : List Int) (hq : 1 ≤ q.length) (s : Sq) (i : Int) : act (mulL p q) s i = act p (act q s) i := by
  unfold mulL
  rw [act_mulN p q hq s i p.length (Nat.le_refl _), List.take_of_length_le (Nat.le_refl _)]
/-- the product of C(d), one behind the other -/
def prodL (ds : List Nat) : List Int := ds.foldl (fun a d => mulL a (cyc d)) [1]
theorem prodL_snoc (ds : List Nat) (d : Nat) : prodL (ds ++ [d]) = mulL (prodL ds) (cyc d) := by
  unfold prodL
  rw [List.foldl_append]
  rfl
theorem fold_act : ∀ (ds : List Nat) (a : List Int), (∀ d ∈ ds, 1 ≤ d ∧ d ≤ 40) → ∀ (s : Sq) (i : Int), act (ds.foldl (fun a d => mulL a (cyc d)) a) s i = act a (acts ds s) i
  | [], _, _, _, _ => rfl
  | d :: ds, a, h, s, i => by
    have h1 := h d List.mem_cons_self
    have hl := (cyc_len h1.1 h1.2).1
    rw [List.foldl_cons, fold_act ds _ (fun x hx => h x (List.mem_cons_of_mem _ hx)), act_mulL _ _ (by omega)]
    refine act_congr fun j _ => ?_
    exact (acts_act ds (cyc d) s _).symm
theorem prodL_act {ds : List Nat} (h : ∀ d ∈ ds, 1 ≤ d ∧ d ≤ 40) (s : Sq) (i : Int) : act (prodL ds) s i = acts ds s i := by
  unfold prodL
  rw [fold_act ds [1] h]
  show 1 * acts ds s i + 0 = _
  omega
end Sd

namespace Sd
open PySem PySem.Spec PyProof.Rows L2

/-! ### bounds of products and rests -/
/-- small enough to be a factor of any number -/
def Sml (l : List Int) : Prop := ∀ x ∈ l, x.natAbs < 2 ^ 62
theorem Unt.sml {l : List Int} (h : Unt l) : Sml l := fun x hx => by
  have := h x hx
  exact Nat.lt_of_lt_of_le (m := 2) (by omega) (by decide)
def Bd (B : Nat) (l : List Int) : Prop := ∀ x ∈ l, x.natAbs ≤ B
theorem addI_get (q : List Int) (f : Int) (s : Nat) : ∀ (j : Nat) (l : List Int) (i : Nat), s + j ≤ i → (addI q f s j l)[i]? = l[i]?
  | 0, _, _, _ => rfl
  | j + 1, l, i, h => by
    rw [addI, List.getElem?_set_ne (by omega)]
    exact addI_get q f s j l i (by omega)
theorem addI_bd {A B : Nat} {q : List Int} {f : Int} {s : Nat} (hU : Unt q) (hf : f.natAbs ≤ B) : ∀ (j : Nat) {l : List Int}, Bd A l → Bd (A + B) (addI q f s j l)
  | 0, l, h => fun x hx => Nat.le_trans (h x hx) (Nat.le_add_right _ _)
  | j + 1, l, h => fun n hn => by
    rw [addI] at hn
    rcases List.mem_or_eq_of_mem_set hn with z | z
    · exact addI_bd hU hf j h n z
    · have h1 : ((addI q f s j l).getD (s + j) 0).natAbs ≤ A := by
        rw [List.getD_eq_getElem?_getD, addI_get q f s j l (s + j) (Nat.le_refl _)]
        cases e : l[s + j]? with
        | none => exact Nat.zero_le _
        | some x => exact h x (List.mem_of_getElem? e)
      have h2 : (f * q.getD j 0).natAbs ≤ B := by
        rw [List.getD_eq_getElem?_getD]
        cases e : q[j]? with
        | none =>
          show (f * 0).natAbs ≤ B
          rw [Int.mul_zero]
          exact Nat.zero_le _
        | some x =>
          have hx := hU x (List.mem_of_getElem? e)
          have : x = -1 ∨ x = 0 ∨ x = 1 := by omega
          show (f * x).natAbs ≤ B
          rcases this with rfl | rfl | rfl <;> omega
      omega
theorem mulN_bd {B : Nat} {p q : List Int} (hU : Unt q) (hp : Bd B p) : ∀ i, Bd (i * B) (mulN p q i)
  | 0 => fun x hx => by
    rw [mulN] at hx
    rw [(List.mem_replicate.mp hx).2]
    exact Nat.zero_le _
  | i + 1 => by
    rw [mulN, Nat.succ_mul]
    refine addI_bd hU ?_ _ (mulN_bd hU hp i)
    rw [List.getD_eq_getElem?_getD]
    cases e : p[i]? with
    | none => exact Nat.zero_le _
    | some x => exact hp x (List.mem_of_getElem? e)
theorem fold_bd : ∀ (ds : List Nat) (a : List Int) (B : Nat), (∀ d ∈ ds, 1 ≤ d ∧ d ≤ 40) → 1 ≤ a.length → a.length + degS ds ≤ 41 → Bd B a → Bd (B * 41 ^ ds.length) (ds.foldl (fun a d => mulL a (cyc d)) a) ∧ (ds.foldl (fun a d => mulL a (cyc d)) a).length = a.length + degS ds
  | [], a, B, _, _, _, h => ⟨by rw [List.length_nil, Nat.pow_zero, Nat.mul_one]; exact h, rfl⟩
  | d :: ds, a, B, hd, ha, hl, h => by
    have h1 := hd d List.mem_cons_self
    have hc := cyc_len h1.1 h1.2
    unfold degS at hl
    rw [List.map_cons, List.sum_cons] at hl
    have hm : (mulL a (cyc d)).length = a.length + ((cyc d).length - 1) := by
      unfold mulL
      rw [mulN_len]
      omega
    have hb : Bd (B * 41) (mulL a (cyc d)) := fun x hx => by
      have := mulN_bd (cyc_unt h1.1 h1.2) h a.length x hx
      exact Nat.le_trans this (by rw [Nat.mul_comm]; exact Nat.mul_le_mul_left _ (by omega))
    obtain ⟨i1, i2⟩ := fold_bd ds (mulL a (cyc d)) (B * 41) (fun x hx => hd x (List.mem_cons_of_mem _ hx)) (by omega) (by rw [hm]; unfold degS; omega) hb
    rw [List.foldl_cons]
    refine ⟨?_, ?_⟩
    · rw [List.length_cons, Nat.pow_succ, Nat.mul_comm (41 ^ ds.length), ← Nat.mul_assoc]
      exact i1
    · rw [i2, hm]
      unfold degS
      rw [List.map_cons, List.sum_cons]
      omega
/-- those that are not blind -/
def seenL (ns : List Int) : List Nat := (divs ns.length ns.length).filter fun e => decide (e ∉ blindL ns)
theorem seen_mem {ns : List Int} {d : Nat} (h : d ∈ seenL ns) : 1 ≤ d ∧ d ≤ ns.length ∧ ns.length % d = 0 := divs_mem.mp (List.mem_filter.mp h).1
theorem seen_deg {ns : List Int} (l1 : 1 ≤ ns.length) (l40 : ns.length ≤ 40) : degS (seenL ns) ≤ ns.length := by
  have := degS_filter (fun e => decide (e ∉ blindL ns)) (divs ns.length ns.length)
  rw [deg_all ns.length (by omega) l1] at this
  exact this
def seenP (ns : List Int) : List Int := prodL (seenL ns)
theorem seenP_len {ns : List Int} (l1 : 1 ≤ ns.length) (l40 : ns.length ≤ 40) : (seenP ns).length = 1 + degS (seenL ns) := by
  have h := seen_deg l1 l40
  exact (fold_bd (seenL ns) [1] 1 (fun d hd => by have := seen_mem hd; omega) (Nat.le_refl _) (by show 1 + _ ≤ 41; omega) (fun x hx => by rw [List.mem_singleton.mp hx]; decide)).2
theorem seenP_sml {ns : List Int} (l1 : 1 ≤ ns.length) (l40 : ns.length ≤ 40) : Sml (seenP ns) := fun x hx => by
  have h := seen_deg l1 l40
  have h1 := (fold_bd (seenL ns) [1] 1 (fun d hd => by have := seen_mem hd; omega) (Nat.le_refl _) (by show 1 + _ ≤ 41; omega) (fun x hx => by rw [List.mem_singleton.mp hx]; decide)).1 x hx
  have h2 : (seenL ns).length ≤ 9 := Nat.le_trans (List.length_filter_le _ _) (divs_few _ (by omega))
  have h3 : 1 * 41 ^ (seenL ns).length ≤ 41 ^ 9 := by rw [Nat.one_mul]; exact Nat.pow_le_pow_right (by decide) h2
  exact Nat.lt_of_le_of_lt (Nat.le_trans h1 h3) (by decide)
theorem fold_mon : ∀ (ds : List Nat) (a : List Int), (∀ d ∈ ds, 1 ≤ d ∧ d ≤ 40) → 1 ≤ a.length → Mon a → Mon (ds.foldl (fun a d => mulL a (cyc d)) a)
  | [], a, _, _, h => h
  | d :: ds, a, hd, ha, h => by
    have h1 := hd d List.mem_cons_self
    have hc := cyc_len h1.1 h1.2
    rw [List.foldl_cons]
    have hm : (mulL a (cyc d)).length = a.length + ((cyc d).length - 1) := by
      unfold mulL
      rw [mulN_len]
      omega
    refine fold_mon ds _ (fun x hx => hd x (List.mem_cons_of_mem _ hx)) (by omega) ?_
    -- the last number of a product
    obtain ⟨p, hp⟩ := h
    obtain ⟨q, hq⟩ := cyc_mon h1.1 h1.2
    have hl : (mulL a (cyc d))[a.length + (cyc d).length - 2]? = some 1 := by
      have hap : a.length = p.length + 1 := by rw [hp, List.length_append]; rfl
      have hcq : (cyc d).length = q.length + 1 := by rw [hq, List.length_append]; rfl
      unfold mulL
      rw [hap, mulN]
      have ea : a.getD p.length 0 = 1 := by
        rw [hp, List.getD_eq_getElem?_getD, List.getElem?_append_right (Nat.le_refl _), Nat.sub_self]
        rfl
      rw [ea, hcq, addI]
      have hidx : p.length + 1 + (q.length + 1) - 2 = p.length + q.length := by omega
      rw [hidx]
      have ec : (cyc d).getD q.length 0 = 1 := by
        rw [hq, List.getD_eq_getElem?_getD, List.getElem?_append_right (Nat.le_refl _), Nat.sub_self]
        rfl
      have e0 : (addI (cyc d) 1 p.length q.length (mulN a (cyc d) p.length)).getD (p.length + q.length) 0 = 0 := by
        rw [List.getD_eq_getElem?_getD, addI_get _ _ _ _ _ _ (Nat.le_refl _), mulN_top (a := a) (c := cyc d) (i := p.length) (k := p.length + q.length) (by omega) (by omega) (by omega)]
        rfl
      rw [List.getElem?_set_self (by rw [addI_len, mulN_len]; omega), e0, ec]
      rfl
    refine ⟨(mulL a (cyc d)).take (a.length + (cyc d).length - 2), ?_⟩
    have h2 : (mulL a (cyc d)).take (a.length + (cyc d).length - 2 + 1) = (mulL a (cyc d)).take (a.length + (cyc d).length - 2) ++ [1] := by
      rw [List.take_add_one, hl]
      rfl
    rw [← h2, List.take_of_length_le (by rw [hm]; omega)]
where
  mulN_top {a c : List Int} (hc : 1 ≤ c.length) : ∀ {i k : Nat}, i + c.length - 1 ≤ k → k < a.length + c.length - 1 → (mulN a c i)[k]? = some 0
    | 0, k, _, hk => by
      rw [mulN, List.getElem?_replicate, if_pos hk]
    | i + 1, k, h, hk => by
      rw [mulN, addI_get _ _ _ _ _ _ (by omega)]
      exact mulN_top hc (by omega) hk

/-! ### the rests, the rows -/
theorem subI_abS {b : Nat} {low : List Int} {f : Int} {s : Nat} (hU : Sml low) (hf : f.natAbs < 2 ^ b) : ∀ (j : Nat) {l : List Int}, Ab b l → Ab (b + 63) (subI low f s j l)
  | 0, l, h => h.mono (Nat.le_add_right _ _)
  | j + 1, l, h => fun n hn => by
    rw [subI] at hn
    rcases List.mem_or_eq_of_mem_set hn with z | z
    · exact subI_abS hU hf j h n z
    · have hp : 0 < 2 ^ b := Nat.two_pow_pos b
      have h1 : ((subI low f s j l).getD (s + j) 0).natAbs < 2 ^ b := by
        rw [List.getD_eq_getElem?_getD, subI_get low f s j l (s + j) (Nat.le_refl _)]
        cases e : l[s + j]? with
        | none => exact hp
        | some x => exact h x (List.mem_of_getElem? e)
      have h2 : (f * low.getD j 0).natAbs < 2 ^ (b + 62) := by
        rw [List.getD_eq_getElem?_getD]
        cases e : low[j]? with
        | none =>
          show (f * 0).natAbs < _
          rw [Int.mul_zero]
          exact Nat.two_pow_pos _
        | some x => exact wide_lt hf (hU x (List.mem_of_getElem? e))
      have h3 : (2 : Nat) ^ b ≤ 2 ^ (b + 62) := pow_up (by omega)
      rw [show b + 63 = (b + 62) + 1 by omega, Nat.pow_succ]
      omega
theorem divN_abS {low : List Int} (hU : Sml low) : ∀ (k b : Nat) {l : List Int}, Ab b l → Ab (b + 63 * k) (divN low k l)
  | 0, _, _, h => h
  | k + 1, b, l, h => by
    rw [divN]
    have hf : (l.getD (low.length - 1 + k) 0).natAbs < 2 ^ b := by
      rw [List.getD_eq_getElem?_getD]
      cases e : l[low.length - 1 + k]? with
      | none => exact Nat.two_pow_pos b
      | some x => exact h x (List.mem_of_getElem? e)
    have := divN_abS hU k (b + 63) (subI_abS hU hf (low.length - 1) (s := k) h)
    rw [show b + 63 * (k + 1) = b + 63 + 63 * k by omega]
    exact this
theorem rst_abS {low l : List Int} (hU : Sml low) {b : Nat} (h : Ab b l) : Ab (b + 63 * l.length) (rst low l) := fun n hn => by
  have := divN_abS hU (l.length - (low.length - 1)) b h n (List.mem_of_mem_take hn)
  exact Nat.lt_of_lt_of_le this (pow_up (by omega))
/-- x ** m -/
def powL (m : Nat) : List Int := List.replicate m 0 ++ [1]
theorem powL_len (m : Nat) : (powL m).length = m + 1 := by
  unfold powL
  rw [List.length_append, List.length_replicate]
  rfl
theorem powL_ab (m : Nat) : Ab 1 (powL m) := fun x hx => by
  unfold powL at hx
  rcases List.mem_append.mp hx with h | h
  · rw [(List.mem_replicate.mp h).2]
    decide
  · rw [List.mem_singleton.mp h]
    decide
theorem powL_act (m : Nat) (s : Sq) (i : Int) : act (powL m) s i = s (i + m) := by
  unfold powL
  rw [act_append, act_zeros, List.length_replicate]
  show 0 + (1 * s (i + m) + 0) = _
  omega
/-- x ** m less its rest -/
def fillL (P : List Int) (n m : Nat) : List Int := (((rst P (powL m)).map fun x => -x) ++ List.replicate (n - (rst P (powL m)).length) 0).set m 1
def stepL (P : List Int) (n p : Nat) : List Int := (fillL P n (n - 1 - p)).reverse
theorem rst_powL {P : List Int} {m : Nat} (h : P.length - 1 ≤ m) : (rst P (powL m)).length = P.length - 1 := by
  rw [rst_len, powL_len]
  omega
theorem fillL_len {P : List Int} {n m : Nat} (h : P.length - 1 ≤ m) (hm : m < n) : (fillL P n m).length = n := by
  unfold fillL
  rw [List.length_set, List.length_append, List.length_map, List.length_replicate, rst_powL h]
  omega
theorem act_neg : ∀ (p : List Int) (s : Sq) (i : Int), act (p.map fun x => -x) s i = -act p s i
  | [], _, _ => rfl
  | a :: p, s, i => by
    rw [List.map_cons, act, act, act_neg p, Int.neg_mul]
    omega
theorem fillL_act {P : List Int} (hM : Mon P) {n m : Nat} (h : P.length - 1 ≤ m) (hm : m < n) (s : Sq) (i : Int) : act (fillL P n m) s i = act (quo P (powL m)) (act P s) i := by
  have hr := rst_powL h
  have e := act_div hM (powL m) s i
  rw [powL_act] at e
  unfold fillL
  rw [act_set _ _ _ _ _ (by rw [List.length_append, List.length_map, List.length_replicate, hr]; omega), act_append, act_neg, act_zeros]
  have e0 : (((rst P (powL m)).map fun x => -x) ++ List.replicate (n - (rst P (powL m)).length) 0).getD m 0 = 0 := by
    rw [List.getD_eq_getElem?_getD, List.getElem?_append_right (by rw [List.length_map, hr]; omega), List.getElem?_replicate]
    split <;> rfl
  rw [e0]
  omega
theorem fillL_ab {P : List Int} (hS : Sml P) {n m : Nat} (hm : m < 40) : Ab 2600 (fillL P n m) := fun x hx => by
  unfold fillL at hx
  rcases List.mem_or_eq_of_mem_set hx with z | z
  · rcases List.mem_append.mp z with h | h
    · obtain ⟨y, hy, rfl⟩ := List.mem_map.mp h
      have h1 := rst_abS hS (powL_ab m) y hy
      rw [powL_len] at h1
      have h2 := Nat.lt_of_lt_of_le h1 (pow_up (a := 1 + 63 * (m + 1)) (b := 2600) (by omega))
      rw [Int.natAbs_neg]
      exact h2
    · rw [(List.mem_replicate.mp h).2]
      exact Nat.two_pow_pos _
  · rw [z]
    exact Nat.lt_of_lt_of_le (m := 2 ^ 1) (by decide) (pow_up (by decide))
theorem prods_act : ∀ (p q : List Int), p.length ≤ q.length → (prods p q).sum = act p (fun i => q.getD i.toNat 0) 0
  | [], q, _ => by
    show (List.zipWith (· * ·) [] q).sum = 0
    rw [List.zipWith_nil_left]
    rfl
  | a :: p, [], h => absurd h (Nat.not_succ_le_zero _)
  | a :: p, b :: q, h => by
    have ih := prods_act p q (Nat.le_of_succ_le_succ h)
    show (List.zipWith (· * ·) (a :: p) (b :: q)).sum = a * b + act p (fun i => (b :: q).getD i.toNat 0) (0 + 1)
    rw [List.zipWith_cons_cons, List.sum_cons]
    show a * b + (prods p q).sum = _
    rw [ih]
    refine congrArg (a * b + ·) (act_congr fun j _ => ?_)
    show q.getD (0 + (j : Int)).toNat 0 = (b :: q).getD (0 + 1 + (j : Int)).toNat 0
    rw [show (0 + 1 + (j : Int)).toNat = (0 + (j : Int)).toNat + 1 by omega, List.getD_cons_succ]
theorem prods_rev {p q : List Int} (h : p.length = q.length) : (prods p.reverse q).sum = (prods p q.reverse).sum := by
  have e : prods p.reverse q = (prods p q.reverse).reverse := by
    unfold prods
    rw [List.reverse_zipWith (by rw [List.length_reverse]; exact h), List.reverse_reverse]
  rw [e, List.sum_reverse]
/-- a row in steps has no light -/
theorem step_dark {ns : List Int} (l1 : 1 ≤ ns.length) (l40 : ns.length ≤ 40) {p : Nat} (hp : p < ns.length - degS (seenL ns)) (t : Int) : lightV ns (stepL (seenP ns) ns.length p) t = 0 := by
  have hd := seen_deg l1 l40
  have hPl := seenP_len l1 l40
  have hM : Mon (seenP ns) := fold_mon (seenL ns) [1] (fun d hd => by have := seen_mem hd; omega) (Nat.le_refl _) ⟨[], rfl⟩
  have hm1 : (seenP ns).length - 1 ≤ ns.length - 1 - p := by omega
  have hm2 : ns.length - 1 - p < ns.length := by omega
  have hfl := fillL_len hm1 hm2
  have hl : (stepL (seenP ns) ns.length p).length = ns.length := by
    unfold stepL
    rw [List.length_reverse, hfl]
  rw [light_swap hl]
  unfold lightV stepL
  rw [prods_rev (by rw [rot_len, hfl]), prods_act _ _ (by rw [List.length_reverse, rot_len, hfl]; exact Nat.le_refl _)]
  have e : act (fillL (seenP ns) ns.length (ns.length - 1 - p)) (fun i => (rot ns (-t)).reverse.getD i.toNat 0) 0 = act (fillL (seenP ns) ns.length (ns.length - 1 - p)) (act ns (dlt ns.length)) (-((ns.length : Int) - 1 + t)) := act_congr fun j hj => by
    rw [hfl] at hj
    show (rot ns (-t)).reverse.getD (0 + (j : Int)).toNat 0 = act ns (dlt ns.length) (-((ns.length : Int) - 1 + t) + (j : Int))
    rw [act_dlt l1 ns (Nat.le_refl _), show (0 + (j : Int)).toNat = j by omega, List.getD_eq_getElem?_getD, List.getElem?_reverse (by rw [rot_len]; exact hj), rot_len, rot_at (by omega)]
    show ns.getD _ 0 = ns.getD _ 0
    rw [show ((ns.length - 1 - j : Nat) : Int) - -t = -(-((ns.length : Int) - 1 + t) + (j : Int)) by omega]
  rw [e, fillL_act hM hm1 hm2]
  refine act_null (fun i => ?_) _
  unfold seenP
  rw [prodL_act (fun d hd => by have := seen_mem hd; omega)]
  exact blind_kill l1 l40 i
end Sd

namespace Sd
open PySem PySem.Spec PyProof.Rows L2

/-! ### lights of sums of rows -/
/-- one row and a multiple of another -/
def linL (t : Int) (a b : List Int) : List Int := List.zipWith (fun x y => x + t * y) a b
theorem linL_len {t : Int} {a b : List Int} (h : a.length = b.length) : (linL t a b).length = a.length := by
  unfold linL
  rw [List.length_zipWith]
  omega
theorem linL_at {t : Int} {a b : List Int} {i : Nat} {x y : Int} (h1 : a[i]? = some x) (h2 : b[i]? = some y) : (linL t a b)[i]? = some (x + t * y) := by
  unfold linL
  rw [List.getElem?_zipWith, h1, h2]
theorem linL_get {t : Int} {a b : List Int} (h : a.length = b.length) {i : Nat} (hi : i < a.length) : (linL t a b).getD i 0 = a.getD i 0 + t * b.getD i 0 :=
  getD_at (linL_at (at_getD hi) (at_getD (by omega)))
theorem linL_ab {t : Int} {a b : List Int} {k j m : Nat} (ha : Ab k a) (hb : Ab j b) (ht : t.natAbs < 2 ^ m) : Ab (k + j + m + 1) (linL t a b) := fun x hx => by
  unfold linL at hx
  obtain ⟨i, hi, e⟩ := List.mem_iff_getElem.mp hx
  rw [List.length_zipWith] at hi
  rw [List.getElem_zipWith] at e
  have h1 := ha _ (List.getElem_mem (show i < a.length by omega))
  have h2 := hb _ (List.getElem_mem (show i < b.length by omega))
  rw [← e]
  have h3 := wide_lt ht h2
  have p1 : (2 : Nat) ^ k ≤ 2 ^ (k + j + m) := pow_up (by omega)
  have p2 : (2 : Nat) ^ (m + j) ≤ 2 ^ (k + j + m) := pow_up (by omega)
  rw [Nat.pow_succ]
  omega
theorem light_act {ns ms : List Int} (hl : ns.length = ms.length) (t : Int) : lightV ns ms t = act ns (fun i => (rot ms t).getD i.toNat 0) 0 := by
  unfold lightV
  exact prods_act ns (rot ms t) (by rw [rot_len]; omega)
theorem light_lin {ns a b : List Int} (ha : ns.length = a.length) (hb : ns.length = b.length) (t u : Int) : lightV ns (linL t a b) u = lightV ns a u + t * lightV ns b u := by
  have hab : a.length = b.length := by omega
  rw [light_act (by rw [linL_len hab]; exact ha), light_act ha, light_act hb, ← act_mul, ← act_add]
  refine act_congr fun j hj => ?_
  show (rot (linL t a b) u).getD (0 + (j : Int)).toNat 0 = (rot a u).getD (0 + (j : Int)).toNat 0 + t * (rot b u).getD (0 + (j : Int)).toNat 0
  rw [show (0 + (j : Int)).toNat = j by omega, rot_get (by rw [linL_len hab]; omega), rot_get (by omega), rot_get (by omega), linL_len hab, ← hab]
  have hm := mod_in (i := (j : Int) - u) (show 0 < a.length by omega)
  exact linL_get hab (by omega)
theorem lights_lin {ns a b : List Int} (ha : ns.length = a.length) (hb : ns.length = b.length) (t : Int) : lightsV ns (linL t a b) = linL t (lightsV ns a) (lightsV ns b) := by
  refine ext_getD (by rw [linL_len (by rw [lightsV_len, lightsV_len]), lightsV_len, lightsV_len]) fun j hj => ?_
  rw [lightsV_len] at hj
  rw [lights_get hj, linL_get (by rw [lightsV_len, lightsV_len]) (by rw [lightsV_len]; exact hj), lights_get hj, lights_get hj]
  exact light_lin ha hb t j
theorem lights_dark {ns a b : List Int} (ha : ns.length = a.length) (hb : ns.length = b.length) (hz : ∀ t, lightV ns b t = 0) (t : Int) : lightsV ns (linL t a b) = lightsV ns a := by
  refine ext_getD (by rw [lightsV_len, lightsV_len]) fun j hj => ?_
  rw [lightsV_len] at hj
  rw [lights_get hj, lights_get hj, light_lin ha hb, hz, Int.mul_zero, Int.add_zero]
theorem act_const : ∀ (p : List Int) (c i : Int), act p (fun _ => c) i = p.sum * c
  | [], c, _ => by
    show 0 = 0 * c
    rw [Int.zero_mul]
  | a :: p, c, i => by
    rw [act, act_const p c, List.sum_cons, Int.add_mul]
theorem light_part {ns ms : List Int} (hl : ns.length = ms.length) : ∀ k : Nat, ((List.range k).map fun (t : Nat) => lightV ns ms (t : Int)).sum = act ns (fun i => ((List.range k).map fun (t : Nat) => (rot ms (t : Int)).getD i.toNat 0).sum) 0
  | 0 => by
    show 0 = act ns (fun _ => 0) 0
    rw [act_zero]
  | k + 1 => by
    rw [List.range_succ, List.map_append, List.sum_append, light_part hl k]
    have e : (fun i : Int => ((List.range k ++ [k]).map fun (t : Nat) => (rot ms (t : Int)).getD i.toNat 0).sum) = fun i => ((List.range k).map fun (t : Nat) => (rot ms (t : Int)).getD i.toNat 0).sum + (rot ms (k : Int)).getD i.toNat 0 := funext fun i => by
      rw [List.map_append, List.sum_append]
      show _ + ((rot ms (k : Int)).getD i.toNat 0 + 0) = _
      rw [Int.add_zero]
    rw [e, act_add, ← light_act hl]
    show _ + (lightV ns ms k + 0) = _
    rw [Int.add_zero]
theorem neg_mod_mod (j t : Int) {n : Int} : -((t - j) % n) % n = (j - t) % n := by
  rw [show j - t = -(t - j) by omega]
  have e : -((t - j) % n) = -(t - j) + n * ((t - j) / n) := by
    rw [Int.emod_def]
    omega
  rw [e, Int.add_mul_emod_self_left]
theorem lights_sum {ns ms : List Int} (hl : ns.length = ms.length) : (lightsV ns ms).sum = ns.sum * ms.sum := by
  unfold lightsV
  rw [light_part hl, ← act_const ns ms.sum 0]
  refine act_congr fun j hj => ?_
  show ((List.range ns.length).map fun (t : Nat) => (rot ms (t : Int)).getD (0 + (j : Int)).toNat 0).sum = ms.sum
  rw [show (0 + (j : Int)).toNat = j by omega]
  have e : ((List.range ns.length).map fun (t : Nat) => (rot ms (t : Int)).getD j 0) = rot (mir ms) (j : Int) := by
    refine ext_getD (by rw [List.length_map, List.length_range, rot_len, mir_len]; exact hl) fun t ht => ?_
    rw [List.length_map, List.length_range] at ht
    rw [List.getD_eq_getElem?_getD, List.getElem?_map, List.getElem?_range ht]
    show (rot ms (t : Int)).getD j 0 = _
    have hm := mod_in (i := (t : Int) - (j : Int)) (show 0 < ms.length by omega)
    rw [rot_get (by omega), rot_get (by rw [mir_len]; omega), mir_len, mir_get (by omega), Int.toNat_of_nonneg hm.1]
    rw [neg_mod_mod j t]
  rw [e, sum_rot, sum_mir]
theorem light_lone {ns : List Int} {s : Nat} (hs : s < ns.length) (t : Int) : lightV ns ((List.replicate ns.length 0).set s 1) t = ns.getD ((((s : Int) + t) % (ns.length : Int)).toNat) 0 := by
  have hl : ns.length = ((List.replicate ns.length (0 : Int)).set s 1).length := by rw [List.length_set, List.length_replicate]
  rw [light_swap hl.symm, light_act hl.symm, act_set _ _ _ _ _ (by rw [List.length_replicate]; exact hs), act_zeros, List.getD_eq_getElem?_getD, List.getElem?_replicate, if_pos hs]
  show 0 + (1 - 0) * (rot ns (-t)).getD (0 + (s : Int)).toNat 0 = _
  rw [show (0 + (s : Int)).toNat = s by omega, rot_get hs, show (s : Int) - -t = s + t by omega]
  omega
theorem lights_lone {ns : List Int} {s : Nat} (hs : s < ns.length) : lightsV ns ((List.replicate ns.length 0).set s 1) = rot ns (0 - (s : Int)) := by
  refine ext_getD (by rw [lightsV_len, rot_len]) fun j hj => ?_
  rw [lightsV_len] at hj
  rw [lights_get hj, light_lone hs, rot_get hj, show (j : Int) - (0 - (s : Int)) = s + j by omega]
end Sd

namespace Sd
open PySem PySem.Spec PyProof.Rows L2

/-! ### a function along the ints, that comes again -/
def seqG (g : Int → Int) (f : Int) (k : Nat) : List Int := (List.range k).map fun (i : Nat) => g (f + (i : Int))
theorem seqG_len (g : Int → Int) (f : Int) (k : Nat) : (seqG g f k).length = k := by
  unfold seqG
  rw [List.length_map, List.length_range]
theorem seqG_at {g : Int → Int} {f : Int} {k i : Nat} (h : i < k) : (seqG g f k)[i]? = some (g (f + (i : Int))) := by
  unfold seqG
  rw [List.getElem?_map, List.getElem?_range h]
  rfl
theorem seqG_add (g : Int → Int) (f : Int) (a b : Nat) : seqG g f (a + b) = seqG g f a ++ seqG g (f + (a : Int)) b := by
  unfold seqG
  rw [List.range_add, List.map_append, List.map_map]
  refine congrArg (_ ++ ·) (List.map_congr_left fun i _ => ?_)
  show g (f + ((a + i : Nat) : Int)) = g (f + (a : Int) + (i : Int))
  rw [Int.natCast_add, Int.add_assoc]
theorem seqG_take {g : Int → Int} {f : Int} {k r : Nat} (h : r ≤ k) : (seqG g f k).take r = seqG g f r := by
  obtain ⟨d, rfl⟩ : ∃ d, k = r + d := ⟨k - r, by omega⟩
  rw [seqG_add, List.take_append_of_le_length (by rw [seqG_len]; omega), List.take_of_length_le (by rw [seqG_len]; omega)]
theorem seqG_drop {g : Int → Int} {f : Int} {k r : Nat} (h : r ≤ k) : (seqG g f k).drop r = seqG g (f + (r : Int)) (k - r) := by
  obtain ⟨d, rfl⟩ : ∃ d, k = r + d := ⟨k - r, by omega⟩
  rw [seqG_add, List.drop_append_of_le_length (by rw [seqG_len]; omega), List.drop_of_length_le (by rw [seqG_len]; omega), List.nil_append, show r + d - r = d by omega]
structure Again (g : Int → Int) (W : Nat) : Prop where
  pos : 0 < W
  per : ∀ t, g (t + (W : Int)) = g t
section
variable {g : Int → Int} {W : Nat}
theorem Again.muls (h : Again g W) (t : Int) : ∀ q : Nat, g (t + (q : Int) * (W : Int)) = g t
  | 0 => by rw [Int.natCast_zero, Int.zero_mul, Int.add_zero]
  | q + 1 => by
    rw [Int.natCast_add, Int.add_mul, ← Int.add_assoc, Int.natCast_one, Int.one_mul, h.per, h.muls t q]
theorem Again.mod (h : Again g W) (t : Int) (h0 : 0 ≤ t) : g (t % (W : Int)) = g t := by
  have e := h.muls (t % (W : Int)) (t / (W : Int)).toNat
  have hp := h.pos
  rw [Int.toNat_of_nonneg (Int.ediv_nonneg h0 (by omega)), Int.mul_comm, Int.emod_add_mul_ediv] at e
  exact e.symm
theorem Again.seq (h : Again g W) (f : Int) (k : Nat) : seqG g (f + (W : Int)) k = seqG g f k := by
  unfold seqG
  refine List.map_congr_left fun i _ => ?_
  rw [show f + (W : Int) + (i : Int) = f + (i : Int) + (W : Int) by omega, h.per]
theorem Again.seqMod (h : Again g W) (f : Int) (h0 : 0 ≤ f) (k : Nat) : seqG g (f % (W : Int)) k = seqG g f k := by
  have hp := h.pos
  have m := Int.emod_nonneg f (show (W : Int) ≠ 0 by omega)
  unfold seqG
  refine List.map_congr_left fun i _ => ?_
  rw [← h.mod (f % (W : Int) + (i : Int)) (by omega), Int.emod_add_emod, h.mod (f + (i : Int)) (by omega)]
theorem Again.round1 (h : Again g W) (f : Int) : (seqG g (f + 1) W).sum = (seqG g f W).sum := by
  have e1 := seqG_add g f 1 W
  have e2 := seqG_add g f W 1
  rw [Nat.add_comm] at e2
  rw [e1] at e2
  have e3 := congrArg List.sum e2
  rw [List.sum_append, List.sum_append] at e3
  have o1 : (seqG g f 1).sum = g f := by
    show g (f + ((0 : Nat) : Int)) + 0 = g f
    rw [Int.natCast_zero, Int.add_zero, Int.add_zero]
  have o2 : (seqG g (f + (W : Int)) 1).sum = g f := by
    rw [h.seq]
    exact o1
  rw [o1, o2] at e3
  have e4 : (seqG g (f + ((1 : Nat) : Int)) W).sum = (seqG g f W).sum := by omega
  exact e4
theorem Again.round (h : Again g W) : ∀ f : Nat, (seqG g (f : Int) W).sum = (seqG g 0 W).sum
  | 0 => rfl
  | f + 1 => by
    rw [← h.round f, ← h.round1 (f : Int)]
    rfl
theorem Again.rounds (h : Again g W) (f : Int) (r : Nat) : ∀ q : Nat, (seqG g f (q * W + r)).sum = (q : Int) * (seqG g f W).sum + (seqG g f r).sum
  | 0 => by rw [Nat.zero_mul, Nat.zero_add, Int.natCast_zero, Int.zero_mul, Int.zero_add]
  | q + 1 => by
    rw [show (q + 1) * W + r = W + (q * W + r) by rw [Nat.succ_mul]; omega, seqG_add, List.sum_append, h.seq, h.rounds f r q, Int.natCast_add, Int.add_mul, Int.natCast_one, Int.one_mul]
    omega
/-- the sum of far as many -/
def farG (g : Int → Int) (W : Nat) (f N : Int) : Int := N / (W : Int) * (seqG g f W).sum + (seqG g f (N % (W : Int)).toNat).sum
theorem Again.far (h : Again g W) (f : Int) {N : Int} (h0 : 0 ≤ N) : farG g W f N = (seqG g f N.toNat).sum := by
  have hp := h.pos
  have q0 := Int.ediv_nonneg h0 (show (0 : Int) ≤ (W : Int) by omega)
  have m0 := Int.emod_nonneg N (show (W : Int) ≠ 0 by omega)
  have e : N.toNat = (N / (W : Int)).toNat * W + (N % (W : Int)).toNat := by
    have z := Int.mul_ediv_add_emod N (W : Int)
    have z2 : (((N / (W : Int)).toNat * W + (N % (W : Int)).toNat : Nat) : Int) = N := by
      rw [Int.natCast_add, Int.natCast_mul, Int.toNat_of_nonneg q0, Int.toNat_of_nonneg m0, Int.mul_comm]
      exact z
    omega
  rw [e, h.rounds, Int.toNat_of_nonneg q0]
  rfl
theorem Again.parts (h : Again g W) (f : Int) {N M : Int} (h0 : 0 ≤ M) (hM : M ≤ N) : farG g W f M + farG g W (f + M) (N - M) = farG g W f N := by
  rw [h.far f h0, h.far (f + M) (by omega), h.far f (by omega)]
  have e := seqG_add g f M.toNat (N - M).toNat
  rw [show M.toNat + (N - M).toNat = N.toNat by omega, Int.toNat_of_nonneg h0] at e
  rw [e, List.sum_append]
end
theorem cut_both {ns : List Int} {lo hi : Nat} (h2 : hi ≤ ns.length) (h : lo ≤ hi) : cutV (ns.map V.int) (some (lo : Int)) (some (hi : Int)) = ((ns.drop lo).take (hi - lo)).map V.int := by
  unfold cutV
  rw [HT.sIx_nat, HT.sIx_nat, List.length_map, Nat.min_eq_left h2, Nat.min_eq_left (show lo ≤ ns.length by omega), List.map_take, List.map_drop]
theorem twice_cut {g : Int → Int} {W : Nat} (h : Again g W) {lo r : Nat} (hr : lo + r ≤ W + W) : (((seqG g 0 W ++ seqG g 0 W).drop lo).take r) = seqG g (lo : Int) r := by
  have e := seqG_add g 0 W W
  rw [h.seq] at e
  rw [← e, seqG_drop (by omega), seqG_take (by omega), Int.zero_add]
theorem cut_twice {g : Int → Int} {W : Nat} (h : Again g W) {lo r : Nat} (hr : lo + r ≤ W + W) : cutV ((seqG g 0 W).map V.int ++ (seqG g 0 W).map V.int) (some (lo : Int)) (some ((lo : Int) + (r : Int))) = (seqG g (lo : Int) r).map V.int := by
  rw [← List.map_append, ← Int.natCast_add, cut_both (by rw [List.length_append, seqG_len]; exact hr) (Nat.le_add_right _ _), Nat.add_sub_cancel_left, twice_cut h hr]
/-- from each f on each value of a round comes within a round -/
theorem Again.comes {g : Int → Int} {W : Nat} (h : Again g W) {f : Int} (h0 : 0 ≤ f) {j : Nat} (hj : j < W) : ∃ i : Nat, i < W ∧ g (f + (i : Int)) = g (j : Int) := by
  have hp := h.pos
  have m0 := Int.emod_nonneg ((j : Int) - f) (show (W : Int) ≠ 0 by omega)
  have m1 := Int.emod_lt_of_pos ((j : Int) - f) (show 0 < (W : Int) by omega)
  refine ⟨(((j : Int) - f) % (W : Int)).toNat, by omega, ?_⟩
  rw [Int.toNat_of_nonneg m0, ← h.mod (f + ((j : Int) - f) % (W : Int)) (by omega), Int.add_emod_emod, show f + ((j : Int) - f) = (j : Int) by omega, h.mod (j : Int) (by omega)]
theorem seqG_mem {g : Int → Int} {f x : Int} {k : Nat} (h : x ∈ seqG g f k) : ∃ j : Nat, j < k ∧ x = g (f + (j : Int)) := by
  unfold seqG at h
  obtain ⟨i, hi, rfl⟩ := List.mem_map.mp h
  exact ⟨i, List.mem_range.mp hi, rfl⟩
/-- the first place from f on with at least m, within k -/
def firstG (g : Int → Int) (m f : Int) (k : Nat) : Option Nat := (List.range k).find? fun (j : Nat) => decide (m ≤ g (f + (j : Int)))
theorem firstG_some {g : Int → Int} {m f : Int} {k i : Nat} : firstG g m f k = some i ↔ i < k ∧ m ≤ g (f + (i : Int)) ∧ ∀ j : Nat, j < i → ¬ m ≤ g (f + (j : Int)) := by
  unfold firstG
  rw [List.find?_range_eq_some]
  constructor
  · rintro ⟨h1, h2, h3⟩
    exact ⟨List.mem_range.mp h2, of_decide_eq_true h1, fun j hj => of_decide_eq_false (by simpa using h3 j hj)⟩
  · rintro ⟨h1, h2, h3⟩
    exact ⟨decide_eq_true h2, List.mem_range.mpr h1, fun j hj => by simpa using h3 j hj⟩
theorem firstG_none {g : Int → Int} {m f : Int} {k : Nat} : firstG g m f k = none ↔ ∀ j : Nat, j < k → ¬ m ≤ g (f + (j : Int)) := by
  unfold firstG
  rw [List.find?_eq_none]
  constructor
  · intro h j hj e
    exact h j (List.mem_range.mpr hj) (decide_eq_true e)
  · intro h j hj e
    exact h j (List.mem_range.mp hj) (of_decide_eq_true e)
theorem Again.first {g : Int → Int} {W : Nat} (h : Again g W) (m f : Int) (k : Nat) : firstG g m (f + (W : Int)) k = firstG g m f k := by
  unfold firstG
  refine congrArg (fun p => List.find? p (List.range k)) (funext fun j => ?_)
  rw [show f + (W : Int) + (j : Int) = f + (j : Int) + (W : Int) by omega, h.per]
def firstV (f : Int) : Option Nat → V
  | some k => .int (f + (k : Int))
  | none => .non

/-! ### two rings -/
def ringAt (ns ms : List Int) (t : Int) : Int := ns.getD ((t % (ns.length : Int)).toNat) 0 * ms.getD ((t % (ms.length : Int)).toNat) 0
def ringW (ns ms : List Int) : Nat := Nat.lcm ns.length ms.length
theorem ringW_pos {ns ms : List Int} (h1 : 1 ≤ ns.length) (h2 : 1 ≤ ms.length) : 0 < ringW ns ms := Nat.lcm_pos (by omega) (by omega)
theorem ringW_le {ns ms : List Int} : ringW ns ms ≤ ns.length * ms.length := by
  unfold ringW Nat.lcm
  exact Nat.div_le_self _ _
theorem mod_again {n W : Nat} (h : n ∣ W) (t : Int) : (t + (W : Int)) % (n : Int) = t % (n : Int) := by
  obtain ⟨c, rfl⟩ := h
  rw [Int.natCast_mul, Int.add_mul_emod_self_left]
theorem ring_again {ns ms : List Int} (h1 : 1 ≤ ns.length) (h2 : 1 ≤ ms.length) : Again (ringAt ns ms) (ringW ns ms) := ⟨ringW_pos h1 h2, fun t => by
  unfold ringAt ringW
  rw [mod_again (Nat.dvd_lcm_left _ _), mod_again (Nat.dvd_lcm_right _ _)]⟩
theorem Rim.getD {ns : List Int} (h : Rim ns) (i : Nat) : 0 ≤ ns.getD i 0 ∧ (ns.getD i 0).natAbs < 2 ^ 100 := by
  by_cases hi : i < ns.length
  · have := h.all _ (List.mem_of_getElem? (at_getD hi))
    have := h.ab _ (List.mem_of_getElem? (at_getD hi))
    exact ⟨by omega, by omega⟩
  · rw [List.getD_eq_getElem?_getD, List.getElem?_eq_none (by omega)]
    exact ⟨by decide, by decide⟩
theorem ringAt_lt {ns ms : List Int} (h1 : Rim ns) (h2 : Rim ms) (t : Int) : 0 ≤ ringAt ns ms t ∧ (ringAt ns ms t).natAbs < 2 ^ 200 := ⟨Int.mul_nonneg (h1.getD _).1 (h2.getD _).1, wide_lt (h1.getD _).2 (h2.getD _).2⟩
theorem ringL_ab {ns ms : List Int} (h1 : Rim ns) (h2 : Rim ms) (f : Int) (k : Nat) : Ab 200 (seqG (ringAt ns ms) f k) := fun n hn => by
  unfold seqG at hn
  obtain ⟨i, _, rfl⟩ := List.mem_map.mp hn
  exact (ringAt_lt h1 h2 _).2
theorem sum_ltk {k j : Nat} {ns : List Int} (h : Ab k ns) (hl : ns.length < 2 ^ j) : ns.sum.natAbs < 2 ^ (k + j) := by
  have h1 := sum_ab h
  rw [Nat.pow_add]
  refine Nat.lt_of_le_of_lt h1 ?_
  rw [Nat.mul_comm]
  exact Nat.mul_lt_mul_of_pos_left hl (Nat.two_pow_pos k)
theorem ring_far_lt {ns ms : List Int} (h1 : Rim ns) (h2 : Rim ms) (f : Int) {N : Int} (h0 : 0 ≤ N) (hN : N.natAbs < 2 ^ 200) : (farG (ringAt ns ms) (ringW ns ms) f N).natAbs < 2 ^ 430 := by
  have hW : ringW ns ms < 2 ^ 12 := by
    have := ringW_le (ns := ns) (ms := ms)
    have a := h1.le
    have b := h2.le
    have := Nat.mul_le_mul a b
    omega
  have p := ringW_pos h1.pos h2.pos
  have m0 := Int.emod_nonneg N (show (ringW ns ms : Int) ≠ 0 by omega)
  have m1 := Int.emod_lt_of_pos N (show 0 < (ringW ns ms : Int) by omega)
  have a1 := sum_ltk (j := 12) (ringL_ab h1 h2 f (ringW ns ms)) (by rw [seqG_len]; exact hW)
  have a2 := sum_ltk (j := 12) (ringL_ab h1 h2 f (N % (ringW ns ms : Int)).toNat) (by rw [seqG_len]; omega)
  have q1 : (N / (ringW ns ms : Int)).natAbs < 2 ^ 200 := by
    have := Int.ediv_le_self (ringW ns ms : Int) h0
    have := Int.ediv_nonneg h0 (show (0 : Int) ≤ (ringW ns ms : Int) by omega)
    omega
  have z := wide_lt q1 a1
  unfold farG
  have y := Int.natAbs_add_le (N / (ringW ns ms : Int) * (seqG (ringAt ns ms) f (ringW ns ms)).sum) (seqG (ringAt ns ms) f (N % (ringW ns ms : Int)).toNat).sum
  have c1 : (2 : Nat) ^ (200 + (200 + 12)) ≤ 2 ^ 429 := pow_up (by decide)
  have c2 : (2 : Nat) ^ (200 + 12) ≤ 2 ^ 429 := pow_up (by decide)
  have c3 : (2 : Nat) ^ 430 = 2 ^ 429 + 2 ^ 429 := by rw [show (430 : Nat) = 429 + 1 from rfl, Nat.pow_succ]; omega
  rw [c3]
  exact Nat.lt_of_le_of_lt y (by omega)

def rLcm : List V → Hp → VK → Prop := fun vs H Q => ∃ a b : Nat, vs = [.int a, .int b] ∧ a ≤ 1000 ∧ b ≤ 1000 ∧ Q (.int ((Nat.lcm a b : Nat) : Int)) H
theorem cr_lcm {X : Cx} : CallR X (.builtin "math.lcm") rLcm := by
  intro pins s σ H vs us Q I r h
  obtain ⟨a, b, rfl, ha, hb, q⟩ := h
  obtain ⟨t, u, rfl⟩ := Vals.int2 r
  have e : (((Nat.lcm 1 (a : Int).natAbs).lcm (b : Int).natAbs : Nat) : Int) = ((Nat.lcm a b : Nat) : Int) := by
    rw [Int.natAbs_natCast, Int.natAbs_natCast, Nat.lcm_one_left]
  have hle : Nat.lcm a b ≤ 1000000 := by
    have h1 : Nat.lcm a b ≤ a * b := by
      unfold Nat.lcm
      exact Nat.div_le_self _ _
    have := Nat.mul_le_mul ha hb
    omega
  refine PySem.W.mg_lcm_v (by rw [Int.natAbs_natCast]; exact Nat.lt_of_le_of_lt ha (by decide)) (by rw [Int.natAbs_natCast]; exact Nat.lt_of_le_of_lt hb (by decide)) e ?_ ⟨.int _, H, I.tok _, ⟨_, rfl⟩, q⟩
  rw [Int.natAbs_natCast]
  have := PySem.Flt.log2_lt_of (n := Nat.lcm a b) (k := 20) (by decide) (Nat.lt_of_le_of_lt hle (by decide))
  exact Nat.lt_trans this (by decide)
end Sd

namespace Sd
open PySem PySem.Spec PyProof.Rows L2

/-! ### dark stretches -/
def maxI (i j : Int) : Int := if j > i then j else i
theorem maxI_le {i j : Int} : i ≤ maxI i j ∧ j ≤ maxI i j := by
  unfold maxI
  split <;> omega
theorem maxI_assoc (i j k : Int) : maxI (maxI i j) k = maxI i (maxI j k) := by
  unfold maxI
  split <;> split <;> (first | omega | (split <;> omega))
theorem maxI_comm (i j : Int) : maxI i j = maxI j i := by
  unfold maxI
  split <;> split <;> omega
theorem maxI_self (i : Int) : maxI i i = i := by
  unfold maxI
  split <;> omega
theorem maxI_of {i j : Int} (h : j ≤ i) : maxI i j = i := by
  unfold maxI
  split <;> omega
def runS (s : Int × Int) (x : Int) : Int × Int := (maxI s.1 (if x = 0 then s.2 + 1 else 0), if x = 0 then s.2 + 1 else 0)
theorem runs_max (m1 : Int) : ∀ (L : List Int) (m2 r : Int), L.foldl runS (maxI m1 m2, r) = (maxI m1 (L.foldl runS (m2, r)).1, (L.foldl runS (m2, r)).2)
  | [], _, _ => rfl
  | x :: L, m2, r => by
    rw [List.foldl_cons, List.foldl_cons]
    have e : runS (maxI m1 m2, r) x = (maxI m1 (runS (m2, r) x).1, (runS (m2, r) x).2) := by
      unfold runS
      rw [maxI_assoc]
    rw [e]
    exact runs_max m1 L (runS (m2, r) x).1 (runS (m2, r) x).2
theorem runs_end : ∀ (L : List Int) (m m' r r' : Int), (∃ x ∈ L, x ≠ 0) → (L.foldl runS (m, r)).2 = (L.foldl runS (m', r')).2
  | [], _, _, _, _, ⟨_, h, _⟩ => (List.not_mem_nil h).elim
  | x :: L, m, m', r, r', ⟨y, hy, hn⟩ => by
    rw [List.foldl_cons, List.foldl_cons]
    by_cases hL : ∃ x ∈ L, x ≠ 0
    · exact runs_end L _ _ _ _ hL
    · have hx : x ≠ 0 := by
        rcases List.mem_cons.mp hy with e | e
        · rw [← e]
          exact hn
        · exact absurd ⟨y, e, hn⟩ hL
      have gen : ∀ (L : List Int) (m m' r : Int), (L.foldl runS (m, r)).2 = (L.foldl runS (m', r)).2 := fun L => by
        induction L with
        | nil => exact fun _ _ _ => rfl
        | cons x L ih => exact fun m m' r => ih _ _ _
      show (L.foldl runS (maxI m (if x = 0 then r + 1 else 0), if x = 0 then r + 1 else 0)).2 = (L.foldl runS (maxI m' (if x = 0 then r' + 1 else 0), if x = 0 then r' + 1 else 0)).2
      rw [if_neg hx, if_neg hx]
      exact gen L _ _ _
/-- the longest dark stretch of two rounds is that of three -/
theorem runs_three {L : List Int} (h : ∃ x ∈ L, x ≠ 0) : ((L ++ L).foldl runS (0, 0)).1 = ((L ++ L ++ L).foldl runS (0, 0)).1 := by
  rw [List.foldl_append, List.foldl_append, List.foldl_append]
  have eA : L.foldl runS (0, 0) = ((L.foldl runS (0, 0)).1, (L.foldl runS (0, 0)).2) := rfl
  generalize (L.foldl runS (0, 0)).1 = m1 at eA
  have e2 := runs_end L m1 0 (L.foldl runS (0, 0)).2 0 h
  generalize et : (L.foldl runS (0, 0)).2 = t at eA e2
  rw [eA]
  have e3 := runs_max m1 L m1 t
  rw [maxI_self] at e3
  have eB : L.foldl runS (m1, t) = ((L.foldl runS (m1, t)).1, t) := Prod.ext rfl e2
  have e4 := congrArg Prod.fst e3
  generalize hm2 : (L.foldl runS (m1, t)).1 = m2 at eB e4
  rw [eB]
  show m2 = (L.foldl runS (m2, t)).1
  have e5 := runs_max m2 L m1 t
  rw [hm2, maxI_self] at e5
  have e6 : maxI m2 m1 = m2 := by
    rw [maxI_comm]
    exact e4.symm
  rw [e6] at e5
  rw [e5]
def stretchV (L : List Int) : V := if (L.all fun x => decide (x = 0)) = true then .non else .int ((L ++ L).foldl runS (0, 0)).1
theorem runs_ab : ∀ (L : List Int) (m r : Int), 0 ≤ m → 0 ≤ r → 0 ≤ (L.foldl runS (m, r)).1 ∧ (L.foldl runS (m, r)).1 ≤ maxI m (r + L.length) ∧ 0 ≤ (L.foldl runS (m, r)).2 ∧ (L.foldl runS (m, r)).2 ≤ r + L.length
  | [], m, r, hm, hr => ⟨hm, maxI_le.1, hr, by rw [List.length_nil]; show r ≤ r + ((0 : Nat) : Int); omega⟩
  | x :: L, m, r, hm, hr => by
    have hx : 0 ≤ (if x = 0 then r + 1 else 0) ∧ (if x = 0 then r + 1 else 0) ≤ r + 1 := by split <;> omega
    have h := runs_ab L (maxI m (if x = 0 then r + 1 else 0)) (if x = 0 then r + 1 else 0) (Int.le_trans hm maxI_le.1) hx.1
    rw [List.foldl_cons, List.length_cons, show runS (m, r) x = (maxI m (if x = 0 then r + 1 else 0), if x = 0 then r + 1 else 0) from rfl]
    generalize (if x = 0 then r + 1 else 0) = z at hx h ⊢
    refine ⟨h.1, Int.le_trans h.2.1 ?_, h.2.2.1, ?_⟩
    · have hz := hx.2
      rw [maxI_assoc]
      unfold maxI
      split <;> split <;> (first | omega | (split <;> omega))
    · have := h.2.2.2
      omega
/-- several rounds, one behind the other -/
theorem seq_rounds {g : Int → Int} {W : Nat} (h : Again g W) : ∀ k : Nat, (List.replicate k (seqG g 0 W)).flatten = seqG g 0 (k * W)
  | 0 => by rw [Nat.zero_mul]; rfl
  | k + 1 => by
    have e := seqG_add g 0 W (k * W)
    rw [h.seq] at e
    rw [List.replicate_succ, List.flatten_cons, seq_rounds h k, show (k + 1) * W = W + k * W by rw [Nat.succ_mul]; omega, e]
theorem seqG_getD {g : Int → Int} {f : Int} {k i : Nat} (h : i < k) : (seqG g f k).getD i 0 = g (f + (i : Int)) := getD_at (seqG_at h)
theorem cut_seq {g : Int → Int} {lo r n : Nat} (hr : lo + r ≤ n) : cutV ((seqG g 0 n).map V.int) (some (lo : Int)) (some ((lo : Int) + (r : Int))) = (seqG g (lo : Int) r).map V.int := by
  rw [← Int.natCast_add, cut_both (by rw [seqG_len]; exact hr) (Nat.le_add_right _ _), Nat.add_sub_cancel_left, seqG_drop (by omega), seqG_take (by omega), Int.zero_add]
theorem max_all {L : List Int} {m : Int} (h0 : ∀ x ∈ L, 0 ≤ x) (h1 : m ∈ L) (h2 : ∀ x ∈ L, x ≤ m) : (m = 0) ↔ (L.all fun x => decide (x = 0)) = true := by
  rw [List.all_eq_true]
  constructor
  · intro e x hx
    exact decide_eq_true (by have := h0 x hx; have := h2 x hx; omega)
  · intro h
    exact of_decide_eq_true (h m h1)
/-! ### all places with at least so much -/
def hitsG (g : Int → Int) (m f : Int) (k : Nat) : List Int := ((List.range k).filter fun (i : Nat) => decide (m ≤ g (f + (i : Int)))).map fun (i : Nat) => f + (i : Int)
theorem hitsG_yes {g : Int → Int} {m f : Int} {k : Nat} (h : m ≤ g (f + (k : Int))) : hitsG g m f (k + 1) = hitsG g m f k ++ [f + (k : Int)] := by
  unfold hitsG
  rw [List.range_succ, List.filter_append, List.map_append]
  have : ([k].filter fun (i : Nat) => decide (m ≤ g (f + (i : Int)))) = [k] := by
    rw [List.filter_cons, if_pos (decide_eq_true h)]
    rfl
  rw [this]
  rfl
theorem hitsG_no {g : Int → Int} {m f : Int} {k : Nat} (h : ¬ m ≤ g (f + (k : Int))) : hitsG g m f (k + 1) = hitsG g m f k := by
  unfold hitsG
  rw [List.range_succ, List.filter_append, List.map_append]
  have : ([k].filter fun (i : Nat) => decide (m ≤ g (f + (i : Int)))) = [] := by
    rw [List.filter_cons, if_neg (fun e => h (of_decide_eq_true e))]
    rfl
  rw [this]
  simp
theorem hitsG_len (g : Int → Int) (m f : Int) (k : Nat) : (hitsG g m f k).length ≤ k := by
  unfold hitsG
  rw [List.length_map]
  refine Nat.le_trans (List.length_filter_le _ _) ?_
  rw [List.length_range]
  exact Nat.le_refl _
theorem hitsG_ab {g : Int → Int} {m f : Int} {k : Nat} (h0 : 0 ≤ f) (h1 : f < 2 ^ 90) (hk : k < 100000) : Ab 100 (hitsG g m f k) := fun n hn => by
  unfold hitsG at hn
  obtain ⟨i, hi, rfl⟩ := List.mem_map.mp hn
  have := List.mem_range.mp (List.mem_filter.mp hi).1
  have e : (2 : Nat) ^ 100 = 1267650600228229401496703205376 := by decide
  rw [e]
  omega
theorem hitsG_head {g : Int → Int} {m f : Int} {k : Nat} : (hitsG g m f k = [] ∧ firstG g m f k = none) ∨ ∃ (j : Nat) (r : List Int), hitsG g m f k = (f + (j : Int)) :: r ∧ firstG g m f k = some j := by
  have e : firstG g m f k = ((List.range k).filter fun (i : Nat) => decide (m ≤ g (f + (i : Int)))).head? := (List.head?_filter).symm
  unfold hitsG
  rw [e]
  cases (List.range k).filter fun (i : Nat) => decide (m ≤ g (f + (i : Int))) with
  | nil => exact .inl ⟨rfl, rfl⟩
  | cons j r => exact .inr ⟨j, _, rfl, rfl⟩
theorem Again.first2 {g : Int → Int} {W : Nat} (h : Again g W) (m f : Int) {k : Nat} (hk : k = 2 * W) : firstG g m f k = firstG g m f W := by
  subst hk
  cases e : firstG g m f W with
  | some j =>
    obtain ⟨h1, h2, h3⟩ := firstG_some.mp e
    exact firstG_some.mpr ⟨by omega, h2, h3⟩
  | none =>
    have hn := firstG_none.mp e
    refine firstG_none.mpr fun j hj => ?_
    rcases Nat.lt_or_ge j W with z | z
    · exact hn j z
    · have := hn (j - W) (by omega)
      rw [← h.per (f + ((j - W : Nat) : Int)), show f + ((j - W : Nat) : Int) + (W : Int) = f + (j : Int) by omega] at this
      exact this
def firstD (f : Int) : Option Nat → PyData
  | some k => .int (f + (k : Int))
  | none => .none
theorem firstD_dp {K : PySem.W.Frag} {H : Hp} (f : Int) : ∀ o : Option Nat, Dp K H (firstV f o) (firstD f o)
  | some _ => .int _
  | none => .non
def stretchD (L : List Int) : PyData := if (L.all fun x => decide (x = 0)) = true then .none else .int ((L ++ L).foldl runS (0, 0)).1
theorem stretchD_dp {K : PySem.W.Frag} {H : Hp} (L : List Int) : Dp K H (stretchV L) (stretchD L) := by
  unfold stretchV stretchD
  split
  · exact .non
  · exact .int _
/-- data that a list of two may hold -/
structure Sdat (d : PyData) : Prop where
  rp : RP d
  dp : d.depth ≤ 1
  le : d.shown.length ≤ 3000
theorem sdat_int {i : Int} {k : Nat} (h : i.natAbs < 2 ^ k) (hk : k ≤ 1000) : Sdat (.int i) := ⟨rp_int (Nat.lt_of_lt_of_le h (pow_up hk)), by simp only [PyData.depth]; omega, Nat.le_trans (shown_int (Nat.lt_of_lt_of_le h (pow_up hk))) (by decide)⟩
theorem sdat_none : Sdat .none := ⟨⟨by simp only [PyData.showable], by simp only [PyData.hasDict], by simp only [PyData.canLay0], by simp only [PyData.depth]; omega⟩, by simp only [PyData.depth]; omega, Nat.le_trans (m := 10) (by decide) (by decide)⟩
theorem sdat_first {f : Int} {o : Option Nat} (h : ∀ k, o = some k → (f + (k : Int)).natAbs < 2 ^ 200) : Sdat (firstD f o) := by
  cases o with
  | none => exact sdat_none
  | some k => exact sdat_int (h k rfl) (by decide)
theorem sdat_stretch {L : List Int} (h : L.length ≤ 2000) : Sdat (stretchD L) := by
  unfold stretchD
  split
  · exact sdat_none
  · have z := runs_ab (L ++ L) 0 0 (by decide) (by decide)
    rw [List.length_append] at z
    refine sdat_int (k := 100) ?_ (by decide)
    have e : (2 : Nat) ^ 100 = 1267650600228229401496703205376 := by decide
    have z2 := z.2.1
    unfold maxI at z2
    rw [e]
    split at z2 <;> omega
theorem sdat_two {a b : PyData} (ha : Sdat a) (hb : Sdat b) : RP (.list [a, b]) ∧ (PyData.list [a, b]).shown.length ≤ sizeLine := by
  refine ⟨((RPs.cons ha.rp ha.dp (RPs.cons hb.rp hb.dp RPs.nil)).list (by omega)).1, ?_⟩
  have h1 := shown_list (B := 3000) (ds := [a, b]) fun d hd => by
    simp only [List.mem_cons, List.not_mem_nil, or_false] at hd
    rcases hd with rfl | rfl
    · exact ha.le
    · exact hb.le
  refine fit_le (Nat.le_trans h1 ?_)
  show (3000 + 2) * 2 + 3 ≤ 16000000
  omega
end Sd

namespace Sd
open PySem PySem.Spec PyProof.Rows L2
def topS (i : Nat) : Stmt := PySem.Challenge.pw_slitdiscs_k39_rings_tick_by_tick.main.body.getD i (.Pass ⟨0, 0, 0, 0⟩)
abbrev s_is_integer : Stmt := topS 8
theorem sc_is_integer : FnScope ["value"] ["value"] (defScope s_is_integer) := ⟨rfl, rfl, rfl, by decide +kernel, rfl, by decide +kernel, by decide +kernel⟩
abbrev s_has_slots : Stmt := topS 9
theorem sc_has_slots : FnScope ["value"] ["value"] (defScope s_has_slots) := ⟨rfl, rfl, rfl, by decide +kernel, rfl, by decide +kernel, by decide +kernel⟩
abbrev s_wrong_light : Stmt := topS 10
theorem sc_wrong_light : FnScope ["items", "most", "index", "item"] ["items", "most"] (defScope s_wrong_light) := ⟨rfl, rfl, rfl, by decide +kernel, rfl, by decide +kernel, by decide +kernel⟩
abbrev s_wrong_slot : Stmt := topS 11
theorem sc_wrong_slot : FnScope ["items"] ["items"] (defScope s_wrong_slot) := ⟨rfl, rfl, rfl, by decide +kernel, rfl, by decide +kernel, by decide +kernel⟩
abbrev s_check_disc : Stmt := topS 12
theorem sc_check_disc : FnScope ["disc", "index"] ["disc"] (defScope s_check_disc) := ⟨rfl, rfl, rfl, by decide +kernel, rfl, by decide +kernel, by decide +kernel⟩
abbrev s_check_number : Stmt := topS 13
theorem sc_check_number : FnScope ["number"] ["number"] (defScope s_check_number) := ⟨rfl, rfl, rfl, by decide +kernel, rfl, by decide +kernel, by decide +kernel⟩
abbrev s_check_count : Stmt := topS 14
theorem sc_check_count : FnScope ["number"] ["number"] (defScope s_check_count) := ⟨rfl, rfl, rfl, by decide +kernel, rfl, by decide +kernel, by decide +kernel⟩
abbrev s_ring_light : Stmt := topS 16
theorem sc_ring_light : FnScope ["disc", "other", "tick"] ["disc", "other", "tick"] (defScope s_ring_light) := ⟨rfl, rfl, rfl, by decide +kernel, rfl, by decide +kernel, by decide +kernel⟩
abbrev s_ring_sum : Stmt := topS 17
theorem sc_ring_sum : FnScope ["disc", "other", "first", "many", "lights", "rounds", "rest"] ["disc", "other", "first", "many"] (defScope s_ring_sum) := ⟨rfl, rfl, rfl, by decide +kernel, rfl, by decide +kernel, by decide +kernel⟩
abbrev s_first_tick : Stmt := topS 18
theorem sc_first_tick : FnScope ["disc", "other", "first", "light", "later", "present"] ["disc", "other", "first", "light"] (defScope s_first_tick) := ⟨rfl, rfl, rfl, by decide +kernel, rfl, by decide +kernel, by decide +kernel⟩
abbrev s_dark_stretch : Stmt := topS 19
theorem sc_dark_stretch : FnScope ["disc", "other", "lights", "longest", "stretch", "light"] ["disc", "other"] (defScope s_dark_stretch) := ⟨rfl, rfl, rfl, by decide +kernel, rfl, by decide +kernel, by decide +kernel⟩
abbrev s_check_rings : Stmt := topS 20
theorem sc_check_rings : FnScope ["disc", "other"] ["disc", "other"] (defScope s_check_rings) := ⟨rfl, rfl, rfl, by decide +kernel, rfl, by decide +kernel, by decide +kernel⟩
abbrev s_lights_from : Stmt := topS 21
theorem sc_lights_from : FnScope ["disc", "other", "first", "ticks", "tick"] ["disc", "other", "first"] (defScope s_lights_from) := ⟨rfl, rfl, rfl, by decide +kernel, rfl, by decide +kernel, by decide +kernel⟩
abbrev s_law_tank : Stmt := topS 23
theorem sc_law_tank : FnScope ["script", "at", "cell"] ["script", "at"] (defScope s_law_tank) := ⟨rfl, rfl, rfl, by decide +kernel, rfl, by decide +kernel, by decide +kernel⟩
abbrev s_law_tap : Stmt := topS 24
theorem sc_law_tap : FnScope ["tank", "wide", "drawn", "mixed"] ["tank", "wide"] (defScope s_law_tap) := ⟨rfl, rfl, rfl, by decide +kernel, rfl, by decide +kernel, by decide +kernel⟩
abbrev s_law_drawn_count : Stmt := topS 25
theorem sc_law_drawn_count : FnScope ["tank", "most", "some"] ["tank", "most"] (defScope s_law_drawn_count) := ⟨rfl, rfl, rfl, by decide +kernel, rfl, by decide +kernel, by decide +kernel⟩
abbrev s_law_drawn_rim : Stmt := topS 26
theorem sc_law_drawn_rim : FnScope ["tank", "count", "kind", "wide", "rim", "slot_here", "sizes", "size"] ["tank", "count"] (defScope s_law_drawn_rim) := ⟨rfl, rfl, rfl, by decide +kernel, rfl, by decide +kernel, by decide +kernel⟩
abbrev s_law_at : Stmt := topS 28
theorem sc_law_at : FnScope ["rim", "mate", "tick_here"] ["rim", "mate", "tick_here"] (defScope s_law_at) := ⟨rfl, rfl, rfl, by decide +kernel, rfl, by decide +kernel, by decide +kernel⟩
abbrev s_law_round : Stmt := topS 29
theorem sc_law_round : FnScope ["rim", "mate", "count"] ["rim", "mate"] (defScope s_law_round) := ⟨rfl, rfl, rfl, by decide +kernel, rfl, by decide +kernel, by decide +kernel⟩
abbrev s_law_dark : Stmt := topS 30
theorem sc_law_dark : FnScope ["lights_here", "most", "run", "one"] ["lights_here"] (defScope s_law_dark) := ⟨rfl, rfl, rfl, by decide +kernel, rfl, by decide +kernel, by decide +kernel⟩
abbrev s_law_right : Stmt := topS 31
theorem sc_law_right : FnScope ["tank", "rim", "mate", "kept", "whole", "lights_here", "tick_here", "begin", "count", "long", "told", "some", "one", "much", "due", "spot"] ["tank", "rim", "mate"] (defScope s_law_right) := ⟨rfl, rfl, rfl, by decide +kernel, rfl, by decide +kernel, by decide +kernel⟩
abbrev s_law : Stmt := topS 32
theorem sc_law : FnScope ["script", "at", "tank", "turn", "counts", "lap", "rim", "mate", "told", "first_here"] ["script"] (defScope s_law) := ⟨rfl, rfl, rfl, by decide +kernel, rfl, by decide +kernel, by decide +kernel⟩
/-- what the top has written -/
structure Txt (K : PySem.W.Frag) (mg : Str → Option Value) where
  a_is_integer : Addr
  d_is_integer : FuncData
  F_is_integer : Fun K "is_integer" "is_integer" s_is_integer a_is_integer d_is_integer
  b_is_integer : Binds K d_is_integer ["value"] []
  g_is_integer : mg "is_integer" = some (.ref a_is_integer)
  a_has_slots : Addr
  d_has_slots : FuncData
  F_has_slots : Fun K "has_slots" "has_slots" s_has_slots a_has_slots d_has_slots
  b_has_slots : Binds K d_has_slots ["value"] []
  g_has_slots : mg "has_slots" = some (.ref a_has_slots)
  a_wrong_light : Addr
  d_wrong_light : FuncData
  F_wrong_light : Fun K "wrong_light" "wrong_light" s_wrong_light a_wrong_light d_wrong_light
  b_wrong_light : Binds K d_wrong_light ["items", "most"] []
  g_wrong_light : mg "wrong_light" = some (.ref a_wrong_light)
  a_wrong_slot : Addr
  d_wrong_slot : FuncData
  F_wrong_slot : Fun K "wrong_slot" "wrong_slot" s_wrong_slot a_wrong_slot d_wrong_slot
  b_wrong_slot : Binds K d_wrong_slot ["items"] []
  g_wrong_slot : mg "wrong_slot" = some (.ref a_wrong_slot)
  a_check_disc : Addr
  d_check_disc : FuncData
  F_check_disc : Fun K "check_disc" "check_disc" s_check_disc a_check_disc d_check_disc
  b_check_disc : Binds K d_check_disc ["disc"] []
  g_check_disc : mg "check_disc" = some (.ref a_check_disc)
  a_check_number : Addr
  d_check_number : FuncData
  F_check_number : Fun K "check_number" "check_number" s_check_number a_check_number d_check_number
  b_check_number : Binds K d_check_number ["number"] []
  g_check_number : mg "check_number" = some (.ref a_check_number)
  a_check_count : Addr
  d_check_count : FuncData
  F_check_count : Fun K "check_count" "check_count" s_check_count a_check_count d_check_count
  b_check_count : Binds K d_check_count ["number"] []
  g_check_count : mg "check_count" = some (.ref a_check_count)
  a_ring_light : Addr
  d_ring_light : FuncData
  F_ring_light : Fun K "ring_light" "ring_light" s_ring_light a_ring_light d_ring_light
  b_ring_light : Binds K d_ring_light ["disc", "other", "tick"] []
  g_ring_light : mg "ring_light" = some (.ref a_ring_light)
  a_ring_sum : Addr
  d_ring_sum : FuncData
  F_ring_sum : Fun K "ring_sum" "ring_sum" s_ring_sum a_ring_sum d_ring_sum
  b_ring_sum : Binds K d_ring_sum ["disc", "other", "first", "many"] []
  g_ring_sum : mg "ring_sum" = some (.ref a_ring_sum)
  a_first_tick : Addr
  d_first_tick : FuncData
  F_first_tick : Fun K "first_tick" "first_tick" s_first_tick a_first_tick d_first_tick
  b_first_tick : Binds K d_first_tick ["disc", "other", "first", "light"] []
  g_first_tick : mg "first_tick" = some (.ref a_first_tick)
  a_dark_stretch : Addr
  d_dark_stretch : FuncData
  F_dark_stretch : Fun K "dark_stretch" "dark_stretch" s_dark_stretch a_dark_stretch d_dark_stretch
  b_dark_stretch : Binds K d_dark_stretch ["disc", "other"] []
  g_dark_stretch : mg "dark_stretch" = some (.ref a_dark_stretch)
  a_check_rings : Addr
  d_check_rings : FuncData
  F_check_rings : Fun K "_check_rings" "_check_rings" s_check_rings a_check_rings d_check_rings
  b_check_rings : Binds K d_check_rings ["disc", "other"] []
  g_check_rings : mg "_check_rings" = some (.ref a_check_rings)
  a_lights_from : Addr
  d_lights_from : FuncData
  F_lights_from : Fun K "_lights_from" "_lights_from" s_lights_from a_lights_from d_lights_from
  b_lights_from : Binds K d_lights_from ["disc", "other", "first"] []
  g_lights_from : mg "_lights_from" = some (.ref a_lights_from)
  a_law_tank : Addr
  d_law_tank : FuncData
  F_law_tank : Fun K "_law_tank" "_law_tank" s_law_tank a_law_tank d_law_tank
  b_law_tank : Binds K d_law_tank ["script", "at"] []
  g_law_tank : mg "_law_tank" = some (.ref a_law_tank)
  a_law_tap : Addr
  d_law_tap : FuncData
  F_law_tap : Fun K "_law_tap" "_law_tap" s_law_tap a_law_tap d_law_tap
  b_law_tap : Binds K d_law_tap ["tank", "wide"] []
  g_law_tap : mg "_law_tap" = some (.ref a_law_tap)
  a_law_drawn_count : Addr
  d_law_drawn_count : FuncData
  F_law_drawn_count : Fun K "_law_drawn_count" "_law_drawn_count" s_law_drawn_count a_law_drawn_count d_law_drawn_count
  b_law_drawn_count : Binds K d_law_drawn_count ["tank", "most"] []
  g_law_drawn_count : mg "_law_drawn_count" = some (.ref a_law_drawn_count)
  a_law_drawn_rim : Addr
  d_law_drawn_rim : FuncData
  F_law_drawn_rim : Fun K "_law_drawn_rim" "_law_drawn_rim" s_law_drawn_rim a_law_drawn_rim d_law_drawn_rim
  b_law_drawn_rim : Binds K d_law_drawn_rim ["tank", "count"] []
  g_law_drawn_rim : mg "_law_drawn_rim" = some (.ref a_law_drawn_rim)
  a_law_at : Addr
  d_law_at : FuncData
  F_law_at : Fun K "_law_at" "_law_at" s_law_at a_law_at d_law_at
  b_law_at : Binds K d_law_at ["rim", "mate", "tick_here"] []
  g_law_at : mg "_law_at" = some (.ref a_law_at)
  a_law_round : Addr
  d_law_round : FuncData
  F_law_round : Fun K "_law_round" "_law_round" s_law_round a_law_round d_law_round
  b_law_round : Binds K d_law_round ["rim", "mate"] []
  g_law_round : mg "_law_round" = some (.ref a_law_round)
  a_law_dark : Addr
  d_law_dark : FuncData
  F_law_dark : Fun K "_law_dark" "_law_dark" s_law_dark a_law_dark d_law_dark
  b_law_dark : Binds K d_law_dark ["lights_here"] []
  g_law_dark : mg "_law_dark" = some (.ref a_law_dark)
  a_law_right : Addr
  d_law_right : FuncData
  F_law_right : Fun K "_law_right" "_law_right" s_law_right a_law_right d_law_right
  b_law_right : Binds K d_law_right ["tank", "rim", "mate"] []
  g_law_right : mg "_law_right" = some (.ref a_law_right)
  a_law : Addr
  d_law : FuncData
  F_law : Fun K "law" "law" s_law a_law d_law
  g_law : mg "law" = some (.ref a_law)
  t_MOST_SLOTS : Tok
  g_MOST_SLOTS : mg "MOST_SLOTS" = some (.int (40) t_MOST_SLOTS)
  t_MOST_LIGHT : Tok
  g_MOST_LIGHT : mg "MOST_LIGHT" = some (.int (1000000000000000000000000000000) t_MOST_LIGHT)
  i_lcm : mg "lcm" = some (.builtin "math.lcm")
  n_abs : mg "abs" = none
  n_any : mg "any" = none
  n_bool : mg "bool" = none
  n_divmod : mg "divmod" = none
  n_enumerate : mg "enumerate" = none
  n_int : mg "int" = none
  n_isinstance : mg "isinstance" = none
  n_len : mg "len" = none
  n_list : mg "list" = none
  n_max : mg "max" = none
  n_min : mg "min" = none
  n_range : mg "range" = none
  n_repr : mg "repr" = none
  n_sum : mg "sum" = none
def kp_ring_light_tick_other_disc {α : Type} : List α → List α → List α
  | [], [x0, x1, x2] => [x2, x1, x0]
  | _, _ => []
theorem kb_ring_light_tick_other_disc {K : PySem.W.Frag} {mg : Str → Option Value} (T : Txt K mg) : KBinds K T.d_ring_light ["disc", "other", "tick"] ["tick", "other", "disc"] kp_ring_light_tick_other_disc kp_ring_light_tick_other_disc := by
  obtain ⟨_, _, _, _, _, _, _, _, _, e, _, _⟩ := T.F_ring_light.ex
  rw [e]
  refine ⟨fun s us ws _ hl => ?_, fun r1 r2 => ?_⟩
  · match us, ws, hl with
    | [], [x0, x1, x2], _ => exact .of_eq rfl
  · cases r1 with
    | cons _ _ => exact .nil
    | nil =>
      cases r2 with
      | nil => exact .nil
      | cons h0 r2 =>
        cases r2 with
        | nil => exact .nil
        | cons h1 r2 =>
          cases r2 with
          | nil => exact .nil
          | cons h2 r2 =>
            cases r2 with
            | cons _ _ => exact .nil
            | nil => exact .cons h2 (.cons h1 (.cons h0 .nil))
def kp_ring_sum_many_first_other_disc {α : Type} : List α → List α → List α
  | [], [x0, x1, x2, x3] => [x3, x2, x1, x0]
  | _, _ => []
theorem kb_ring_sum_many_first_other_disc {K : PySem.W.Frag} {mg : Str → Option Value} (T : Txt K mg) : KBinds K T.d_ring_sum ["disc", "other", "first", "many"] ["many", "first", "other", "disc"] kp_ring_sum_many_first_other_disc kp_ring_sum_many_first_other_disc := by
  obtain ⟨_, _, _, _, _, _, _, _, _, e, _, _⟩ := T.F_ring_sum.ex
  rw [e]
  refine ⟨fun s us ws _ hl => ?_, fun r1 r2 => ?_⟩
  · match us, ws, hl with
    | [], [x0, x1, x2, x3], _ => exact .of_eq rfl
  · cases r1 with
    | cons _ _ => exact .nil
    | nil =>
      cases r2 with
      | nil => exact .nil
      | cons h0 r2 =>
        cases r2 with
        | nil => exact .nil
        | cons h1 r2 =>
          cases r2 with
          | nil => exact .nil
          | cons h2 r2 =>
            cases r2 with
            | nil => exact .nil
            | cons h3 r2 =>
              cases r2 with
              | cons _ _ => exact .nil
              | nil => exact .cons h3 (.cons h2 (.cons h1 (.cons h0 .nil)))
def kp_dark_stretch_other_disc {α : Type} : List α → List α → List α
  | [], [x0, x1] => [x1, x0]
  | _, _ => []
theorem kb_dark_stretch_other_disc {K : PySem.W.Frag} {mg : Str → Option Value} (T : Txt K mg) : KBinds K T.d_dark_stretch ["disc", "other"] ["other", "disc"] kp_dark_stretch_other_disc kp_dark_stretch_other_disc := by
  obtain ⟨_, _, _, _, _, _, _, _, _, e, _, _⟩ := T.F_dark_stretch.ex
  rw [e]
  refine ⟨fun s us ws _ hl => ?_, fun r1 r2 => ?_⟩
  · match us, ws, hl with
    | [], [x0, x1], _ => exact .of_eq rfl
  · cases r1 with
    | cons _ _ => exact .nil
    | nil =>
      cases r2 with
      | nil => exact .nil
      | cons h0 r2 =>
        cases r2 with
        | nil => exact .nil
        | cons h1 r2 =>
          cases r2 with
          | cons _ _ => exact .nil
          | nil => exact .cons h1 (.cons h0 .nil)
def kp_first_tick_light_first_other_disc {α : Type} : List α → List α → List α
  | [], [x0, x1, x2, x3] => [x3, x2, x1, x0]
  | _, _ => []
theorem kb_first_tick_light_first_other_disc {K : PySem.W.Frag} {mg : Str → Option Value} (T : Txt K mg) : KBinds K T.d_first_tick ["disc", "other", "first", "light"] ["light", "first", "other", "disc"] kp_first_tick_light_first_other_disc kp_first_tick_light_first_other_disc := by
  obtain ⟨_, _, _, _, _, _, _, _, _, e, _, _⟩ := T.F_first_tick.ex
  rw [e]
  refine ⟨fun s us ws _ hl => ?_, fun r1 r2 => ?_⟩
  · match us, ws, hl with
    | [], [x0, x1, x2, x3], _ => exact .of_eq rfl
  · cases r1 with
    | cons _ _ => exact .nil
    | nil =>
      cases r2 with
      | nil => exact .nil
      | cons h0 r2 =>
        cases r2 with
        | nil => exact .nil
        | cons h1 r2 =>
          cases r2 with
          | nil => exact .nil
          | cons h2 r2 =>
            cases r2 with
            | nil => exact .nil
            | cons h3 r2 =>
              cases r2 with
              | cons _ _ => exact .nil
              | nil => exact .cons h3 (.cons h2 (.cons h1 (.cons h0 .nil)))
section
variable {P : Program} {w : World} {K : PySem.W.Frag} {mg : Str → Option Value} {base : Heap}
/-! ### _law_tank, _law_tap -/
def mixA (y z : Int) : Int := (y + 350377 * z) ^ (3 : Int).toNat % 170141183460469231731687303715884105727
theorem mixA_in (y z : Int) : 0 ≤ mixA y z ∧ mixA y z < 170141183460469231731687303715884105727 := ⟨Int.emod_nonneg _ (by decide), Int.emod_lt_of_pos _ (by decide)⟩
def spTap : Sp := fun vs H Q _ => ∃ (T : Addr) (m c : Int), vs = [.ref T, .int m] ∧ 0 < m ∧ m < 2 ^ 200 ∧ Tank H T c ∧ c < 2 ^ 40 ∧
  ∀ (r : Int) (H' : Hp), 0 ≤ r → r < m → Tank H' T (c + 1) → But T H H' → Q (.int r) H'
theorem ok_law_tap (T : Txt K mg) : FnOk P w K mg base CX0 1 T.a_law_tap T.d_law_tap ["tank", "wide"] spTap := by
  refine T.F_law_tap.ok sc_law_tap (fun vs H Q E h => ?_) (fun cdv A outer s H vs Q E hr h => ?_)
  · obtain ⟨_, _, _, rfl, _⟩ := h
    rfl
  · obtain ⟨t, m, c, rfl, hm0, hm, ⟨x, y, z, hT, hx, hy0, hy, hz0, hz⟩, hc, q⟩ := h
    refine ⟨_, (pss_cons (ps_if (pt_cmpR op_gt (pe_ix (ixL (K := K) rfl) (pv 0) pe_int (fun _ _ => rfl)) pe_int (nomark _)) (pss_cons (ps_set (i := 2) sc_law_tap.nd rfl (.inl rfl) (pe_op op_mod (pe_callTy call_int1 (by rfl) T.n_int (by decide +kernel) (pa_cons (pe_ix (ixL (K := K) rfl) (pv 0) pe_int (fun _ _ => rfl)) pa_nil)) (pv 1)))
      (pss_cons (ps_asg (pe_op op_fdivW (pe_ix (ixL (K := K) rfl) (pv 0) pe_int (fun _ _ => rfl)) (pv 1)) (pg_sub (pv 0) pe_int set_list))
      (pss_one (ps_ret (pv 2))))) pss_nil)
      (pss_cons (ps_asg (pe_op op_add (pe_ix (ixL (K := K) rfl) (pv 0) pe_int (fun _ _ => rfl)) pe_int) (pg_sub (pv 0) pe_int set_list))
      (pss_cons (ps_set (i := 3) sc_law_tap.nd rfl (.inl rfl) (pe_op op_mod (pe_callTy call_int1 (by rfl) T.n_int (by decide +kernel) (pa_cons (pe_op op_pow3 (pe_op op_add (pe_ix (ixL (K := K) rfl) (pv 0) pe_int (fun _ _ => rfl)) (pe_op op_mul pe_int (pe_ix (ixL (K := K) rfl) (pv 0) pe_int (fun _ _ => rfl)))) pe_int) pa_nil)) pe_int))
      (pss_cons (ps_set (i := 3) sc_law_tap.nd rfl (.inl rfl) (pe_op op_mod (pe_callTy call_int1 (by rfl) T.n_int (by decide +kernel) (pa_cons (pe_op op_pow3 (pe_op op_add (pv 3) (pe_op op_mul pe_int (pe_ix (ixL (K := K) rfl) (pv 0) pe_int (fun _ _ => rfl)))) pe_int) pa_nil)) (pe_op op_add (pe_op op_pow pe_int pe_int) pe_int)))
      (pss_one (ps_ret (pe_op op_mod (pe_callTy call_int1 (by rfl) T.n_int (by decide +kernel) (pa_cons (pe_op op_fdivW (pv 3) pe_int) pa_nil)) (pv 1)))))))), ?_⟩
    refine ⟨.ref t, rfl, t, _, 0, .int x, rfl, rfl, SqL.of hT, rfl, x, 0, rfl, rfl, _, rfl, ite2 (fun h => ?_) (fun h => ?_)⟩
    · have hx1 : 0 < x := of_decide_eq_true h
      refine ⟨.ref t, rfl, t, _, 0, .int x, rfl, rfl, SqL.of hT, rfl, .inl ⟨x, rfl, .int m, rfl, x, m, rfl, rfl, hm0, ?_⟩⟩
      refine ⟨.ref t, rfl, t, _, 0, .int x, rfl, rfl, SqL.of hT, rfl, .int m, rfl, x, m, rfl, rfl, wide_div (b := 200) hm0 (by omega) (by decide) (by decide), ?_⟩
      refine ⟨.ref t, rfl, t, _, 0, 0, rfl, rfl, hT, rfl, ?_⟩
      refine ⟨.int (x % m), rfl, q _ _ (Int.emod_nonneg _ (by omega)) (Int.emod_lt_of_pos _ hm0) ⟨x / m, y, z, upd_same, Int.ediv_nonneg hx (by omega), hy0, hy, hz0, by omega⟩ upd_but⟩
    · refine ⟨.ref t, rfl, t, _, 2, .int z, rfl, rfl, SqL.of hT, rfl, z, 1, rfl, rfl, ?_⟩
      refine ⟨.ref t, rfl, t, _, 2, 2, rfl, rfl, hT, rfl, ?_⟩
      have hT2 : (upd H t (.lst [.int x, .int y, .int (z + 1)])) t = some (.lst [.int x, .int y, .int (z + 1)]) := upd_same
      refine ⟨.ref t, rfl, t, _, 1, .int y, rfl, rfl, SqL.of hT2, rfl, .ref t, rfl, t, _, 2, .int (z + 1), rfl, rfl, SqL.of hT2, rfl, 350377, z + 1, rfl, rfl, .inl ⟨by decide, by decide⟩, ?_⟩
      refine ⟨y, 350377 * (z + 1), rfl, rfl, _, 3, rfl, rfl, ⟨rfl, by omega, by omega⟩, .inl ⟨_, rfl, _, 170141183460469231731687303715884105727, rfl, rfl, (by show (0 : Int) < 170141183460469231731687303715884105727; decide), ?_⟩⟩
      obtain ⟨g0, g1⟩ := mixA_in y (z + 1)
      refine ⟨.int (mixA y (z + 1)), rfl, .ref t, rfl, t, _, 2, .int (z + 1), rfl, rfl, SqL.of hT2, rfl, 27644437, z + 1, rfl, rfl, .inl ⟨by decide, by decide⟩, ?_⟩
      refine ⟨mixA y (z + 1), 27644437 * (z + 1), rfl, rfl, _, 3, rfl, rfl, ⟨rfl, by omega, by omega⟩, .inl ⟨_, rfl, 10, 46, rfl, rfl, ⟨by decide, by decide, by decide⟩, _, 9, rfl, rfl, _, _, rfl, rfl, (by show (0 : Int) < 10 ^ (46 : Int).toNat + 9; decide +kernel), ?_⟩⟩
      refine ⟨_, rfl, _, 524288, rfl, rfl, wide_div (b := 30) (by decide) (by decide) (by decide) (by decide), .inl ⟨_, rfl, .int m, rfl, _, m, rfl, rfl, hm0, ?_⟩⟩
      exact q _ _ (Int.emod_nonneg _ (by omega)) (Int.emod_lt_of_pos _ hm0) ⟨x, y, z + 1, upd_same, hx, hy0, hy, by omega, by omega⟩ upd_but
def spTank (K : PySem.W.Frag) : Sp := fun vs H Q _ => ∃ (a : Addr) (ns : List Int) (i : Int), vs = [.ref a, .int i] ∧ SqL K H a (ns.map V.int) ∧ 0 ≤ i ∧ i < 100 ∧
  ∀ (t : Addr) (H' : Hp), Same H H' → H t = none → Tank H' t 0 → Q (.ref t) H'
theorem ok_law_tank (T : Txt K mg) : FnOk P w K mg base CX0 1 T.a_law_tank T.d_law_tank ["script", "at"] (spTank K) := by
  refine T.F_law_tank.ok sc_law_tank (fun vs H Q E h => ?_) (fun cdv A outer s H vs Q E hr h => ?_)
  · obtain ⟨_, _, _, rfl, _⟩ := h
    rfl
  · obtain ⟨a, ns, i, rfl, hS, hi0, hi, q⟩ := h
    refine ⟨_, (pss_cons (ps_set (i := 2) sc_law_tank.nd rfl (.inl rfl) (pe_ifExp (pt_cmpR op_lt (pv 1) (pe_callB (lenL (K := K) rfl) (by rfl) T.n_len (by decide +kernel) (pa_cons (pv 0) pa_nil)) (nomark _)) (pe_ix (ixL (K := K) rfl) (pv 0) (pv 1) (fun _ _ => rfl)) pe_int))
      (pss_one (ps_ret (pe_lst (pa_cons (pe_callB (call_max2 rfl) (by rfl) T.n_max (by decide +kernel) (pa_cons pe_int (pa_cons (pe_op op_sub (pe_callB call_abs (by rfl) T.n_abs (by decide +kernel) (pa_cons (pv 2) pa_nil)) (pe_op op_pow pe_int pe_int)) pa_nil))) (pa_cons (pe_op op_add (pe_op op_mod (pe_callTy call_int1 (by rfl) T.n_int (by decide +kernel) (pa_cons (pv 2) pa_nil)) pe_int) (pe_op op_mul pe_int (pe_op op_add (pv 1) pe_int))) (pa_cons pe_int pa_nil))))))), ?_⟩
    have fin : ∀ c : Int, (fun σ H' => ∃ y2, σ = [some (.ref a), some (.int i), some y2] ∧ y2 = V.int c ∧ H' = H) [some (.ref a), some (.int i), some (V.int c)] H := fun c => ⟨_, rfl, rfl, rfl⟩
    have key : ∀ c : Int, (0 : Int) ≤ max 0 ((if c < 0 then -c else c) - 10 ^ 18) := fun c => Int.le_max_left _ _
    refine ⟨.int i, rfl, .ref a, rfl, a, _, rfl, .inl hS, i, _, rfl, rfl, _, rfl, ite2 (fun h => ?_) (fun h => ?_)⟩
    · have h1 : i < ns.length := by
        have := of_decide_eq_true h
        rw [List.length_map] at this
        exact this
      obtain ⟨c, hc, hat⟩ := at_in hi0 h1
      refine ⟨.ref a, rfl, .int i, rfl, a, _, i, .int c, rfl, rfl, hS, hat, ?_⟩
      refine ⟨.int c, rfl, c, rfl, 10, 18, rfl, rfl, ⟨by decide, by decide, by decide⟩, _, _, rfl, rfl, 0, _, rfl, ?_⟩
      refine ⟨.int c, rfl, .inl ⟨c, rfl, c, 1000000000000000003, rfl, rfl, (by show (0 : Int) < 1000000000000000003; decide), .int i, rfl, i, 1, rfl, rfl, 104729, i + 1, rfl, rfl, .inl ⟨by decide, by decide⟩, _, _, rfl, rfl, (by show 3 ≤ sizeLine; decide), fun t ht => ?_⟩⟩
      have m0 := Int.emod_nonneg c (show (1000000000000000003 : Int) ≠ 0 by decide)
      have m1 := Int.emod_lt_of_pos c (show (0 : Int) < 1000000000000000003 by decide)
      refine q t _ (new_same ht) ht ⟨_, _, 0, upd_same, ?_, by omega, by omega, by omega, by omega⟩
      split <;> omega
    · refine ⟨.int 0, rfl, 0, rfl, 10, 18, rfl, rfl, ⟨by decide, by decide, by decide⟩, _, _, rfl, rfl, 0, _, rfl, ?_⟩
      refine ⟨.int 0, rfl, .inl ⟨0, rfl, 0, 1000000000000000003, rfl, rfl, (by show (0 : Int) < 1000000000000000003; decide), .int i, rfl, i, 1, rfl, rfl, 104729, i + 1, rfl, rfl, .inl ⟨by decide, by decide⟩, _, _, rfl, rfl, (by show 3 ≤ sizeLine; decide), fun t ht => ?_⟩⟩
      refine q t _ (new_same ht) ht ⟨_, _, 0, upd_same, ?_, by omega, by omega, by omega, by omega⟩
      split <;> omega

/-! ### _law_drawn_count, _law_drawn_turn -/
def spCount : Sp := fun vs H Q _ => ∃ (T : Addr) (m c : Int), vs = [.ref T, .int m] ∧ 1 ≤ m ∧ m ≤ 40 ∧ Tank H T c ∧ 0 ≤ c ∧ c < 2 ^ 39 ∧
  ∀ (r : Int) (H' : Hp), 1 ≤ r → r ≤ m → Tank H' T (c + 3) → But T H H' → Q (.int r) H'
theorem ok_law_drawn_count (T : Txt K mg) : FnOk P w K mg base CX0 2 T.a_law_drawn_count T.d_law_drawn_count ["tank", "most"] spCount := by
  have G_law_tap := ok_law_tap (P := P) (w := w) (base := base) T
  refine T.F_law_drawn_count.ok sc_law_drawn_count (fun vs H Q E h => ?_) (fun cdv A outer s H vs Q E hr h => ?_)
  · obtain ⟨_, _, _, rfl, _⟩ := h
    rfl
  · obtain ⟨t, m, c, rfl, hm1, hm, hT, hc0, hc, q⟩ := h
    refine ⟨_, (pss_cons (ps_set (i := 2) sc_law_drawn_count.nd rfl (.inl rfl) (pe_lst (pa_cons pe_int (pa_cons (pv 1) (pa_cons pe_int (pa_cons pe_int (pa_cons pe_int (pa_cons pe_int (pa_cons pe_int (pa_cons (pe_op op_add pe_int (pe_call G_law_tap hr (by rfl) T.g_law_tap T.F_law_tap.kp T.b_law_tap .nil pass0 (pa_cons (pv 0) (pa_cons (pv 1) pa_nil)))) (pa_cons (pe_op op_add pe_int (pe_call G_law_tap hr (by rfl) T.g_law_tap T.F_law_tap.kp T.b_law_tap .nil pass0 (pa_cons (pv 0) (pa_cons (pv 1) pa_nil)))) pa_nil)))))))))))
      (pss_one (ps_ret (pe_callB (call_min2 rfl) (by rfl) T.n_min (by decide +kernel) (pa_cons (pv 1) (pa_cons (pe_ix (ixL (K := K) rfl) (pv 2) (pe_call G_law_tap hr (by rfl) T.g_law_tap T.F_law_tap.kp T.b_law_tap .nil pass0 (pa_cons (pv 0) (pa_cons pe_int pa_nil))) (fun _ _ => rfl)) pa_nil)))))), ?_⟩
    refine ⟨.int m, rfl, .ref t, rfl, .int m, rfl, t, m, c, rfl, by omega, by omega, hT, by omega, fun r1 H1 a1 b1 k1 u1 => ?_⟩
    refine ⟨1, r1, rfl, rfl, .ref t, rfl, .int m, rfl, t, m, c + 1, rfl, by omega, by omega, k1, by omega, fun r2 H2 a2 b2 k2 u2 => ?_⟩
    refine ⟨1, r2, rfl, rfl, (by show 9 ≤ sizeLine; decide), fun l hl => ?_⟩
    refine ⟨.int m, rfl, .ref l, rfl, .ref t, rfl, t, 9, c + 2, rfl, by omega, by omega, (k2.mono (by omega)).up hl, by omega, fun r3 H3 a3 b3 k3 u3 => ?_⟩
    have hl3 : H3 l = some (.lst (([1, m, 6, 7, 12, 36, 40, 1 + r1, 1 + r2] : List Int).map V.int)) := u3 _ _ upd_same (k2.ne hl)
    obtain ⟨n, hn, hat⟩ := at_in (ns := [1, m, 6, 7, 12, 36, 40, 1 + r1, 1 + r2]) a3 (by show r3 < 9; omega)
    have hn1 : 1 ≤ n := by
      have := List.mem_of_getElem? hn
      simp only [List.mem_cons, List.not_mem_nil, or_false] at this
      omega
    refine ⟨l, _, r3, .int n, rfl, rfl, SqL.of hl3, hat, m, n, rfl, ?_⟩
    have hb : But t H H3 := ((u1.trans u2).trans (But.of (new_same hl))).trans u3
    split
    · exact q _ _ hn1 (by omega) (k3.mono (by omega)) hb
    · exact q _ _ hm1 (by omega) (k3.mono (by omega)) hb

/-! ### _law_drawn_rim -/
def spRim : Sp := fun vs H Q _ => ∃ (T : Addr) (n c : Int), vs = [.ref T, .int n] ∧ 1 ≤ n ∧ n ≤ 40 ∧ Tank H T c ∧ 0 ≤ c ∧ c < 2 ^ 38 ∧
  ∀ (l : Addr) (ns : List Int) (H' : Hp), Rim ns → (ns.length : Int) = n → But T H H' → H l = none → H' l = some (.lst (ns.map V.int)) → Tank H' T (c + 60) → Q (.ref l) H'
/-- what holds between the ifs -/
def MidRim (t : Addr) (H : Hp) (n k w e : Int) : L2.St → Hp → Prop := fun σ' H' => ∃ (D : Addr) (ns : List Int) (y5 y6 y7 : Option V),
  σ' = [some (.ref t), some (.int n), some (.int k), some (.int w), some (.ref D), y5, y6, y7] ∧ Rim ns ∧ (ns.length : Int) = n ∧ H D = none ∧ H' D = some (.lst (ns.map V.int)) ∧ But t H H' ∧ Tank H' t e
theorem ok_law_drawn_rim (T : Txt K mg) : FnOk P w K mg base CX0 2 T.a_law_drawn_rim T.d_law_drawn_rim ["tank", "count"] spRim := by
  have G_law_tap := ok_law_tap (P := P) (w := w) (base := base) T
  refine T.F_law_drawn_rim.ok sc_law_drawn_rim (fun vs H Q E h => ?_) (fun cdv A outer s H vs Q E hr h => ?_)
  · obtain ⟨_, _, _, rfl, _⟩ := h
    rfl
  · obtain ⟨t, n, c, rfl, hn1, hn, hT, hc0, hc, q⟩ := h
    have e30 : (10 : Int) ^ (30 : Int).toNat = 1000000000000000000000000000000 := by decide +kernel
    refine ⟨_, (pss_cons (ps_asg (pe_tup (pa_cons (pe_call G_law_tap hr (by rfl) T.g_law_tap T.F_law_tap.kp T.b_law_tap .nil pass0 (pa_cons (pv 0) (pa_cons pe_int pa_nil))) (pa_cons (pe_ix (ixL (K := K) rfl) (pe_lst (pa_cons pe_int (pa_cons pe_int (pa_cons pe_int (pa_cons (pe_op op_add (pe_op op_pow pe_int pe_int) pe_int) pa_nil))))) (pe_call G_law_tap hr (by rfl) T.g_law_tap T.F_law_tap.kp T.b_law_tap .nil pass0 (pa_cons (pv 0) (pa_cons pe_int pa_nil))) (fun _ _ => rfl)) pa_nil))) (pg_tupL (K := K) (n := 2) rfl rfl (pgs_cons (pg_name (i := 2) sc_law_drawn_rim.nd rfl (.inr rfl)) (pgs_cons (pg_name (i := 3) sc_law_drawn_rim.nd rfl (.inr rfl)) pgs_nil))))
      (pss_cons (ps_setLc (i := 4) (own := [("slot_here", 5)]) (g := gName 5) (tt := tYes) (by rfl) sc_law_drawn_rim.nd rfl rfl (sw_true rfl rfl rfl (by decide +kernel)) (pi_range1 (by rfl) T.n_range (pa_cons (pv 1) pa_nil)) (blkOk_by (own := [("slot_here", 5)]) (N := ["tank", "count", "kind", "wide", "rim", "slot_here", "sizes", "size"]) (sc := defScope s_law_drawn_rim) (by decide +kernel))
        (fun _ _ _ _ _ => (pg_name (i := 5) sc_law_drawn_rim.nd rfl (Or.inl rfl))) (fun _ _ _ _ _ => pts_nil) (fun _ _ _ _ _ => (pe_call G_law_tap hr (by rfl) T.g_law_tap T.F_law_tap.kp T.b_law_tap .nil pass0 (pa_cons (pv 0) (pa_cons (pe_ix (ixL (K := K) rfl) (pe_lst (pa_cons pe_int (pa_cons pe_int (pa_cons (pv 3) (pa_cons (pv 3) (pa_cons (pe_op op_add (pe_op op_pow pe_int pe_int) pe_int) (pa_cons pe_int (pa_cons pe_int (pa_cons pe_int pa_nil))))))))) (pv 2) (fun _ _ => rfl)) pa_nil)))))
      (pss_mid (ps_if (pt_cmpR op_eq (pv 2) pe_int (nomark _)) (pss_cons (ps_set (i := 4) sc_law_drawn_rim.nd rfl (.inl rfl) (pe_op op_rep (pe_lst (pa_cons pe_int pa_nil)) (pv 1)))
      (pss_one (ps_asg (pe_op op_add pe_int (pe_call G_law_tap hr (by rfl) T.g_law_tap T.F_law_tap.kp T.b_law_tap .nil pass0 (pa_cons (pv 0) (pa_cons (pe_op op_sub (pv 3) pe_int) pa_nil)))) (pg_sub (pv 4) (pe_call G_law_tap hr (by rfl) T.g_law_tap T.F_law_tap.kp T.b_law_tap .nil pass0 (pa_cons (pv 0) (pa_cons (pv 1) pa_nil))) set_list)))) pss_nil)
      (pss_mid (ps_if (pt_cmpR op_eq (pv 2) pe_int (nomark _)) (pss_one (ps_set (i := 4) sc_law_drawn_rim.nd rfl (.inl rfl) (pe_op op_rep (pe_lst (pa_cons (pe_ix (ixL (K := K) rfl) (pv 4) pe_int (fun _ _ => rfl)) pa_nil)) (pv 1)))) pss_nil)
      (pss_mid (ps_if (pt_cmpR op_eq (pv 2) pe_int (nomark _)) (pss_cons (ps_setLc (i := 6) (own := [("size", 7)]) (g := gName 7) (by rfl) sc_law_drawn_rim.nd rfl rfl (sw_true rfl rfl rfl (by decide +kernel)) (pi_range2 (by rfl) T.n_range (pa_cons pe_int (pa_cons (pe_op op_add (pv 1) pe_int) pa_nil))) (blkOk_by (own := [("size", 7)]) (N := ["tank", "count", "kind", "wide", "rim", "slot_here", "sizes", "size"]) (sc := defScope s_law_drawn_rim) (by decide +kernel))
        (fun _ _ _ _ _ => (pg_name (i := 7) sc_law_drawn_rim.nd rfl (Or.inl rfl))) (fun _ _ _ _ _ => (pts_one (pt_cmpR op_eq (pe_op op_mod (pe_callTy call_int1 (by rfl) T.n_int (by decide +kernel) (pa_cons (pv 1) pa_nil)) (pv 7)) pe_int (nomark _)))) (fun _ _ _ _ _ => (pv 7)))
      (pss_cons (ps_set (i := 7) sc_law_drawn_rim.nd rfl (.inl rfl) (pe_ix (ixL (K := K) rfl) (pv 6) (pe_call G_law_tap hr (by rfl) T.g_law_tap T.F_law_tap.kp T.b_law_tap .nil pass0 (pa_cons (pv 0) (pa_cons (pe_callB (lenL (K := K) rfl) (by rfl) T.n_len (by decide +kernel) (pa_cons (pv 6) pa_nil)) pa_nil))) (fun _ _ => rfl)))
      (pss_one (ps_set (i := 4) sc_law_drawn_rim.nd rfl (.inl rfl) (pe_op op_rep (pe_slice (slL (K := K) rfl) (pv 4) po_none (po_some (pv 7))) (pe_op op_fdivW (pv 1) (pv 7))))))) pss_nil)
      (pss_one (ps_ret (pv 4)))))))), ?_⟩
    obtain ⟨oT, hoT⟩ := hT.some
    -- kind, wide
    refine ⟨.ref t, rfl, t, 8, c, rfl, by omega, by omega, hT, by omega, fun k H1 k0 k8 k1 u1 => ?_⟩
    refine ⟨10, 30, rfl, rfl, ⟨by decide, by decide, by decide⟩, _, 1, rfl, rfl, (by show 4 ≤ sizeLine; decide), fun l hl => ?_⟩
    refine ⟨.ref t, rfl, t, 4, c + 1, rfl, by omega, by omega, k1.up hl, by omega, fun r H2 r0 r4 k2 u2 => ?_⟩
    have hl2 : H2 l = some (.lst (([2, 2, 4, 10 ^ (30 : Int).toNat + 1] : List Int).map V.int)) := u2 _ _ upd_same (k1.ne hl)
    obtain ⟨w, hw, hat⟩ := at_in (ns := [2, 2, 4, 10 ^ (30 : Int).toNat + 1]) r0 (by show r < 4; omega)
    have hw1 : 2 ≤ w ∧ w ≤ 1000000000000000000000000000001 := by
      have := List.mem_of_getElem? hw
      simp only [List.mem_cons, List.not_mem_nil, or_false, e30] at this
      omega
    refine ⟨l, _, r, .int w, rfl, rfl, SqL.of hl2, hat, (by show 2 ≤ sizeLine; decide), fun p hp => ?_⟩
    refine ⟨p, _, rfl, SqT.of upd_same, rfl, _, _, rfl, _, _, rfl, rfl, ?_⟩
    have u3 : But t H (upd H2 p (.tup [.int k, .int w])) := (u1.trans ((But.of (new_same hl)).trans u2)).trans (But.of (new_same hp))
    have k3 : Tank (upd H2 p (.tup [.int k, .int w])) t (c + 2) := (k2.mono (by omega)).up hp
    generalize hH3 : upd H2 p (.tup [.int k, .int w]) = H3 at u3 k3
    -- rim = [..]
    refine ⟨.int n, rfl, n, rfl, by omega, by omega, fun D hD => ?_⟩
    have hHD : H D = none := free_but u3 hoT hD (by obtain ⟨o, e⟩ := k3.some; rw [e]; exact fun z => nomatch z)
    refine lc_range (lo := 0) (n := n.toNat) (fun i H' => But t H H' ∧ Tank H' t (c + 2 + i) ∧ ∃ ms : List Int, H' D = some (.lst (ms.map V.int)) ∧ ms.length = i ∧ ∀ m ∈ ms, 0 ≤ m ∧ m ≤ 1000000000000000000000000000000)
      ⟨u3.trans (But.of (new_same hD)), (k3.mono (by omega)).up hD, [], upd_same, rfl, fun m hm => (List.not_mem_nil hm).elim⟩ (fun i H4 hi hP => ⟨rfl, ?_⟩) (fun H4 hP => ?_)
    · obtain ⟨u4, k4, ms, hD4, hlen, hall⟩ := hP
      refine ⟨.ref t, rfl, .int w, rfl, .int w, rfl, 10, 30, rfl, rfl, ⟨by decide, by decide, by decide⟩, _, 1, rfl, rfl, (by show 8 ≤ sizeLine; decide), fun l2 hl2 => ?_⟩
      obtain ⟨m, hm, hatm⟩ := at_in (ns := [2, 2, w, w, 10 ^ (30 : Int).toNat + 1, 4, 1, 2]) k0 (by show k < 8; omega)
      have hm1 : 1 ≤ m ∧ m ≤ 1000000000000000000000000000001 := by
        have := List.mem_of_getElem? hm
        simp only [List.mem_cons, List.not_mem_nil, or_false, e30] at this
        omega
      refine ⟨.int k, rfl, l2, _, k, .int m, rfl, rfl, SqL.of upd_same, hatm, t, m, c + 2 + i, rfl, by omega, by omega, k4.up hl2, by omega, fun v H5 v0 v1 k5 u5 => ?_⟩
      have hD5 : H5 D = some (.lst (ms.map V.int)) := u5 _ _ (new_same hl2 _ _ hD4) (k3.ne hD)
      refine ⟨_, hD5, by rw [List.length_map]; exact sz40 (by omega), ?_, ?_, ms ++ [v], ?_, by rw [List.length_append]; show ms.length + 1 = i + 1; omega, fun z hz => ?_⟩
      · exact fun b o e ne => by
          rw [upd_ne (ne_of_none e hHD)]
          exact ((u4.trans (But.of (new_same hl2))).trans u5) b o e ne
      · obtain ⟨x, y, z, e, a1, a2, a3, a4, a5⟩ := k5
        exact ⟨x, y, z, by rw [upd_ne (k3.ne hD).symm]; exact e, a1, a2, a3, a4, by omega⟩
      · rw [upd_same, List.map_append]
        rfl
      · rcases List.mem_append.mp hz with h | h
        · exact hall z h
        · have e := List.mem_singleton.mp h
          subst e
          omega
    · obtain ⟨u4, k4, ms, hD4, hlen, hall⟩ := hP
      have hn2 : (ms.length : Int) = n := by omega
      have hR : Rim ms := ⟨by omega, by omega, hall⟩
      have ek : ((n.toNat : Nat) : Int) = n := by omega
      rw [ek] at k4
      -- if kind == 1
      refine ⟨MidRim t H n k w (c + 2 + n + 2), ⟨.int k, rfl, rfl, _, rfl, ite2 (fun _ => ?_) (fun _ => ?_)⟩, fun σ' H5 hM => ?_⟩
      · refine ⟨(by show 1 ≤ sizeLine; decide), fun l3 hl3 => ?_⟩
        refine ⟨.int n, rfl, l3, n, _, rfl, rfl, upd_same, by omega, by omega, (by show 1 * n.toNat ≤ sizeLine; exact sz40' (by omega)), fun p3 hp3 => ?_⟩
        have k5 : Tank (upd (upd H4 l3 (.lst [.int 0])) p3 (.lst (List.replicate n.toNat [V.int 0]).flatten)) t (c + 2 + n) := (k4.up hl3).up hp3
        have u5 : But t H (upd (upd H4 l3 (.lst [.int 0])) p3 (.lst (List.replicate n.toNat [V.int 0]).flatten)) := (u4.trans (But.of (new_same hl3))).trans (But.of (new_same hp3))
        refine ⟨.ref t, rfl, .int w, rfl, w, 1, rfl, rfl, t, w - 1, c + 2 + n, rfl, by omega, by omega, k5, by omega, fun v H6 v0 v1 k6 u6 => ?_⟩
        refine ⟨1, v, rfl, rfl, .ref p3, rfl, .ref t, rfl, .int n, rfl, t, n, c + 2 + n + 1, rfl, by omega, by omega, k6, by omega, fun j H7 j0 j1 k7 u7 => ?_⟩
        have hp7 : H7 p3 = some (.lst ((List.replicate n.toNat (0 : Int)).map V.int)) := u7 _ _ (u6 _ _ (by rw [upd_same, rep_one]) ((k4.up hl3).ne hp3)) ((k4.up hl3).ne hp3)
        have hlenr : ((List.replicate n.toNat (0 : Int)).map V.int).length = n.toNat := by rw [List.length_map, List.length_replicate]
        refine ⟨p3, _, _, j.toNat, rfl, rfl, hp7, ixN_in j0 (by rw [hlenr]; omega), ?_⟩
        have hHp : H p3 = none := free_but (u4.trans (But.of (new_same hl3))) hoT hp3 (by obtain ⟨o, e⟩ := (k4.up hl3).some; rw [e]; exact fun z => nomatch z)
        refine ⟨p3, (List.replicate n.toNat (0 : Int)).set j.toNat (1 + v), _, _, _, rfl, ⟨?_, ?_, fun z hz => ?_⟩, ?_, hHp, ?_, ?_, ?_⟩
        · rw [List.length_set, List.length_replicate]
          omega
        · rw [List.length_set, List.length_replicate]
          omega
        · rcases List.mem_or_eq_of_mem_set hz with h | h
          · rw [(List.mem_replicate.mp h).2]
            omega
          · omega
        · rw [List.length_set, List.length_replicate]
          exact ek
        · rw [upd_same, map_set]
        · exact fun b o e ne => by
            rw [upd_ne (ne_of_none e hHp)]
            exact ((u5.trans u6).trans u7) b o e ne
        · obtain ⟨x, y, z, e, a1, a2, a3, a4, a5⟩ := k7
          exact ⟨x, y, z, by rw [upd_ne ((k4.up hl3).ne hp3).symm]; exact e, a1, a2, a3, a4, by omega⟩
      · exact ⟨D, ms, _, _, _, rfl, hR, hn2, hHD, hD4, u4, k4.mono (by omega)⟩
      -- if kind == 2
      obtain ⟨D5, ns5, y5, y6, y7, rfl, hR5, hn5, hH5, hD5, u5, k5⟩ := hM
      refine ⟨MidRim t H n k w (c + 2 + n + 2), ⟨.int k, rfl, rfl, _, rfl, ite2 (fun _ => ?_) (fun _ => ?_)⟩, fun σ' H6 hM => ?_⟩
      · obtain ⟨m, hm, hat0⟩ := at_in (ns := ns5) (i := 0) (by omega) (by omega)
        have hmb := hR5.all m (List.mem_of_getElem? hm)
        refine ⟨.ref D5, rfl, D5, _, 0, .int m, rfl, rfl, SqL.of hD5, hat0, (by show 1 ≤ sizeLine; decide), fun l3 hl3 => ?_⟩
        refine ⟨.int n, rfl, l3, n, _, rfl, rfl, upd_same, by omega, by omega, (by show 1 * n.toNat ≤ sizeLine; exact sz40' (by omega)), fun p3 hp3 => ?_⟩
        have hHp : H p3 = none := free_but (u5.trans (But.of (new_same hl3))) hoT hp3 (by obtain ⟨o, e⟩ := (k5.up hl3).some; rw [e]; exact fun z => nomatch z)
        refine ⟨p3, List.replicate n.toNat m, _, _, _, rfl, ⟨?_, ?_, fun z hz => ?_⟩, ?_, hHp, by rw [upd_same, rep_one], (u5.trans (But.of (new_same hl3))).trans (But.of (new_same hp3)), (k5.up hl3).up hp3⟩
        · rw [List.length_replicate]
          omega
        · rw [List.length_replicate]
          omega
        · rw [(List.mem_replicate.mp hz).2]
          exact hmb
        · rw [List.length_replicate]
          exact ek
      · exact ⟨D5, ns5, y5, y6, y7, rfl, hR5, hn5, hH5, hD5, u5, k5⟩
      -- if kind == 3
      obtain ⟨D6, ns6, y5, y6, y7, rfl, hR6, hn6, hH6, hD6, u6, k6⟩ := hM
      refine ⟨MidRim t H n k w (c + 2 + n + 3), ⟨.int k, rfl, rfl, _, rfl, ite2 (fun _ => ?_) (fun _ => ?_)⟩, fun σ' H7 hM => ?_⟩
      · refine ⟨.int n, rfl, n, 1, rfl, rfl, 1, n + 1, rfl, ⟨by omega, by omega, by omega, by omega⟩, fun D2 hD2 => ?_⟩
        refine lc_range (lo := 1) (n := (n + 1 - 1).toNat) (fun i H' => Same H6 H' ∧ ∃ ss : List Int, H' D2 = some (.lst (ss.map V.int)) ∧ (∀ s ∈ ss, 1 ≤ s ∧ s ≤ n ∧ n % s = 0) ∧ ss.length ≤ i ∧ (0 < i → 1 ≤ ss.length))
          ⟨new_same hD2, [], upd_same, fun s hs => (List.not_mem_nil hs).elim, Nat.le_refl _, fun z => absurd z (Nat.lt_irrefl _)⟩ (fun i H7 hi hP => ⟨rfl, ?_⟩) (fun H7 hP => ?_)
        · obtain ⟨s7, ss, hD7, hss, hsl, hs0⟩ := hP
          refine ⟨.int n, rfl, .inl ⟨n, rfl, .int (1 + i), rfl, n, 1 + i, rfl, rfl, (by show (0 : Int) < _; omega), rfl, _, rfl, ite2 (fun h => ?_) (fun h => ?_)⟩⟩
          · have hz : n % (1 + (i : Int)) = 0 := V.int.inj (of_decide_eq_true h)
            refine ⟨.int (1 + i), rfl, _, hD7, by rw [List.length_map]; exact sz40 (by omega), fun b o e => ?_, ss ++ [1 + (i : Int)], ?_, fun z hzz => ?_, ?_, fun _ => ?_⟩
            · rw [upd_ne (ne_of_none e hD2)]
              exact s7 b o e
            · rw [upd_same, List.map_append]
              rfl
            · rcases List.mem_append.mp hzz with h | h
              · exact hss z h
              · have e := List.mem_singleton.mp h
                subst e
                exact ⟨by omega, by omega, hz⟩
            · rw [List.length_append]
              show ss.length + 1 ≤ i + 1
              omega
            · rw [List.length_append]
              show 1 ≤ ss.length + 1
              omega
          · refine ⟨s7, ss, hD7, hss, by omega, fun _ => ?_⟩
            rcases Nat.eq_zero_or_pos i with z | z
            · subst z
              exact absurd (decide_eq_true (by show V.int (n % (1 + ((0 : Nat) : Int))) = V.int 0; rw [show n % (1 + ((0 : Nat) : Int)) = 0 by omega])) h
            · exact hs0 z
        · obtain ⟨s7, ss, hD7, hss, hsl, hs0⟩ := hP
          have hs1 := hs0 (by omega)
          have k7 := k6.same s7
          refine ⟨.ref D2, rfl, .ref t, rfl, .ref D2, rfl, D2, _, rfl, .inl (SqL.of hD7), t, _, c + 2 + n + 2, rfl, by rw [List.length_map]; omega, by rw [List.length_map]; omega, k7, by omega, fun v H8 v0 v1 k8 u8 => ?_⟩
          rw [List.length_map] at v1
          obtain ⟨sz, hsz, hats⟩ := at_in v0 v1
          obtain ⟨z1, z2, z3⟩ := hss sz (List.mem_of_getElem? hsz)
          have hD8 : H8 D2 = some (.lst (ss.map V.int)) := u8 _ _ hD7 (k6.ne hD2)
          refine ⟨D2, _, v, .int sz, rfl, rfl, SqL.of hD8, hats, ?_⟩
          have hDt : D6 ≠ t := fun e => by
            rw [e] at hH6
            rw [hH6] at hoT
            cases hoT
          have hR8 : H8 D6 = some (.lst (ns6.map V.int)) := u8 _ _ (s7 _ _ hD6) hDt
          refine ⟨.ref D6, rfl, .int sz, rfl, sz, rfl, D6, _, rfl, SqL.of hR8, fun p3 hp3 => ?_⟩
          have hcut := cut_take ns6 sz (by omega)
          have hdv : n / sz * sz = n := Int.ediv_mul_cancel (Int.dvd_of_emod_eq_zero z3)
          have hq0 : 0 ≤ n / sz := Int.ediv_nonneg (by omega) (by omega)
          have hqn : n / sz ≤ n := Int.ediv_le_self _ (by omega)
          have htl : (ns6.take sz.toNat).length = sz.toNat := by rw [List.length_take]; omega
          have hlen2 : (n / sz).toNat * sz.toNat = n.toNat := by
            have e1 : (((n / sz).toNat * sz.toNat : Nat) : Int) = n := by
              rw [Int.natCast_mul, Int.toNat_of_nonneg hq0, Int.toNat_of_nonneg (by omega), hdv]
            omega
          refine ⟨.int n, rfl, .int sz, rfl, n, sz, rfl, rfl, wide_div (b := 200) (by omega) (by omega) (by decide) (by decide), p3, n / sz, _, rfl, rfl, upd_same, by omega, by omega, ?_, fun p4 hp4 => ?_⟩
          · rw [hcut, List.length_map, htl, Nat.mul_comm, hlen2]
            exact sz40' (by omega)
          · have hHp : H p4 = none := free_but (((u6.trans (But.of s7)).trans u8).trans (But.of (new_same hp3))) hoT hp4 (by obtain ⟨o, e⟩ := (k8.up hp3).some; rw [e]; exact fun z => nomatch z)
            refine ⟨p4, (List.replicate (n / sz).toNat (ns6.take sz.toNat)).flatten, _, _, _, rfl, ⟨?_, ?_, fun z hz => ?_⟩, ?_, hHp, by rw [upd_same, hcut, rep_map], (((u6.trans (But.of s7)).trans u8).trans (But.of (new_same hp3))).trans (But.of (new_same hp4)), ((k8.mono (by omega)).up hp3).up hp4⟩
            · rw [rep_len, htl, hlen2]
              omega
            · rw [rep_len, htl, hlen2]
              omega
            · exact hR6.all z (List.mem_of_mem_take (rep_mem hz))
            · rw [rep_len, htl, hlen2]
              exact ek
      · exact ⟨D6, ns6, y5, y6, y7, rfl, hR6, hn6, hH6, hD6, u6, k6.mono (by omega)⟩
      -- return rim
      obtain ⟨D7, ns7, y5, y6, y7, rfl, hR7, hn7, hH7, hD7, u7, k7⟩ := hM
      exact ⟨.ref D7, rfl, q D7 ns7 H7 hR7 hn7 u7 hH7 hD7 (k7.mono (by omega))⟩

/-! ### slitdiscs.checks, over rims -/
def spIsInt : Sp := fun vs H Q _ => ∃ n : Int, vs = [.int n] ∧ Q (.bl true) H
theorem ok_is_integer (T : Txt K mg) : FnOk P w K mg base CX0 1 T.a_is_integer T.d_is_integer ["value"] spIsInt := by
  refine T.F_is_integer.ok sc_is_integer (fun vs H Q E h => ?_) (fun cdv A outer s H vs Q E hr h => ?_)
  · obtain ⟨_, rfl, _⟩ := h
    rfl
  · obtain ⟨n, rfl, q⟩ := h
    refine ⟨_, (pss_one (ps_ret (pe_and (pe_callB (isiL (K := K) rfl) (by rfl) T.n_isinstance (by decide +kernel) (pa_cons (pv 0) (pa_cons (pe_bltn (v := .ty "int") (u := Value.type "int") rfl T.n_int (by decide +kernel) rfl) pa_nil))) (pe_one (pe_not (pe_callB (isiL (K := K) rfl) (by rfl) T.n_isinstance (by decide +kernel) (pa_cons (pv 0) (pa_cons (pe_bltn (v := .ty "bool") (u := Value.type "bool") rfl T.n_bool (by decide +kernel) rfl) pa_nil)))))))), ?_⟩
    refine ⟨.int n, rfl, .int n, .ty "int", _, _, true, rfl, .ty _, .base (.int n), kit_int_int, true, rfl, iteT ?_⟩
    exact ⟨.int n, rfl, .int n, .ty "bool", _, _, false, rfl, .ty _, .base (.int n), kit_int_bool, false, rfl, q⟩
def spHasSlots (K : PySem.W.Frag) : Sp := fun vs H Q _ => ∃ (a : Addr) (xs : List V), vs = [.ref a] ∧ SqL K H a xs ∧ 1 ≤ xs.length ∧ xs.length ≤ 40 ∧ Q (.bl true) H
theorem ok_has_slots (T : Txt K mg) : FnOk P w K mg base CX0 1 T.a_has_slots T.d_has_slots ["value"] (spHasSlots K) := by
  refine T.F_has_slots.ok sc_has_slots (fun vs H Q E h => ?_) (fun cdv A outer s H vs Q E hr h => ?_)
  · obtain ⟨_, _, rfl, _⟩ := h
    rfl
  · obtain ⟨a, xs, rfl, hS, h1, h40, q⟩ := h
    refine ⟨_, (pss_one (ps_ret (pe_and (pe_callB (isiL (K := K) rfl) (by rfl) T.n_isinstance (by decide +kernel) (pa_cons (pv 0) (pa_cons (pe_bltn (v := .ty "list") (u := Value.type "list") rfl T.n_list (by decide +kernel) rfl) pa_nil))) (pe_one (pe_chain op_le op_le pe_int (pe_callB (lenL (K := K) rfl) (by rfl) T.n_len (by decide +kernel) (pa_cons (pv 0) pa_nil)) (pe_glob (v := .int (40)) rfl T.g_MOST_SLOTS ⟨_, rfl⟩)))))), ?_⟩
    refine ⟨.ref a, rfl, .ref a, .ty "list", _, _, true, rfl, .ty _, tyx_list hS, kit_list_list, true, rfl, iteT ?_⟩
    refine ⟨.ref a, rfl, a, _, rfl, .inl hS, 1, _, rfl, rfl, _, rfl, ?_⟩
    rw [if_pos (decide_eq_true (by omega))]
    refine ⟨_, 40, rfl, rfl, ?_⟩
    show Q (.bl (decide ((xs.length : Int) ≤ 40))) H
    rw [decide_eq_true (show (xs.length : Int) ≤ 40 by omega)]
    exact q
def spWrongLight (K : PySem.W.Frag) : Sp := fun vs H Q _ => ∃ (a : Addr) (ns : List Int) (m : Int), vs = [.ref a, .int m] ∧ SqL K H a (ns.map V.int) ∧ (∀ n ∈ ns, 0 ≤ n ∧ n ≤ m) ∧ ∀ H', Same H H' → Q .non H'
theorem ok_wrong_light (T : Txt K mg) : FnOk P w K mg base CX0 2 T.a_wrong_light T.d_wrong_light ["items", "most"] (spWrongLight K) := by
  have G_is_integer := ok_is_integer (P := P) (w := w) (base := base) T
  refine T.F_wrong_light.ok sc_wrong_light (fun vs H Q E h => ?_) (fun cdv A outer s H vs Q E hr h => ?_)
  · obtain ⟨_, _, _, rfl, _⟩ := h
    rfl
  · obtain ⟨a, ns, m, rfl, hS, hR, q⟩ := h
    refine ⟨_, (pss_cons (ps_for PassesOwn.never rfl (enumL (K := K) rfl (by rfl) T.n_enumerate (pa_cons (pv 0) pa_nil)) (pg_tupL (K := K) (n := 2) rfl rfl (pgs_cons (pg_name (i := 2) sc_wrong_light.nd rfl (.inl rfl)) (pgs_cons (pg_name (i := 3) sc_wrong_light.nd rfl (.inl rfl)) pgs_nil))) (pss_one (ps_if (PW.pt (pw_or (pt_not (pt_val (pe_call G_is_integer hr (by rfl) T.g_is_integer T.F_is_integer.kp T.b_is_integer .nil pass0 (pa_cons (pv 3) pa_nil)))) (pw_or1 (pt_not (pt_chain op_le op_le pe_int (pv 3) (pv 1)))))) (pss_one (ps_ret (pv 2))) pss_nil)))
      (pss_one (ps_ret pe_non))), ?_⟩
    refine ⟨.ref a, rfl, a, _, rfl, hS, for_it (walk_enum (K := K) (xs := ns.map V.int)) (fun i σ H' => ∃ y1 y2 : Option V, σ = [some (.ref a), some (.int m), y1, y2] ∧ Same H H')
      ⟨none, none, rfl, Same.refl H⟩ (fun i σ H' _ ⟨_, _, _, s2⟩ => s2.seq hS) (fun i x σ H1 H2 hi hP hY => ?_) (fun σ H1 hP => ?_)⟩
    · obtain ⟨y1, y2, rfl, s1⟩ := hP
      obtain ⟨p, z1, z2, rfl, hp, rfl, e1, e2⟩ := hY
      obtain ⟨n, hn, rfl⟩ := int_at e2
      have hb := hR n (List.mem_of_getElem? hn)
      refine ⟨p, _, rfl, SqT.of upd_same, rfl, _, _, rfl, _, _, rfl, rfl, ?_⟩
      refine ⟨.int n, rfl, n, rfl, true, rfl, iteF ?_⟩
      refine ⟨.int n, rfl, 0, n, rfl, rfl, _, rfl, ?_⟩
      rw [if_pos (decide_eq_true hb.1)]
      refine ⟨.int m, rfl, n, m, rfl, rfl, _, rfl, iteNS hb.2 ?_⟩
      exact ⟨_, _, rfl, s1.trans (new_same hp)⟩
    · obtain ⟨y1, y2, rfl, s1⟩ := hP
      exact q H1 s1
def spWrongSlot (K : PySem.W.Frag) : Sp := fun vs H Q _ => ∃ (a : Addr) (ns : List Int), vs = [.ref a] ∧ SqL K H a (ns.map V.int) ∧ Rim ns ∧ ∀ H', Same H H' → Q .non H'
theorem ok_wrong_slot (T : Txt K mg) : FnOk P w K mg base CX0 3 T.a_wrong_slot T.d_wrong_slot ["items"] (spWrongSlot K) := by
  have G_wrong_light := ok_wrong_light (P := P) (w := w) (base := base) T
  refine T.F_wrong_slot.ok sc_wrong_slot (fun vs H Q E h => ?_) (fun cdv A outer s H vs Q E hr h => ?_)
  · obtain ⟨_, _, rfl, _⟩ := h
    rfl
  · obtain ⟨a, ns, rfl, hS, hR, q⟩ := h
    refine ⟨_, (pss_one (ps_ret (pe_call G_wrong_light hr (by rfl) T.g_wrong_light T.F_wrong_light.kp T.b_wrong_light .nil pass0 (pa_cons (pv 0) (pa_cons (pe_glob (v := .int (1000000000000000000000000000000)) rfl T.g_MOST_LIGHT ⟨_, rfl⟩) pa_nil))))), ?_⟩
    exact ⟨.ref a, rfl, a, ns, _, rfl, hS, hR.all, q⟩
def spCheckDisc (K : PySem.W.Frag) : Sp := spWrongSlot K
theorem ok_check_disc (T : Txt K mg) : FnOk P w K mg base CX0 4 T.a_check_disc T.d_check_disc ["disc"] (spCheckDisc K) := by
  have G_has_slots := ok_has_slots (P := P) (w := w) (base := base) T
  have G_wrong_slot := ok_wrong_slot (P := P) (w := w) (base := base) T
  refine T.F_check_disc.ok sc_check_disc (fun vs H Q E h => ?_) (fun cdv A outer s H vs Q E hr h => ?_)
  · obtain ⟨_, _, rfl, _⟩ := h
    rfl
  · obtain ⟨a, ns, rfl, hS, hR, q⟩ := h
    refine ⟨_, (pss_cons (ps_if (pt_not (pt_val (pe_call G_has_slots (hr.mono (by decide)) (by rfl) T.g_has_slots T.F_has_slots.kp T.b_has_slots .nil pass0 (pa_cons (pv 0) pa_nil)))) (pss_one ps_never) pss_nil)
      (pss_cons (ps_set (i := 1) sc_check_disc.nd rfl (.inl rfl) (pe_call G_wrong_slot hr (by rfl) T.g_wrong_slot T.F_wrong_slot.kp T.b_wrong_slot .nil pass0 (pa_cons (pv 0) pa_nil)))
      (pss_one (ps_if (pt_cmpR op_notN (pv 1) pe_non (nomark _)) (pss_one ps_never) pss_nil)))), ?_⟩
    refine ⟨.ref a, rfl, a, _, rfl, hS, by rw [List.length_map]; exact hR.pos, by rw [List.length_map]; exact hR.le, true, rfl, iteF ?_⟩
    refine ⟨.ref a, rfl, a, ns, rfl, hS, hR, fun H1 s1 => ?_⟩
    refine ⟨.non, rfl, rfl, _, rfl, iteNS rfl ?_⟩
    exact q H1 s1

def spCheckTurn : Sp := fun vs H Q _ => ∃ n : Int, vs = [.int n] ∧ Q .non H

theorem ok_check_number (T : Txt K mg) : FnOk P w K mg base CX0 2 T.a_check_number T.d_check_number ["number"] spCheckTurn := by
  have G_is_integer := ok_is_integer (P := P) (w := w) (base := base) T
  refine T.F_check_number.ok sc_check_number (fun vs H Q E h => ?_) (fun cdv A outer s H vs Q E hr h => ?_)
  · obtain ⟨_, rfl, _⟩ := h
    rfl
  · obtain ⟨n, rfl, q⟩ := h
    refine ⟨_, (pss_one (ps_if (pt_not (pt_val (pe_call G_is_integer hr (by rfl) T.g_is_integer T.F_is_integer.kp T.b_is_integer .nil pass0 (pa_cons (pv 0) pa_nil)))) (pss_one ps_never) pss_nil)), ?_⟩
    exact ⟨.int n, rfl, n, rfl, true, rfl, iteF q⟩

def spCheckCount : Sp := fun vs H Q _ => ∃ n : Int, vs = [.int n] ∧ 0 ≤ n ∧ Q .non H
theorem ok_check_count (T : Txt K mg) : FnOk P w K mg base CX0 3 T.a_check_count T.d_check_count ["number"] spCheckCount := by
  have G_check_number := ok_check_number (P := P) (w := w) (base := base) T
  refine T.F_check_count.ok sc_check_count (fun vs H Q E h => ?_) (fun cdv A outer s H vs Q E hr h => ?_)
  · obtain ⟨_, rfl, _⟩ := h
    rfl
  · obtain ⟨n, rfl, h0, q⟩ := h
    refine ⟨_, (pss_cons (ps_expr (pe_call G_check_number hr (by rfl) T.g_check_number T.F_check_number.kp T.b_check_number .nil pass0 (pa_cons (pv 0) pa_nil)))
      (pss_one (ps_if (pt_cmpR op_lt (pv 0) pe_int (nomark _)) (pss_one ps_never) pss_nil))), ?_⟩
    refine ⟨.int n, rfl, n, rfl, .int n, rfl, n, 0, rfl, rfl, _, rfl, ite2 (fun h => ?_) (fun h => q)⟩
    have := of_decide_eq_true h
    omega

/-! ### slitdiscs.rings -/
def rg (ns ms : List Int) : Int → Int := ringAt ns ms
def spCheckRings (K : PySem.W.Frag) : Sp := fun vs H Q _ => ∃ (a b : Addr) (ns ms : List Int), vs = [.ref a, .ref b] ∧ SqL K H a (ns.map V.int) ∧ SqL K H b (ms.map V.int) ∧ Rim ns ∧ Rim ms ∧ ∀ H', Same H H' → Q .non H'
theorem ok_check_rings (T : Txt K mg) : FnOk P w K mg base CX0 5 T.a_check_rings T.d_check_rings ["disc", "other"] (spCheckRings K) := by
  have G_check_disc := ok_check_disc (P := P) (w := w) (base := base) T
  refine T.F_check_rings.ok sc_check_rings (fun vs H Q E h => ?_) (fun cdv A outer s H vs Q E hr h => ?_)
  · obtain ⟨_, _, _, _, rfl, _⟩ := h
    rfl
  · obtain ⟨a, b, ns, ms, rfl, hS, hS2, hR, hR2, q⟩ := h
    refine ⟨_, (pss_cons (ps_expr (pe_call G_check_disc hr (by rfl) T.g_check_disc T.F_check_disc.kp T.b_check_disc .nil pass0 (pa_cons (pv 0) pa_nil)))
      (pss_one (ps_expr (pe_call G_check_disc hr (by rfl) T.g_check_disc T.F_check_disc.kp T.b_check_disc .nil pass0 (pa_cons (pv 1) pa_nil))))), ?_⟩
    refine ⟨.ref a, rfl, a, ns, rfl, hS, hR, fun H1 s1 => ?_⟩
    exact ⟨.ref b, rfl, b, ms, rfl, s1.seq hS2, hR2, fun H2 s2 => q H2 (s1.trans s2)⟩
/-- an item at a tick -/
theorem at_tick {ns : List Int} (h : 1 ≤ ns.length) (t : Int) : atI (ns.map V.int) (t % (ns.length : Int)) = some (.int (ns.getD ((t % (ns.length : Int)).toNat) 0)) := by
  have hm := mod_in (i := t) (show 0 < ns.length by omega)
  obtain ⟨n, hn, hat⟩ := at_in hm.1 hm.2
  rw [hat, getD_at hn]
def spRingLight (K : PySem.W.Frag) : Sp := fun vs H Q _ => ∃ (a b : Addr) (ns ms : List Int) (t : Int), vs = [.ref a, .ref b, .int t] ∧ SqL K H a (ns.map V.int) ∧ SqL K H b (ms.map V.int) ∧ Rim ns ∧ Rim ms ∧ 0 ≤ t ∧ ∀ H', Same H H' → Q (.int (ringAt ns ms t)) H'
theorem ok_ring_light (T : Txt K mg) : FnOk P w K mg base CX0 6 T.a_ring_light T.d_ring_light ["disc", "other", "tick"] (spRingLight K) := by
  have G_check_rings := ok_check_rings (P := P) (w := w) (base := base) T
  have G_check_count := ok_check_count (P := P) (w := w) (base := base) T
  refine T.F_ring_light.ok sc_ring_light (fun vs H Q E h => ?_) (fun cdv A outer s H vs Q E hr h => ?_)
  · obtain ⟨_, _, _, _, _, rfl, _⟩ := h
    rfl
  · obtain ⟨a, b, ns, ms, t, rfl, hS, hS2, hR, hR2, h0, q⟩ := h
    refine ⟨_, (pss_cons (ps_expr (pe_call G_check_rings hr (by rfl) T.g_check_rings T.F_check_rings.kp T.b_check_rings .nil pass0 (pa_cons (pv 0) (pa_cons (pv 1) pa_nil))))
      (pss_cons (ps_expr (pe_call G_check_count (hr.mono (by decide)) (by rfl) T.g_check_count T.F_check_count.kp T.b_check_count .nil pass0 (pa_cons (pv 2) pa_nil)))
      (pss_one (ps_ret (pe_op op_mulW (pe_ix (ixL (K := K) rfl) (pv 0) (pe_op op_mod (pv 2) (pe_callB (lenL (K := K) rfl) (by rfl) T.n_len (by decide +kernel) (pa_cons (pv 0) pa_nil))) (fun _ _ => rfl)) (pe_ix (ixL (K := K) rfl) (pv 1) (pe_op op_mod (pv 2) (pe_callB (lenL (K := K) rfl) (by rfl) T.n_len (by decide +kernel) (pa_cons (pv 1) pa_nil))) (fun _ _ => rfl))))))), ?_⟩
    have p1 := hR.pos
    have p2 := hR2.pos
    refine ⟨.ref a, rfl, .ref b, rfl, a, b, ns, ms, rfl, hS, hS2, hR, hR2, fun H1 s1 => ?_⟩
    refine ⟨.int t, rfl, t, rfl, h0, ?_⟩
    refine ⟨.ref a, rfl, .int t, rfl, .ref a, rfl, a, _, rfl, .inl (s1.seq hS), t, _, rfl, rfl, (by show (0 : Int) < _; rw [List.length_map]; omega), ?_⟩
    rw [List.length_map]
    refine ⟨a, _, _, _, rfl, rfl, s1.seq hS, at_tick hR.pos t, ?_⟩
    refine ⟨.ref b, rfl, .int t, rfl, .ref b, rfl, b, _, rfl, .inl (s1.seq hS2), t, _, rfl, rfl, (by show (0 : Int) < _; rw [List.length_map]; omega), ?_⟩
    rw [List.length_map]
    exact ⟨b, _, _, _, rfl, rfl, s1.seq hS2, at_tick hR2.pos t, _, _, rfl, rfl, wide_mul (hR.getD _).2 (hR2.getD _).2 (by decide) (by decide) (by decide), q H1 s1⟩
def spLightsFrom (K : PySem.W.Frag) : Sp := fun vs H Q _ => ∃ (a b : Addr) (ns ms : List Int) (f : Int), vs = [.ref a, .ref b, .int f] ∧ SqL K H a (ns.map V.int) ∧ SqL K H b (ms.map V.int) ∧ Rim ns ∧ Rim ms ∧
  ∀ (l : Addr) (H' : Hp), Same H H' → H l = none → H' l = some (.lst ((seqG (ringAt ns ms) f (ringW ns ms)).map V.int)) → Q (.ref l) H'
theorem ringW_1600 {ns ms : List Int} (h1 : Rim ns) (h2 : Rim ms) : ringW ns ms ≤ 1600 := by
  have := ringW_le (ns := ns) (ms := ms)
  have a := h1.le
  have b := h2.le
  have := Nat.mul_le_mul a b
  omega
theorem ok_lights_from (T : Txt K mg) : FnOk P w K mg base CX0 1 T.a_lights_from T.d_lights_from ["disc", "other", "first"] (spLightsFrom K) := by
  refine T.F_lights_from.ok sc_lights_from (fun vs H Q E h => ?_) (fun cdv A outer s H vs Q E hr h => ?_)
  · obtain ⟨_, _, _, _, _, rfl, _⟩ := h
    rfl
  · obtain ⟨a, b, ns, ms, f, rfl, hS, hS2, hR, hR2, q⟩ := h
    refine ⟨_, (pss_cons (ps_set (i := 3) sc_lights_from.nd rfl (.inl rfl) (pe_callBfun cr_lcm (by rfl) T.i_lcm (pa_cons (pe_callB (lenL (K := K) rfl) (by rfl) T.n_len (by decide +kernel) (pa_cons (pv 0) pa_nil)) (pa_cons (pe_callB (lenL (K := K) rfl) (by rfl) T.n_len (by decide +kernel) (pa_cons (pv 1) pa_nil)) pa_nil))))
      (pss_one (ps_ret (pe_lc (own := [("tick", 4)]) (g := gName 4) (tt := tYes) (by rfl) sc_lights_from.nd (pi_range1 (by rfl) T.n_range (pa_cons (pv 3) pa_nil)) (blkOk_by (own := [("tick", 4)]) (N := ["disc", "other", "first", "ticks", "tick"]) (sc := defScope s_lights_from) (by decide +kernel))
        (fun _ _ _ _ _ => (pg_name (i := 4) sc_lights_from.nd rfl (Or.inl rfl))) (fun _ _ _ _ _ => pts_nil) (fun _ _ _ _ _ => (pe_op op_mulW (pe_ix (ixL (K := K) rfl) (pv 0) (pe_op op_mod (pe_op op_add (pv 2) (pv 4)) (pe_callB (lenL (K := K) rfl) (by rfl) T.n_len (by decide +kernel) (pa_cons (pv 0) pa_nil))) (fun _ _ => rfl)) (pe_ix (ixL (K := K) rfl) (pv 1) (pe_op op_mod (pe_op op_add (pv 2) (pv 4)) (pe_callB (lenL (K := K) rfl) (by rfl) T.n_len (by decide +kernel) (pa_cons (pv 1) pa_nil))) (fun _ _ => rfl)))))))), ?_⟩
    have p1 := hR.pos
    have p2 := hR2.pos
    have l1 := hR.le
    have l2 := hR2.le
    have w1 := ringW_1600 hR hR2
    refine ⟨.ref a, rfl, a, _, rfl, .inl hS, .ref b, rfl, b, _, rfl, .inl hS2, ?_⟩
    rw [List.length_map, List.length_map]
    refine ⟨ns.length, ms.length, rfl, by omega, by omega, ?_⟩
    show _
    refine ⟨.int (ringW ns ms), rfl, ringW ns ms, rfl, by omega, by omega, fun D hD => lc_range (lo := 0) (n := ((ringW ns ms : Nat) : Int).toNat)
      (fun i H' => Same H H' ∧ H' D = some (.lst (((seqG (ringAt ns ms) f (ringW ns ms)).take i).map V.int))) ⟨new_same hD, upd_same⟩ (fun i H1 hi hP => ⟨rfl, ?_⟩) (fun H1 hP => ?_)⟩
    · obtain ⟨s1, hD1⟩ := hP
      rw [Int.toNat_natCast] at hi
      refine ⟨.ref a, rfl, .int f, rfl, .int (0 + i), rfl, f, 0 + i, rfl, rfl, .ref a, rfl, a, _, rfl, .inl (s1.seq hS), _, _, rfl, rfl, (by show (0 : Int) < _; rw [List.length_map]; omega), ?_⟩
      rw [List.length_map, Int.zero_add]
      refine ⟨a, _, _, _, rfl, rfl, s1.seq hS, at_tick hR.pos _, ?_⟩
      refine ⟨.ref b, rfl, .int f, rfl, .int i, rfl, f, i, rfl, rfl, .ref b, rfl, b, _, rfl, .inl (s1.seq hS2), _, _, rfl, rfl, (by show (0 : Int) < _; rw [List.length_map]; omega), ?_⟩
      rw [List.length_map]
      refine ⟨b, _, _, _, rfl, rfl, s1.seq hS2, at_tick hR2.pos _, _, _, rfl, rfl, wide_mul (hR.getD _).2 (hR2.getD _).2 (by decide) (by decide) (by decide), ?_⟩
      refine ⟨_, hD1, ?_, same_over s1 hD, ?_⟩
      · rw [List.length_map, List.length_take]
        exact sz40 (by omega)
      · rw [upd_same, take_next]
        rw [seqG_at hi]
        rfl
    · obtain ⟨s1, hD1⟩ := hP
      rw [Int.toNat_natCast, take_all (by rw [seqG_len]; exact Nat.le_refl _)] at hD1
      exact q D H1 s1 hD hD1
def spRingSum (K : PySem.W.Frag) : Sp := fun vs H Q _ => ∃ (a b : Addr) (ns ms : List Int) (f N : Int), vs = [.ref a, .ref b, .int f, .int N] ∧ SqL K H a (ns.map V.int) ∧ SqL K H b (ms.map V.int) ∧ Rim ns ∧ Rim ms ∧ 0 ≤ f ∧ 0 ≤ N ∧ N.natAbs < 2 ^ 200 ∧
  ∀ H', Same H H' → Q (.int (farG (ringAt ns ms) (ringW ns ms) f N)) H'
theorem ok_ring_sum (T : Txt K mg) : FnOk P w K mg base CX0 6 T.a_ring_sum T.d_ring_sum ["disc", "other", "first", "many"] (spRingSum K) := by
  have G_check_rings := ok_check_rings (P := P) (w := w) (base := base) T
  have G_check_count := ok_check_count (P := P) (w := w) (base := base) T
  have G_lights_from := ok_lights_from (P := P) (w := w) (base := base) T
  refine T.F_ring_sum.ok sc_ring_sum (fun vs H Q E h => ?_) (fun cdv A outer s H vs Q E hr h => ?_)
  · obtain ⟨_, _, _, _, _, _, rfl, _⟩ := h
    rfl
  · obtain ⟨a, b, ns, ms, f, N, rfl, hS, hS2, hR, hR2, hf, hN0, hN, q⟩ := h
    refine ⟨_, (pss_cons (ps_expr (pe_call G_check_rings hr (by rfl) T.g_check_rings T.F_check_rings.kp T.b_check_rings .nil pass0 (pa_cons (pv 0) (pa_cons (pv 1) pa_nil))))
      (pss_cons (ps_expr (pe_call G_check_count (hr.mono (by decide)) (by rfl) T.g_check_count T.F_check_count.kp T.b_check_count .nil pass0 (pa_cons (pv 2) pa_nil)))
      (pss_cons (ps_expr (pe_call G_check_count (hr.mono (by decide)) (by rfl) T.g_check_count T.F_check_count.kp T.b_check_count .nil pass0 (pa_cons (pv 3) pa_nil)))
      (pss_cons (ps_set (i := 4) sc_ring_sum.nd rfl (.inl rfl) (pe_call G_lights_from (hr.mono (by decide)) (by rfl) T.g_lights_from T.F_lights_from.kp T.b_lights_from .nil pass0 (pa_cons (pv 0) (pa_cons (pv 1) (pa_cons (pv 2) pa_nil)))))
      (pss_cons (ps_asg (pe_callB call_divmod (by rfl) T.n_divmod (by decide +kernel) (pa_cons (pv 3) (pa_cons (pe_callB (lenL (K := K) rfl) (by rfl) T.n_len (by decide +kernel) (pa_cons (pv 4) pa_nil)) pa_nil))) (pg_tupL (K := K) (n := 2) rfl rfl (pgs_cons (pg_name (i := 5) sc_ring_sum.nd rfl (.inl rfl)) (pgs_cons (pg_name (i := 6) sc_ring_sum.nd rfl (.inl rfl)) pgs_nil))))
      (pss_one (ps_ret (pe_op op_add (pe_op op_mulW (pv 5) (pe_callB (sumL (K := K) rfl rfl) (by rfl) T.n_sum (by decide +kernel) (pa_cons (pv 4) pa_nil))) (pe_callB (sumL (K := K) rfl rfl) (by rfl) T.n_sum (by decide +kernel) (pa_cons (pe_slice (slL (K := K) rfl) (pv 4) po_none (po_some (pv 6))) pa_nil)))))))))), ?_⟩
    have w1 := ringW_1600 hR hR2
    have w0 := ringW_pos hR.pos hR2.pos
    have hm := mod_in (i := N) w0
    have hq : 0 ≤ N / (ringW ns ms : Int) := Int.ediv_nonneg hN0 (by omega)
    have hqn : N / (ringW ns ms : Int) ≤ N := Int.ediv_le_self _ hN0
    refine ⟨.ref a, rfl, .ref b, rfl, a, b, ns, ms, rfl, hS, hS2, hR, hR2, fun H1 s1 => ?_⟩
    refine ⟨.int f, rfl, f, rfl, hf, .int N, rfl, N, rfl, hN0, ?_⟩
    refine ⟨.ref a, rfl, .ref b, rfl, .int f, rfl, a, b, ns, ms, f, rfl, s1.seq hS, s1.seq hS2, hR, hR2, fun l H2 s2 h2 e2 => ?_⟩
    refine ⟨.int N, rfl, .ref l, rfl, l, _, rfl, .inl (SqL.of e2), ?_⟩
    rw [List.length_map, seqG_len]
    refine ⟨N, ringW ns ms, rfl, ⟨by omega, by omega⟩, fun p hp => ?_⟩
    refine ⟨p, _, rfl, SqT.of upd_same, rfl, _, _, rfl, _, _, rfl, rfl, ?_⟩
    have s3 := new_same (o := .tup [.int (N / (ringW ns ms : Int)), .int (N % (ringW ns ms : Int))]) hp
    refine ⟨.int (N / (ringW ns ms : Int)), rfl, .ref l, rfl, l, _, rfl, SqL.of (s3 _ _ e2), ?_⟩
    refine ⟨_, _, rfl, rfl, wide_mul (a := 200) (b := 212) (by omega) (sum_ltk (j := 12) (ringL_ab hR hR2 f _) (by rw [seqG_len]; omega)) (by decide) (by decide) (by decide), ?_⟩
    refine ⟨.ref l, rfl, .int (N % (ringW ns ms : Int)), rfl, _, rfl, l, _, rfl, SqL.of (s3 _ _ e2), fun p2 hp2 => ?_⟩
    have s4 := new_same (o := .lst (cutV ((seqG (ringAt ns ms) f (ringW ns ms)).map V.int) none (some (N % (ringW ns ms : Int))))) hp2
    have ec : cutV ((seqG (ringAt ns ms) f (ringW ns ms)).map V.int) none (some (N % (ringW ns ms : Int))) = (seqG (ringAt ns ms) f (N % (ringW ns ms : Int)).toNat).map V.int := by
      rw [cut_take _ _ hm.1, seqG_take (by omega)]
    refine ⟨p2, seqG (ringAt ns ms) f (N % (ringW ns ms : Int)).toNat, rfl, SqL.of (by rw [upd_same, ec]), ?_⟩
    exact ⟨_, _, rfl, rfl, q _ (((s1.trans s2).trans s3).trans s4)⟩
def spFirstTick (K : PySem.W.Frag) : Sp := fun vs H Q _ => ∃ (a b : Addr) (ns ms : List Int) (f m : Int), vs = [.ref a, .ref b, .int f, .int m] ∧ SqL K H a (ns.map V.int) ∧ SqL K H b (ms.map V.int) ∧ Rim ns ∧ Rim ms ∧ 0 ≤ f ∧
  ∀ H', Same H H' → Q (firstV f (firstG (ringAt ns ms) m f (ringW ns ms))) H'
theorem ok_first_tick (T : Txt K mg) : FnOk P w K mg base CX0 6 T.a_first_tick T.d_first_tick ["disc", "other", "first", "light"] (spFirstTick K) := by
  have G_check_rings := ok_check_rings (P := P) (w := w) (base := base) T
  have G_check_count := ok_check_count (P := P) (w := w) (base := base) T
  have G_check_number := ok_check_number (P := P) (w := w) (base := base) T
  have G_lights_from := ok_lights_from (P := P) (w := w) (base := base) T
  refine T.F_first_tick.ok sc_first_tick (fun vs H Q E h => ?_) (fun cdv A outer s H vs Q E hr h => ?_)
  · obtain ⟨_, _, _, _, _, _, rfl, _⟩ := h
    rfl
  · obtain ⟨a, b, ns, ms, f, m, rfl, hS, hS2, hR, hR2, hf, q⟩ := h
    refine ⟨_, (pss_cons (ps_expr (pe_call G_check_rings hr (by rfl) T.g_check_rings T.F_check_rings.kp T.b_check_rings .nil pass0 (pa_cons (pv 0) (pa_cons (pv 1) pa_nil))))
      (pss_cons (ps_expr (pe_call G_check_count (hr.mono (by decide)) (by rfl) T.g_check_count T.F_check_count.kp T.b_check_count .nil pass0 (pa_cons (pv 2) pa_nil)))
      (pss_cons (ps_expr (pe_call G_check_number (hr.mono (by decide)) (by rfl) T.g_check_number T.F_check_number.kp T.b_check_number .nil pass0 (pa_cons (pv 3) pa_nil)))
      (pss_cons (ps_for PassesOwn.never rfl (enumL (K := K) rfl (by rfl) T.n_enumerate (pa_cons (pe_call G_lights_from (hr.mono (by decide)) (by rfl) T.g_lights_from T.F_lights_from.kp T.b_lights_from .nil pass0 (pa_cons (pv 0) (pa_cons (pv 1) (pa_cons (pv 2) pa_nil)))) pa_nil)) (pg_tupL (K := K) (n := 2) rfl rfl (pgs_cons (pg_name (i := 4) sc_first_tick.nd rfl (.inl rfl)) (pgs_cons (pg_name (i := 5) sc_first_tick.nd rfl (.inl rfl)) pgs_nil))) (pss_one (ps_if (pt_cmpR op_ge (pv 5) (pv 3) (nomark _)) (pss_one (ps_ret (pe_op op_add (pv 2) (pv 4)))) pss_nil)))
      (pss_one (ps_ret pe_non)))))), ?_⟩
    refine ⟨.ref a, rfl, .ref b, rfl, a, b, ns, ms, rfl, hS, hS2, hR, hR2, fun H1 s1 => ?_⟩
    refine ⟨.int f, rfl, f, rfl, hf, .int m, rfl, m, rfl, ?_⟩
    refine ⟨.ref a, rfl, .ref b, rfl, .int f, rfl, a, b, ns, ms, f, rfl, s1.seq hS, s1.seq hS2, hR, hR2, fun l H2 s2 h2 e2 => ?_⟩
    refine ⟨l, _, rfl, SqL.of e2, for_it (walk_enum (K := K) (xs := (seqG (ringAt ns ms) f (ringW ns ms)).map V.int))
      (fun i σ H' => ∃ y1 y2 : Option V, σ = [some (.ref a), some (.ref b), some (.int f), some (.int m), y1, y2] ∧ Same H2 H' ∧ ∀ j : Nat, j < i → ¬ m ≤ ringAt ns ms (f + (j : Int)))
      ⟨none, none, rfl, Same.refl H2, fun j hj => absurd hj (Nat.not_lt_zero j)⟩ (fun i σ H' _ ⟨_, _, _, s3, _⟩ => s3.seq (SqL.of e2)) (fun i x σ H3 H4 hi hP hY => ?_) (fun σ H3 hP => ?_)⟩
    · obtain ⟨y1, y2, rfl, s3, hno⟩ := hP
      obtain ⟨p, z1, z2, rfl, hp, rfl, e3, e4⟩ := hY
      have e3 : V.int (i : Int) = z1 := Option.some.inj e3
      subst e3
      obtain ⟨x, hx, rfl⟩ := int_at e4
      rw [List.length_map, seqG_len] at hi
      rw [seqG_at hi] at hx
      have hx := Option.some.inj hx
      have s4 := s3.trans (new_same (o := .tup [.int i, .int x]) hp)
      refine ⟨p, _, rfl, SqT.of upd_same, rfl, _, _, rfl, _, _, rfl, rfl, ?_⟩
      refine ⟨.int x, rfl, .int m, rfl, x, m, rfl, rfl, _, rfl, ite2 (fun h => ?_) (fun h => ?_)⟩
      · have hge := of_decide_eq_true h
        refine ⟨.int f, rfl, .int i, rfl, f, i, rfl, rfl, ?_⟩
        have z := q _ ((s1.trans s2).trans s4)
        rw [firstG_some.mpr ⟨hi, by rw [hx]; exact hge, hno⟩] at z
        exact z
      · refine ⟨_, _, rfl, s4, fun j hj => ?_⟩
        rcases Nat.lt_or_ge j i with z | z
        · exact hno j z
        · have : j = i := by omega
          subst this
          rw [hx]
          exact fun e => h (decide_eq_true e)
    · obtain ⟨y1, y2, rfl, s3, hno⟩ := hP
      rw [List.length_map, seqG_len] at hno
      have z := q _ ((s1.trans s2).trans s3)
      rw [firstG_none.mpr hno] at z
      exact z

/-! ### _law_at, _law_round -/
def spLAt (K : PySem.W.Frag) : Sp := fun vs H Q _ => ∃ (a b : Addr) (ns ms : List Int) (t : Int), vs = [.ref a, .ref b, .int t] ∧ SqL K H a (ns.map V.int) ∧ SqL K H b (ms.map V.int) ∧ Rim ns ∧ Rim ms ∧ Q (.int (ringAt ns ms t)) H
theorem ok_law_at (T : Txt K mg) : FnOk P w K mg base CX0 1 T.a_law_at T.d_law_at ["rim", "mate", "tick_here"] (spLAt K) := by
  refine T.F_law_at.ok sc_law_at (fun vs H Q E h => ?_) (fun cdv A outer s H vs Q E hr h => ?_)
  · obtain ⟨_, _, _, _, _, rfl, _⟩ := h
    rfl
  · obtain ⟨a, b, ns, ms, t, rfl, hS, hS2, hR, hR2, q⟩ := h
    refine ⟨_, (pss_one (ps_ret (pe_op op_mulW (pe_ix (ixL (K := K) rfl) (pv 0) (pe_op op_mod (pe_callTy call_int1 (by rfl) T.n_int (by decide +kernel) (pa_cons (pv 2) pa_nil)) (pe_callB (lenL (K := K) rfl) (by rfl) T.n_len (by decide +kernel) (pa_cons (pv 0) pa_nil))) (fun _ _ => rfl)) (pe_ix (ixL (K := K) rfl) (pv 1) (pe_op op_mod (pe_callTy call_int1 (by rfl) T.n_int (by decide +kernel) (pa_cons (pv 2) pa_nil)) (pe_callB (lenL (K := K) rfl) (by rfl) T.n_len (by decide +kernel) (pa_cons (pv 1) pa_nil))) (fun _ _ => rfl))))), ?_⟩
    have p1 := hR.pos
    have p2 := hR2.pos
    refine ⟨.ref a, rfl, .int t, rfl, .inl ⟨t, rfl, .ref a, rfl, a, _, rfl, .inl hS, t, _, rfl, rfl, (by show (0 : Int) < _; rw [List.length_map]; omega), ?_⟩⟩
    rw [List.length_map]
    refine ⟨a, _, _, _, rfl, rfl, hS, at_tick hR.pos t, ?_⟩
    refine ⟨.ref b, rfl, .int t, rfl, .inl ⟨t, rfl, .ref b, rfl, b, _, rfl, .inl hS2, t, _, rfl, rfl, (by show (0 : Int) < _; rw [List.length_map]; omega), ?_⟩⟩
    rw [List.length_map]
    exact ⟨b, _, _, _, rfl, rfl, hS2, at_tick hR2.pos t, _, _, rfl, rfl, wide_mul (hR.getD _).2 (hR2.getD _).2 (by decide) (by decide) (by decide), q⟩
def spLRound (K : PySem.W.Frag) : Sp := fun vs H Q _ => ∃ (a b : Addr) (ns ms : List Int), vs = [.ref a, .ref b] ∧ SqL K H a (ns.map V.int) ∧ SqL K H b (ms.map V.int) ∧ Rim ns ∧ Rim ms ∧ Q (.int (ringW ns ms)) H
theorem ok_law_round (T : Txt K mg) : FnOk P w K mg base CX0 1 T.a_law_round T.d_law_round ["rim", "mate"] (spLRound K) := by
  refine T.F_law_round.ok sc_law_round (fun vs H Q E h => ?_) (fun cdv A outer s H vs Q E hr h => ?_)
  · obtain ⟨_, _, _, _, rfl, _⟩ := h
    rfl
  · obtain ⟨a, b, ns, ms, rfl, hS, hS2, hR, hR2, q⟩ := h
    refine ⟨_, (pss_cons (ps_set (i := 2) sc_law_round.nd rfl (.inl rfl) pe_int)
      (pss_cons (ps_while PassesOwn.never (PW.pt (pw_or (pt_cmpR op_ne (pe_op op_mod (pe_callTy call_int1 (by rfl) T.n_int (by decide +kernel) (pa_cons (pv 2) pa_nil)) (pe_callB (lenL (K := K) rfl) (by rfl) T.n_len (by decide +kernel) (pa_cons (pv 0) pa_nil))) pe_int (nomark _)) (pw_or1 (pt_cmpR op_ne (pe_op op_mod (pe_callTy call_int1 (by rfl) T.n_int (by decide +kernel) (pa_cons (pv 2) pa_nil)) (pe_callB (lenL (K := K) rfl) (by rfl) T.n_len (by decide +kernel) (pa_cons (pv 1) pa_nil))) pe_int (nomark _))))) (pss_one (ps_set (i := 2) sc_law_round.nd rfl (.inl rfl) (pe_op op_add (pv 2) pe_int))))
      (pss_one (ps_ret (pv 2))))), ?_⟩
    have p1 := hR.pos
    have p2 := hR2.pos
    have w0 := ringW_pos p1 p2
    have d1 : ns.length ∣ ringW ns ms := Nat.dvd_lcm_left _ _
    have d2 : ms.length ∣ ringW ns ms := Nat.dvd_lcm_right _ _
    refine ⟨fun m σ H' => ∃ k : Nat, σ = [some (.ref a), some (.ref b), some (.int k)] ∧ 1 ≤ k ∧ k ≤ ringW ns ms ∧ m = ringW ns ms - k ∧ H' = H, ⟨_, 1, rfl, Nat.le_refl _, w0, rfl, rfl⟩, fun m σ H' hW => ?_⟩
    obtain ⟨k, rfl, k1, kW, rfl, rfl⟩ := hW
    have go : ¬ (ns.length ∣ k ∧ ms.length ∣ k) → ∃ N : L2.St → Hp → Prop, (∀ σ' H'', N σ' H'' → ∃ m', m' < ringW ns ms - k ∧ ∃ k' : Nat, σ' = [some (.ref a), some (.ref b), some (.int k')] ∧ 1 ≤ k' ∧ k' ≤ ringW ns ms ∧ m' = ringW ns ms - k' ∧ H'' = H') ∧ N [some (.ref a), some (.ref b), some (.int ((k : Int) + 1))] H' := fun hno => by
      have hk : k ≠ ringW ns ms := fun e => hno (by rw [e]; exact ⟨d1, d2⟩)
      exact ⟨fun σ' H'' => σ' = [some (.ref a), some (.ref b), some (.int ((k + 1 : Nat) : Int))] ∧ H'' = H', fun σ' H'' ⟨e1, e2⟩ => ⟨ringW ns ms - (k + 1), by omega, k + 1, e1, by omega, by omega, rfl, e2⟩, rfl, rfl⟩
    have dv : ∀ n : Nat, ((k : Int) % (n : Int) = 0) ↔ n ∣ k := fun n => by
      constructor
      · intro e
        exact Int.natCast_dvd_natCast.mp (Int.dvd_of_emod_eq_zero e)
      · intro d
        exact Int.emod_eq_zero_of_dvd (Int.natCast_dvd_natCast.mpr d)
    refine ⟨.int k, rfl, .inl ⟨k, rfl, .ref a, rfl, a, _, rfl, .inl hS, k, _, rfl, rfl, (by show (0 : Int) < _; rw [List.length_map]; omega), rfl, _, rfl, ?_⟩⟩
    rw [List.length_map]
    by_cases e1 : V.int ((k : Int) % (ns.length : Int)) = V.int 0
    · refine iteNS e1 ?_
      refine ⟨.int k, rfl, .inl ⟨k, rfl, .ref b, rfl, b, _, rfl, .inl hS2, k, _, rfl, rfl, (by show (0 : Int) < _; rw [List.length_map]; omega), rfl, _, rfl, ?_⟩⟩
      rw [List.length_map]
      by_cases e2 : V.int ((k : Int) % (ms.length : Int)) = V.int 0
      · refine iteNS e2 ?_
        have hk : ringW ns ms ∣ k := Nat.lcm_dvd ((dv _).mp (V.int.inj e1)) ((dv _).mp (V.int.inj e2))
        have := Nat.le_of_dvd (by omega) hk
        have ek : k = ringW ns ms := by omega
        subst ek
        exact ⟨_, rfl, q⟩
      · rw [decide_eq_false e2]
        refine iteT ?_
        obtain ⟨N, n1, n2⟩ := go (fun z => e2 (by rw [(dv _).mpr z.2]))
        exact ⟨N, n1, .int k, rfl, k, 1, rfl, rfl, n2⟩
    · rw [decide_eq_false e1]
      refine iteT ?_
      obtain ⟨N, n1, n2⟩ := go (fun z => e1 (by rw [(dv _).mpr z.1]))
      exact ⟨N, n1, .int k, rfl, k, 1, rfl, rfl, n2⟩

/-! ### dark_stretch, _law_dark -/
def spDark (K : PySem.W.Frag) : Sp := fun vs H Q _ => ∃ (a b : Addr) (ns ms : List Int), vs = [.ref a, .ref b] ∧ SqL K H a (ns.map V.int) ∧ SqL K H b (ms.map V.int) ∧ Rim ns ∧ Rim ms ∧ ∀ H', Same H H' → Q (stretchV (seqG (ringAt ns ms) 0 (ringW ns ms))) H'
theorem ok_dark_stretch (T : Txt K mg) : FnOk P w K mg base CX0 6 T.a_dark_stretch T.d_dark_stretch ["disc", "other"] (spDark K) := by
  have G_check_rings := ok_check_rings (P := P) (w := w) (base := base) T
  have G_lights_from := ok_lights_from (P := P) (w := w) (base := base) T
  refine T.F_dark_stretch.ok sc_dark_stretch (fun vs H Q E h => ?_) (fun cdv A outer s H vs Q E hr h => ?_)
  · obtain ⟨_, _, _, _, rfl, _⟩ := h
    rfl
  · obtain ⟨a, b, ns, ms, rfl, hS, hS2, hR, hR2, q⟩ := h
    refine ⟨_, (pss_cons (ps_expr (pe_call G_check_rings hr (by rfl) T.g_check_rings T.F_check_rings.kp T.b_check_rings .nil pass0 (pa_cons (pv 0) (pa_cons (pv 1) pa_nil))))
      (pss_cons (ps_set (i := 2) sc_dark_stretch.nd rfl (.inl rfl) (pe_call G_lights_from (hr.mono (by decide)) (by rfl) T.g_lights_from T.F_lights_from.kp T.b_lights_from .nil pass0 (pa_cons (pv 0) (pa_cons (pv 1) (pa_cons pe_int pa_nil)))))
      (pss_cons (ps_if (pt_not (pt_val (pe_callB (cr_anyI (K := K) rfl rfl) (by rfl) T.n_any (by decide +kernel) (pa_cons (pv 2) pa_nil)))) (pss_one (ps_ret pe_non)) pss_nil)
      (pss_cons (ps_asg2 pe_int (pg_name (i := 3) sc_dark_stretch.nd rfl (.inl rfl)) (pg_name (i := 4) sc_dark_stretch.nd rfl (.inl rfl)))
      (pss_cons (ps_for PassesOwn.never rfl (pi_listL (K := K) rfl (pe_op op_cat (pv 2) (pv 2))) (pg_name (i := 5) sc_dark_stretch.nd rfl (.inl rfl)) (pss_cons (ps_set (i := 4) sc_dark_stretch.nd rfl (.inl rfl) (pe_ifExp (pt_truth (pv 5) (fun _ => rfl)) pe_int (pe_op op_add (pv 4) pe_int)))
      (pss_one (ps_set (i := 3) sc_dark_stretch.nd rfl (.inl rfl) (pe_callB (call_max2 rfl) (by rfl) T.n_max (by decide +kernel) (pa_cons (pv 3) (pa_cons (pv 4) pa_nil)))))))
      (pss_one (ps_ret (pv 3)))))))), ?_⟩
    have w1 := ringW_1600 hR hR2
    refine ⟨.ref a, rfl, .ref b, rfl, a, b, ns, ms, rfl, hS, hS2, hR, hR2, fun H1 s1 => ?_⟩
    refine ⟨.ref a, rfl, .ref b, rfl, a, b, ns, ms, 0, rfl, s1.seq hS, s1.seq hS2, hR, hR2, fun l H2 s2 h2 e2 => ?_⟩
    have s12 := s1.trans s2
    have hLl := seqG_len (ringAt ns ms) 0 (ringW ns ms)
    generalize seqG (ringAt ns ms) 0 (ringW ns ms) = L at e2 q hLl ⊢
    refine ⟨.ref l, rfl, l, _, rfl, SqL.of e2, _, rfl, ?_⟩
    by_cases hz : (L.all fun x => decide (x = 0)) = true
    · rw [hz]
      have z := q H2 s12
      unfold stretchV at z
      rw [if_pos hz] at z
      exact iteT z
    · rw [eq_false_of_ne_true hz]
      refine iteF ?_
      refine ⟨.ref l, rfl, .ref l, rfl, l, l, _, _, rfl, rfl, e2, e2, by rw [List.length_map]; exact sz40' (by omega), fun p hp => ?_⟩
      rw [← List.map_append]
      have s3 := new_same (o := .lst ((L ++ L).map V.int)) hp
      have g3 : (upd H2 p (.lst ((L ++ L).map V.int))) p = some (.lst ((L ++ L).map V.int)) := upd_same
      generalize upd H2 p (.lst ((L ++ L).map V.int)) = H3 at s3 g3 ⊢
      refine ⟨p, rfl, ⟨_, SqL.of g3⟩, for_list (K := K) (a := p) (xs := (L ++ L).map V.int) (fun i σ H' => ∃ y5 : Option V, σ = [some (.ref a), some (.ref b), some (.ref l), some (.int (((L ++ L).take i).foldl runS (0, 0)).1), some (.int (((L ++ L).take i).foldl runS (0, 0)).2), y5] ∧ Same H3 H')
        ⟨none, rfl, Same.refl H3⟩ (fun i σ H' _ ⟨_, _, s⟩ => SqL.of (s _ _ g3)) (fun i x σ H4 hx hP => ?_) (fun σ H4 hP => ?_)⟩
      · obtain ⟨y5, rfl, s4⟩ := hP
        obtain ⟨n, hn, rfl⟩ := int_at hx
        have et : (L ++ L).take (i + 1) = (L ++ L).take i ++ [n] := by
          rw [List.take_add_one, hn]
          rfl
        have e5 : ((L ++ L).take (i + 1)).foldl runS (0, 0) = runS (((L ++ L).take i).foldl runS (0, 0)) n := by rw [et, List.foldl_append]; rfl
        generalize ((L ++ L).take i).foldl runS (0, 0) = S at e5 ⊢
        refine ⟨.int n, rfl, _, rfl, ?_⟩
        by_cases hn0 : n = 0
        · subst hn0
          refine iteF ?_
          refine ⟨.int S.2, rfl, S.2, 1, rfl, rfl, ?_⟩
          refine ⟨.int S.1, rfl, .int (S.2 + 1), rfl, S.1, S.2 + 1, rfl, ?_⟩
          refine ⟨some (.int 0), ?_, s4⟩
          rw [e5]
          rfl
        · have hb : (n != 0) = true := by
            rw [bne_iff_ne]
            exact hn0
          rw [hb]
          refine iteT ?_
          refine ⟨.int S.1, rfl, .int 0, rfl, S.1, 0, rfl, ?_⟩
          refine ⟨some (.int n), ?_, s4⟩
          rw [e5]
          unfold runS
          rw [if_neg hn0]
          rfl
      · obtain ⟨y5, rfl, s4⟩ := hP
        rw [List.length_map, List.take_of_length_le (Nat.le_refl _)]
        have z := q H4 ((s12.trans s3).trans s4)
        unfold stretchV at z
        rw [if_neg hz] at z
        exact ⟨_, rfl, z⟩
def spLDark (K : PySem.W.Frag) : Sp := fun vs H Q _ => ∃ (a : Addr) (L : List Int), vs = [.ref a] ∧ H a = some (.lst (L.map V.int)) ∧ 1 ≤ L.length ∧ L.length ≤ 2000 ∧ (∀ x ∈ L, 0 ≤ x) ∧ ∀ H', Same H H' → Q (stretchV L) H'
theorem ok_law_dark (T : Txt K mg) : FnOk P w K mg base CX0 1 T.a_law_dark T.d_law_dark ["lights_here"] (spLDark K) := by
  refine T.F_law_dark.ok sc_law_dark (fun vs H Q E h => ?_) (fun cdv A outer s H vs Q E hr h => ?_)
  · obtain ⟨_, _, rfl, _⟩ := h
    rfl
  · obtain ⟨l, L, rfl, e2, h1, h2, h0, q⟩ := h
    refine ⟨_, (pss_cons (ps_asg (pe_tup (pa_cons pe_int (pa_cons pe_int pa_nil))) (pg_tupL (K := K) (n := 2) rfl rfl (pgs_cons (pg_name (i := 1) sc_law_dark.nd rfl (.inl rfl)) (pgs_cons (pg_name (i := 2) sc_law_dark.nd rfl (.inl rfl)) pgs_nil))))
      (pss_cons (ps_for PassesOwn.never rfl (pi_listL (K := K) rfl (pe_op op_rep (pv 0) pe_int)) (pg_name (i := 3) sc_law_dark.nd rfl (.inl rfl)) (pss_cons (ps_set (i := 2) sc_law_dark.nd rfl (.inl rfl) (pe_ifExp (pt_cmpR op_eq (pv 3) pe_int (nomark _)) (pe_op op_add (pv 2) pe_int) pe_int))
      (pss_one (ps_set (i := 1) sc_law_dark.nd rfl (.inl rfl) (pe_callB (call_max2 rfl) (by rfl) T.n_max (by decide +kernel) (pa_cons (pv 1) (pa_cons (pv 2) pa_nil)))))))
      (pss_one (ps_ret (pe_ifExp (pt_cmpR op_eq (pe_callB (maxL (K := K) rfl rfl) (by rfl) T.n_max (by decide +kernel) (pa_cons (pv 0) pa_nil)) pe_int (nomark _)) pe_non (pv 1)))))), ?_⟩
    refine ⟨(by show 2 ≤ sizeLine; decide), fun p0 hp0 => ⟨p0, _, rfl, SqT.of upd_same, rfl, _, _, rfl, _, _, rfl, rfl, ?_⟩⟩
    have s0 := new_same (o := .tup [.int 0, .int 0]) hp0
    have e20 := e2
    have e2 := s0 _ _ e2
    have q : ∀ H', Same (upd H p0 (.tup [.int 0, .int 0])) H' → Q (stretchV L) H' := fun H' s => q H' (s0.trans s)
    generalize upd H p0 (.tup [.int 0, .int 0]) = H at e2 q ⊢
    refine ⟨.ref l, rfl, l, 3, _, rfl, rfl, e2, by decide, by decide, (by show (L.map V.int).length * 3 ≤ sizeLine; rw [List.length_map]; exact sz40' (by omega)), fun p hp => ?_⟩
    have e3 : (List.replicate (3 : Int).toNat (L.map V.int)).flatten = (L ++ L ++ L).map V.int := by
      show L.map V.int ++ (L.map V.int ++ (L.map V.int ++ [])) = _
      rw [List.append_nil, List.map_append, List.map_append, List.append_assoc]
    rw [e3]
    have s3 := new_same (o := .lst ((L ++ L ++ L).map V.int)) hp
    have g3 : (upd H p (.lst ((L ++ L ++ L).map V.int))) p = some (.lst ((L ++ L ++ L).map V.int)) := upd_same
    generalize upd H p (.lst ((L ++ L ++ L).map V.int)) = H3 at s3 g3 ⊢
    refine ⟨p, rfl, ⟨_, SqL.of g3⟩, for_list (K := K) (a := p) (xs := (L ++ L ++ L).map V.int) (fun i σ H' => ∃ y5 : Option V, σ = [some (.ref l), some (.int (((L ++ L ++ L).take i).foldl runS (0, 0)).1), some (.int (((L ++ L ++ L).take i).foldl runS (0, 0)).2), y5] ∧ Same H3 H')
      ⟨none, rfl, Same.refl H3⟩ (fun i σ H' _ ⟨_, _, s⟩ => SqL.of (s _ _ g3)) (fun i x σ H4 hx hP => ?_) (fun σ H4 hP => ?_)⟩
    · obtain ⟨y5, rfl, s4⟩ := hP
      obtain ⟨n, hn, rfl⟩ := int_at hx
      have et : (L ++ L ++ L).take (i + 1) = (L ++ L ++ L).take i ++ [n] := by
        rw [List.take_add_one, hn]
        rfl
      have e5 : ((L ++ L ++ L).take (i + 1)).foldl runS (0, 0) = runS (((L ++ L ++ L).take i).foldl runS (0, 0)) n := by rw [et, List.foldl_append]; rfl
      generalize ((L ++ L ++ L).take i).foldl runS (0, 0) = S at e5 ⊢
      refine ⟨.int n, rfl, rfl, _, rfl, ?_⟩
      by_cases hn0 : n = 0
      · subst hn0
        rw [decide_eq_true rfl]
        refine iteT ?_
        refine ⟨.int S.2, rfl, S.2, 1, rfl, rfl, ?_⟩
        refine ⟨.int S.1, rfl, .int (S.2 + 1), rfl, S.1, S.2 + 1, rfl, ?_⟩
        refine ⟨some (.int 0), ?_, s4⟩
        rw [e5]
        rfl
      · rw [decide_eq_false (fun e => hn0 (V.int.inj e))]
        refine iteF ?_
        refine ⟨.int S.1, rfl, .int 0, rfl, S.1, 0, rfl, ?_⟩
        refine ⟨some (.int n), ?_, s4⟩
        rw [e5]
        unfold runS
        rw [if_neg hn0]
        rfl
    · obtain ⟨y5, rfl, s4⟩ := hP
      rw [List.length_map, List.take_of_length_le (Nat.le_refl _)]
      have s34 := s3.trans s4
      refine ⟨.ref l, rfl, l, _, rfl, SqL.of (s34 _ _ e2), by omega, fun m hm hmx => ?_⟩
      have z := q H4 s34
      unfold stretchV at z
      have hiff := max_all h0 hm hmx
      refine ⟨rfl, _, rfl, ?_⟩
      by_cases hz : m = 0
      · rw [if_pos (hiff.mp hz)] at z
        subst hz
        rw [decide_eq_true rfl]
        exact iteT z
      · rw [if_neg (fun e => hz (hiff.mpr e))] at z
        rw [decide_eq_false (fun e => hz (V.int.inj e))]
        refine iteF ⟨_, rfl, ?_⟩
        have hex : ∃ x ∈ L, x ≠ 0 := ⟨m, hm, hz⟩
        rw [runs_three hex] at z
        exact z

theorem upd_tank {H : Hp} {t o : Addr} {c : Int} {x : HO} (k : Tank H t c) (n : o ≠ t) : Tank (upd H o x) t c := by
  obtain ⟨a1, a2, a3, e, z⟩ := k
  exact ⟨a1, a2, a3, by rw [upd_ne n.symm]; exact e, z⟩
theorem at_first {x : V} {xs : List V} : atI (x :: xs) 0 = some x := atI_nat (j := 0) rfl
theorem at_second {x y : V} {xs : List V} : atI (x :: y :: xs) 1 = some y := atI_nat (j := 1) rfl
theorem s3_free {H : Hp} {l p : Addr} {o : HO} (hl : H l = none) (hp : (upd H l o) p = none) : H p = none := by
  by_cases e : p = l
  · subst e
    exact hl
  · rw [upd_ne e] at hp
    exact hp

/-! ### _law_right -/
def spRight39 : Sp := fun vs H Q _ => ∃ (T a b : Addr) (ns ms : List Int) (c : Int), vs = [.ref T, .ref a, .ref b] ∧ Tank H T c ∧ 0 ≤ c ∧ c < 2 ^ 38 ∧ H a = some (.lst (ns.map V.int)) ∧ H b = some (.lst (ms.map V.int)) ∧ a ≠ T ∧ b ≠ T ∧ Rim ns ∧ Rim ms ∧
  ∀ H' : Hp, But T H H' → Tank H' T (c + 20) → Q (.bl true) H'
theorem start39 (x y z : V) : L2.start [Str.ofString "tank", Str.ofString "rim", Str.ofString "mate", Str.ofString "kept", Str.ofString "whole", Str.ofString "lights_here", Str.ofString "tick_here", Str.ofString "begin", Str.ofString "count", Str.ofString "long", Str.ofString "told", Str.ofString "some", Str.ofString "one", Str.ofString "much", Str.ofString "due", Str.ofString "spot"] [x, y, z] = [some x, some y, some z, none, none, none, none, none, none, none, none, none, none, none, none, none] := rfl
theorem ok_law_right (T : Txt K mg) : FnG P w K mg base CX0 7 T.a_law_right T.d_law_right ["tank", "rim", "mate"] spRight39 := by
  have G_law_tap := ok_law_tap (P := P) (w := w) (base := base) T
  have G_law_at := ok_law_at (P := P) (w := w) (base := base) T
  have G_law_round := ok_law_round (P := P) (w := w) (base := base) T
  have G_law_dark := ok_law_dark (P := P) (w := w) (base := base) T
  have G_ring_light := ok_ring_light (P := P) (w := w) (base := base) T
  have G_ring_sum := ok_ring_sum (P := P) (w := w) (base := base) T
  have G_first_tick := ok_first_tick (P := P) (w := w) (base := base) T
  have G_dark_stretch := ok_dark_stretch (P := P) (w := w) (base := base) T
  refine okG T.F_law_right sc_law_right (fun vs H Q E h => ?_) (fun cdv A outer s H vs Q E hg hr h => ?_)
  · obtain ⟨_, _, _, _, _, _, rfl, _⟩ := h
    rfl
  · obtain ⟨t, a, b, ns, ms, c, rfl, hT, hc0, hc, ea, eb, na, nb, hR, hR2, q⟩ := h
    refine ⟨_, (pss_cons (ps_par (i := 3) (j := 4) (by rfl) sc_law_right.nd rfl rfl (by decide) rfl rfl (pa_cons (pe_callB (reprL (K := K) rfl hg hr) (by rfl) T.n_repr (by decide +kernel) (pa_cons (pe_lst (pa_cons (pv 1) (pa_cons (pv 2) pa_nil))) pa_nil)) (pa_cons (pe_call G_law_round (hr.mono (by decide)) (by rfl) T.g_law_round T.F_law_round.kp T.b_law_round .nil pass0 (pa_cons (pv 1) (pa_cons (pv 2) pa_nil))) pa_nil)) (by rfl))
      (pss_cons (ps_setLc (i := 5) (own := [("tick_here", 6)]) (g := gName 6) (tt := tYes) (by rfl) sc_law_right.nd rfl rfl (sw_true rfl rfl rfl (by decide +kernel)) (pi_range1 (by rfl) T.n_range (pa_cons (pv 4) pa_nil)) (blkOk_by (own := [("tick_here", 6)]) (N := ["tank", "rim", "mate", "kept", "whole", "lights_here", "tick_here", "begin", "count", "long", "told", "some", "one", "much", "due", "spot"]) (sc := defScope s_law_right) (by decide +kernel))
        (fun _ _ _ _ _ => (pg_name (i := 6) sc_law_right.nd rfl (Or.inl rfl))) (fun _ _ _ _ _ => pts_nil) (fun _ _ _ _ _ => (pe_call G_law_at (hr.mono (by decide)) (by rfl) T.g_law_at T.F_law_at.kp T.b_law_at .nil pass0 (pa_cons (pv 1) (pa_cons (pv 2) (pa_cons (pv 6) pa_nil))))))
      (pss_cons (ps_par (i := 7) (j := 8) (by rfl) sc_law_right.nd rfl rfl (by decide) rfl rfl (pa_cons (pe_call G_law_tap (hr.mono (by decide)) (by rfl) T.g_law_tap T.F_law_tap.kp T.b_law_tap .nil pass0 (pa_cons (pv 0) (pa_cons (pe_op op_mul pe_int (pv 4)) pa_nil))) (pa_cons (pe_call G_law_tap (hr.mono (by decide)) (by rfl) T.g_law_tap T.F_law_tap.kp T.b_law_tap .nil pass0 (pa_cons (pv 0) (pa_cons (pe_op op_mul pe_int (pv 4)) pa_nil))) pa_nil)) (by rfl))
      (pss_cons (ps_set (i := 9) sc_law_right.nd rfl (.inr rfl) (pe_op op_rep (pv 5) pe_int))
      (pss_cons (ps_set (i := 10) sc_law_right.nd rfl (.inl rfl) (pe_lst (pa_cons (pe_callW G_ring_light hr rfl T.g_ring_light T.F_ring_light.kp (kb_ring_light_tick_other_disc T) pass0 (pk_cons (pv 7) (pk_cons (pv 2) (pk_cons (pv 1) pk_nil)))) (pa_cons (pe_callW G_ring_sum hr rfl T.g_ring_sum T.F_ring_sum.kp (kb_ring_sum_many_first_other_disc T) pass0 (pk_cons (pv 8) (pk_cons (pv 7) (pk_cons (pv 2) (pk_cons (pv 1) pk_nil))))) pa_nil))))
      (pss_cons (ps_if (pt_cmpR op_ne (pe_callB (reprL (K := K) rfl hg hr) (by rfl) T.n_repr (by decide +kernel) (pa_cons (pv 10) pa_nil)) (pe_callB (reprL (K := K) rfl hg hr) (by rfl) T.n_repr (by decide +kernel) (pa_cons (pe_lst (pa_cons (pe_ix (ixL (K := K) rfl) (pv 9) (pv 7) (fun _ _ => rfl)) (pa_cons (pe_callB (sumL (K := K) rfl rfl) (by rfl) T.n_sum (by decide +kernel) (pa_cons (pe_slice (slL (K := K) rfl) (pv 9) (po_some (pv 7)) (po_some (pe_op op_add (pv 7) (pv 8)))) pa_nil)) pa_nil))) pa_nil)) (nomark _)) (pss_one (ps_ret pe_bl)) pss_nil)
      (pss_cons (ps_set (i := 10) sc_law_right.nd rfl (.inl rfl) (pe_lst (pa_cons (pe_call G_ring_sum hr (by rfl) T.g_ring_sum T.F_ring_sum.kp T.b_ring_sum .nil pass0 (pa_cons (pv 1) (pa_cons (pv 2) (pa_cons (pv 7) (pa_cons pe_int pa_nil))))) (pa_cons (pe_callW G_dark_stretch hr rfl T.g_dark_stretch T.F_dark_stretch.kp (kb_dark_stretch_other_disc T) pass0 (pk_cons (pv 2) (pk_cons (pv 1) pk_nil))) pa_nil))))
      (pss_cons (ps_if (pt_cmpR op_ne (pe_callB (reprL (K := K) rfl hg hr) (by rfl) T.n_repr (by decide +kernel) (pa_cons (pv 10) pa_nil)) (pe_callB (reprL (K := K) rfl hg hr) (by rfl) T.n_repr (by decide +kernel) (pa_cons (pe_lst (pa_cons pe_int (pa_cons (pe_call G_law_dark (hr.mono (by decide)) (by rfl) T.g_law_dark T.F_law_dark.kp T.b_law_dark .nil pass0 (pa_cons (pv 5) pa_nil)) pa_nil))) pa_nil)) (nomark _)) (pss_one (ps_ret pe_bl)) pss_nil)
      (pss_cons (ps_setLc (i := 11) (own := [("one", 12)]) (g := gName 12) (by rfl) sc_law_right.nd rfl rfl (sw_true rfl rfl rfl (by decide +kernel)) (pi_listL (K := K) rfl (pe_lst (pa_cons (pe_op op_add (pe_callB (maxL (K := K) rfl rfl) (by rfl) T.n_max (by decide +kernel) (pa_cons (pv 5) pa_nil)) pe_int) (pa_cons pe_int (pa_cons (pe_op op_sub pe_int (pe_op op_pow pe_int pe_int)) pa_nil))))) (blkOk_by (own := [("one", 12)]) (N := ["tank", "rim", "mate", "kept", "whole", "lights_here", "tick_here", "begin", "count", "long", "told", "some", "one", "much", "due", "spot"]) (sc := defScope s_law_right) (by decide +kernel))
        (fun _ _ _ _ _ => (pg_name (i := 12) sc_law_right.nd rfl (Or.inl rfl))) (fun _ _ _ _ _ => (pts_one (pt_cmpR op_lt (pv 12) (pe_op op_pow pe_int pe_int) (nomark _)))) (fun _ _ _ _ _ => (pv 12)))
      (pss_cons (ps_for PassesOwn.never rfl (pi_listL (K := K) rfl (pe_op op_cat (pv 11) (pe_lst (pa_cons (pe_callB (maxL (K := K) rfl rfl) (by rfl) T.n_max (by decide +kernel) (pa_cons (pv 5) pa_nil)) (pa_cons (pe_ix (ixL (K := K) rfl) (pv 5) (pe_call G_law_tap (hr.mono (by decide)) (by rfl) T.g_law_tap T.F_law_tap.kp T.b_law_tap .nil pass0 (pa_cons (pv 0) (pa_cons (pv 4) pa_nil))) (fun _ _ => rfl)) pa_nil))))) (pg_name (i := 13) sc_law_right.nd rfl (.inr rfl)) (pss_cons (ps_setLc (i := 14) (own := [("spot", 15)]) (g := gName 15) (by rfl) sc_law_right.nd rfl rfl (sw_true rfl rfl rfl (by decide +kernel)) (pi_range2 (by rfl) T.n_range (pa_cons (pv 7) (pa_cons (pe_op op_add (pv 7) (pe_op op_mul pe_int (pv 4))) pa_nil))) (blkOk_by (own := [("spot", 15)]) (N := ["tank", "rim", "mate", "kept", "whole", "lights_here", "tick_here", "begin", "count", "long", "told", "some", "one", "much", "due", "spot"]) (sc := defScope s_law_right) (by decide +kernel))
        (fun _ _ _ _ _ => (pg_name (i := 15) sc_law_right.nd rfl (Or.inl rfl))) (fun _ _ _ _ _ => (pts_one (pt_cmpR op_ge (pe_ix (ixL (K := K) rfl) (pv 9) (pv 15) (fun _ _ => rfl)) (pv 13) (nomark _)))) (fun _ _ _ _ _ => (pv 15)))
      (pss_cons (ps_set (i := 14) sc_law_right.nd rfl (.inl rfl) (pe_ifExp (pt_cmpR (neD (K := K) rfl hr) (pv 14) (pe_lst pa_nil) (nomark _)) (pe_ix (ixL (K := K) rfl) (pv 14) pe_int (fun _ _ => rfl)) pe_non))
      (pss_cons (ps_set (i := 10) sc_law_right.nd rfl (.inl rfl) (pe_lst (pa_cons (pe_callW G_first_tick hr rfl T.g_first_tick T.F_first_tick.kp (kb_first_tick_light_first_other_disc T) pass0 (pk_cons (pv 13) (pk_cons (pv 7) (pk_cons (pv 2) (pk_cons (pv 1) pk_nil))))) (pa_cons (pe_call G_first_tick hr (by rfl) T.g_first_tick T.F_first_tick.kp T.b_first_tick .nil pass0 (pa_cons (pv 1) (pa_cons (pv 2) (pa_cons (pv 7) (pa_cons (pv 13) pa_nil))))) pa_nil))))
      (pss_one (ps_if (pt_cmpR op_ne (pe_callB (reprL (K := K) rfl hg hr) (by rfl) T.n_repr (by decide +kernel) (pa_cons (pv 10) pa_nil)) (pe_callB (reprL (K := K) rfl hg hr) (by rfl) T.n_repr (by decide +kernel) (pa_cons (pe_lst (pa_cons (pv 14) (pa_cons (pv 14) pa_nil))) pa_nil)) (nomark _)) (pss_one (ps_ret pe_bl)) pss_nil))))))
      (pss_cons (ps_set (i := 10) sc_law_right.nd rfl (.inl rfl) (pe_lst (pa_cons (pe_call G_ring_light hr (by rfl) T.g_ring_light T.F_ring_light.kp T.b_ring_light .nil pass0 (pa_cons (pv 1) (pa_cons (pv 2) (pa_cons (pv 7) pa_nil)))) (pa_cons (pe_call G_ring_sum hr (by rfl) T.g_ring_sum T.F_ring_sum.kp T.b_ring_sum .nil pass0 (pa_cons (pv 1) (pa_cons (pv 2) (pa_cons (pv 7) (pa_cons (pv 8) pa_nil))))) pa_nil))))
      (pss_one (ps_ret (pe_and (pe_cmpR (eqD (K := K) rfl hr) (pv 10) (pe_lst (pa_cons (pe_ix (ixL (K := K) rfl) (pv 9) (pv 7) (fun _ _ => rfl)) (pa_cons (pe_callB (sumL (K := K) rfl rfl) (by rfl) T.n_sum (by decide +kernel) (pa_cons (pe_slice (slL (K := K) rfl) (pv 9) (po_some (pv 7)) (po_some (pe_op op_add (pv 7) (pv 8)))) pa_nil)) pa_nil))) (nomark _)) (pe_one (pe_cmpR op_eq (pe_callB (reprL (K := K) rfl hg hr) (by rfl) T.n_repr (by decide +kernel) (pa_cons (pe_lst (pa_cons (pv 1) (pa_cons (pv 2) pa_nil))) pa_nil)) (pv 3) (nomark _))))))))))))))))), ?_⟩
    rw [start39]
    have e39 : (10 : Int) ^ (39 : Int).toNat = 1000000000000000000000000000000000000000 := by decide +kernel
    have l1 := hR.le
    have l2 := hR2.le
    have w1 := ringW_1600 hR hR2
    have w0 := ringW_pos hR.pos hR2.pos
    have hA := ring_again hR.pos hR2.pos
    have kK : RP (dL [ns, ms]) := rp_lists (k := 100) (by decide) (all2 hR.ab hR2.ab)
    have fK : (dL [ns, ms]).shown.length ≤ sizeLine := fits_lists (k := 100) (by decide) (all2 hR.ab hR2.ab) (all2 (by omega) (by omega)) (by show 2 ≤ 7; decide)
    have dpK : ∀ {H' : Hp} {p : Addr}, H' p = some (.lst [.ref a, .ref b]) → SqL K H' a (ns.map V.int) → SqL K H' b (ms.map V.int) → Dp K H' (.ref p) (dL [ns, ms]) :=
      fun e1 e2 e3 => .lst (SqL.of e1) (.cons (dp_ints e2) (.cons (dp_ints e3) .nil))
    have dp2 : ∀ {H' : Hp} {p : Addr} {x y : V} {d e : PyData}, H' p = some (.lst [x, y]) → Dp K H' x d → Dp K H' y e → Dp K H' (.ref p) (.list [d, e]) :=
      fun e1 e2 e3 => .lst (SqL.of e1) (.cons e2 (.cons e3 .nil))
    -- kept, whole
    refine ⟨.ref a, rfl, .ref b, rfl, (by show 2 ≤ sizeLine; decide), fun p hp => ?_⟩
    have s1 := new_same (o := .lst [.ref a, .ref b]) hp
    refine ⟨p, _, rfl, dpK upd_same (SqL.of (s1 _ _ ea)) (SqL.of (s1 _ _ eb)), kK.sh, kK.nd, kK.dp, fK, ?_⟩
    refine ⟨.ref a, rfl, .ref b, rfl, a, b, ns, ms, rfl, SqL.of (s1 _ _ ea), SqL.of (s1 _ _ eb), hR, hR2, ?_⟩
    refine ⟨_, _, rfl, ?_⟩
    have ea1 := s1 _ _ ea
    have eb1 := s1 _ _ eb
    have k1 := hT.same s1
    have u1 := But.of (T := t) s1
    generalize upd H p (.lst [.ref a, .ref b]) = H1 at ea1 eb1 k1 u1 ⊢
    clear s1 hp
    simp only [List.set_cons_zero, List.set_cons_succ]
    -- lights_here
    refine ⟨.int (ringW ns ms), rfl, ringW ns ms, rfl, by omega, by omega, fun D hD => ?_⟩
    refine lc_range (lo := 0) (n := ((ringW ns ms : Nat) : Int).toNat)
      (fun i H' => Same H1 H' ∧ H' D = some (.lst (((seqG (ringAt ns ms) 0 (ringW ns ms)).take i).map V.int))) ⟨new_same hD, upd_same⟩ (fun i H2 hi hP => ⟨rfl, ?_⟩) (fun H2 hP => ?_)
    · obtain ⟨s2, hD2⟩ := hP
      rw [Int.toNat_natCast] at hi
      refine ⟨.ref a, rfl, .ref b, rfl, .int (0 + i), rfl, a, b, ns, ms, 0 + i, rfl, SqL.of (s2 _ _ ea1), SqL.of (s2 _ _ eb1), hR, hR2, ?_⟩
      refine ⟨_, hD2, ?_, same_over s2 hD, ?_⟩
      · rw [List.length_map, List.length_take]
        exact sz40 (by omega)
      · rw [upd_same, take_next]
        rw [seqG_at hi]
    obtain ⟨s2, eD2⟩ := hP
    rw [Int.toNat_natCast, take_all (by rw [seqG_len]; exact Nat.le_refl _)] at eD2
    have nD : D ≠ t := k1.ne hD
    have ea2 := s2 _ _ ea1
    have eb2 := s2 _ _ eb1
    have k2 := k1.same s2
    have u2 := u1.trans (But.of (T := t) s2)
    clear s2 hD ea1 eb1 k1 u1
    simp only [List.set_cons_zero, List.set_cons_succ]
    -- begin, count
    refine ⟨.ref t, rfl, .int (ringW ns ms), rfl, 3, ringW ns ms, rfl, rfl, .inl ⟨by decide, by decide⟩, t, 3 * ringW ns ms, c, rfl, by omega, by omega, k2, by omega, fun f H3 f0 f1 k3 u3 => ?_⟩
    refine ⟨.ref t, rfl, .int (ringW ns ms), rfl, 3, ringW ns ms, rfl, rfl, .inl ⟨by decide, by decide⟩, t, 3 * ringW ns ms, c + 1, rfl, by omega, by omega, k3, by omega, fun N H4 N0 N1 k4 u4 => ?_⟩
    refine ⟨_, _, rfl, ?_⟩
    have u34 := u3.trans u4
    have ea4 := u34 _ _ ea2 na
    have eb4 := u34 _ _ eb2 nb
    have eD4 := u34 _ _ eD2 nD
    have uA := u2.trans u34
    clear u2 u3 u4 u34 ea2 eb2 eD2 k2 k3
    simp only [List.set_cons_zero, List.set_cons_succ]
    -- long
    refine ⟨.ref D, rfl, D, 8, _, rfl, rfl, eD4, by decide, by decide, (by show (List.map V.int _).length * 8 ≤ sizeLine; rw [List.length_map, seqG_len]; exact sz40' (by omega)), fun G hG => ?_⟩
    have e8 : (List.replicate (8 : Int).toNat ((seqG (ringAt ns ms) 0 (ringW ns ms)).map V.int)).flatten = (seqG (ringAt ns ms) 0 (8 * ringW ns ms)).map V.int := by
      rw [rep_map, seq_rounds hA]
      rfl
    rw [e8]
    have s5 := new_same (o := .lst ((seqG (ringAt ns ms) 0 (8 * ringW ns ms)).map V.int)) hG
    have ea5 := s5 _ _ ea4
    have eb5 := s5 _ _ eb4
    have eD5 := s5 _ _ eD4
    have k5 := k4.same s5
    have u5 := uA.trans (But.of (T := t) s5)
    have nG : G ≠ t := k4.ne hG
    have eG5 : (upd H4 G (.lst ((seqG (ringAt ns ms) 0 (8 * ringW ns ms)).map V.int))) G = some (.lst ((seqG (ringAt ns ms) 0 (8 * ringW ns ms)).map V.int)) := upd_same
    generalize upd H4 G (.lst ((seqG (ringAt ns ms) 0 (8 * ringW ns ms)).map V.int)) = H5 at ea5 eb5 eD5 k5 u5 eG5 ⊢
    clear s5 hG e8 ea4 eb4 eD4 k4 uA
    simp only [List.set_cons_zero, List.set_cons_succ]
    -- told
    have rl := ringAt_lt hR hR2 f
    have fN := ring_far_lt hR hR2 f N0 (by omega)
    have sd := sdat_two (sdat_int rl.2 (by decide)) (sdat_int fN (by decide))
    have sumN : (seqG (ringAt ns ms) f N.toNat).sum = farG (ringAt ns ms) (ringW ns ms) f N := (hA.far f N0).symm
    have cutN : cutV ((seqG (ringAt ns ms) 0 (8 * ringW ns ms)).map V.int) (some f) (some (f + N)) = (seqG (ringAt ns ms) f N.toNat).map V.int := by
      have e := cut_seq (g := ringAt ns ms) (lo := f.toNat) (r := N.toNat) (n := 8 * ringW ns ms) (by omega)
      rw [Int.toNat_of_nonneg f0, Int.toNat_of_nonneg N0] at e
      exact e
    have atf : ∀ x : Int, 0 ≤ x → x < 8 * ringW ns ms → atI ((seqG (ringAt ns ms) 0 (8 * ringW ns ms)).map V.int) x = some (.int (ringAt ns ms x)) := fun x h0 h1 => by
      obtain ⟨n, hn, hat⟩ := at_in (ns := seqG (ringAt ns ms) 0 (8 * ringW ns ms)) h0 (by rw [seqG_len]; omega)
      rw [seqG_at (by omega), Int.toNat_of_nonneg h0, Int.zero_add] at hn
      rw [hat, ← Option.some.inj hn]
    refine ⟨.int f, rfl, .ref b, rfl, .ref a, rfl, a, b, ns, ms, f, rfl, SqL.of ea5, SqL.of eb5, hR, hR2, f0, fun H6 s6 => ?_⟩
    refine ⟨.int N, rfl, .int f, rfl, .ref b, rfl, .ref a, rfl, a, b, ns, ms, f, N, rfl, SqL.of (s6 _ _ ea5), SqL.of (s6 _ _ eb5), hR, hR2, f0, N0, by omega, fun H7 s7 => ?_⟩
    refine ⟨(by show 2 ≤ sizeLine; decide), fun p8 hp8 => ?_⟩
    have s8 := (s6.trans s7).trans (new_same (o := .lst [.int (ringAt ns ms f), .int (farG (ringAt ns ms) (ringW ns ms) f N)]) hp8)
    have g8 : (upd H7 p8 (.lst [.int (ringAt ns ms f), .int (farG (ringAt ns ms) (ringW ns ms) f N)])) p8 = some (.lst [.int (ringAt ns ms f), .int (farG (ringAt ns ms) (ringW ns ms) f N)]) := upd_same
    generalize upd H7 p8 (.lst [.int (ringAt ns ms f), .int (farG (ringAt ns ms) (ringW ns ms) f N)]) = H8 at s8 g8 ⊢
    clear s6 s7 hp8
    have ea8 := s8 _ _ ea5
    have eb8 := s8 _ _ eb5
    have eD8 := s8 _ _ eD5
    have eG8 := s8 _ _ eG5
    have k8 := k5.same s8
    have u8 := u5.trans (But.of (T := t) s8)
    clear s8 ea5 eb5 eD5 eG5 k5 u5
    simp only [List.set_cons_zero, List.set_cons_succ]
    refine ⟨.ref p8, rfl, p8, _, rfl, dp2 g8 (.int _) (.int _), sd.1.sh, sd.1.nd, sd.1.dp, sd.2, ?_⟩
    refine ⟨.ref G, rfl, .int f, rfl, G, _, f, _, rfl, rfl, SqL.of eG8, atf f f0 (by omega), ?_⟩
    refine ⟨.ref G, rfl, .int f, rfl, _, rfl, .int f, rfl, .int N, rfl, f, N, rfl, rfl, _, rfl, G, _, rfl, SqL.of eG8, fun p9 hp9 => ?_⟩
    rw [cutN]
    have s9 := new_same (o := .lst ((seqG (ringAt ns ms) f N.toNat).map V.int)) hp9
    refine ⟨p9, _, rfl, SqL.of upd_same, (by show 2 ≤ sizeLine; decide), fun p10 hp10 => ?_⟩
    rw [sumN]
    have s10 := s9.trans (new_same (o := .lst [.int (ringAt ns ms f), .int (farG (ringAt ns ms) (ringW ns ms) f N)]) hp10)
    refine ⟨p10, _, rfl, dp2 upd_same (.int _) (.int _), sd.1.sh, sd.1.nd, sd.1.dp, sd.2, rfl, _, rfl, iteNS rfl ?_⟩
    generalize upd (upd H8 p9 (.lst ((seqG (ringAt ns ms) f N.toNat).map V.int))) p10 (.lst [.int (ringAt ns ms f), .int (farG (ringAt ns ms) (ringW ns ms) f N)]) = H10 at s10 ⊢
    have ea10 := s10 _ _ ea8
    have eb10 := s10 _ _ eb8
    have eD10 := s10 _ _ eD8
    have eG10 := s10 _ _ eG8
    have k10 := k8.same s10
    have u10 := u8.trans (But.of (T := t) s10)
    clear s9 hp9 hp10 s10 g8 ea8 eb8 eD8 eG8 k8 u8
    -- told, of none
    have hL1 : 1 ≤ (seqG (ringAt ns ms) 0 (ringW ns ms)).length := by rw [seqG_len]; omega
    have hL2 : (seqG (ringAt ns ms) 0 (ringW ns ms)).length ≤ 2000 := by rw [seqG_len]; omega
    have hL0 : ∀ x ∈ seqG (ringAt ns ms) 0 (ringW ns ms), 0 ≤ x := fun x hx => by
      obtain ⟨j, _, e⟩ := seqG_mem hx
      rw [e]
      exact (ringAt_lt hR hR2 _).1
    have sd0 := sdat_two (sdat_int (i := 0) (k := 1) (by decide) (by decide)) (sdat_stretch hL2)
    have far0 : farG (ringAt ns ms) (ringW ns ms) f 0 = 0 := hA.far f (Int.le_refl 0)
    refine ⟨.ref a, rfl, .ref b, rfl, .int f, rfl, a, b, ns, ms, f, 0, rfl, SqL.of ea10, SqL.of eb10, hR, hR2, f0, by decide, by decide, fun H11 s11 => ?_⟩
    rw [far0]
    refine ⟨.ref b, rfl, .ref a, rfl, a, b, ns, ms, rfl, SqL.of (s11 _ _ ea10), SqL.of (s11 _ _ eb10), hR, hR2, fun H12 s12 => ?_⟩
    refine ⟨(by show 2 ≤ sizeLine; decide), fun p13 hp13 => ?_⟩
    have s13 := (s11.trans s12).trans (new_same (o := .lst [.int 0, stretchV (seqG (ringAt ns ms) 0 (ringW ns ms))]) hp13)
    have g13 : (upd H12 p13 (.lst [.int 0, stretchV (seqG (ringAt ns ms) 0 (ringW ns ms))])) p13 = some (.lst [.int 0, stretchV (seqG (ringAt ns ms) 0 (ringW ns ms))]) := upd_same
    generalize upd H12 p13 (.lst [.int 0, stretchV (seqG (ringAt ns ms) 0 (ringW ns ms))]) = H13 at s13 g13 ⊢
    simp only [List.set_cons_zero, List.set_cons_succ]
    refine ⟨.ref p13, rfl, p13, _, rfl, dp2 g13 (.int 0) (stretchD_dp _), sd0.1.sh, sd0.1.nd, sd0.1.dp, sd0.2, ?_⟩
    refine ⟨.ref D, rfl, D, _, rfl, s13 _ _ eD10, hL1, hL2, hL0, fun H14 s14 => ?_⟩
    refine ⟨(by show 2 ≤ sizeLine; decide), fun p15 hp15 => ?_⟩
    have s15 := (s13.trans s14).trans (new_same (o := .lst [.int 0, stretchV (seqG (ringAt ns ms) 0 (ringW ns ms))]) hp15)
    refine ⟨p15, _, rfl, dp2 upd_same (.int 0) (stretchD_dp _), sd0.1.sh, sd0.1.nd, sd0.1.dp, sd0.2, rfl, _, rfl, iteNS rfl ?_⟩
    generalize upd H14 p15 (.lst [.int 0, stretchV (seqG (ringAt ns ms) 0 (ringW ns ms))]) = H15 at s15 ⊢
    have ea15 := s15 _ _ ea10
    have eb15 := s15 _ _ eb10
    have eD15 := s15 _ _ eD10
    have eG15 := s15 _ _ eG10
    have k15 := k10.same s15
    have u15 := u10.trans (But.of (T := t) s15)
    clear s11 s12 s13 s14 s15 hp13 hp15 g13 ea10 eb10 eD10 eG10 k10 u10 hL0 hL1 sd0 far0
    -- some
    refine ⟨.ref D, rfl, D, _, rfl, SqL.of eD15, by rw [seqG_len]; omega, fun mx hmx _ => ?_⟩
    refine ⟨mx, 1, rfl, rfl, 10, 39, rfl, rfl, ⟨by decide, by decide, by decide⟩, 0, _, rfl, rfl, (by show 3 ≤ sizeLine; decide), fun p16 hp16 => ?_⟩
    have s16 := new_same (o := .lst (([mx + 1, 1, 0 - 10 ^ (39 : Int).toNat] : List Int).map V.int)) hp16
    have g16 : (upd H15 p16 (.lst [.int (mx + 1), .int 1, .int (0 - 10 ^ (39 : Int).toNat)])) p16 = some (.lst (([mx + 1, 1, 0 - 10 ^ (39 : Int).toNat] : List Int).map V.int)) := upd_same
    refine ⟨p16, rfl, ⟨_, SqL.of g16⟩, fun S hS => ?_⟩
    refine lc_list (K := K) (a := p16) (xs := ([mx + 1, 1, 0 - 10 ^ (39 : Int).toNat] : List Int).map V.int) (fun i H' => Same (upd H15 p16 (.lst [.int (mx + 1), .int 1, .int (0 - 10 ^ (39 : Int).toNat)])) H' ∧ ∃ ss : List Int, H' S = some (.lst (ss.map V.int)) ∧ ss.length ≤ i)
      ⟨new_same hS, [], upd_same, Nat.le_refl _⟩ (fun i H' _ hP => SqL.of (hP.1 _ _ g16)) (fun i x H17 hx hP => ⟨rfl, ?_⟩) (fun H17 hP => ?_)
    · obtain ⟨s17, ss, g17, hss⟩ := hP
      obtain ⟨n, hn, rfl⟩ := int_at hx
      have hi3 : i < 3 := (List.getElem?_eq_some_iff.mp hn).1
      refine ⟨.int n, rfl, 10, 40, rfl, rfl, ⟨by decide, by decide, by decide⟩, n, _, rfl, rfl, _, rfl, ite2 (fun _ => ?_) (fun _ => ?_)⟩
      · refine ⟨.int n, rfl, _, g17, by rw [List.length_map]; exact sz40 (by omega), same_over s17 hS, ss ++ [n], ?_, ?_⟩
        · rw [upd_same, List.map_append]
          rfl
        · rw [List.length_append]
          show ss.length + 1 ≤ i + 1
          omega
      · exact ⟨s17, ss, g17, by omega⟩
    obtain ⟨s17, ss, g17, hss⟩ := hP
    have hss : ss.length ≤ 3 := hss
    have sAB := (show Same H15 (upd H15 p16 (.lst [.int (mx + 1), .int 1, .int (0 - 10 ^ (39 : Int).toNat)])) from s16).trans s17
    have ea17 := sAB _ _ ea15
    have eb17 := sAB _ _ eb15
    have eD17 := sAB _ _ eD15
    have eG17 := sAB _ _ eG15
    have k17 := k15.same sAB
    have u17 := u15.trans (But.of (T := t) sAB)
    have nS : S ≠ t := k15.ne (s3_free hp16 hS)
    clear s16 g16 hS hp16 s17 sAB ea15 eb15 eD15 eG15 k15 u15
    simp only [List.set_cons_zero, List.set_cons_succ]
    -- for much in ..
    refine ⟨.ref S, rfl, .ref D, rfl, D, _, rfl, SqL.of eD17, by rw [seqG_len]; omega, fun mx2 hmx2 _ => ?_⟩
    refine ⟨.ref D, rfl, .ref t, rfl, .int (ringW ns ms), rfl, t, ringW ns ms, c + 1 + 1, rfl, by omega, by omega, k17, by omega, fun i1 H18 i10 i11 k18 u18 => ?_⟩
    have eD18 := u18 _ _ eD17 nD
    have gS18 := u18 _ _ g17 nS
    obtain ⟨m1, hm1, hat1⟩ := at_in (ns := seqG (ringAt ns ms) 0 (ringW ns ms)) i10 (by rw [seqG_len]; exact i11)
    refine ⟨D, _, i1, .int m1, rfl, rfl, SqL.of eD18, hat1, (by show 2 ≤ sizeLine; decide), fun p19 hp19 => ?_⟩
    have s19 := new_same (o := .lst [.int mx2, .int m1]) hp19
    have g19 : (upd H18 p19 (.lst [.int mx2, .int m1])) p19 = some (.lst (([mx2, m1] : List Int).map V.int)) := upd_same
    refine ⟨S, p19, _, _, rfl, rfl, s19 _ _ gS18, g19, by rw [List.length_map, List.length_map]; exact sz40' (by show ss.length + 2 ≤ 100000; omega), fun U hU => ?_⟩
    rw [← List.map_append]
    have s20 := s19.trans (new_same (o := .lst ((ss ++ [mx2, m1]).map V.int)) hU)
    have gU : (upd (upd H18 p19 (.lst [.int mx2, .int m1])) U (.lst ((ss ++ [mx2, m1]).map V.int))) U = some (.lst ((ss ++ [mx2, m1]).map V.int)) := upd_same
    generalize upd (upd H18 p19 (.lst [.int mx2, .int m1])) U (.lst ((ss ++ [mx2, m1]).map V.int)) = H20 at s20 gU ⊢
    have ea20 := s20 _ _ (u18 _ _ ea17 na)
    have eb20 := s20 _ _ (u18 _ _ eb17 nb)
    have eG20 := s20 _ _ (u18 _ _ eG17 nG)
    have k20 := k18.same s20
    have u20 := (u17.trans u18).trans (But.of (T := t) s20)
    clear s19 s20 g19 hp19 hU gS18 eD18 hat1 hm1 u18 k18 ea17 eb17 eD17 eG17 k17 u17 g17 hmx2 hmx
    generalize ss ++ [mx2, m1] = us at gU ⊢
    refine ⟨U, rfl, ⟨_, SqL.of gU⟩, for_list (K := K) (a := U) (xs := us.map V.int)
      (fun i σ H' => ∃ y10 y13 y14 : Option V, σ = [some (.ref t), some (.ref a), some (.ref b), some (.str (dL [ns, ms]).shown), some (.int (ringW ns ms)), some (.ref D), none, some (.int f), some (.int N), some (.ref G), y10, some (.ref S), none, y13, y14, none] ∧ Same H20 H')
      ⟨_, none, none, rfl, Same.refl H20⟩ (fun i σ H' _ ⟨_, _, _, _, s⟩ => SqL.of (s _ _ gU)) (fun i x σ HA hx hP => ?_) (fun σ HA hP => ?_)⟩
    · obtain ⟨y10, y13, y14, rfl, sA⟩ := hP
      obtain ⟨m, hm, rfl⟩ := int_at hx
      -- due
      refine ⟨.int f, rfl, .int f, rfl, .int (ringW ns ms), rfl, 2, ringW ns ms, rfl, rfl, .inl ⟨by decide, by decide⟩, f, 2 * ringW ns ms, rfl, rfl, f, f + 2 * ringW ns ms, rfl, ⟨by omega, by omega, by omega, by omega⟩, fun D2 hD2 => ?_⟩
      have en : (f + 2 * (ringW ns ms : Int) - f).toNat = 2 * ringW ns ms := by omega
      refine lc_range (lo := f) (n := (f + 2 * (ringW ns ms : Int) - f).toNat) (fun i H' => Same HA H' ∧ H' D2 = some (.lst ((hitsG (ringAt ns ms) m f i).map V.int)))
        ⟨new_same hD2, upd_same⟩ (fun i HB hi hP => ⟨rfl, ?_⟩) (fun HB hP => ?_)
      · obtain ⟨sB, gB⟩ := hP
        rw [en] at hi
        have hll := hitsG_len (ringAt ns ms) m f i
        refine ⟨.ref G, rfl, .int (f + i), rfl, G, _, f + i, _, rfl, rfl, SqL.of (sB _ _ (sA _ _ eG20)), atf _ (by omega) (by omega), .int m, rfl, _, m, rfl, rfl, _, rfl, ite2 (fun h => ?_) (fun h => ?_)⟩
        · refine ⟨.int (f + i), rfl, _, gB, by rw [List.length_map]; exact sz40 (by omega), same_over sB hD2, ?_⟩
          rw [upd_same, hitsG_yes (of_decide_eq_true h), List.map_append]
          rfl
        · refine ⟨sB, ?_⟩
          rw [hitsG_no (fun e => h (decide_eq_true e))]
          exact gB
      obtain ⟨sB, gB⟩ := hP
      rw [en] at gB
      simp only [List.set_cons_zero, List.set_cons_succ]
      have hab : Ab 100 (hitsG (ringAt ns ms) m f (2 * ringW ns ms)) := hitsG_ab f0 (by omega) (by omega)
      have rS := hab.rp (by decide)
      have rN : RP (dI []) := rp_ints (fun n hn => (List.not_mem_nil hn).elim)
      have eO := hA.first2 m f (rfl : 2 * ringW ns ms = 2 * ringW ns ms)
      refine ⟨.ref D2, rfl, (by show 0 ≤ sizeLine; decide), fun p8 hp8 => ?_⟩
      have s8 := new_same (o := .lst []) hp8
      have g8 := s8 _ _ gB
      refine ⟨_, _, dp_ints (SqL.of g8), dp_ints (ns := []) (SqL.of upd_same), rS.shaped, rN.shaped, _, rfl, ?_⟩
      rw [eqv_dI]
      have sC := (sA.trans sB).trans s8
      have eaC := sC _ _ ea20
      have ebC := sC _ _ eb20
      have sdo : Sdat (firstD f (firstG (ringAt ns ms) m f (ringW ns ms))) := sdat_first fun k hk => by
        have := (firstG_some.mp hk).1
        have e : (2 : Nat) ^ 200 = 1606938044258990275541962092341162602522202993782792835301376 := by decide
        rw [e]
        omega
      have sd2 := sdat_two sdo sdo
      have fin : ∀ HC : Hp, Same H20 HC → ∀ HD : Hp, Same HC HD → True := fun _ _ _ _ => trivial
      generalize hH8 : upd HB p8 (.lst []) = HC at g8 sC eaC ebC ⊢
      have rest : ∀ v : V, v = firstV f (firstG (ringAt ns ms) m f (ringW ns ms)) → v = firstV f (firstG (ringAt ns ms) m f (ringW ns ms)) := fun _ e => e
      rcases hitsG_head (g := ringAt ns ms) (m := m) (f := f) (k := 2 * ringW ns ms) with ⟨e1, e2⟩ | ⟨j, r, e1, e2⟩
      · rw [e1]
        refine iteNS rfl ?_
        rw [eO] at e2
        have ev : firstV f (firstG (ringAt ns ms) m f (ringW ns ms)) = .non := by rw [e2]; rfl
        have ed : firstD f (firstG (ringAt ns ms) m f (ringW ns ms)) = .none := by rw [e2]; rfl
        rw [ed] at sd2
        refine ⟨.int m, rfl, .int f, rfl, .ref b, rfl, .ref a, rfl, a, b, ns, ms, f, m, rfl, SqL.of eaC, SqL.of ebC, hR, hR2, f0, fun HD sD => ?_⟩
        rw [ev]
        refine ⟨.ref a, rfl, .ref b, rfl, .int f, rfl, .int m, rfl, a, b, ns, ms, f, m, rfl, SqL.of (sD _ _ eaC), SqL.of (sD _ _ ebC), hR, hR2, f0, fun HE sE => ?_⟩
        rw [ev]
        refine ⟨(by show 2 ≤ sizeLine; decide), fun pF hpF => ?_⟩
        have sF := (sD.trans sE).trans (new_same (o := .lst [.non, .non]) hpF)
        refine ⟨.ref pF, rfl, pF, _, rfl, dp2 upd_same .non .non, sd2.1.sh, sd2.1.nd, sd2.1.dp, sd2.2, ?_⟩
        refine ⟨.non, rfl, .non, rfl, (by show 2 ≤ sizeLine; decide), fun pG hpG => ?_⟩
        have sG := sF.trans (new_same (o := .lst [.non, .non]) hpG)
        refine ⟨pG, _, rfl, dp2 upd_same .non .non, sd2.1.sh, sd2.1.nd, sd2.1.dp, sd2.2, rfl, _, rfl, iteNS rfl ?_⟩
        exact ⟨_, _, _, rfl, sC.trans sG⟩
      · rw [e1] at g8 ⊢
        rw [decide_eq_false (fun z => by cases z)]
        refine iteT ?_
        rw [eO] at e2
        have ev : firstV f (firstG (ringAt ns ms) m f (ringW ns ms)) = .int (f + (j : Int)) := by rw [e2]; rfl
        have ed : firstD f (firstG (ringAt ns ms) m f (ringW ns ms)) = .int (f + (j : Int)) := by rw [e2]; rfl
        rw [ed] at sd2
        refine ⟨.ref D2, rfl, D2, _, 0, .int (f + j), rfl, rfl, SqL.of g8, at_first, ?_⟩
        refine ⟨.int m, rfl, .int f, rfl, .ref b, rfl, .ref a, rfl, a, b, ns, ms, f, m, rfl, SqL.of eaC, SqL.of ebC, hR, hR2, f0, fun HD sD => ?_⟩
        rw [ev]
        refine ⟨.ref a, rfl, .ref b, rfl, .int f, rfl, .int m, rfl, a, b, ns, ms, f, m, rfl, SqL.of (sD _ _ eaC), SqL.of (sD _ _ ebC), hR, hR2, f0, fun HE sE => ?_⟩
        rw [ev]
        refine ⟨(by show 2 ≤ sizeLine; decide), fun pF hpF => ?_⟩
        have sF := (sD.trans sE).trans (new_same (o := .lst [.int (f + j), .int (f + j)]) hpF)
        refine ⟨.ref pF, rfl, pF, _, rfl, dp2 upd_same (.int _) (.int _), sd2.1.sh, sd2.1.nd, sd2.1.dp, sd2.2, ?_⟩
        refine ⟨.int (f + j), rfl, .int (f + j), rfl, (by show 2 ≤ sizeLine; decide), fun pG hpG => ?_⟩
        have sG := sF.trans (new_same (o := .lst [.int (f + j), .int (f + j)]) hpG)
        refine ⟨pG, _, rfl, dp2 upd_same (.int _) (.int _), sd2.1.sh, sd2.1.nd, sd2.1.dp, sd2.2, rfl, _, rfl, iteNS rfl ?_⟩
        exact ⟨_, _, _, rfl, sC.trans sG⟩
    obtain ⟨y10, y13, y14, rfl, sA⟩ := hP
    have eaA := sA _ _ ea20
    have ebA := sA _ _ eb20
    have eGA := sA _ _ eG20
    -- told
    refine ⟨.ref a, rfl, .ref b, rfl, .int f, rfl, a, b, ns, ms, f, rfl, SqL.of eaA, SqL.of ebA, hR, hR2, f0, fun HB sB => ?_⟩
    refine ⟨.ref a, rfl, .ref b, rfl, .int f, rfl, .int N, rfl, a, b, ns, ms, f, N, rfl, SqL.of (sB _ _ eaA), SqL.of (sB _ _ ebA), hR, hR2, f0, N0, by omega, fun HC sC => ?_⟩
    refine ⟨(by show 2 ≤ sizeLine; decide), fun pD hpD => ?_⟩
    have sD := (sB.trans sC).trans (new_same (o := .lst [.int (ringAt ns ms f), .int (farG (ringAt ns ms) (ringW ns ms) f N)]) hpD)
    have gD : (upd HC pD (.lst [.int (ringAt ns ms f), .int (farG (ringAt ns ms) (ringW ns ms) f N)])) pD = some (.lst [.int (ringAt ns ms f), .int (farG (ringAt ns ms) (ringW ns ms) f N)]) := upd_same
    generalize upd HC pD (.lst [.int (ringAt ns ms f), .int (farG (ringAt ns ms) (ringW ns ms) f N)]) = HD at sD gD ⊢
    have eGD := sD _ _ eGA
    refine ⟨.ref pD, rfl, ?_⟩
    refine ⟨.ref G, rfl, .int f, rfl, G, _, f, _, rfl, rfl, SqL.of eGD, atf f f0 (by omega), ?_⟩
    refine ⟨.ref G, rfl, .int f, rfl, _, rfl, .int f, rfl, .int N, rfl, f, N, rfl, rfl, _, rfl, G, _, rfl, SqL.of eGD, fun p9 hp9 => ?_⟩
    rw [cutN]
    have s9 := new_same (o := .lst ((seqG (ringAt ns ms) f N.toNat).map V.int)) hp9
    refine ⟨p9, _, rfl, SqL.of upd_same, (by show 2 ≤ sizeLine; decide), fun pE hpE => ?_⟩
    rw [sumN]
    have sE := s9.trans (new_same (o := .lst [.int (ringAt ns ms f), .int (farG (ringAt ns ms) (ringW ns ms) f N)]) hpE)
    refine ⟨_, _, dp2 (sE _ _ gD) (.int _) (.int _), dp2 upd_same (.int _) (.int _), sd.1.shaped, sd.1.shaped, ?_⟩
    rw [sd.1.refl]
    refine ⟨true, rfl, iteT ?_⟩
    have sAE := (sA.trans sD).trans sE
    refine ⟨.ref a, rfl, .ref b, rfl, (by show 2 ≤ sizeLine; decide), fun pF hpF => ?_⟩
    have sF := new_same (o := .lst [.ref a, .ref b]) hpF
    have sAZ := sAE.trans sF
    refine ⟨pF, _, rfl, dpK upd_same (SqL.of (sAZ _ _ ea20)) (SqL.of (sAZ _ _ eb20)), kK.sh, kK.nd, kK.dp, fK, .str (dL [ns, ms]).shown, rfl, rfl, ?_⟩
    show Q (.bl (decide (V.str (dL [ns, ms]).shown = V.str (dL [ns, ms]).shown))) _
    rw [decide_eq_true rfl]
    exact q _ (u20.trans (But.of sAZ)) ((k20.same sAZ).mono (by omega))

def spLaw (K : PySem.W.Frag) : Sp := fun vs H Q _ => ∃ (a : Addr) (ns : List Int), vs = [.ref a] ∧ SqL K H a (ns.map V.int) ∧ ns.length ≤ 63 ∧ ∀ H', Q (.bl true) H'

theorem startL39 (x : V) : L2.start [Str.ofString "script", Str.ofString "at", Str.ofString "tank", Str.ofString "turn", Str.ofString "counts", Str.ofString "lap", Str.ofString "rim", Str.ofString "mate", Str.ofString "told", Str.ofString "first_here"] [x] = [some x, none, none, none, none, none, none, none, none, none] := rfl
theorem ok_law (T : Txt K mg) : FnG P w K mg base CX0 8 T.a_law T.d_law ["script"] (spLaw K) := by
  have G_law_tank := ok_law_tank (P := P) (w := w) (base := base) T
  have G_law_drawn_count := ok_law_drawn_count (P := P) (w := w) (base := base) T
  have G_law_drawn_rim := ok_law_drawn_rim (P := P) (w := w) (base := base) T
  have G_law_right := ok_law_right (P := P) (w := w) (base := base) T
  have G_dark_stretch := ok_dark_stretch (P := P) (w := w) (base := base) T
  have G_ring_sum := ok_ring_sum (P := P) (w := w) (base := base) T
  have G_first_tick := ok_first_tick (P := P) (w := w) (base := base) T
  refine okG T.F_law sc_law (fun vs H Q E h => ?_) (fun cdv A outer s H vs Q E hg hr h => ?_)
  · obtain ⟨_, _, rfl, _⟩ := h
    rfl
  · obtain ⟨a, ns, rfl, hS, hlen, q⟩ := h
    refine ⟨_, (pss_cons (ps_for PassesOwn.never rfl (pi_range1 (by rfl) T.n_range (pa_cons (pe_callB (call_max2 rfl) (by rfl) T.n_max (by decide +kernel) (pa_cons pe_int (pa_cons (pe_callB (call_min2 rfl) (by rfl) T.n_min (by decide +kernel) (pa_cons pe_int (pa_cons (pe_callB (lenL (K := K) rfl) (by rfl) T.n_len (by decide +kernel) (pa_cons (pv 0) pa_nil)) pa_nil))) pa_nil))) pa_nil)) (pg_name (i := 1) sc_law.nd rfl (.inl rfl)) (pss_cons (ps_set (i := 2) sc_law.nd rfl (.inr rfl) (pe_call G_law_tank (hr.mono (by decide)) (by rfl) T.g_law_tank T.F_law_tank.kp T.b_law_tank .nil pass0 (pa_cons (pv 0) (pa_cons (pv 1) pa_nil))))
      (pss_one (ps_for PassesOwn.never rfl (pi_range1 (by rfl) T.n_range (pa_cons pe_int pa_nil)) (pg_name (i := 3) sc_law.nd rfl (.inr rfl)) (pss_cons (ps_setLc (i := 4) (own := [("lap", 5)]) (g := gName 5) (tt := tYes) (by rfl) sc_law.nd rfl rfl (sw_true rfl rfl rfl (by decide +kernel)) (pi_range1 (by rfl) T.n_range (pa_cons pe_int pa_nil)) (blkOk_by (own := [("lap", 5)]) (N := ["script", "at", "tank", "turn", "counts", "lap", "rim", "mate", "told", "first_here"]) (sc := defScope s_law) (by decide +kernel))
        (fun _ _ _ _ _ => (pg_name (i := 5) sc_law.nd rfl (Or.inl rfl))) (fun _ _ _ _ _ => pts_nil) (fun _ _ _ _ _ => (pe_call G_law_drawn_count (hr.mono (by decide)) (by rfl) T.g_law_drawn_count T.F_law_drawn_count.kp T.b_law_drawn_count .nil pass0 (pa_cons (pv 2) (pa_cons (pe_ix (ixL (K := K) rfl) (pe_lst (pa_cons pe_int (pa_cons pe_int (pa_cons pe_int (pa_cons pe_int pa_nil))))) (pv 3) (fun _ _ => rfl)) pa_nil)))))
      (pss_one (ps_if (pt_not (pt_val (pe_callG G_law_right hg hr (by rfl) T.g_law_right T.F_law_right.kp T.b_law_right .nil pass0 (pa_cons (pv 2) (pa_cons (pe_call G_law_drawn_rim (hr.mono (by decide)) (by rfl) T.g_law_drawn_rim T.F_law_drawn_rim.kp T.b_law_drawn_rim .nil pass0 (pa_cons (pv 2) (pa_cons (pe_ix (ixL (K := K) rfl) (pv 4) pe_int (fun _ _ => rfl)) pa_nil))) (pa_cons (pe_call G_law_drawn_rim (hr.mono (by decide)) (by rfl) T.g_law_drawn_rim T.F_law_drawn_rim.kp T.b_law_drawn_rim .nil pass0 (pa_cons (pv 2) (pa_cons (pe_ix (ixL (K := K) rfl) (pv 4) pe_int (fun _ _ => rfl)) pa_nil))) pa_nil)))))) (pss_one (ps_ret pe_bl)) pss_nil)))))))
      (pss_cons (ps_asg (pe_tup (pa_cons (pe_lst (pa_cons pe_int (pa_cons pe_int (pa_cons pe_int pa_nil)))) (pa_cons (pe_lst (pa_cons pe_int (pa_cons pe_int (pa_cons pe_int (pa_cons pe_int pa_nil))))) pa_nil))) (pg_tupL (K := K) (n := 2) rfl rfl (pgs_cons (pg_name (i := 6) sc_law.nd rfl (.inr rfl)) (pgs_cons (pg_name (i := 7) sc_law.nd rfl (.inr rfl)) pgs_nil))))
      (pss_cons (ps_set (i := 8) sc_law.nd rfl (.inl rfl) (pe_lst (pa_cons (pe_call G_dark_stretch (hr.mono (by decide)) (by rfl) T.g_dark_stretch T.F_dark_stretch.kp T.b_dark_stretch .nil pass0 (pa_cons (pv 6) (pa_cons (pv 7) pa_nil))) (pa_cons (pe_call G_dark_stretch (hr.mono (by decide)) (by rfl) T.g_dark_stretch T.F_dark_stretch.kp T.b_dark_stretch .nil pass0 (pa_cons (pe_lst (pa_cons pe_int pa_nil)) (pa_cons (pe_lst (pa_cons pe_int (pa_cons pe_int pa_nil))) pa_nil))) (pa_cons (pe_call G_dark_stretch (hr.mono (by decide)) (by rfl) T.g_dark_stretch T.F_dark_stretch.kp T.b_dark_stretch .nil pass0 (pa_cons (pe_lst (pa_cons pe_int (pa_cons pe_int pa_nil))) (pa_cons (pe_lst (pa_cons pe_int (pa_cons pe_int pa_nil))) pa_nil))) pa_nil)))))
      (pss_cons (ps_expr (pe_bm PySem.F.plainAttrs_list PySem.F.slot_list_append PySem.F.type_list_append mt_append (pv 8) (pa_cons (pe_call G_ring_sum (hr.mono (by decide)) (by rfl) T.g_ring_sum T.F_ring_sum.kp T.b_ring_sum .nil pass0 (pa_cons (pv 6) (pa_cons (pv 7) (pa_cons pe_int (pa_cons pe_int pa_nil))))) pa_nil)))
      (pss_one (ps_ret (pe_cmpR (eqD (K := K) rfl hr) (pe_op op_cat (pv 8) (pe_lc (own := [("first_here", 9)]) (g := gName 9) (tt := tYes) (by rfl) sc_law.nd (pi_tupL (K := K) rfl (pe_tup (pa_cons pe_int (pa_cons pe_int (pa_cons pe_int pa_nil))))) (blkOk_by (own := [("first_here", 9)]) (N := ["script", "at", "tank", "turn", "counts", "lap", "rim", "mate", "told", "first_here"]) (sc := defScope s_law) (by decide +kernel))
        (fun _ _ _ _ _ => (pg_name (i := 9) sc_law.nd rfl (Or.inl rfl))) (fun _ _ _ _ _ => pts_nil) (fun _ _ _ _ _ => (pe_call G_first_tick (hr.mono (by decide)) (by rfl) T.g_first_tick T.F_first_tick.kp T.b_first_tick .nil pass0 (pa_cons (pv 6) (pa_cons (pv 7) (pa_cons (pv 9) (pa_cons pe_int pa_nil)))))))) (pe_lst (pa_cons pe_int (pa_cons pe_int (pa_cons pe_non (pa_cons pe_int (pa_cons pe_int (pa_cons pe_int (pa_cons pe_int pa_nil)))))))) (nomark _)))))))), ?_⟩
    refine ⟨.ref a, rfl, a, _, rfl, .inl hS, 3, _, rfl, 1, _, rfl, _, rfl, ?_, ?_, for_range (lo := 0)
      (fun i σ H' => ∃ y1 y2 y3 y4 y6 y7 : Option V, σ = [some (.ref a), y1, y2, y3, y4, none, y6, y7, none, none] ∧ Same H H' ∧ i ≤ 4) ⟨none, none, none, none, none, none, rfl, Same.refl H, by omega⟩ (fun i σ H1 hi hP => ?_) (fun σ H1 hP => ?_)⟩
    · split <;> split <;> omega
    · split <;> split <;> omega
    · obtain ⟨y1, y2, y3, y4, y6, y7, rfl, s1, _⟩ := hP
      have hi4 : i < 4 := by
        revert hi
        split <;> split <;> omega
      refine ⟨.ref a, rfl, .int (0 + i), rfl, a, ns, 0 + i, rfl, s1.seq hS, by omega, by omega, fun t H2 s2 ht k2 => ?_⟩
      refine ⟨4, rfl, by decide, by decide, for_range (lo := 0) (n := (4 : Int).toNat) (fun j σ H' => ∃ z3 z4 : Option V, σ = [some (.ref a), some (.int (0 + i)), some (.ref t), z3, z4, none, y6, y7, none, none] ∧ But t H2 H' ∧ Tank H' t (1000 * j))
        ⟨_, _, rfl, But.refl t H2, k2.mono (by omega)⟩ (fun j σ H3 hj hP => ?_) (fun σ H3 hP => ?_)⟩
      · obtain ⟨z3, z4, rfl, u3, k3⟩ := hP
        have hj4 : j < 4 := hj
        -- counts
        refine ⟨2, rfl, by decide, by decide, fun D hD => ?_⟩
        have nD : D ≠ t := k3.ne hD
        refine lc_range (lo := 0) (n := (2 : Int).toNat) (fun k H' => But t H3 H' ∧ Tank H' t (1000 * j + 3 * k) ∧ ∃ cs : List Int, H' D = some (.lst (cs.map V.int)) ∧ cs.length = k ∧ ∀ x ∈ cs, 1 ≤ x ∧ x ≤ 40)
          ⟨But.of (new_same hD), (k3.up hD).mono (by omega), [], upd_same, rfl, fun x hx => (List.not_mem_nil hx).elim⟩ (fun k H4 hk hP => ⟨rfl, ?_⟩) (fun H4 hP => ?_)
        · obtain ⟨u4, k4, cs, hD4, hcl, hcs⟩ := hP
          have hk2 : k < 2 := hk
          refine ⟨.ref t, rfl, (by show 4 ≤ sizeLine; decide), fun l hl => ?_⟩
          obtain ⟨m, hm, hat⟩ := at_in (ns := [40, 9, 12, 6]) (i := 0 + (j : Int)) (by omega) (by show _ < ((4 : Nat) : Int); omega)
          have hm1 : 1 ≤ m ∧ m ≤ 40 := by
            have := List.mem_of_getElem? hm
            simp only [List.mem_cons, List.not_mem_nil, or_false] at this
            omega
          refine ⟨.int (0 + j), rfl, l, _, _, .int m, rfl, rfl, SqL.of upd_same, hat, ?_⟩
          refine ⟨t, m, 1000 * j + 3 * k, rfl, hm1.1, hm1.2, k4.up hl, by omega, by omega, fun r H5 r1 r2 k5 u5 => ?_⟩
          have hD5 := u5 _ _ (new_same hl _ _ hD4) nD
          refine ⟨_, hD5, by rw [List.length_map]; exact sz40 (by omega), fun b o e ne => ?_, upd_tank (k5.mono (by omega)) nD, cs ++ [r], by rw [upd_same, List.map_append]; rfl, by rw [List.length_append]; show cs.length + 1 = k + 1; omega, fun x hx => ?_⟩
          · rw [upd_ne (ne_of_none e hD)]
            exact ((u4.trans (But.of (new_same hl))).trans u5) b o e ne
          · rcases List.mem_append.mp hx with h | h
            · exact hcs x h
            · rw [List.mem_singleton.mp h]
              omega
        obtain ⟨u4, k4, cs, hD4, hcl, hcs⟩ := hP
        have hcl2 : cs.length = 2 := hcl
        obtain ⟨c1, c2, rfl⟩ : ∃ c1 c2, cs = [c1, c2] := by
          match cs, hcl2 with
          | [x, y], _ => exact ⟨x, y, rfl⟩
        have hc1 := hcs c1 List.mem_cons_self
        have hc2 := hcs c2 (List.mem_cons_of_mem _ List.mem_cons_self)
        have k4 := k4.mono (show 1000 * (j : Int) + 3 * (((2 : Int).toNat : Nat) : Int) ≤ 1000 * j + 6 by show 1000 * (j : Int) + 3 * ((2 : Nat) : Int) ≤ _; omega)
        refine ⟨.ref t, rfl, .ref t, rfl, .ref D, rfl, D, _, _, .int c1, rfl, rfl, SqL.of hD4, at_first, ?_⟩
        refine ⟨t, c1, 1000 * j + 6, rfl, hc1.1, hc1.2, k4, by omega, by omega, fun l1 n1 H5 hR1 hl1 u5 f5 e5 k5 => ?_⟩
        have nl1 : l1 ≠ t := k4.ne f5
        have hD5 := u5 _ _ hD4 nD
        refine ⟨.ref t, rfl, .ref D, rfl, D, _, _, .int c2, rfl, rfl, SqL.of hD5, at_second, ?_⟩
        refine ⟨t, c2, 1000 * j + 6 + 60, rfl, hc2.1, hc2.2, k5, by omega, by omega, fun l2 n2 H6 hR2 hl2 u6 f6 e6 k6 => ?_⟩
        have nl2 : l2 ≠ t := k5.ne f6
        refine ⟨t, l1, l2, n1, n2, 1000 * j + 6 + 60 + 60, rfl, k6, by omega, by omega, u6 _ _ e5 nl1, e6, nl1, nl2, hR1, hR2, fun H7 u7 k7 => ?_⟩
        refine ⟨true, rfl, iteF ?_⟩
        exact ⟨_, _, rfl, (((u3.trans u4).trans u5).trans u6).trans u7, k7.mono (by omega)⟩
      · obtain ⟨z3, z4, rfl, u3, k3⟩ := hP
        exact ⟨_, _, _, _, _, _, rfl, fun b o e => u3 _ _ (s2 _ _ (s1 _ _ e)) (fun z => by
          have e1 := s1 _ _ e
          rw [z, ht] at e1
          cases e1), by omega⟩
    · obtain ⟨y1, y2, y3, y4, y6, y7, rfl, s1, _⟩ := hP
      have hR1 : Rim [1, 0, 2] := ⟨by decide, by decide, by decide⟩
      have hR2 : Rim [1, 1, 0, 0] := ⟨by decide, by decide, by decide⟩
      have hR3 : Rim [1] := ⟨by decide, by decide, by decide⟩
      have hR4 : Rim [1, 2] := ⟨by decide, by decide, by decide⟩
      have hR5 : Rim [1, 0] := ⟨by decide, by decide, by decide⟩
      have hR6 : Rim [0, 1] := ⟨by decide, by decide, by decide⟩
      have x1 : stretchV (seqG (ringAt [1, 0, 2] [1, 1, 0, 0]) 0 (ringW [1, 0, 2] [1, 1, 0, 0])) = .int 4 := by decide +kernel
      have x2 : stretchV (seqG (ringAt [1] [1, 2]) 0 (ringW [1] [1, 2])) = .int 0 := by decide +kernel
      have x3 : stretchV (seqG (ringAt [1, 0] [0, 1]) 0 (ringW [1, 0] [0, 1])) = .non := by decide +kernel
      have x4 : farG (ringAt [1, 0, 2] [1, 1, 0, 0]) (ringW [1, 0, 2] [1, 1, 0, 0]) 0 12 = 6 := by decide +kernel
      have x5 : ([0, 6, 9] : List Int).map (fun f => firstV f (firstG (ringAt [1, 0, 2] [1, 1, 0, 0]) 2 f (ringW [1, 0, 2] [1, 1, 0, 0]))) = [.int 5, .int 8, .int 17] := by decide +kernel
      refine ⟨(by show 3 ≤ sizeLine; decide), fun l hl => ⟨(by show 4 ≤ sizeLine; decide), fun m hm => ⟨(by show 2 ≤ sizeLine; decide), fun p hp => ⟨p, _, rfl, SqT.of upd_same, rfl, _, _, rfl, _, _, rfl, rfl, ?_⟩⟩⟩⟩
      have gl : (upd (upd (upd H1 l (.lst [.int 1, .int 0, .int 2])) m (.lst [.int 1, .int 1, .int 0, .int 0])) p (.tup [.ref l, .ref m])) l = some (.lst (([1, 0, 2] : List Int).map V.int)) := new_same hp _ _ (new_same hm _ _ upd_same)
      have gm : (upd (upd (upd H1 l (.lst [.int 1, .int 0, .int 2])) m (.lst [.int 1, .int 1, .int 0, .int 0])) p (.tup [.ref l, .ref m])) m = some (.lst (([1, 1, 0, 0] : List Int).map V.int)) := new_same hp _ _ upd_same
      generalize upd (upd (upd H1 l (.lst [.int 1, .int 0, .int 2])) m (.lst [.int 1, .int 1, .int 0, .int 0])) p (.tup [.ref l, .ref m]) = H2 at gl gm ⊢
      clear hp p
      -- told
      refine ⟨.ref l, rfl, .ref m, rfl, l, m, _, _, rfl, SqL.of gl, SqL.of gm, hR1, hR2, fun H3 s3 => ?_⟩
      rw [x1]
      refine ⟨(by show 1 ≤ sizeLine; decide), fun o1 h1 => ⟨(by show 2 ≤ sizeLine; decide), fun o2 h2 => ?_⟩⟩
      refine ⟨o1, o2, [1], [1, 2], rfl, SqL.of (new_same h2 _ _ upd_same), SqL.of upd_same, hR3, hR4, fun H4 s4 => ?_⟩
      rw [x2]
      refine ⟨(by show 2 ≤ sizeLine; decide), fun o3 h3 => ⟨(by show 2 ≤ sizeLine; decide), fun o4 h4 => ?_⟩⟩
      refine ⟨o3, o4, [1, 0], [0, 1], rfl, SqL.of (new_same h4 _ _ upd_same), SqL.of upd_same, hR5, hR6, fun H5 s5 => ?_⟩
      rw [x3]
      refine ⟨(by show 3 ≤ sizeLine; decide), fun p hp => ?_⟩
      have sA := ((((((s3.trans (new_same (o := .lst [.int 1]) h1)).trans (new_same (o := .lst [.int 1, .int 2]) h2)).trans s4).trans (new_same (o := .lst [.int 1, .int 0]) h3)).trans (new_same (o := .lst [.int 0, .int 1]) h4)).trans s5).trans (new_same (o := .lst [.int 4, .int 0, .non]) hp)
      have gp : (upd H5 p (.lst [.int 4, .int 0, .non])) p = some (.lst [.int 4, .int 0, .non]) := upd_same
      have npl : p ≠ l := fun z => by
        have e := ((((((s3.trans (new_same (o := .lst [.int 1]) h1)).trans (new_same (o := .lst [.int 1, .int 2]) h2)).trans s4).trans (new_same (o := .lst [.int 1, .int 0]) h3)).trans (new_same (o := .lst [.int 0, .int 1]) h4)).trans s5) _ _ gl
        rw [← z, hp] at e
        cases e
      have npm : p ≠ m := fun z => by
        have e := ((((((s3.trans (new_same (o := .lst [.int 1]) h1)).trans (new_same (o := .lst [.int 1, .int 2]) h2)).trans s4).trans (new_same (o := .lst [.int 1, .int 0]) h3)).trans (new_same (o := .lst [.int 0, .int 1]) h4)).trans s5) _ _ gm
        rw [← z, hp] at e
        cases e
      have gl6 := sA _ _ gl
      have gm6 := sA _ _ gm
      generalize upd H5 p (.lst [.int 4, .int 0, .non]) = H6 at gp gl6 gm6 ⊢
      clear sA s3 s4 s5 gl gm
      simp only [List.set_cons_zero, List.set_cons_succ]
      -- told.append
      refine ⟨.ref p, rfl, .inl ⟨rfl, _, SqL.of gp⟩, .ref l, rfl, .ref m, rfl, l, m, _, _, 0, 12, rfl, SqL.of gl6, SqL.of gm6, hR1, hR2, by decide, by decide, by decide, fun H7 s7 => ?_⟩
      rw [x4]
      refine ⟨p, _, _, rfl, rfl, s7 _ _ gp, sz40 (by show 3 ≤ 100000; decide), ?_⟩
      have gp8 : (upd H7 p (.lst ([.int 4, .int 0, .non] ++ [.int 6]))) p = some (.lst [.int 4, .int 0, .non, .int 6]) := upd_same
      have gl8 : (upd H7 p (.lst ([.int 4, .int 0, .non] ++ [.int 6]))) l = some (.lst (([1, 0, 2] : List Int).map V.int)) := by rw [upd_ne npl.symm]; exact s7 _ _ gl6
      have gm8 : (upd H7 p (.lst ([.int 4, .int 0, .non] ++ [.int 6]))) m = some (.lst (([1, 1, 0, 0] : List Int).map V.int)) := by rw [upd_ne npm.symm]; exact s7 _ _ gm6
      generalize upd H7 p (.lst ([.int 4, .int 0, .non] ++ [.int 6])) = H8 at gp8 gl8 gm8 ⊢
      -- the last line
      refine ⟨.ref p, rfl, (by show 3 ≤ sizeLine; decide), fun c1 hc1 => ?_⟩
      have sc := new_same (o := .tup [.int 0, .int 6, .int 9]) hc1
      refine ⟨c1, rfl, ⟨_, SqT.of upd_same⟩, fun D hD => ?_⟩
      refine lc_tup (K := K) (a := c1) (xs := ([0, 6, 9] : List Int).map V.int) (fun i H' => Same (upd H8 c1 (.tup [.int 0, .int 6, .int 9])) H' ∧ H' D = some (.lst ((([.int 5, .int 8, .int 17] : List V)).take i)))
        ⟨new_same hD, upd_same⟩ (fun i H' _ hP => SqT.of (hP.1 _ _ upd_same)) (fun i x H9 hx hP => ⟨rfl, ?_⟩) (fun H9 hP => ?_)
      · obtain ⟨s9, hD9⟩ := hP
        obtain ⟨b, hb, rfl⟩ := int_at hx
        have s89 := sc.trans s9
        have hb0 : 0 ≤ b := by
          have := List.mem_of_getElem? hb
          simp only [List.mem_cons, List.not_mem_nil, or_false] at this
          omega
        refine ⟨.ref l, rfl, .ref m, rfl, .int b, rfl, l, m, _, _, b, 2, rfl, SqL.of (s89 _ _ gl8), SqL.of (s89 _ _ gm8), hR1, hR2, hb0, fun HA sA => ?_⟩
        refine ⟨_, sA _ _ hD9, ?_, same_over (s9.trans sA) hD, ?_⟩
        · rw [List.length_take]
          exact sz40 (by show min i 3 ≤ 100000; omega)
        · rw [upd_same, List.take_add_one, ← x5, List.getElem?_map, hb]
          rfl
      · obtain ⟨s9, hD9⟩ := hP
        have s89 := sc.trans s9
        refine ⟨p, D, _, _, rfl, rfl, s89 _ _ gp8, hD9, (by show 4 + 3 ≤ sizeLine; decide), fun z1 hz1 => ?_⟩
        refine ⟨(by show 7 ≤ sizeLine; decide), fun z2 hz2 => ?_⟩
        have dp : ∀ {H' : Hp} {o : Addr}, H' o = some (.lst [.int 4, .int 0, .non, .int 6, .int 5, .int 8, .int 17]) → Dp K H' (.ref o) (.list [.int 4, .int 0, .none, .int 6, .int 5, .int 8, .int 17]) := fun e => .lst (SqL.of e) (.cons (.int _) (.cons (.int _) (.cons .non (.cons (.int _) (.cons (.int _) (.cons (.int _) (.cons (.int _) .nil)))))))
        have kD : RP (.list [.int 4, .int 0, .none, .int 6, .int 5, .int 8, .int 17]) := ⟨by decide +kernel, by decide +kernel, by decide +kernel, by decide +kernel⟩
        refine ⟨_, _, dp (new_same hz2 _ _ upd_same), dp upd_same, kD.shaped, kD.shaped, ?_⟩
        rw [kD.refl]
        exact q _

end
/-! ### what the top has written, and the end -/
theorem all_mk {l : PySem.W.OpenLaw} {w : World} {K : PySem.W.Frag} {h : Heap} {mg : Str → Option Value} {fa : Addr} (X : K.In h) (G : h.Ns mainGlobals mg) (hfa : mg "law" = some (.ref fa))
    {f0 : Addr} {od0 an0 : Option Addr} {sl0 : Array (Option Value)} {oc0 kV0 dc0 pm0 cd0 ct0 : Value}
    (a0 : PySem.W.nsIn K mainGlobals "is_integer" = some (some (.ref f0))) (l0 : K.lookup f0 = some ⟨oc0, od0, .func (PySem.W.fnOf "is_integer" "is_integer" (defArgs s_is_integer) (defBody s_is_integer) (defScope s_is_integer) .none kV0 dc0 pm0 an0 cd0 ct0), sl0⟩) (c0 : PySem.W.codeIn K cd0 "is_integer" = true) (k0 : PySem.W.keepIn K (.ref f0) = true)
    {f1 : Addr} {od1 an1 : Option Addr} {sl1 : Array (Option Value)} {oc1 kV1 dc1 pm1 cd1 ct1 : Value}
    (a1 : PySem.W.nsIn K mainGlobals "has_slots" = some (some (.ref f1))) (l1 : K.lookup f1 = some ⟨oc1, od1, .func (PySem.W.fnOf "has_slots" "has_slots" (defArgs s_has_slots) (defBody s_has_slots) (defScope s_has_slots) .none kV1 dc1 pm1 an1 cd1 ct1), sl1⟩) (c1 : PySem.W.codeIn K cd1 "has_slots" = true) (k1 : PySem.W.keepIn K (.ref f1) = true)
    {f2 : Addr} {od2 an2 : Option Addr} {sl2 : Array (Option Value)} {oc2 kV2 dc2 pm2 cd2 ct2 : Value}
    (a2 : PySem.W.nsIn K mainGlobals "wrong_light" = some (some (.ref f2))) (l2 : K.lookup f2 = some ⟨oc2, od2, .func (PySem.W.fnOf "wrong_light" "wrong_light" (defArgs s_wrong_light) (defBody s_wrong_light) (defScope s_wrong_light) .none kV2 dc2 pm2 an2 cd2 ct2), sl2⟩) (c2 : PySem.W.codeIn K cd2 "wrong_light" = true) (k2 : PySem.W.keepIn K (.ref f2) = true)
    {f3 : Addr} {od3 an3 : Option Addr} {sl3 : Array (Option Value)} {oc3 kV3 dc3 pm3 cd3 ct3 : Value}
    (a3 : PySem.W.nsIn K mainGlobals "wrong_slot" = some (some (.ref f3))) (l3 : K.lookup f3 = some ⟨oc3, od3, .func (PySem.W.fnOf "wrong_slot" "wrong_slot" (defArgs s_wrong_slot) (defBody s_wrong_slot) (defScope s_wrong_slot) .none kV3 dc3 pm3 an3 cd3 ct3), sl3⟩) (c3 : PySem.W.codeIn K cd3 "wrong_slot" = true) (k3 : PySem.W.keepIn K (.ref f3) = true)
    {f4 : Addr} {od4 an4 : Option Addr} {sl4 : Array (Option Value)} {oc4 kV4 dc4 pm4 cd4 ct4 : Value}
    (a4 : PySem.W.nsIn K mainGlobals "check_disc" = some (some (.ref f4))) (l4 : K.lookup f4 = some ⟨oc4, od4, .func (PySem.W.fnOf "check_disc" "check_disc" (defArgs s_check_disc) (defBody s_check_disc) (defScope s_check_disc) .none kV4 dc4 pm4 an4 cd4 ct4), sl4⟩) (c4 : PySem.W.codeIn K cd4 "check_disc" = true) (k4 : PySem.W.keepIn K (.ref f4) = true)
    {f5 : Addr} {od5 an5 : Option Addr} {sl5 : Array (Option Value)} {oc5 kV5 dc5 pm5 cd5 ct5 : Value}
    (a5 : PySem.W.nsIn K mainGlobals "check_number" = some (some (.ref f5))) (l5 : K.lookup f5 = some ⟨oc5, od5, .func (PySem.W.fnOf "check_number" "check_number" (defArgs s_check_number) (defBody s_check_number) (defScope s_check_number) .none kV5 dc5 pm5 an5 cd5 ct5), sl5⟩) (c5 : PySem.W.codeIn K cd5 "check_number" = true) (k5 : PySem.W.keepIn K (.ref f5) = true)
    {f6 : Addr} {od6 an6 : Option Addr} {sl6 : Array (Option Value)} {oc6 kV6 dc6 pm6 cd6 ct6 : Value}
    (a6 : PySem.W.nsIn K mainGlobals "check_count" = some (some (.ref f6))) (l6 : K.lookup f6 = some ⟨oc6, od6, .func (PySem.W.fnOf "check_count" "check_count" (defArgs s_check_count) (defBody s_check_count) (defScope s_check_count) .none kV6 dc6 pm6 an6 cd6 ct6), sl6⟩) (c6 : PySem.W.codeIn K cd6 "check_count" = true) (k6 : PySem.W.keepIn K (.ref f6) = true)
    {f7 : Addr} {od7 an7 : Option Addr} {sl7 : Array (Option Value)} {oc7 kV7 dc7 pm7 cd7 ct7 : Value}
    (a7 : PySem.W.nsIn K mainGlobals "ring_light" = some (some (.ref f7))) (l7 : K.lookup f7 = some ⟨oc7, od7, .func (PySem.W.fnOf "ring_light" "ring_light" (defArgs s_ring_light) (defBody s_ring_light) (defScope s_ring_light) .none kV7 dc7 pm7 an7 cd7 ct7), sl7⟩) (c7 : PySem.W.codeIn K cd7 "ring_light" = true) (k7 : PySem.W.keepIn K (.ref f7) = true)
    {f8 : Addr} {od8 an8 : Option Addr} {sl8 : Array (Option Value)} {oc8 kV8 dc8 pm8 cd8 ct8 : Value}
    (a8 : PySem.W.nsIn K mainGlobals "ring_sum" = some (some (.ref f8))) (l8 : K.lookup f8 = some ⟨oc8, od8, .func (PySem.W.fnOf "ring_sum" "ring_sum" (defArgs s_ring_sum) (defBody s_ring_sum) (defScope s_ring_sum) .none kV8 dc8 pm8 an8 cd8 ct8), sl8⟩) (c8 : PySem.W.codeIn K cd8 "ring_sum" = true) (k8 : PySem.W.keepIn K (.ref f8) = true)
    {f9 : Addr} {od9 an9 : Option Addr} {sl9 : Array (Option Value)} {oc9 kV9 dc9 pm9 cd9 ct9 : Value}
    (a9 : PySem.W.nsIn K mainGlobals "first_tick" = some (some (.ref f9))) (l9 : K.lookup f9 = some ⟨oc9, od9, .func (PySem.W.fnOf "first_tick" "first_tick" (defArgs s_first_tick) (defBody s_first_tick) (defScope s_first_tick) .none kV9 dc9 pm9 an9 cd9 ct9), sl9⟩) (c9 : PySem.W.codeIn K cd9 "first_tick" = true) (k9 : PySem.W.keepIn K (.ref f9) = true)
    {f10 : Addr} {od10 an10 : Option Addr} {sl10 : Array (Option Value)} {oc10 kV10 dc10 pm10 cd10 ct10 : Value}
    (a10 : PySem.W.nsIn K mainGlobals "dark_stretch" = some (some (.ref f10))) (l10 : K.lookup f10 = some ⟨oc10, od10, .func (PySem.W.fnOf "dark_stretch" "dark_stretch" (defArgs s_dark_stretch) (defBody s_dark_stretch) (defScope s_dark_stretch) .none kV10 dc10 pm10 an10 cd10 ct10), sl10⟩) (c10 : PySem.W.codeIn K cd10 "dark_stretch" = true) (k10 : PySem.W.keepIn K (.ref f10) = true)
    {f11 : Addr} {od11 an11 : Option Addr} {sl11 : Array (Option Value)} {oc11 kV11 dc11 pm11 cd11 ct11 : Value}
    (a11 : PySem.W.nsIn K mainGlobals "_check_rings" = some (some (.ref f11))) (l11 : K.lookup f11 = some ⟨oc11, od11, .func (PySem.W.fnOf "_check_rings" "_check_rings" (defArgs s_check_rings) (defBody s_check_rings) (defScope s_check_rings) .none kV11 dc11 pm11 an11 cd11 ct11), sl11⟩) (c11 : PySem.W.codeIn K cd11 "_check_rings" = true) (k11 : PySem.W.keepIn K (.ref f11) = true)
    {f12 : Addr} {od12 an12 : Option Addr} {sl12 : Array (Option Value)} {oc12 kV12 dc12 pm12 cd12 ct12 : Value}
    (a12 : PySem.W.nsIn K mainGlobals "_lights_from" = some (some (.ref f12))) (l12 : K.lookup f12 = some ⟨oc12, od12, .func (PySem.W.fnOf "_lights_from" "_lights_from" (defArgs s_lights_from) (defBody s_lights_from) (defScope s_lights_from) .none kV12 dc12 pm12 an12 cd12 ct12), sl12⟩) (c12 : PySem.W.codeIn K cd12 "_lights_from" = true) (k12 : PySem.W.keepIn K (.ref f12) = true)
    {f13 : Addr} {od13 an13 : Option Addr} {sl13 : Array (Option Value)} {oc13 kV13 dc13 pm13 cd13 ct13 : Value}
    (a13 : PySem.W.nsIn K mainGlobals "_law_tank" = some (some (.ref f13))) (l13 : K.lookup f13 = some ⟨oc13, od13, .func (PySem.W.fnOf "_law_tank" "_law_tank" (defArgs s_law_tank) (defBody s_law_tank) (defScope s_law_tank) .none kV13 dc13 pm13 an13 cd13 ct13), sl13⟩) (c13 : PySem.W.codeIn K cd13 "_law_tank" = true) (k13 : PySem.W.keepIn K (.ref f13) = true)
    {f14 : Addr} {od14 an14 : Option Addr} {sl14 : Array (Option Value)} {oc14 kV14 dc14 pm14 cd14 ct14 : Value}
    (a14 : PySem.W.nsIn K mainGlobals "_law_tap" = some (some (.ref f14))) (l14 : K.lookup f14 = some ⟨oc14, od14, .func (PySem.W.fnOf "_law_tap" "_law_tap" (defArgs s_law_tap) (defBody s_law_tap) (defScope s_law_tap) .none kV14 dc14 pm14 an14 cd14 ct14), sl14⟩) (c14 : PySem.W.codeIn K cd14 "_law_tap" = true) (k14 : PySem.W.keepIn K (.ref f14) = true)
    {f15 : Addr} {od15 an15 : Option Addr} {sl15 : Array (Option Value)} {oc15 kV15 dc15 pm15 cd15 ct15 : Value}
    (a15 : PySem.W.nsIn K mainGlobals "_law_drawn_count" = some (some (.ref f15))) (l15 : K.lookup f15 = some ⟨oc15, od15, .func (PySem.W.fnOf "_law_drawn_count" "_law_drawn_count" (defArgs s_law_drawn_count) (defBody s_law_drawn_count) (defScope s_law_drawn_count) .none kV15 dc15 pm15 an15 cd15 ct15), sl15⟩) (c15 : PySem.W.codeIn K cd15 "_law_drawn_count" = true) (k15 : PySem.W.keepIn K (.ref f15) = true)
    {f16 : Addr} {od16 an16 : Option Addr} {sl16 : Array (Option Value)} {oc16 kV16 dc16 pm16 cd16 ct16 : Value}
    (a16 : PySem.W.nsIn K mainGlobals "_law_drawn_rim" = some (some (.ref f16))) (l16 : K.lookup f16 = some ⟨oc16, od16, .func (PySem.W.fnOf "_law_drawn_rim" "_law_drawn_rim" (defArgs s_law_drawn_rim) (defBody s_law_drawn_rim) (defScope s_law_drawn_rim) .none kV16 dc16 pm16 an16 cd16 ct16), sl16⟩) (c16 : PySem.W.codeIn K cd16 "_law_drawn_rim" = true) (k16 : PySem.W.keepIn K (.ref f16) = true)
    {f17 : Addr} {od17 an17 : Option Addr} {sl17 : Array (Option Value)} {oc17 kV17 dc17 pm17 cd17 ct17 : Value}
    (a17 : PySem.W.nsIn K mainGlobals "_law_at" = some (some (.ref f17))) (l17 : K.lookup f17 = some ⟨oc17, od17, .func (PySem.W.fnOf "_law_at" "_law_at" (defArgs s_law_at) (defBody s_law_at) (defScope s_law_at) .none kV17 dc17 pm17 an17 cd17 ct17), sl17⟩) (c17 : PySem.W.codeIn K cd17 "_law_at" = true) (k17 : PySem.W.keepIn K (.ref f17) = true)
    {f18 : Addr} {od18 an18 : Option Addr} {sl18 : Array (Option Value)} {oc18 kV18 dc18 pm18 cd18 ct18 : Value}
    (a18 : PySem.W.nsIn K mainGlobals "_law_round" = some (some (.ref f18))) (l18 : K.lookup f18 = some ⟨oc18, od18, .func (PySem.W.fnOf "_law_round" "_law_round" (defArgs s_law_round) (defBody s_law_round) (defScope s_law_round) .none kV18 dc18 pm18 an18 cd18 ct18), sl18⟩) (c18 : PySem.W.codeIn K cd18 "_law_round" = true) (k18 : PySem.W.keepIn K (.ref f18) = true)
    {f19 : Addr} {od19 an19 : Option Addr} {sl19 : Array (Option Value)} {oc19 kV19 dc19 pm19 cd19 ct19 : Value}
    (a19 : PySem.W.nsIn K mainGlobals "_law_dark" = some (some (.ref f19))) (l19 : K.lookup f19 = some ⟨oc19, od19, .func (PySem.W.fnOf "_law_dark" "_law_dark" (defArgs s_law_dark) (defBody s_law_dark) (defScope s_law_dark) .none kV19 dc19 pm19 an19 cd19 ct19), sl19⟩) (c19 : PySem.W.codeIn K cd19 "_law_dark" = true) (k19 : PySem.W.keepIn K (.ref f19) = true)
    {f20 : Addr} {od20 an20 : Option Addr} {sl20 : Array (Option Value)} {oc20 kV20 dc20 pm20 cd20 ct20 : Value}
    (a20 : PySem.W.nsIn K mainGlobals "_law_right" = some (some (.ref f20))) (l20 : K.lookup f20 = some ⟨oc20, od20, .func (PySem.W.fnOf "_law_right" "_law_right" (defArgs s_law_right) (defBody s_law_right) (defScope s_law_right) .none kV20 dc20 pm20 an20 cd20 ct20), sl20⟩) (c20 : PySem.W.codeIn K cd20 "_law_right" = true) (k20 : PySem.W.keepIn K (.ref f20) = true)
    {f21 : Addr} {od21 an21 : Option Addr} {sl21 : Array (Option Value)} {oc21 kV21 dc21 pm21 cd21 ct21 : Value}
    (a21 : PySem.W.nsIn K mainGlobals "law" = some (some (.ref f21))) (l21 : K.lookup f21 = some ⟨oc21, od21, .func (PySem.W.fnOf "law" "law" (defArgs s_law) (defBody s_law) (defScope s_law) .none kV21 dc21 pm21 an21 cd21 ct21), sl21⟩) (c21 : PySem.W.codeIn K cd21 "law" = true) (k21 : PySem.W.keepIn K (.ref f21) = true)
    {t_MOST_SLOTS : Tok} (m_MOST_SLOTS : PySem.W.nsIn K mainGlobals "MOST_SLOTS" = some (some (.int (40) t_MOST_SLOTS)))
    {t_MOST_LIGHT : Tok} (m_MOST_LIGHT : PySem.W.nsIn K mainGlobals "MOST_LIGHT" = some (some (.int (1000000000000000000000000000000) t_MOST_LIGHT)))
    (i_lcm : PySem.W.nsIn K mainGlobals "lcm" = some (some (.builtin "math.lcm")))
    (z_abs : PySem.W.nsIn K mainGlobals "abs" = some none)
    (z_any : PySem.W.nsIn K mainGlobals "any" = some none)
    (z_bool : PySem.W.nsIn K mainGlobals "bool" = some none)
    (z_divmod : PySem.W.nsIn K mainGlobals "divmod" = some none)
    (z_enumerate : PySem.W.nsIn K mainGlobals "enumerate" = some none)
    (z_int : PySem.W.nsIn K mainGlobals "int" = some none)
    (z_isinstance : PySem.W.nsIn K mainGlobals "isinstance" = some none)
    (z_len : PySem.W.nsIn K mainGlobals "len" = some none)
    (z_list : PySem.W.nsIn K mainGlobals "list" = some none)
    (z_max : PySem.W.nsIn K mainGlobals "max" = some none)
    (z_min : PySem.W.nsIn K mainGlobals "min" = some none)
    (z_range : PySem.W.nsIn K mainGlobals "range" = some none)
    (z_repr : PySem.W.nsIn K mainGlobals "repr" = some none)
    (z_sum : PySem.W.nsIn K mainGlobals "sum" = some none)
    : ∃ fd : FuncData, (∀ (s : Shared) (u : Value), BindsTo s fd ⟨[u], []⟩ [("script", u)]) ∧ ∀ base : Heap, K.In base → base.Ns mainGlobals mg → FnG l.prog w K mg base CX0 8 fa fd ["script"] (spLaw K) := by
  have e := hfa.symm.trans (PySem.W.mg_of X G a21)
  cases e
  have F0 := fun_mk (st := s_is_integer) l0 c0 k0
  have b0 := F0.binds (ps := ["value"]) fun _ _ _ _ _ _ us hl => match us, hl with | [_], _ => rfl
  have F1 := fun_mk (st := s_has_slots) l1 c1 k1
  have b1 := F1.binds (ps := ["value"]) fun _ _ _ _ _ _ us hl => match us, hl with | [_], _ => rfl
  have F2 := fun_mk (st := s_wrong_light) l2 c2 k2
  have b2 := F2.binds (ps := ["items", "most"]) fun _ _ _ _ _ _ us hl => match us, hl with | [_, _], _ => rfl
  have F3 := fun_mk (st := s_wrong_slot) l3 c3 k3
  have b3 := F3.binds (ps := ["items"]) fun _ _ _ _ _ _ us hl => match us, hl with | [_], _ => rfl
  have F4 := fun_mk (st := s_check_disc) l4 c4 k4
  have b4 := F4.binds (ps := ["disc"]) fun _ _ _ _ _ _ us hl => match us, hl with | [_], _ => rfl
  have F5 := fun_mk (st := s_check_number) l5 c5 k5
  have b5 := F5.binds (ps := ["number"]) fun _ _ _ _ _ _ us hl => match us, hl with | [_], _ => rfl
  have F6 := fun_mk (st := s_check_count) l6 c6 k6
  have b6 := F6.binds (ps := ["number"]) fun _ _ _ _ _ _ us hl => match us, hl with | [_], _ => rfl
  have F7 := fun_mk (st := s_ring_light) l7 c7 k7
  have b7 := F7.binds (ps := ["disc", "other", "tick"]) fun _ _ _ _ _ _ us hl => match us, hl with | [_, _, _], _ => rfl
  have F8 := fun_mk (st := s_ring_sum) l8 c8 k8
  have b8 := F8.binds (ps := ["disc", "other", "first", "many"]) fun _ _ _ _ _ _ us hl => match us, hl with | [_, _, _, _], _ => rfl
  have F9 := fun_mk (st := s_first_tick) l9 c9 k9
  have b9 := F9.binds (ps := ["disc", "other", "first", "light"]) fun _ _ _ _ _ _ us hl => match us, hl with | [_, _, _, _], _ => rfl
  have F10 := fun_mk (st := s_dark_stretch) l10 c10 k10
  have b10 := F10.binds (ps := ["disc", "other"]) fun _ _ _ _ _ _ us hl => match us, hl with | [_, _], _ => rfl
  have F11 := fun_mk (st := s_check_rings) l11 c11 k11
  have b11 := F11.binds (ps := ["disc", "other"]) fun _ _ _ _ _ _ us hl => match us, hl with | [_, _], _ => rfl
  have F12 := fun_mk (st := s_lights_from) l12 c12 k12
  have b12 := F12.binds (ps := ["disc", "other", "first"]) fun _ _ _ _ _ _ us hl => match us, hl with | [_, _, _], _ => rfl
  have F13 := fun_mk (st := s_law_tank) l13 c13 k13
  have b13 := F13.binds (ps := ["script", "at"]) fun _ _ _ _ _ _ us hl => match us, hl with | [_, _], _ => rfl
  have F14 := fun_mk (st := s_law_tap) l14 c14 k14
  have b14 := F14.binds (ps := ["tank", "wide"]) fun _ _ _ _ _ _ us hl => match us, hl with | [_, _], _ => rfl
  have F15 := fun_mk (st := s_law_drawn_count) l15 c15 k15
  have b15 := F15.binds (ps := ["tank", "most"]) fun _ _ _ _ _ _ us hl => match us, hl with | [_, _], _ => rfl
  have F16 := fun_mk (st := s_law_drawn_rim) l16 c16 k16
  have b16 := F16.binds (ps := ["tank", "count"]) fun _ _ _ _ _ _ us hl => match us, hl with | [_, _], _ => rfl
  have F17 := fun_mk (st := s_law_at) l17 c17 k17
  have b17 := F17.binds (ps := ["rim", "mate", "tick_here"]) fun _ _ _ _ _ _ us hl => match us, hl with | [_, _, _], _ => rfl
  have F18 := fun_mk (st := s_law_round) l18 c18 k18
  have b18 := F18.binds (ps := ["rim", "mate"]) fun _ _ _ _ _ _ us hl => match us, hl with | [_, _], _ => rfl
  have F19 := fun_mk (st := s_law_dark) l19 c19 k19
  have b19 := F19.binds (ps := ["lights_here"]) fun _ _ _ _ _ _ us hl => match us, hl with | [_], _ => rfl
  have F20 := fun_mk (st := s_law_right) l20 c20 k20
  have b20 := F20.binds (ps := ["tank", "rim", "mate"]) fun _ _ _ _ _ _ us hl => match us, hl with | [_, _, _], _ => rfl
  have F21 := fun_mk (st := s_law) l21 c21 k21
  exact ⟨_, fun s v => .of_eq rfl, fun base _ _ => ok_law ⟨f0, _, F0, b0, PySem.W.mg_of X G a0, f1, _, F1, b1, PySem.W.mg_of X G a1, f2, _, F2, b2, PySem.W.mg_of X G a2, f3, _, F3, b3, PySem.W.mg_of X G a3, f4, _, F4, b4, PySem.W.mg_of X G a4, f5, _, F5, b5, PySem.W.mg_of X G a5, f6, _, F6, b6, PySem.W.mg_of X G a6, f7, _, F7, b7, PySem.W.mg_of X G a7, f8, _, F8, b8, PySem.W.mg_of X G a8, f9, _, F9, b9, PySem.W.mg_of X G a9, f10, _, F10, b10, PySem.W.mg_of X G a10, f11, _, F11, b11, PySem.W.mg_of X G a11, f12, _, F12, b12, PySem.W.mg_of X G a12, f13, _, F13, b13, PySem.W.mg_of X G a13, f14, _, F14, b14, PySem.W.mg_of X G a14, f15, _, F15, b15, PySem.W.mg_of X G a15, f16, _, F16, b16, PySem.W.mg_of X G a16, f17, _, F17, b17, PySem.W.mg_of X G a17, f18, _, F18, b18, PySem.W.mg_of X G a18, f19, _, F19, b19, PySem.W.mg_of X G a19, f20, _, F20, b20, PySem.W.mg_of X G a20, fa, _, F21, PySem.W.mg_of X G a21, t_MOST_SLOTS, PySem.W.mg_of X G m_MOST_SLOTS, t_MOST_LIGHT, PySem.W.mg_of X G m_MOST_LIGHT, PySem.W.mg_of X G i_lcm, PySem.W.mg_none_of X G z_abs, PySem.W.mg_none_of X G z_any, PySem.W.mg_none_of X G z_bool, PySem.W.mg_none_of X G z_divmod, PySem.W.mg_none_of X G z_enumerate, PySem.W.mg_none_of X G z_int, PySem.W.mg_none_of X G z_isinstance, PySem.W.mg_none_of X G z_len, PySem.W.mg_none_of X G z_list, PySem.W.mg_none_of X G z_max, PySem.W.mg_none_of X G z_min, PySem.W.mg_none_of X G z_range, PySem.W.mg_none_of X G z_repr, PySem.W.mg_none_of X G z_sum⟩⟩
end Sd
open PySem PySem.W PyProof.Rows
set_option maxRecDepth 100000 in
set_option maxHeartbeats 0 in
theorem PySem.Challenge.cw_slitdiscs_k39_rings_tick_by_tick_holds : PySem.Challenge.rw_slitdiscs_k39_rings_tick_by_tick.Holds := by
  w_on; o_law; k_head; (case hw => w_witness2)
  k_fill
  refine Sd.gwalk (l := PySem.Challenge.rw_slitdiscs_k39_rings_tick_by_tick) (n := 63) (k := 8) (x := "script") (sp := Sd.spLaw) rfl (by decide) rfl ⟨rfl, by decide, by decide⟩ (fun w h Y => PySem.W.kIn_of Y) ?F (fun _ _ a ns hl hS => ⟨a, ns, rfl, hS, hl, fun _ => rfl⟩)
  case F =>
    intro w mg fa h KX G hmg
    refine' Sd.all_mk KX G hmg ?a0 ?l0 ?c0 ?k0 ?a1 ?l1 ?c1 ?k1 ?a2 ?l2 ?c2 ?k2 ?a3 ?l3 ?c3 ?k3 ?a4 ?l4 ?c4 ?k4 ?a5 ?l5 ?c5 ?k5 ?a6 ?l6 ?c6 ?k6 ?a7 ?l7 ?c7 ?k7 ?a8 ?l8 ?c8 ?k8 ?a9 ?l9 ?c9 ?k9 ?a10 ?l10 ?c10 ?k10 ?a11 ?l11 ?c11 ?k11 ?a12 ?l12 ?c12 ?k12 ?a13 ?l13 ?c13 ?k13 ?a14 ?l14 ?c14 ?k14 ?a15 ?l15 ?c15 ?k15 ?a16 ?l16 ?c16 ?k16 ?a17 ?l17 ?c17 ?k17 ?a18 ?l18 ?c18 ?k18 ?a19 ?l19 ?c19 ?k19 ?a20 ?l20 ?c20 ?k20 ?a21 ?l21 ?c21 ?k21 ?m_MOST_SLOTS ?m_MOST_LIGHT ?i_lcm ?z_abs ?z_any ?z_bool ?z_divmod ?z_enumerate ?z_int ?z_isinstance ?z_len ?z_list ?z_max ?z_min ?z_range ?z_repr ?z_sum
    (case a0 => k_is)
    (case l0 => k_is)
    (case c0 => k_is)
    (case k0 => k_is)
    (case a1 => k_is)
    (case l1 => k_is)
    (case c1 => k_is)
    (case k1 => k_is)
    (case a2 => k_is)
    (case l2 => k_is)
    (case c2 => k_is)
    (case k2 => k_is)
    (case a3 => k_is)
    (case l3 => k_is)
    (case c3 => k_is)
    (case k3 => k_is)
    (case a4 => k_is)
    (case l4 => k_is)
    (case c4 => k_is)
    (case k4 => k_is)
    (case a5 => k_is)
    (case l5 => k_is)
    (case c5 => k_is)
    (case k5 => k_is)
    (case a6 => k_is)
    (case l6 => k_is)
    (case c6 => k_is)
    (case k6 => k_is)
    (case a7 => k_is)
    (case l7 => k_is)
    (case c7 => k_is)
    (case k7 => k_is)
    (case a8 => k_is)
    (case l8 => k_is)
    (case c8 => k_is)
    (case k8 => k_is)
    (case a9 => k_is)
    (case l9 => k_is)
    (case c9 => k_is)
    (case k9 => k_is)
    (case a10 => k_is)
    (case l10 => k_is)
    (case c10 => k_is)
    (case k10 => k_is)
    (case a11 => k_is)
    (case l11 => k_is)
    (case c11 => k_is)
    (case k11 => k_is)
    (case a12 => k_is)
    (case l12 => k_is)
    (case c12 => k_is)
    (case k12 => k_is)
    (case a13 => k_is)
    (case l13 => k_is)
    (case c13 => k_is)
    (case k13 => k_is)
    (case a14 => k_is)
    (case l14 => k_is)
    (case c14 => k_is)
    (case k14 => k_is)
    (case a15 => k_is)
    (case l15 => k_is)
    (case c15 => k_is)
    (case k15 => k_is)
    (case a16 => k_is)
    (case l16 => k_is)
    (case c16 => k_is)
    (case k16 => k_is)
    (case a17 => k_is)
    (case l17 => k_is)
    (case c17 => k_is)
    (case k17 => k_is)
    (case a18 => k_is)
    (case l18 => k_is)
    (case c18 => k_is)
    (case k18 => k_is)
    (case a19 => k_is)
    (case l19 => k_is)
    (case c19 => k_is)
    (case k19 => k_is)
    (case a20 => k_is)
    (case l20 => k_is)
    (case c20 => k_is)
    (case k20 => k_is)
    (case a21 => k_is)
    (case l21 => k_is)
    (case c21 => k_is)
    (case k21 => k_is)
    (case m_MOST_SLOTS => k_is)
    (case m_MOST_LIGHT => k_is)
    (case i_lcm => k_is)
    (case z_abs => k_is)
    (case z_any => k_is)
    (case z_bool => k_is)
    (case z_divmod => k_is)
    (case z_enumerate => k_is)
    (case z_int => k_is)
    (case z_isinstance => k_is)
    (case z_len => k_is)
    (case z_list => k_is)
    (case z_max => k_is)
    (case z_min => k_is)
    (case z_range => k_is)
    (case z_repr => k_is)
    (case z_sum => k_is)
