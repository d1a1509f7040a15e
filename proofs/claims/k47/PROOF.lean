import PyProof.Rows.All
import Wide.All
import OpenK.AllK
import Wide.FinOn
import HandS.Comp
import HandS.Ends
import HandS.Iter
import HandS.Words
import HandS.WordsList
import HandS.Walk
import HandS.IsInst
import HandS.Wide
import PyProof.ReprRoads
import PyProof.ReprLen
import HandS.Text
import HandS.StrMore
import HandS.FStr
import HandS.IterVal
import HandS.Style
import PyProof.StrBlock2
import PySem.Challenge.RW_slitdiscs_k47_texts_written_and_read
set_option Elab.async false
set_option linter.all false
set_option maxRecDepth 100000
set_option maxHeartbeats 4000000
/-! Own layer over HandS: defs that run where no repr is under way (FnG), repr of data, powers of great ints, calls by keywords alone. -/
namespace Sd
open PySem PySem.Spec PyProof.Rows L2

/-! ### a def called where no repr is under way -/
structure FnG (P : Program) (w : World) (K : PySem.W.Frag) (mg : Str → Option Value) (base : Heap) (C : CXT) (k : Nat) (f : Addr) (fd : FuncData) (ps : List Str) (sp : Sp) : Prop where
  cnt : ∀ {vs H Q E}, sp vs H Q E → vs.length = ps.length
  go : ∀ (A : Around) (out : List Env) (s : Shared) (H : Hp) (ar : Args) (us : List Value) (vs : List V) (Q : VK) (E : XK), A.guards = some [] → Room k A →
    Env0 P w K mg base A out s H → BindsTo s fd ar (ps.zip us) → Vals vs us → sp vs H Q E →
    codeAny (model P w) A (.call (.ref f) ar) (CR C out P w H s Q E) s

section
variable {P : Program} {w : World} {K : PySem.W.Frag} {mg : Str → Option Value} {base : Heap} {C : CXT}
theorem gfn_of {k : Nat} {f : Addr} {nm ql : Str} {pms : Arguments} {bd : List Stmt} {sc : Scope} {v1 v2 v3 v4 cd v5 oc : Value} {an od : Option Addr}
    {osl : Array (Option Value)} {N ps : List Str} {sp : Sp}
    (lk : K.lookup f = some ⟨oc, od, .func (PySem.W.fnOf nm ql pms bd sc v1 v2 v3 v4 an cd v5), osl⟩)
    (hc : PySem.W.codeIn K cd ql = true) (S : FnScope N ps sc)
    (len : ∀ vs H Q E, sp vs H Q E → vs.length = ps.length)
    (hb : ∀ (A : Around) (out : List Env) (s : Shared) (H : Hp) (vs : List V) (Q : VK) (E : XK), A.guards = some [] →
      Room k (A.deeper (envOfC ql sc s.heap.objs.size f cd)) → sp vs H Q E →
      ∃ t, PSs (cxOf C P w K mg base N ql sc f cd A out s H E) bd t ∧ t { nx := fun _ H' => Q .non H', rt := Q } (start N vs) H) :
    FnG P w K mg base C (k + 1) f (PySem.W.fnOf nm ql pms bd sc v1 v2 v3 v4 an cd v5) ps sp := by
  refine ⟨fun h => len _ _ _ _ h, fun A out s H ar us vs Q E hg hr e0 hbd r hsp => ?_⟩
  have n1 := len _ _ _ _ hsp
  have kx : K.In s.heap := e0.mod.kin.keeps fun b o e => (e0.bs b o e).1
  have li : s.heap.NoLimit := e0.mod.nolimit.keeps fun b o e => (e0.bs b o e).1
  refine codeAny_call_function hr.depth (kx _ _ lk) rfl S.co S.gen rfl (PySem.W.codeRec_of kx hc) (hbd _ _ _ _ ?_)
  refine wpAny_newFunctionEnv_cells S.kind (fun ⟨n, v⟩ hy => ?_) fun env he s1 x => ?_
  · rcases S.par n (List.of_mem_zip hy).1 with q | q
    · exact .inl q
    · exact .inr ⟨q, PySem.W.cellsFrom_some _ _ _ (.inl q)⟩
  subst he
  refine ⟨li.keeps x.toInCall.keep, codeAny_func ?_⟩
  obtain ⟨t, ht, hq⟩ := hb A out s H vs Q E hg (hr.deeper _) hsp
  have I0 := inv_start (CX := C) (E := E) S hr.hd e0 n1 r x
  refine wpAny_mono (ht.run [] s1 (start N vs) H _ I0 hq) (fun fl s' hs => ?_) fun e s' hs => hs
  cases fl with
  | next =>
    obtain ⟨σ', H', J, q⟩ := hs
    exact ⟨.non, H', J.os, J.bare, J.base, J.hok, rfl, q⟩
  | ret u =>
    obtain ⟨v, σ', H', J, rv, q⟩ := hs
    exact ⟨v, H', J.os, J.bare, J.base, J.hok, rv, q⟩
  | brk => exact hs.elim fun _ ⟨_, _, q⟩ => False.elim q
  | cont => exact hs.elim fun _ ⟨_, _, q⟩ => False.elim q

/-- as Fun.ok, where no repr is under way -/
theorem okG {x ql : Str} {st : Stmt} {f : Addr} {fd : FuncData} {N ps : List Str} {k : Nat} {sp : Sp} (F : Fun K x ql st f fd) (S : FnScope N ps (defScope st))
    (len : ∀ vs H Q E, sp vs H Q E → vs.length = ps.length)
    (hb : ∀ (cd : Value) (A : Around) (out : List Env) (s : Shared) (H : Hp) (vs : List V) (Q : VK) (E : XK), A.guards = some [] →
      Room k (A.deeper (envOfC ql (defScope st) s.heap.objs.size f cd)) → sp vs H Q E →
      ∃ t, PSs (cxOf CX0 P w K mg base N ql (defScope st) f cd A out s H E).nox (defBody st) t ∧ t { nx := fun _ H' => Q .non H', rt := Q } (start N vs) H) :
    FnG P w K mg base CX0 (k + 1) f fd ps sp := by
  obtain ⟨oc, od, v2, v3, v4, an, cd, v5, osl, rfl, lk, hc⟩ := F.ex
  refine gfn_of lk hc S len fun A out s H vs Q E hg hr hsp => ?_
  obtain ⟨t, h, q⟩ := hb cd A out s H vs Q E hg hr hsp
  exact ⟨t, h.nox, q⟩
end

section
variable {X : Cx} {C : CXT} {k : Nat} {f : Addr} {fd : FuncData} {ps ks : List Str} {sp : Sp} {dvs : List V} {ds : List Value} {E : XK} {x : Str} {p pos : Pos} {e : Expr} {es : List Expr} {kws : List Keyword} {t tk : TA}
theorem endG {pins : List (Addr × Obj)} {σ : L2.St} {H : Hp} {s s' : Shared} {Q : VK} {r : Result} (hx : Passes C X E) (I : Inv X pins σ H s) (h : CR C X.stack X.prog X.w H s Q E r s') :
    (match r with | .ok (.ret u) => EP X pins σ Q u s' | .ok _ => False | .error e => X.xe e s') := by
  cases r with
  | error e => exact hx pins σ H s e s' I h
  | ok fl =>
    cases fl with
    | ret u => exact I.after h
    | next => exact h
    | brk => exact h
    | cont => exact h
theorem goG {pins : List (Addr × Obj)} {σ : L2.St} {H : Hp} {s : Shared} {Q : VK} {us : List Value} {vs : List V} (F : FnG X.prog X.w X.K X.mg X.base C k f fd ps sp) (hA : X.A.guards = some []) (hr : Room k X.A)
    (hb : Binds X.K fd ps ds) (hd : Vals dvs ds) (hx : Passes C X E) (I : Inv X pins σ H s) (r : Vals vs us) (h : sp (vs ++ dvs) H Q E) :
    wpAny (model X.prog X.w) X.A (call (.ref f) us) (EP X pins σ Q) X.xe s := by
  have r2 := r.append hd
  have n2 : (us ++ ds).length = ps.length := r2.length.symm.trans (F.cnt h)
  refine wpAny_call (codeAny_mono (F.go X.A X.stack s H ⟨us, []⟩ _ _ Q E hA hr I.env0 (hb s us I.kIn n2) r2 h) fun r s' hq => ?_)
  have z := endG hx I hq
  cases r with
  | error e => exact z
  | ok fl => cases fl <;> exact z
/-- f(e, ..) where no repr is under way -/
theorem pe_callG (F : FnG X.prog X.w X.K X.mg X.base C k f fd ps sp) (hA : X.A.guards = some []) (hr : Room k X.A) (hg : Gl X x) (hm : X.mg x = some (.ref f)) (hk : PySem.W.keepIn X.K (.ref f) = true)
    (hb : Binds X.K fd ps ds) (hd : Vals dvs ds) (hx : Passes C X E) (ha : PA X (e :: es) t) (hdb : (x == ("__debug__" : Str)) = false := by decide)
    (he : starEach (e :: es) X.env = (false, eval e X.env) :: starEach es X.env := by rfl) (hpl : (backTo pos (starEach es X.env)).any (·.1) = false := by rfl) :
    PE X (.Call (.Name x p) (e :: es) [] pos) (tCall sp dvs E t) := by
  refine ⟨fun pins s σ H Q I h => wpAny_Call_Name_kw (ld_glob I hg hm ?_ hdb)⟩
  refine PySem.W.callWith_K (h₀ := X.base) I.ok.mod.kin hk (thn (ha.run pos pins s σ H _ I h) fun us s1 z => ?_) he hpl
  obtain ⟨vs, H1, I1, r, q⟩ := z
  exact ⟨I1.kIn, goG F hA hr hb hd hx I1 r q⟩
/-- f(k = v, ..): keywords alone -/
def tCallW (sp : Sp) (gV : List V → List V) (E : XK) (tk : TA) : TE := fun σ H Q => tk σ H fun zs H2 => sp (gV zs) H2 Q E
variable {g : List Value → List Value → List Value} {gV : List V → List V → List V}
theorem pe_callW (F : FnOk X.prog X.w X.K X.mg X.base C k f fd ps sp) (hr : Room k X.A) (hg : Gl X x) (hm : X.mg x = some (.ref f)) (hk : PySem.W.keepIn X.K (.ref f) = true) (hb : KBinds X.K fd ps ks g gV) (hx : Passes C X E)
    (hkw : PK X kws tk) (hall : (backToKw pos (keywordEach kws X.env)).all (·.1.isSome) = true := by rfl) (hks : (backToKw pos (keywordEach kws X.env)).filterMap (·.1) = ks := by rfl)
    (hdb : (x == ("__debug__" : Str)) = false := by decide)
    (hpl : ((backTo pos (starEach [] X.env)).any (·.1) || (backToKw pos (keywordEach kws X.env)).any (·.1.isNone)) = false := by rfl) :
    PE X (.Call (.Name x p) [] kws pos) (tCallW sp (gV []) E tk) := by
  refine ⟨fun pins s σ H Q I h => wpAny_Call_Name_kw (ld_glob I hg hm ?_ hdb)⟩
  refine PySem.W.callWith_KW0 (h₀ := X.base) I.ok.mod.kin hk hall (thn (hkw.run pos pins s σ H _ I h) fun ws s2 z => ?_) hpl
  obtain ⟨zs, H2, I2, rz, q2⟩ := z
  refine ⟨I2.kIn, ?_⟩
  rw [hks]
  exact run_fnk F hr hb hx I2 .nil rz q2
end

/-! ### the law's call -/
theorem glaw {P : Program} {w : World} {K : PySem.W.Frag} {mg mb : Str → Option Value} {k : Nat} {fa a : Addr} {fd : FuncData} {x : Str} {sp : Sp} {s1 : Shared} {vs : List Value} {ns : List Int}
    (kx : K.In s1.heap) (hn : s1.heap.Ns mainGlobals mg) (hb : s1.heap.Ns builtinsNs mb) (hbb : ∀ x : Str, x ≠ "__name__" → mb x = bootBuiltins x) (hlim : s1.heap.NoLimit) (hgs : s1.gens = #[])
    (ha : s1.heap.get? a = some { cls := .type "list", data := .seq vs.toArray }) (hi : IntsAre vs ns) (hl : ns.length ≤ sizeLine) (hr : Room k callerA)
    (F : ∀ base : Heap, K.In base → base.Ns mainGlobals mg → FnG P w K mg base CX0 k fa fd [x] sp) (hbind : ∀ (s : Shared) (u : Value), BindsTo s fd ⟨[u], []⟩ [(x, u)])
    (hsp : ∀ H : Hp, SqL K H a (ns.map V.int) → sp [.ref a] H (fun v _ => v = .bl true) E0) :
    codeAny (model P w) callerA (.call (.ref fa) ⟨[.ref a], []⟩) (fun r s' => r = .ok (.ret (.bool true)) ∧ OldK s1.heap s'.heap ∧ s'.os = s1.os ∧ AllBare s'.gens) s1 := by
  have rv := vals_ints hi
  have nv := hi.length
  -- the abstract heap: the script, locked, unless the module itself holds it
  have main : ∀ H : Hp, (∀ b, H b = none ∨ (b = a ∧ H b = some (.frz { cls := .type "list", data := .seq vs.toArray } (.lst (ns.map V.int))))) → (H a ≠ none → K.lookup a = none) →
      SqL K H a (ns.map V.int) → HOk P w H s1.heap →
      codeAny (model P w) callerA (.call (.ref fa) ⟨[.ref a], []⟩) (fun r s' => r = .ok (.ret (.bool true)) ∧ OldK s1.heap s'.heap ∧ s'.os = s1.os ∧ AllBare s'.gens) s1 := by
    intro H hO hK hS hok
    have out : ∀ {b : Addr} {o : Obj}, s1.heap.get? b = some o → (b = a → H b = none) → (hidT s1.heap H).get? b = some o := fun {b o} e n => hidT_get e (by
      rcases hO b with z | ⟨z, _⟩
      · exact z
      · exact n z)
    have dct : ∀ {b : Addr} {m : Str → Option Value}, s1.heap.Ns b m → (hidT s1.heap H).Ns b m := fun {b m} ⟨o, es, ep, e, d, r⟩ => ⟨o, es, ep, out e (fun z => by
      subst z
      rw [ha] at e
      cases e
      cases (show Data.seq vs.toArray _ = Data.dict es ep from d)), d, r⟩
    have kb : K.In (hidT s1.heap H) := fun b o e => out (kx b o e) fun z => by
      subst z
      cases q : H b with
      | none => rfl
      | some u =>
        rw [hK (by rw [q]; exact fun z => nomatch z)] at e
        cases e
    have md : Mod K mg (hidT s1.heap H) := ⟨kb, dct hn, ⟨mb, dct hb, hbb⟩, let ⟨mc, h1, h2⟩ := hlim; ⟨mc, dct h1, h2⟩⟩
    have en : Env0 P w K mg (hidT s1.heap H) callerA [] s1 H := ⟨rfl, md, fun b o e => of_hidT e, Nat.le_of_eq (hidT_size _ _), trivial, fun b z => (List.not_mem_nil z).elim, hok, .of_eq hgs⟩
    refine codeAny_mono ((F _ kb (dct hn)).go callerA [] s1 H ⟨[.ref a], []⟩ [.ref a] [.ref a] _ _ rfl hr en (hbind s1 (.ref a)) (.cons rfl .nil) (hsp H hS)) fun r s' h => ?_
    cases r with
    | error e => exact False.elim h
    | ok fl =>
      cases fl with
      | next => exact False.elim h
      | brk => exact False.elim h
      | cont => exact False.elim h
      | ret u =>
        obtain ⟨v, H', os, br, un, ok', r', q⟩ := h
        cases (show v = .bl true from q)
        cases (show u = Value.bool true from r')
        refine ⟨rfl, OldK.of_keep fun b o e => ?_, os, br⟩
        rcases hO b with z | ⟨_, z⟩
        · exact un.keep b o e z (fun z => (List.not_mem_nil z).elim) (fun z => (List.not_mem_nil z).elim)
        · have e1 := (hok b _ z).1
          have e2 := (ok' b _ (un.frzs b _ _ z)).1
          rw [e] at e1
          cases e1
          exact e2
  cases hk : K.lookup a with
  | some o =>
    have e := kx a o hk
    rw [ha] at e
    cases e
    refine main (fun _ => none) (fun _ => .inl rfl) (fun z => absurd rfl z) (.inr ⟨_, vs.toArray, _, hk, rfl, rfl, rfl, ?_, ?_⟩) fun b u z => nomatch (show (none : Option HO) = some u from z)
    · rw [List.size_toArray, nv]
      exact hl
    · simpa using rv
  | none =>
    refine main (fun b => if b = a then some (.frz { cls := .type "list", data := .seq vs.toArray } (.lst (ns.map V.int))) else none) (fun b => ?_) (fun _ => hk) (.inl (.inr ⟨{ cls := .type "list", data := .seq vs.toArray }, if_pos rfl⟩)) (fun b u z => ?_)
    · by_cases q : b = a
      · exact .inr ⟨q, if_pos q⟩
      · exact .inl (if_neg q)
    · by_cases q : b = a
      · have z2 := (if_pos q).symm.trans z
        cases z2
        subst q
        exact ⟨ha, by rw [List.length_map]; exact hl, vs, _, rv, ha⟩
      · have z2 := (if_neg q).symm.trans z
        cases z2
theorem gwalk {l : PySem.W.OpenLaw} {n k : Nat} {q : Program} {lo : List Str} {XP : (Str → Option Value) → Heap → Prop} {YP : World → Heap → Prop} {d : DefRec} {K : Params → PySem.W.Frag} {sp : PySem.W.Frag → Sp} {x : Str}
    (hn : l.most = some n) (hn2 : n ≤ sizeLine) (hdf : d.params.defaults = []) (hr : Room k callerA) (hY : ∀ (w : World) (h : Heap), YP w h → (K w.params).In h)
    (F : ∀ (w : World) (mg : Str → Option Value) (fa : Addr) (h : Heap), (K w.params).In h → h.Ns mainGlobals mg → mg d.name = some (.ref fa) →
      ∃ fd : FuncData, (∀ (s : Shared) (u : Value), BindsTo s fd ⟨[u], []⟩ [(x, u)]) ∧
        ∀ base : Heap, (K w.params).In base → base.Ns mainGlobals mg → FnG l.prog w (K w.params) mg base CX0 k fa fd [x] (sp (K w.params)))
    (hsp : ∀ (K : PySem.W.Frag) (H : Hp) (a : Addr) (ns : List Int), ns.length ≤ n → SqL K H a (ns.map V.int) → sp K [.ref a] H (fun v _ => v = .bl true) E0) :
    PySem.W.WalkO q lo XP YP l.row.toRowW d [] (fun f vs => PySem.call f vs) := by
  refine Att.attach_call hn hdf fun w s₀ s₁ mg mb fa o pm cd doc a vs ns G Y ho hd hcd hmg hobj hints hlen hg => ?_
  have kx := hY w _ Y
  obtain ⟨fd, hb, hF⟩ := F w mg fa _ kx G.T.g hmg
  exact glaw kx G.T.g G.T.b G.T.builtins G.T.nolimit hg hobj hints (Nat.le_trans hlen hn2) hr hF hb fun H hS => hsp (K w.params) H a ns hlen hS

/-! ### repr of data -/
def rRepr (K : PySem.W.Frag) : List V → Hp → VK → Prop := fun xs H Q => ∃ (a : Addr) (d : PyData), xs = [.ref a] ∧ Dp K H (.ref a) d ∧ d.showable = true ∧ d.hasDict = false ∧ d.depth ≤ 32 ∧ d.shown.length ≤ sizeLine ∧ Q (.str d.shown) H
theorem call_repr {X : Cx} (hA : X.A.guards = some []) {k : Nat} (hr : Room k X.A) : CallR X (.builtin "repr") (rRepr X.K) := by
  intro pins s σ H xs us Q I r h
  obtain ⟨a, d, rfl, hd, h1, h2, h3, h4, q⟩ := h
  cases r with
  | cons r1 r2 =>
    cases r2
    cases r1
    obtain ⟨as, rd⟩ := Dp.reads I d _ _ hd rfl
    have hu := hr.units
    refine repr_of_reads' rd h1 (fun z => by rw [h2] at z; cases z) hA (by omega) (fun _ _ e => e) (fun h' u tk kp => ?_) h4
    exact ⟨.str d.shown, H, I.kept (t' := tk) kp, ⟨u, rfl⟩, q⟩

/-- repr of any data -/
def rReprV (K : PySem.W.Frag) : List V → Hp → VK → Prop := fun xs H Q => ∃ (x : V) (d : PyData), xs = [x] ∧ Dp K H x d ∧ d.showable = true ∧ d.hasDict = false ∧ d.depth ≤ 32 ∧ d.shown.length ≤ sizeLine ∧ Q (.str d.shown) H
theorem reprV {X : Cx} {K : PySem.W.Frag} (hK : X.K = K) (hA : X.A.guards = some []) {k : Nat} (hr : Room k X.A) : CallR X (.builtin "repr") (rReprV K) := by
  subst hK
  intro pins s σ H xs us Q I r h
  obtain ⟨x, d, rfl, hd, h1, h2, h3, h4, q⟩ := h
  have ref : ∀ a : Addr, x = .ref a → wpAny (model X.prog X.w) X.A (call (.builtin "repr") us) (EP X pins σ Q) X.xe s := fun a e => by
    subst e
    exact call_repr hA hr pins s σ H _ us Q I r ⟨a, d, rfl, hd, h1, h2, h3, h4, q⟩
  cases hd with
  | lst _ _ => exact ref _ rfl
  | tup _ _ => exact ref _ rfl
  | non =>
    cases r with
    | cons r1 r2 =>
      cases r2
      cases r1
      exact PySem.P.repr_of_none ⟨.str (PyData.shown .none), H, I.tok _, ⟨_, rfl⟩, q⟩
  | bl b =>
    cases r with
    | cons r1 r2 =>
      cases r2
      cases r1
      cases b with
      | true => exact PySem.P.repr_of_bool ⟨.str (PyData.shown (.bool true)), H, I.tok _, ⟨_, rfl⟩, q⟩
      | false => exact PySem.P.repr_of_bool ⟨.str (PyData.shown (.bool false)), H, I.tok _, ⟨_, rfl⟩, q⟩
  | int i =>
    cases r with
    | cons r1 r2 =>
      cases r2
      obtain ⟨t, rfl⟩ := r1
      have z : i.natAbs.log2 < 1920 := by
        simp only [PyData.showable] at h1
        exact of_decide_eq_true h1
      exact PySem.P.repr_of_int z ⟨.str (PyData.shown (.int i)), H, I.tok _, ⟨_, rfl⟩, q⟩
  | str y =>
    cases r with
    | cons r1 r2 =>
      cases r2
      obtain ⟨t, rfl⟩ := r1
      exact PySem.P.repr_of_str ⟨.str (PyData.shown (.str y)), H, I.tok _, ⟨_, rfl⟩, q⟩ h4

/-! ### a statement, then the rest by a word between them -/
def tMid (t u : TS) : TS := fun D σ H => ∃ M : L2.St → Hp → Prop, t { D with nx := M } σ H ∧ ∀ σ' H', M σ' H' → u D σ' H'
theorem pss_mid {X : Cx} {st : Stmt} {rs : List Stmt} {t u : TS} (h1 : PS X st t) (h2 : PSs X rs u) : PSs X (st :: rs) (tMid t u) :=
  ⟨fun pins s σ H D I ⟨M, hm, hu⟩ => wpAny_execs_cons (thn (h1.run pins s σ H { D with nx := M } I hm) fun f s1 q => by
    cases f with
    | next => exact q.elim fun σ' ⟨H', I', z⟩ => h2.run pins s1 σ' H' D I' (hu σ' H' z)
    | ret v => exact q
    | brk => exact q
    | cont => exact q)⟩

/-! ### rules with the written part named (for blocks of comprehensions) -/
theorem ixL {X : Cx} {K : PySem.W.Frag} (h : X.K = K) : IxR X (rIxL K) := h ▸ ix_list
theorem slL {X : Cx} {K : PySem.W.Frag} (h : X.K = K) : SlR X (rSlL K) := h ▸ sl_list
def rLenL (K : PySem.W.Frag) : List V → Hp → VK → Prop := fun xs H Q => ∃ (p : Addr) (ys : List V), xs = [.ref p] ∧ (SqL K H p ys ∨ SqT K H p ys) ∧ Q (.int ys.length) H
theorem lenL {X : Cx} {K : PySem.W.Frag} (h : X.K = K) : CallR X (.builtin "len") (rLenL K) := h ▸ call_len_seq
theorem sumL {X : Cx} {K : PySem.W.Frag} (h : X.K = K) (hc : X.calm = true) : CallR X (.builtin "sum") (rSum K) := h ▸ cr_sum hc
theorem maxL {X : Cx} {K : PySem.W.Frag} (h : X.K = K) (hc : X.calm = true) : CallR X (.builtin "max") (rMax K) := h ▸ cr_max hc
theorem minL {X : Cx} {K : PySem.W.Frag} (h : X.K = K) (hc : X.calm = true) : CallR X (.builtin "min") (rMin K) := h ▸ cr_min hc
theorem isiL {X : Cx} {K : PySem.W.Frag} (h : X.K = K) : CallR X (.builtin "isinstance") (rIsi K) := h ▸ call_isi
theorem reprL {X : Cx} {K : PySem.W.Frag} (h : X.K = K) (hA : X.A.guards = some []) {k : Nat} (hr : Room k X.A) : CallR X (.builtin "repr") (rRepr K) := h ▸ call_repr hA hr
theorem pg_tupL {X : Cx} {K : PySem.W.Frag} {es : List Expr} {j : Nat} {pos : Pos} {t : TGs} {n : Nat} (h : X.K = K) (hc : X.calm = true) (hs : PGs X es t)
    (hn : (assignEach es X.env).length = n := by rfl) (hst : (assignEach es X.env).findIdx? (·.1) = none := by rfl) : PG X (.Tuple es j pos) (gTup K n t) := h ▸ pg_tup hc hs hn hst
theorem enumL {X : Cx} {K : PySem.W.Frag} {elts : List Expr} {kk : Nat} {tpos p pos : Pos} {e : Expr} {ta : TA} (h : X.K = K) (hg : Gl X "enumerate") (hm : X.mg "enumerate" = none) (ha : PA X [e] ta)
    (hs : starEach [e] X.env = [(false, eval e X.env)] := by rfl) : PI X (.Tuple elts kk tpos) (.Call (.Name "enumerate" p) [e] [] pos) (iEnum K ta) := h ▸ pi_enum hg hm ha hs
theorem zipL {X : Cx} {K : PySem.W.Frag} {elts : List Expr} {kk : Nat} {tpos p pos : Pos} {e e2 : Expr} {ta : TA} (h : X.K = K) (hg : Gl X "zip") (hm : X.mg "zip" = none) (ha : PA X [e, e2] ta)
    (hs : starEach [e, e2] X.env = (false, eval e X.env) :: starEach [e2] X.env := by rfl) (hpl : (backTo pos (starEach [e2] X.env)).any (·.1) = false := by rfl) :
    PI X (.Tuple elts kk tpos) (.Call (.Name "zip" p) [e, e2] [] pos) (iZip K ta) := h ▸ pi_zip hg hm ha hs hpl
theorem pi_tupL {X : Cx} {K : PySem.W.Frag} {tg l : Expr} {tl : TE} (h : X.K = K) (hl : PE X l tl) : PI X tg l (iTup K tl) := h ▸ pi_tup hl
theorem pi_listL {X : Cx} {K : PySem.W.Frag} {tg l : Expr} {tl : TE} (h : X.K = K) (hl : PE X l tl) : PI X tg l (iList K tl) := h ▸ pi_list hl
def rListL (K : PySem.W.Frag) : List V → Hp → VK → Prop := fun xs H Q => ∃ (p : Addr) (ys : List V), xs = [.ref p] ∧ (SqL K H p ys ∨ SqT K H p ys) ∧ ∀ l, H l = none → Q (.ref l) (upd H l (.lst ys))
theorem listL {X : Cx} {K : PySem.W.Frag} (h : X.K = K) : CallR X (.type "list") (rListL K) := h ▸ call_list_of
theorem eqD {X : Cx} {K : PySem.W.Frag} (h : X.K = K) {k : Nat} (hr : Room k X.A) : OpR X (compareOp .Eq) (rEqD K) := h ▸ op_eqD hr.units
theorem neD {X : Cx} {K : PySem.W.Frag} (h : X.K = K) {k : Nat} (hr : Room k X.A) : OpR X (compareOp .NotEq) (rNeD K) := h ▸ op_neD hr.units

/-! ### a power of a great int, the exponent small -/
def CPow3 (i j : Int) : Prop := j = 3 ∧ 0 ≤ i ∧ i.natAbs < 2 ^ 200
theorem op_pow3 {X : Cx} : OpR X (binaryOp .Pow) (rI CPow3 fun i j => .int (i ^ j.toNat)) := opI fun i j t u s Q E hc q => by
  obtain ⟨rfl, h0, h1⟩ := hc
  by_cases e : (i == 0 || i == 1) = true
  · refine PySem.AutoIntOps.pow_1 (by decide) (by decide) e ?_
    have e2 : i ^ (3 : Int).toNat = i := by
      rcases (Bool.or_eq_true _ _).mp e with z | z
      · rw [eq_of_beq z]; rfl
      · rw [eq_of_beq z]; rfl
    rw [e2] at q
    exact q
  · refine PySem.AutoIntOps.pow_4 (by decide) (by decide) e ?_ ?_ q
    · intro z
      have := eq_of_beq z
      omega
    · intro z
      unfold Builtin.Int.intTooBig at z
      have z3 := of_decide_eq_true z
      have b : Builtin.Int.intBits i ≤ 201 := by
        unfold Builtin.Int.intBits
        have y := PySem.Flt.log2_lt_of (show 0 < 200 by decide) h1
        split <;> omega
      have e : bitsLine = 134217728 := by decide
      rw [e] at z3
      omega
end Sd

namespace Sd
open PySem PySem.Spec PyProof.Rows L2

/-! ### heaps -/
/-- all but T is as it was -/
def But (T : Addr) (H H' : Hp) : Prop := ∀ b o, H b = some o → b ≠ T → H' b = some o
theorem But.refl (T : Addr) (H : Hp) : But T H H := fun _ _ h _ => h
theorem But.trans {T : Addr} {H H1 H2 : Hp} (a : But T H H1) (b : But T H1 H2) : But T H H2 := fun c o h n => b c o (a c o h n) n
theorem But.of {T : Addr} {H H' : Hp} (s : Same H H') : But T H H' := fun b o h _ => s b o h
theorem But.lst {T : Addr} {H H' : Hp} {a : Addr} {o : HO} (s : But T H H') (h : H a = some o) (n : a ≠ T) : H' a = some o := s a o h n
theorem new_same {H : Hp} {p : Addr} {o : HO} (h : H p = none) : Same H (upd H p o) := fun b x e => by
  rw [upd_ne (ne_of_none e h)]
  exact e
theorem upd_but {H : Hp} {T : Addr} {o : HO} : But T H (upd H T o) := fun b x e n => by
  rw [upd_ne n]
  exact e
theorem free_but {T : Addr} {H H' : Hp} {p : Addr} {o : HO} (s : But T H H') (hT : H T = some o) (h : H' p = none) (hT' : H' T ≠ none) : H p = none := by
  cases q : H p with
  | none => rfl
  | some u =>
    by_cases e : p = T
    · subst e
      exact absurd h hT'
    · rw [s p u q e] at h
      cases h
/-- the law's tank -/
def Tank (H : Hp) (T : Addr) (c : Int) : Prop := ∃ x y z : Int, H T = some (.lst [.int x, .int y, .int z]) ∧ 0 ≤ x ∧ 0 ≤ y ∧ y < 2 ^ 100 ∧ 0 ≤ z ∧ z ≤ c
theorem Tank.some {H : Hp} {T : Addr} {c : Int} (h : Tank H T c) : ∃ o, H T = some o := let ⟨_, _, _, e, _⟩ := h; ⟨_, e⟩
theorem Tank.same {H H' : Hp} {T : Addr} {c : Int} (h : Tank H T c) (s : Same H H') : Tank H' T c := let ⟨x, y, z, e, r⟩ := h; ⟨x, y, z, s _ _ e, r⟩
theorem Tank.ne {H : Hp} {T p : Addr} {c : Int} (h : Tank H T c) (n : H p = none) : p ≠ T := fun e => by
  obtain ⟨o, q⟩ := h.some
  rw [e, q] at n
  cases n
theorem Tank.up {H : Hp} {T p : Addr} {c : Int} {o : HO} (h : Tank H T c) (n : H p = none) : Tank (upd H p o) T c := h.same (new_same n)
theorem Tank.mono {H : Hp} {T : Addr} {c d : Int} (h : Tank H T c) (l : c ≤ d) : Tank H T d := let ⟨x, y, z, e, a, b, r, f, g⟩ := h; ⟨x, y, z, e, a, b, r, f, by omega⟩

/-! ### lists of ints -/
theorem tyx_list {K : PySem.W.Frag} {H : Hp} {a : Addr} {xs : List V} (h : SqL K H a xs) : TyX K H (.ref a) (.type "list") := by
  rcases h with (h | ⟨o, h⟩) | ⟨o, its, n, hk, hc, _⟩
  · exact .base (.lst h)
  · exact .base (.frz h)
  · exact .kList hk hc
theorem kit_int_int {K : PySem.W.Frag} : PySem.W.kitOne K (.type "int") (.type "int") = some true := kit_ty (by decide +kernel)
theorem kit_int_bool {K : PySem.W.Frag} : PySem.W.kitOne K (.type "int") (.type "bool") = some false := kit_ty (by decide +kernel)
theorem kit_list_list {K : PySem.W.Frag} : PySem.W.kitOne K (.type "list") (.type "list") = some true := kit_ty (by decide +kernel)
/-- a rim: from 1 to 40 numbers from 0 to 10 ** 30 -/
structure Rim (ns : List Int) : Prop where
  pos : 1 ≤ ns.length
  le : ns.length ≤ 40
  all : ∀ n ∈ ns, 0 ≤ n ∧ n ≤ 1000000000000000000000000000000
theorem sz40 {n : Nat} (h : n ≤ 100000) : n < sizeLine := Nat.lt_of_le_of_lt h (by decide)
theorem sz40' {n : Nat} (h : n ≤ 100000) : n ≤ sizeLine := Nat.le_of_lt (sz40 h)
theorem int_at {ns : List Int} {i : Nat} {x : V} (h : (ns.map V.int)[i]? = some x) : ∃ n, ns[i]? = some n ∧ x = .int n := by
  rw [List.getElem?_map] at h
  cases e : ns[i]? with
  | none =>
    rw [e] at h
    cases h
  | some n =>
    rw [e] at h
    exact ⟨n, rfl, (Option.some.inj h).symm⟩
theorem at_int {ns : List Int} {i : Nat} {n : Int} (h : ns[i]? = some n) : (ns.map V.int)[i]? = some (.int n) := by
  rw [List.getElem?_map, h]
  rfl
/-- xs[i] at an int that lies within -/
theorem at_in {ns : List Int} {i : Int} (h0 : 0 ≤ i) (h1 : i < ns.length) : ∃ n, ns[i.toNat]? = some n ∧ atI (ns.map V.int) i = some (.int n) := by
  have h2 : i.toNat < ns.length := by omega
  obtain ⟨j, rfl⟩ : ∃ j : Nat, i = (j : Int) := ⟨i.toNat, by omega⟩
  have h3 : j < ns.length := by omega
  exact ⟨ns[j], List.getElem?_eq_getElem h3, atI_nat (at_int (List.getElem?_eq_getElem h3))⟩
theorem ixN_in {n : Nat} {i : Int} (h0 : 0 ≤ i) (h1 : i < n) : ixN n i = some i.toNat := by
  unfold ixN
  rw [if_pos h0, if_pos h1]

/-! ### turning, mirroring -/
/-- what stands at slot j behind a turn by t -/
def rot (ns : List Int) (t : Int) : List Int := (List.range ns.length).map fun (j : Nat) => ns.getD ((((j : Int) - t) % (ns.length : Int)).toNat) 0
def mir (ns : List Int) : List Int := (List.range ns.length).map fun (j : Nat) => ns.getD (((-(j : Int)) % (ns.length : Int)).toNat) 0
theorem rot_len (ns : List Int) (t : Int) : (rot ns t).length = ns.length := by
  unfold rot
  rw [List.length_map, List.length_range]
theorem mir_len (ns : List Int) : (mir ns).length = ns.length := by
  unfold mir
  rw [List.length_map, List.length_range]
theorem rot_at {ns : List Int} {t : Int} {j : Nat} (h : j < ns.length) : (rot ns t)[j]? = some (ns.getD ((((j : Int) - t) % (ns.length : Int)).toNat) 0) := by
  unfold rot
  rw [List.getElem?_map, List.getElem?_range h]
  rfl
theorem mir_at {ns : List Int} {j : Nat} (h : j < ns.length) : (mir ns)[j]? = some (ns.getD (((-(j : Int)) % (ns.length : Int)).toNat) 0) := by
  unfold mir
  rw [List.getElem?_map, List.getElem?_range h]
  rfl
theorem mod_in {i : Int} {n : Nat} (h : 0 < n) : 0 ≤ i % (n : Int) ∧ i % (n : Int) < n := ⟨Int.emod_nonneg _ (by omega), Int.emod_lt_of_pos _ (by omega)⟩
theorem getD_at {ns : List Int} {j : Nat} {n : Int} (h : ns[j]? = some n) : ns.getD j 0 = n := by
  rw [List.getD_eq_getElem?_getD, h]
  rfl
theorem at_getD {ns : List Int} {j : Nat} (h : j < ns.length) : ns[j]? = some (ns.getD j 0) := by
  rw [List.getD_eq_getElem?_getD, List.getElem?_eq_getElem h]
  rfl
theorem rot_all {ns : List Int} {t : Int} {P : Int → Prop} (h : ∀ n ∈ ns, P n) : ∀ n ∈ rot ns t, P n := fun n hn => by
  unfold rot at hn
  obtain ⟨j, hj, rfl⟩ := List.mem_map.mp hn
  have hj := List.mem_range.mp hj
  have hm := mod_in (i := (j : Int) - t) (show 0 < ns.length by omega)
  exact h _ (List.mem_of_getElem? (at_getD (show (((j : Int) - t) % (ns.length : Int)).toNat < ns.length by omega)))
theorem mir_all {ns : List Int} {P : Int → Prop} (h : ∀ n ∈ ns, P n) : ∀ n ∈ mir ns, P n := fun n hn => by
  unfold mir at hn
  obtain ⟨j, hj, rfl⟩ := List.mem_map.mp hn
  have hj := List.mem_range.mp hj
  have hm := mod_in (i := -(j : Int)) (show 0 < ns.length by omega)
  exact h _ (List.mem_of_getElem? (at_getD (show ((-(j : Int)) % (ns.length : Int)).toNat < ns.length by omega)))
theorem Rim.rot {ns : List Int} (h : Rim ns) (t : Int) : Rim (rot ns t) := ⟨by rw [rot_len]; exact h.pos, by rw [rot_len]; exact h.le, rot_all h.all⟩
theorem Rim.mir {ns : List Int} (h : Rim ns) : Rim (mir ns) := ⟨by rw [mir_len]; exact h.pos, by rw [mir_len]; exact h.le, mir_all h.all⟩
/-- filling slot by slot: found[(i + t) % n] = ns[i] for i below k leaves rot where it was filled -/
theorem rot_back {ns : List Int} {t : Int} {i : Nat} (hi : i < ns.length) : (rot ns t)[((((i : Int) + t) % (ns.length : Int)).toNat)]? = ns[i]? := by
  have hm := mod_in (i := (i : Int) + t) (show 0 < ns.length by omega)
  rw [rot_at (by omega), at_getD hi]
  have e : ((((((i : Int) + t) % (ns.length : Int)).toNat : Nat) : Int) - t) % (ns.length : Int) = (i : Int) := by
    rw [Int.toNat_of_nonneg hm.1, Int.emod_sub_emod]
    rw [show (i : Int) + t - t = (i : Int) by omega]
    exact Int.emod_eq_of_lt (by omega) (by omega)
  rw [e, Int.toNat_natCast]
theorem mir_back {ns : List Int} {i : Nat} (hi : i < ns.length) : (mir ns)[((((0 : Int) - (i : Int)) % (ns.length : Int)).toNat)]? = ns[i]? := by
  have hm := mod_in (i := (0 : Int) - (i : Int)) (show 0 < ns.length by omega)
  rw [mir_at (by omega), at_getD hi]
  have e : (-((((((0 : Int) - (i : Int)) % (ns.length : Int)).toNat : Nat) : Int))) % (ns.length : Int) = (i : Int) := by
    rw [Int.toNat_of_nonneg hm.1]
    rw [show -(((0 : Int) - (i : Int)) % (ns.length : Int)) = 0 - ((0 : Int) - (i : Int)) % (ns.length : Int) by omega, Int.sub_emod_emod]
    rw [show (0 : Int) - (0 - (i : Int)) = (i : Int) by omega]
    exact Int.emod_eq_of_lt (by omega) (by omega)
  rw [e, Int.toNat_natCast]
/-- filled at the places f 0, f 1 .. f (k - 1) as res is -/
def Filled (f : Nat → Nat) (res ms : List Int) (k : Nat) : Prop := ms.length = res.length ∧ ∀ p, (∃ j, j < k ∧ f j = p) → ms[p]? = res[p]?
theorem Filled.step {f : Nat → Nat} {res ms : List Int} {k : Nat} {v : Int} (h : Filled f res ms k) (e : res[f k]? = some v) : Filled f res (ms.set (f k) v) (k + 1) := by
  refine ⟨by rw [List.length_set]; exact h.1, fun p ⟨j, hj, hp⟩ => ?_⟩
  have hk : f k < ms.length := by
    rw [h.1]
    exact (List.getElem?_eq_some_iff.mp e).1
  by_cases q : f k = p
  · subst q
    rw [List.getElem?_set_self hk, e]
  · rw [List.getElem?_set_ne q]
    refine h.2 p ⟨j, ?_, hp⟩
    rcases Nat.lt_or_ge j k with z | z
    · exact z
    · have : j = k := by omega
      subst this
      exact absurd hp q
theorem Filled.done {f : Nat → Nat} {res ms : List Int} {n : Nat} (h : Filled f res ms n) (on : ∀ p, p < res.length → ∃ j, j < n ∧ f j = p) : ms = res := by
  refine List.ext_getElem? fun p => ?_
  by_cases q : p < res.length
  · exact h.2 p (on p q)
  · rw [List.getElem?_eq_none (by rw [h.1]; omega), List.getElem?_eq_none (by omega)]
theorem rot_on {ns : List Int} {t : Int} {p : Nat} (hp : p < ns.length) : ∃ j, j < ns.length ∧ (((j : Int) + t) % (ns.length : Int)).toNat = p := by
  have hm := mod_in (i := (p : Int) - t) (show 0 < ns.length by omega)
  refine ⟨(((p : Int) - t) % (ns.length : Int)).toNat, by omega, ?_⟩
  have e : ((((((p : Int) - t) % (ns.length : Int)).toNat : Nat) : Int) + t) % (ns.length : Int) = (p : Int) := by
    rw [Int.toNat_of_nonneg hm.1, Int.emod_add_emod]
    rw [show (p : Int) - t + t = (p : Int) by omega]
    exact Int.emod_eq_of_lt (by omega) (by omega)
  rw [e, Int.toNat_natCast]
theorem mir_on {ns : List Int} {p : Nat} (hp : p < ns.length) : ∃ j, j < ns.length ∧ (((0 : Int) - (j : Int)) % (ns.length : Int)).toNat = p := by
  have hm := mod_in (i := (0 : Int) - (p : Int)) (show 0 < ns.length by omega)
  refine ⟨(((0 : Int) - (p : Int)) % (ns.length : Int)).toNat, by omega, ?_⟩
  have e : ((0 : Int) - (((((0 : Int) - (p : Int)) % (ns.length : Int)).toNat : Nat) : Int)) % (ns.length : Int) = (p : Int) := by
    rw [Int.toNat_of_nonneg hm.1, Int.sub_emod_emod]
    rw [show (0 : Int) - (0 - (p : Int)) = (p : Int) by omega]
    exact Int.emod_eq_of_lt (by omega) (by omega)
  rw [e, Int.toNat_natCast]
theorem map_set {ns : List Int} {j : Nat} {v : Int} : (ns.map V.int).set j (.int v) = (ns.set j v).map V.int := by
  rw [List.map_set]
theorem take_next {l : List Int} {i : Nat} {v : Int} (h : l[i]? = some v) : (l.take i).map V.int ++ [.int v] = (l.take (i + 1)).map V.int := by
  rw [List.take_add_one, h, List.map_append]
  rfl
theorem take_all {l : List Int} {n : Nat} (h : l.length ≤ n) : l.take n = l := List.take_of_length_le h
theorem rep_one (v : Int) : ∀ k : Nat, (List.replicate k [V.int v]).flatten = (List.replicate k v).map V.int
  | 0 => rfl
  | k + 1 => by
    rw [List.replicate_succ, List.replicate_succ, List.flatten_cons, List.map_cons, rep_one v k]
    rfl
theorem rep_map (ns : List Int) : ∀ k : Nat, (List.replicate k (ns.map V.int)).flatten = ((List.replicate k ns).flatten).map V.int
  | 0 => rfl
  | k + 1 => by
    rw [List.replicate_succ, List.replicate_succ, List.flatten_cons, List.flatten_cons, List.map_append, rep_map ns k]
theorem rep_len (ns : List Int) : ∀ k : Nat, ((List.replicate k ns).flatten).length = k * ns.length
  | 0 => by simp
  | k + 1 => by
    rw [List.replicate_succ, List.flatten_cons, List.length_append, rep_len ns k, Nat.succ_mul, Nat.add_comm]
theorem rep_mem {ns : List Int} {k : Nat} {x : Int} (h : x ∈ (List.replicate k ns).flatten) : x ∈ ns := by
  obtain ⟨l, hl, hx⟩ := List.mem_flatten.mp h
  rw [(List.mem_replicate.mp hl).2] at hx
  exact hx
theorem cut_take (ns : List Int) (s : Int) (h0 : 0 ≤ s) : cutV (ns.map V.int) none (some s) = (ns.take s.toNat).map V.int := by
  obtain ⟨k, rfl⟩ : ∃ k : Nat, s = (k : Int) := ⟨s.toNat, by omega⟩
  unfold cutV
  rw [HT.sIx_none, HT.sIx_nat, Int.toNat_natCast, List.drop_zero, Nat.sub_zero, List.map_take]
  rcases Nat.le_total k (ns.map V.int).length with z | z
  · rw [Nat.min_eq_left z]
  · rw [Nat.min_eq_right z, List.take_of_length_le (Nat.le_refl _), List.take_of_length_le z]

/-! ### data: lists of ints, for repr and == -/
def dI (ns : List Int) : PyData := .list (ns.map PyData.int)
theorem dpAll_ints {K : PySem.W.Frag} {H : Hp} : ∀ ns : List Int, DpAll K H (ns.map V.int) (ns.map PyData.int)
  | [] => .nil
  | n :: ns => .cons (.int n) (dpAll_ints ns)
theorem dp_ints {K : PySem.W.Frag} {H : Hp} {a : Addr} {ns : List Int} (h : SqL K H a (ns.map V.int)) : Dp K H (.ref a) (dI ns) := .lst h (dpAll_ints ns)
/-- what repr and == ask of data -/
structure RP (d : PyData) : Prop where
  sh : d.showable = true
  nd : d.hasDict = false
  cl : d.canLay0 = true
  dp : d.depth ≤ 32
theorem RP.shaped {d : PyData} (h : RP d) : SeqAt.shaped d = true := by
  have := h.dp
  exact Bool.and_eq_true_iff.mpr ⟨h.cl, decide_eq_true (by omega)⟩
theorem RP.refl {d : PyData} (h : RP d) : PyData.eqv d d = true := SeqAt.eqv_refl d h.cl
theorem rp_int {i : Int} (h : i.natAbs < 2 ^ 1000) : RP (.int i) := ⟨by simp only [PyData.showable]; exact decide_eq_true (Nat.lt_trans (PySem.Flt.log2_lt_of (by decide) h) (by decide)), by simp only [PyData.hasDict], by simp only [PyData.canLay0], by simp only [PyData.depth]; omega⟩
/-- all of a list: depth one less -/
structure RPs (k : Nat) (ds : List PyData) : Prop where
  sh : PyData.showableAll ds = true
  nd : PyData.hasDictAll ds = false
  cl : PyData.canLayAll0 ds = true
  dp : PyData.depthAll ds ≤ k
theorem RPs.nil {k : Nat} : RPs k [] := ⟨by simp only [PyData.showableAll], by simp only [PyData.hasDictAll], by simp only [PyData.canLayAll0], by simp only [PyData.depthAll]; omega⟩
theorem RPs.cons {k : Nat} {d : PyData} {ds : List PyData} (h : RP d) (hk : d.depth ≤ k) (hs : RPs k ds) : RPs k (d :: ds) := by
  refine ⟨?_, ?_, ?_, ?_⟩
  · simp only [PyData.showableAll, h.sh, hs.sh, Bool.and_self]
  · simp only [PyData.hasDictAll, h.nd, hs.nd, Bool.or_self]
  · simp only [PyData.canLayAll0, h.cl, hs.cl, Bool.and_self]
  · simp only [PyData.depthAll]
    have := hs.dp
    omega
theorem RPs.list {k : Nat} {ds : List PyData} (h : RPs k ds) (hk : k ≤ 31) : RP (.list ds) ∧ (PyData.list ds).depth ≤ k + 1 := by
  have hd : (PyData.list ds).depth ≤ k + 1 := by
    simp only [PyData.depth]
    have := h.dp
    omega
  refine ⟨⟨?_, ?_, ?_, by omega⟩, hd⟩
  · simp only [PyData.showable, h.sh]
  · simp only [PyData.hasDict, h.nd]
  · simp only [PyData.canLay0, h.cl]
theorem rps_ints : ∀ {ns : List Int}, (∀ n ∈ ns, n.natAbs < 2 ^ 1000) → RPs 0 (ns.map PyData.int)
  | [], _ => RPs.nil
  | n :: ns, h => RPs.cons (rp_int (h n List.mem_cons_self)) (by simp only [PyData.depth]; omega) (rps_ints fun x hx => h x (List.mem_cons_of_mem _ hx))
theorem rp_ints {ns : List Int} (h : ∀ n ∈ ns, n.natAbs < 2 ^ 1000) : RP (dI ns) := ((rps_ints h).list (by omega)).1
theorem dp_ints_depth {ns : List Int} (h : ∀ n ∈ ns, n.natAbs < 2 ^ 1000) : (dI ns).depth ≤ 1 := ((rps_ints h).list (by omega)).2
theorem sum_bound {B : Nat} : ∀ {l : List Nat}, (∀ x ∈ l, x ≤ B) → l.sum ≤ B * l.length
  | [], _ => Nat.zero_le _
  | x :: l, h => by
    have h1 := h x List.mem_cons_self
    have h2 := sum_bound (B := B) (l := l) fun y hy => h y (List.mem_cons_of_mem _ hy)
    rw [List.sum_cons, List.length_cons, Nat.mul_succ]
    omega
theorem shownAll_map (ds : List PyData) : PyData.shownAll ds = ds.map PyData.shown := by
  induction ds with
  | nil => rfl
  | cons d ds ih =>
    simp only [PyData.shownAll, List.map_cons, ih]
/-- how long a list's text is at most, by its items' -/
theorem shown_list {B : Nat} {ds : List PyData} (h : ∀ d ∈ ds, d.shown.length ≤ B) : (PyData.list ds).shown.length ≤ (B + 2) * ds.length + 3 := by
  simp only [PyData.shown]
  have h1 := listText_len_le (PyData.shownAll ds)
  have h2 : ((PyData.shownAll ds).map (·.length)).sum ≤ B * ds.length := by
    rw [shownAll_map, List.map_map]
    have := sum_bound (B := B) (l := ds.map ((fun x => x.length) ∘ PyData.shown)) fun x hx => by
      obtain ⟨d, hd, rfl⟩ := List.mem_map.mp hx
      exact h d hd
    rw [List.length_map] at this
    exact this
  have h3 : (PyData.shownAll ds).length = ds.length := by rw [shownAll_map, List.length_map]
  rw [h3] at h1
  rw [Nat.add_mul]
  omega
theorem shown_int {i : Int} (h : i.natAbs < 2 ^ 1000) : (PyData.int i).shown.length ≤ 1001 := by
  simp only [PyData.shown]
  rw [PySem.ofString_length]
  exact int_text_length_le (by decide) (PySem.Flt.log2_lt_of (by decide) h)
theorem shown_ints {ns : List Int} (h : ∀ n ∈ ns, n.natAbs < 2 ^ 1000) : (dI ns).shown.length ≤ 1003 * ns.length + 3 := by
  have := shown_list (B := 1001) (ds := ns.map PyData.int) fun d hd => by
    obtain ⟨n, hn, rfl⟩ := List.mem_map.mp hd
    exact shown_int (h n hn)
  rw [List.length_map] at this
  exact this
theorem small_abs {n : Int} (h0 : 0 ≤ n) (h1 : n ≤ 1000000000000000000000000000000) : n.natAbs < 2 ^ 1000 := Nat.lt_of_le_of_lt (m := 1000000000000000000000000000000) (by omega) (by decide +kernel)
theorem Rim.abs {ns : List Int} (h : Rim ns) : ∀ n ∈ ns, n.natAbs < 2 ^ 1000 := fun n hn => small_abs (h.all n hn).1 (h.all n hn).2
theorem Rim.rp {ns : List Int} (h : Rim ns) : RP (dI ns) := rp_ints h.abs
theorem Rim.fits {ns : List Int} (h : Rim ns) : (dI ns).shown.length ≤ sizeLine := by
  have := shown_ints h.abs
  have := h.le
  exact sz40' (by omega)
/-- an object that was not there is written -/
theorem same_over {H H4 : Hp} {l : Addr} {o : HO} (s : Same H H4) (n : H l = none) : Same H (upd H4 l o) := fun b x e => by
  rw [upd_ne (ne_of_none e n)]
  exact s b x e
/-- turned back -/
theorem rot_rot {ns : List Int} {t : Int} : rot (rot ns t) (0 - t) = ns := by
  refine List.ext_getElem? fun j => ?_
  by_cases h : j < ns.length
  · rw [rot_at (by rw [rot_len]; exact h), rot_len]
    have hm := mod_in (i := (j : Int) - (0 - t)) (show 0 < ns.length by omega)
    have e := rot_back (t := t) h
    rw [show (j : Int) - (0 - t) = (j : Int) + t by omega]
    rw [show (j : Int) - (0 - t) = (j : Int) + t by omega] at hm
    rw [← e, ← at_getD (by rw [rot_len]; omega)]
  · rw [List.getElem?_eq_none (by rw [rot_len, rot_len]; omega), List.getElem?_eq_none (by omega)]
theorem mir_mir {ns : List Int} : mir (mir ns) = ns := by
  refine List.ext_getElem? fun j => ?_
  by_cases h : j < ns.length
  · rw [mir_at (by rw [mir_len]; exact h), mir_len]
    have hm := mod_in (i := (0 : Int) - (j : Int)) (show 0 < ns.length by omega)
    have e := mir_back h
    rw [show -(j : Int) = (0 : Int) - (j : Int) by omega]
    rw [← e, ← at_getD (by rw [mir_len]; omega)]
  · rw [List.getElem?_eq_none (by rw [mir_len, mir_len]; omega), List.getElem?_eq_none (by omega)]
end Sd

namespace Sd
open PySem PySem.Spec PyProof.Rows L2

/-! ### lights -/
def Ab (k : Nat) (ns : List Int) : Prop := ∀ n ∈ ns, n.natAbs < 2 ^ k
theorem pow_up {a b : Nat} (h : a ≤ b) : (2 : Nat) ^ a ≤ 2 ^ b := Nat.pow_le_pow_right (by decide) h
theorem Ab.mono {k j : Nat} {ns : List Int} (h : Ab k ns) (l : k ≤ j) : Ab j ns := fun n hn => Nat.lt_of_lt_of_le (h n hn) (pow_up l)
theorem Rim.ab {ns : List Int} (h : Rim ns) : Ab 100 ns := fun n hn => by
  have := h.all n hn
  exact Nat.lt_of_le_of_lt (m := 1000000000000000000000000000000) (by omega) (by decide +kernel)
theorem Ab.rot {k : Nat} {ns : List Int} (h : Ab k ns) (t : Int) : Ab k (rot ns t) := rot_all h
theorem Ab.at {k : Nat} {ns : List Int} (h : Ab k ns) {i : Nat} {n : Int} (e : ns[i]? = some n) : n.natAbs < 2 ^ k := h n (List.mem_of_getElem? e)
def prods (ns ms : List Int) : List Int := List.zipWith (· * ·) ns ms
theorem prods_len (ns ms : List Int) : (prods ns ms).length = min ns.length ms.length := List.length_zipWith
theorem prods_at {ns ms : List Int} {i : Nat} {x y : Int} (h1 : ns[i]? = some x) (h2 : ms[i]? = some y) : (prods ns ms)[i]? = some (x * y) := by
  unfold prods
  rw [List.getElem?_zipWith, h1, h2]
theorem prods_ab {a b : Nat} : ∀ {ns ms : List Int}, Ab a ns → Ab b ms → Ab (a + b) (prods ns ms)
  | [], _, _, _ => fun n hn => by
    simp only [prods, List.zipWith_nil_left] at hn
    exact (List.not_mem_nil hn).elim
  | _ :: _, [], _, _ => fun n hn => by
    simp only [prods, List.zipWith_nil_right] at hn
    exact (List.not_mem_nil hn).elim
  | x :: ns, y :: ms, h1, h2 => fun n hn => by
    have hn : n ∈ x * y :: prods ns ms := hn
    rcases List.mem_cons.mp hn with e | e
    · subst e
      exact wide_lt (h1 x List.mem_cons_self) (h2 y List.mem_cons_self)
    · exact prods_ab (fun z hz => h1 z (List.mem_cons_of_mem _ hz)) (fun z hz => h2 z (List.mem_cons_of_mem _ hz)) n e
theorem sum_ab {k : Nat} : ∀ {ns : List Int}, Ab k ns → ns.sum.natAbs ≤ ns.length * 2 ^ k
  | [], _ => Nat.zero_le _
  | x :: ns, h => by
    have h1 := h x List.mem_cons_self
    have h2 := sum_ab (k := k) (ns := ns) fun z hz => h z (List.mem_cons_of_mem _ hz)
    rw [List.sum_cons, List.length_cons, Nat.succ_mul]
    have := Int.natAbs_add_le x ns.sum
    omega
theorem sum_lt {k : Nat} {ns : List Int} (h : Ab k ns) (hl : ns.length < 1024) : ns.sum.natAbs < 2 ^ (k + 10) := by
  have h1 := sum_ab h
  rw [Nat.pow_add]
  refine Nat.lt_of_le_of_lt h1 ?_
  rw [Nat.mul_comm]
  exact Nat.mul_lt_mul_of_pos_left hl (Nat.two_pow_pos k)
/-- the light at a turn -/
def lightV (ns ms : List Int) (t : Int) : Int := (prods ns (rot ms t)).sum
def lightsV (ns ms : List Int) : List Int := (List.range ns.length).map fun (i : Nat) => lightV ns ms (i : Int)
theorem lightsV_len (ns ms : List Int) : (lightsV ns ms).length = ns.length := by
  unfold lightsV
  rw [List.length_map, List.length_range]
theorem lightsV_at {ns ms : List Int} {i : Nat} (h : i < ns.length) : (lightsV ns ms)[i]? = some (lightV ns ms (i : Int)) := by
  unfold lightsV
  rw [List.getElem?_map, List.getElem?_range h]
  rfl
theorem lightV_lt {a b : Nat} {ns ms : List Int} (h1 : Ab a ns) (h2 : Ab b ms) (hl : ns.length < 1024) (t : Int) : (lightV ns ms t).natAbs < 2 ^ (a + b + 10) := by
  refine sum_lt (prods_ab h1 (h2.rot t)) ?_
  rw [prods_len]
  omega
theorem lightsV_ab {a b : Nat} {ns ms : List Int} (h1 : Ab a ns) (h2 : Ab b ms) (hl : ns.length < 1024) : Ab (a + b + 10) (lightsV ns ms) := fun n hn => by
  unfold lightsV at hn
  obtain ⟨i, _, rfl⟩ := List.mem_map.mp hn
  exact lightV_lt h1 h2 hl i
theorem rot_mod (ms : List Int) (t : Int) : rot ms (t % (ms.length : Int)) = rot ms t := by
  unfold rot
  refine List.map_congr_left fun j _ => ?_
  rw [Int.sub_emod_emod]
theorem lightV_mod {ns ms : List Int} (t : Int) : lightV ns ms (t % (ms.length : Int)) = lightV ns ms t := by
  unfold lightV
  rw [rot_mod]
/-- lights[t % n], whatever the turn -/
theorem lights_any {ns ms : List Int} (t : Int) (hl : ns.length = ms.length) (h1 : 1 ≤ ns.length) : atI ((lightsV ns ms).map V.int) (t % (ns.length : Int)) = some (.int (lightV ns ms t)) := by
  have hm := mod_in (i := t) (show 0 < ns.length by omega)
  obtain ⟨n, hn, hat⟩ := at_in (ns := lightsV ns ms) hm.1 (by rw [lightsV_len]; exact hm.2)
  rw [lightsV_at (by omega), Int.toNat_of_nonneg hm.1, hl, lightV_mod] at hn
  rw [hat, ← Option.some.inj hn]
/-! ### the greatest, the places of some -/
theorem max_ex : ∀ {ns : List Int}, 1 ≤ ns.length → ∃ m, m ∈ ns ∧ ∀ y ∈ ns, y ≤ m
  | [], h => absurd h (by decide)
  | [x], _ => ⟨x, List.mem_cons_self, fun y hy => by rw [List.mem_singleton.mp hy]; exact Int.le_refl _⟩
  | x :: z :: ns, _ => by
    obtain ⟨m, hm, hg⟩ := max_ex (ns := z :: ns) (by simp)
    by_cases h : x ≤ m
    · refine ⟨m, List.mem_cons_of_mem _ hm, fun y hy => ?_⟩
      rcases List.mem_cons.mp hy with e | e
      · rw [e]
        exact h
      · exact hg y e
    · refine ⟨x, List.mem_cons_self, fun y hy => ?_⟩
      rcases List.mem_cons.mp hy with e | e
      · rw [e]
        exact Int.le_refl _
      · have := hg y e
        omega
theorem max_one {ns : List Int} {m m' : Int} (h1 : m ∈ ns) (h2 : ∀ y ∈ ns, y ≤ m) (h3 : m' ∈ ns) (h4 : ∀ y ∈ ns, y ≤ m') : m = m' := Int.le_antisymm (h4 _ h1) (h2 _ h3)
/-- the places below k of the items for which p holds -/
def places (p : Int → Bool) (ns : List Int) (k : Nat) : List Int := ((List.range k).filter fun i => p (ns.getD i 0)).map fun (i : Nat) => (i : Int)
theorem places_len (p : Int → Bool) (ns : List Int) (k : Nat) : (places p ns k).length ≤ k := by
  unfold places
  rw [List.length_map]
  refine Nat.le_trans (List.length_filter_le _ _) ?_
  rw [List.length_range]
  exact Nat.le_refl _
theorem places_yes {p : Int → Bool} {ns : List Int} {k : Nat} {n : Int} (h : ns[k]? = some n) (hp : p n = true) : places p ns (k + 1) = places p ns k ++ [(k : Int)] := by
  unfold places
  rw [List.range_succ, List.filter_append, List.map_append]
  have : ([k].filter fun i => p (ns.getD i 0)) = [k] := by
    rw [List.filter_cons, getD_at h, if_pos hp]
    rfl
  rw [this]
  rfl
theorem places_no {p : Int → Bool} {ns : List Int} {k : Nat} {n : Int} (h : ns[k]? = some n) (hp : ¬ p n = true) : places p ns (k + 1) = places p ns k := by
  unfold places
  rw [List.range_succ, List.filter_append, List.map_append]
  have : ([k].filter fun i => p (ns.getD i 0)) = [] := by
    rw [List.filter_cons, getD_at h, if_neg hp]
    rfl
  rw [this]
  simp
theorem places_ab (p : Int → Bool) (ns : List Int) {k : Nat} (h : k < 1000) : Ab 100 (places p ns k) := fun n hn => by
  unfold places at hn
  obtain ⟨i, hi, rfl⟩ := List.mem_map.mp hn
  have := List.mem_range.mp (List.mem_filter.mp hi).1
  exact Nat.lt_of_lt_of_le (m := 1000) (by omega) (by decide)
theorem Ab.rp {k : Nat} {ns : List Int} (h : Ab k ns) (hk : k ≤ 1000) : RP (dI ns) := rp_ints (h.mono hk)
theorem Ab.fits {k : Nat} {ns : List Int} (h : Ab k ns) (hk : k ≤ 1000) (hl : ns.length ≤ 2000) : (dI ns).shown.length ≤ 2100000 := by
  have := shown_ints (h.mono hk)
  omega
theorem fit_le {n : Nat} (h : n ≤ 16000000) : n ≤ sizeLine := Nat.le_trans h (by decide)
/-- some lists of ints, in a list -/
def dL (ls : List (List Int)) : PyData := .list (ls.map dI)
theorem rps_lists {k : Nat} (hk : k ≤ 1000) : ∀ {ls : List (List Int)}, (∀ l ∈ ls, Ab k l) → RPs 1 (ls.map dI)
  | [], _ => RPs.nil
  | l :: ls, h => RPs.cons ((h l List.mem_cons_self).rp hk) (dp_ints_depth ((h l List.mem_cons_self).mono hk)) (rps_lists hk fun x hx => h x (List.mem_cons_of_mem _ hx))
theorem rp_lists {k : Nat} (hk : k ≤ 1000) {ls : List (List Int)} (h : ∀ l ∈ ls, Ab k l) : RP (dL ls) := ((rps_lists hk h).list (by omega)).1
theorem fits_lists {k : Nat} (hk : k ≤ 1000) {ls : List (List Int)} (h : ∀ l ∈ ls, Ab k l) (hl : ∀ l ∈ ls, l.length ≤ 1000) (hn : ls.length ≤ 7) : (dL ls).shown.length ≤ sizeLine := by
  have h1 := shown_list (B := 2100000) (ds := ls.map dI) fun d hd => by
    obtain ⟨l, hm, rfl⟩ := List.mem_map.mp hd
    exact (h l hm).fits hk (by have := hl l hm; omega)
  rw [List.length_map] at h1
  refine fit_le (Nat.le_trans h1 ?_)
  omega
theorem all2 {P : List Int → Prop} {a b : List Int} (h1 : P a) (h2 : P b) : ∀ l ∈ [a, b], P l := fun l hl => by
  simp only [List.mem_cons, List.not_mem_nil, or_false] at hl
  rcases hl with rfl | rfl <;> assumption
theorem all3 {P : List Int → Prop} {a b c : List Int} (h1 : P a) (h2 : P b) (h3 : P c) : ∀ l ∈ [a, b, c], P l := fun l hl => by
  simp only [List.mem_cons, List.not_mem_nil, or_false] at hl
  rcases hl with rfl | rfl | rfl <;> assumption
end Sd

namespace Sd
open PySem PySem.Spec PyProof.Rows L2

/-! ### texts -/
def mkS (l : List Nat) : Str := ⟨l.toArray⟩
theorem tl_mk (l : List Nat) : TL.tl (mkS l) = l := rfl
theorem mk_tl (x : Str) : mkS (TL.tl x) = x := TL.ext_tl rfl
theorem mk_inj {a b : List Nat} : mkS a = mkS b ↔ a = b := ⟨fun e => by
  have := congrArg TL.tl e
  exact this, fun e => by rw [e]⟩
theorem mk_app (a b : List Nat) : mkS a ++ mkS b = mkS (a ++ b) := TL.ext_tl (by rw [TL.tl_append]; rfl)
theorem mk_len (l : List Nat) : (mkS l).length = l.length := by
  rw [TL.len_tl]
  rfl
/-- the signs of an int -/
def intL (n : Int) : List Nat := if n < 0 then 45 :: TL.numL n.natAbs else TL.numL n.natAbs
def intS (n : Int) : Str := mkS (intL n)
theorem tl_ofString (s : String) : TL.tl (Str.ofString s) = s.toList.map Char.toNat := by
  rw [PySem.Str.ofString_eq_toList]
theorem str_int (n : Int) : Str.ofString (toString n) = intS n := by
  refine TL.ext_tl ?_
  rw [show TL.tl (intS n) = intL n from rfl]
  unfold intL
  by_cases h : n < 0
  · rw [if_pos h, PyProof.Rows.toString_neg h, tl_ofString, String.toList_append, List.map_append]
    have e : (0 : Int) - n = ((n.natAbs : Nat) : Int) := by omega
    have t := TL.tl_num n.natAbs
    rw [tl_ofString] at t
    rw [e, t]
    rfl
  · rw [if_neg h]
    have e : n = ((n.natAbs : Nat) : Int) := by omega
    have t := TL.tl_num n.natAbs
    rw [← e] at t
    exact t
theorem numL_head : ∀ n : Nat, 0 < n → (TL.numL n).head? ≠ some 48 := fun n => by
  induction n using Nat.strongRecOn with
  | _ n ih =>
    intro hn
    by_cases h : n < 10
    · rw [TL.numL_lt h]
      intro e
      have := Option.some.inj e
      omega
    · rw [TL.numL_step (by omega)]
      have hp := ih (n / 10) (by omega) (by omega)
      cases e : TL.numL (n / 10) with
      | nil => exact absurd e (TL.numL_ne _)
      | cons c r =>
        rw [e] at hp
        exact hp
theorem intL_pos {n : Int} (h : 0 ≤ n) : intL n = TL.numL n.natAbs := if_neg (by omega)
theorem intL_neg {n : Int} (h : n < 0) : intL n = 45 :: TL.numL n.natAbs := if_pos h
theorem intL_ne (n : Int) : intL n ≠ [] := by
  unfold intL
  split
  · exact fun e => nomatch e
  · exact TL.numL_ne _
theorem intL_free {n : Int} {s : Nat} (h : s < 48 ∨ 57 < s) (h2 : s ≠ 45) : s ∉ intL n := fun hm => by
  unfold intL at hm
  split at hm
  · rcases List.mem_cons.mp hm with e | e
    · exact h2 e
    · exact TL.numL_free h e
  · exact TL.numL_free h hm
theorem intL_len {n : Int} {k : Nat} (hk : 0 < k) (h : n.natAbs < 10 ^ k) : (intL n).length ≤ k + 1 := by
  have := TL.numL_len hk h
  unfold intL
  split
  · rw [List.length_cons]
    omega
  · omega
theorem num_digit {c : Nat} (h0 : 48 ≤ c) (h1 : c ≤ 57) : Unicode.isDigit c = true := by
  have : ∀ d : Nat, d < 10 → Unicode.isDigit (48 + d) = true := by decide +kernel
  have e := this (c - 48) (by omega)
  rw [show 48 + (c - 48) = c by omega] at e
  exact e
theorem all_tl (x : Str) (p : Nat → Bool) : x.cps.all p = (TL.tl x).all p := by
  rw [← Array.all_toList]
theorem dig_isascii (n : Nat) : Txt.isascii (mkS (TL.numL n)) = true := by
  unfold Txt.isascii
  rw [all_tl, List.all_eq_true]
  intro c hc
  have := TL.numL_digits n c hc
  exact decide_eq_true (by omega)
theorem dig_isdigit (n : Nat) : Txt.isdigit (mkS (TL.numL n)) = true := by
  unfold Txt.isdigit
  rw [Bool.and_eq_true]
  refine ⟨decide_eq_true ?_, ?_⟩
  · rw [mk_len]
    exact List.length_pos_iff.mpr (TL.numL_ne n)
  · rw [all_tl, List.all_eq_true]
    intro c hc
    have := TL.numL_digits n c hc
    exact num_digit (by omega) (by omega)
theorem starts_one (l : List Nat) (c : Nat) : Txt.startswith (mkS l) (mkS [c]) = decide (l.head? = some c) := by
  unfold Txt.startswith
  rw [mk_len, mk_len, PySem.StrLaws.subAt_eq, mk_len]
  show (decide (0 + 1 ≤ l.length) && (List.take 1 (l.drop 0) == [c])) = _
  cases l with
  | nil => rfl
  | cons x r =>
    show (decide (0 + 1 ≤ r.length + 1) && ([x] == [c])) = decide (some x = some c)
    rw [decide_eq_true (by omega), Bool.true_and]
    by_cases h : x = c
    · subst h
      rw [decide_eq_true rfl]
      exact beq_self_eq_true _
    · rw [decide_eq_false (fun e => h (Option.some.inj e))]
      exact beq_eq_false_iff_ne.mpr fun e => h (List.cons.inj e).1
theorem int_reads {n : Int} (h : n.natAbs < 10 ^ 600) : PySem.intText? (intS n) = some n := by
  by_cases h0 : n < 0
  · have e := PySem.intText_neg (x := intS n) (cs := TL.numL n.natAbs) (by show intL n = _; exact intL_neg h0) (TL.numL_digits _) (TL.numL_ne _) (by
      rw [TL.len_tl]
      show (intL n).length ≤ 4300
      have := intL_len (by decide) h
      omega)
    rw [e, TL.numL_val]
    exact congrArg some (by omega)
  · have e := PySem.intText_digits (x := intS n) (by show NumText.AllDigits (intL n); rw [intL_pos (by omega)]; exact TL.numL_digits _) (by show intL n ≠ []; exact intL_ne n) (by
      rw [TL.len_tl]
      show (intL n).length ≤ 4300
      have := intL_len (by decide) h
      omega)
    rw [e]
    show some ((NumText.digitsVal (intL n) : Nat) : Int) = some n
    rw [intL_pos (by omega), TL.numL_val]
    exact congrArg some (by omega)
/-- words joined by a sign -/
def spS : Str := mkS [32]
def wordsS (ws : List (List Nat)) : Str := Txt.join spS (ws.map mkS)
theorem tl_words (ws : List (List Nat)) : TL.tl (wordsS ws) = TL.joinL [32] ws := by
  unfold wordsS
  rw [TL.join_eq, TL.tl_join, List.map_map]
  have e : ws.map (TL.tl ∘ mkS) = ws := by
    conv => rhs; rw [← List.map_id ws]
    exact List.map_congr_left fun _ _ => rfl
  rw [e]
  rfl
theorem words_split {ws : List (List Nat)} (hne : ws ≠ []) (hf : ∀ w ∈ ws, 32 ∉ w) : Txt.split (wordsS ws) spS = ws.map mkS :=
  TL.split_join (s := 32) (S := []) rfl (by decide +kernel) (fun e => hne (List.map_eq_nil_iff.mp e)) fun p hp => by
    obtain ⟨w, hw, rfl⟩ := List.mem_map.mp hp
    exact hf w hw
theorem joinL_len {k : Nat} : ∀ {ws : List (List Nat)}, (∀ w ∈ ws, w.length ≤ k) → (TL.joinL [32] ws).length ≤ (k + 1) * ws.length
  | [], _ => Nat.zero_le _
  | [p], h => by
    show p.length ≤ (k + 1) * 1
    have := h p (List.mem_singleton.mpr rfl)
    omega
  | p :: q :: r, h => by
    show (p ++ ([32] ++ TL.joinL [32] (q :: r))).length ≤ (k + 1) * ((q :: r).length + 1)
    have h1 := h p List.mem_cons_self
    have h2 := joinL_len (ws := q :: r) fun w hw => h w (List.mem_cons_of_mem _ hw)
    rw [List.length_append, List.length_append, Nat.mul_add]
    show p.length + (1 + _) ≤ _
    omega
theorem words_len {k : Nat} {ws : List (List Nat)} (h : ∀ w ∈ ws, w.length ≤ k) : (wordsS ws).length ≤ (k + 1) * ws.length := by
  rw [TL.len_tl, tl_words]
  exact joinL_len h
theorem join_fits {k : Nat} {ws : List (List Nat)} (h : ∀ w ∈ ws, w.length ≤ k) (hk : k ≤ 1000) (hn : ws.length ≤ 1000) : ((ws.map mkS).map (·.length)).sum + (ws.map mkS).length * spS.length ≤ 16777216 := by
  have h1 : ((ws.map mkS).map (·.length)).sum ≤ k * ws.length := by
    have := sum_bound (B := k) (l := (ws.map mkS).map (·.length)) fun x hx => by
      obtain ⟨y, hy, rfl⟩ := List.mem_map.mp hx
      obtain ⟨w, hw, rfl⟩ := List.mem_map.mp hy
      rw [mk_len]
      exact h w hw
    rw [List.length_map, List.length_map] at this
    exact this
  have h2 : k * ws.length ≤ 1000 * 1000 := Nat.mul_le_mul hk hn
  have h3 : spS.length = 1 := by rw [show spS = mkS [32] from rfl, mk_len]; rfl
  rw [List.length_map, h3]
  omega
/-- looks, as words -/
def lookL (p : Int × Int) : List Nat := intL p.1 ++ (61 :: intL p.2)
theorem look_free (p : Int × Int) : 32 ∉ lookL p := fun h => by
  unfold lookL at h
  rcases List.mem_append.mp h with e | e
  · exact intL_free (.inl (by decide)) (by decide) e
  · rcases List.mem_cons.mp e with e | e
    · exact absurd e (by decide)
    · exact intL_free (.inl (by decide)) (by decide) e
theorem look_cut (p : Int × Int) : Txt.partition (mkS (lookL p)) (mkS [61]) = (intS p.1, mkS [61], intS p.2) := by
  have e : mkS (lookL p) = intS p.1 ++ mkS [61] ++ intS p.2 := by
    unfold intS lookL
    rw [mk_app, mk_app, List.append_assoc]
    rfl
  rw [e]
  exact TL.partition_app (s := 61) (S := []) rfl (show 61 ∉ intL p.1 from intL_free (.inr (by decide)) (by decide))
theorem look_len {p : Int × Int} {k : Nat} (hk : 0 < k) (h1 : p.1.natAbs < 10 ^ k) (h2 : p.2.natAbs < 10 ^ k) : (lookL p).length ≤ 2 * k + 3 := by
  have a := intL_len hk h1
  have b := intL_len hk h2
  unfold lookL
  rw [List.length_append, List.length_cons]
  omega
/-! ### a text, many times -/
theorem op_mulS {X : Cx} : OpR X (binaryOp .Mult) (fun x y H Q => ∃ (a : Str) (n : Int), x = .str a ∧ y = .int n ∧ MulOk a n ∧ Q (.str (Txt.mul a n)) H) := by
  intro pins s σ H x y v u Q I rx ry h
  obtain ⟨a, n, rfl, rfl, hm, q⟩ := h
  obtain ⟨t, rfl⟩ := rx
  obtain ⟨t', rfl⟩ := ry
  exact PySem.SB.mul hm fun t'' k => ⟨.str _, H, I.tok _, ⟨_, rfl⟩, q⟩
/-! ### the written signs -/
theorem cSp : Str.ofString " " = spS := TL.ext_tl (by rw [tl_ofString]; rfl)
theorem cDash : Str.ofString "-" = mkS [45] := TL.ext_tl (by rw [tl_ofString]; rfl)
theorem cZero : Str.ofString "0" = mkS [48] := TL.ext_tl (by rw [tl_ofString]; rfl)
theorem cEq : Str.ofString "=" = mkS [61] := TL.ext_tl (by rw [tl_ofString]; rfl)
theorem cNone : Str.ofString "" = mkS [] := TL.ext_tl (by rw [tl_ofString]; rfl)
theorem join_one (y x : Str) : Txt.join y [x] = x := by
  rw [TL.join_eq]
  rfl
theorem join_none (y : Str) : Txt.join y [] = mkS [] := by
  rw [TL.join_eq]
  rfl
theorem cut_tail (c : Nat) (l : List Nat) : cutS (mkS (c :: l)) (some 1) none = mkS l := by
  unfold cutS
  have e1 : HT.sIx (mkS (c :: l)).length 0 (some 1) = 1 := by
    have := HT.sIx_nat (mkS (c :: l)).length 0 1
    rw [mk_len, List.length_cons] at this ⊢
    rw [show (some (1 : Int)) = some ((1 : Nat) : Int) from rfl, this]
    omega
  rw [e1, HT.sIx_none, mk_len]
  show mkS (((c :: l).drop 1).take ((c :: l).length - 1)) = mkS l
  rw [List.drop_one, List.tail_cons, List.length_cons, Nat.add_sub_cancel, List.take_length]
theorem spl_le {n k : Nat} (h : n ≤ k) (hk : k ≤ 1000000) : n ≤ sizeLine := Nat.le_trans h (Nat.le_trans hk (by decide))
theorem abs10 {n : Int} {k : Nat} (h : n.natAbs < 10 ^ k) (hk : k ≤ 100) : n.natAbs < 2 ^ 1000 := Nat.lt_of_lt_of_le h (Nat.le_trans (Nat.pow_le_pow_right (by decide) hk) (by decide +kernel))
theorem abs_log {n : Int} {k : Nat} (h : n.natAbs < 10 ^ k) (hk : k ≤ 100) : n.natAbs.log2 < 1920 := Nat.lt_trans (PySem.Flt.log2_lt_of (by decide) (abs10 h hk)) (by decide)
/-- pairs of ints, in tuples -/
inductive Prs (H : Hp) : List V → List (Int × Int) → Prop
  | nil : Prs H [] []
  | cons {t : Addr} {p : Int × Int} {vs : List V} {ps : List (Int × Int)} (h : H t = some (.tup [.int p.1, .int p.2])) (r : Prs H vs ps) : Prs H (.ref t :: vs) (p :: ps)
theorem Prs.up {H H1 : Hp} {vs : List V} {ps : List (Int × Int)} (h : Prs H vs ps) (s : Same H H1) : Prs H1 vs ps := by
  induction h with
  | nil => exact .nil
  | cons h _ ih => exact .cons (s _ _ h) ih
theorem Prs.len {H : Hp} {vs : List V} {ps : List (Int × Int)} (h : Prs H vs ps) : vs.length = ps.length := by
  induction h with
  | nil => rfl
  | cons _ _ ih => rw [List.length_cons, List.length_cons, ih]
theorem Prs.at {H : Hp} {vs : List V} {ps : List (Int × Int)} (h : Prs H vs ps) : ∀ {i : Nat} {v : V}, vs[i]? = some v → ∃ t p, v = .ref t ∧ ps[i]? = some p ∧ H t = some (.tup [.int p.1, .int p.2]) := by
  induction h with
  | nil => exact fun e => nomatch e
  | cons h _ ih =>
    intro i v e
    cases i with
    | zero => exact ⟨_, _, (Option.some.inj e).symm, rfl, h⟩
    | succ i => exact ih e
theorem Prs.snoc {H : Hp} {vs : List V} {ps : List (Int × Int)} {t : Addr} {p : Int × Int} (h : Prs H vs ps) (e : H t = some (.tup [.int p.1, .int p.2])) : Prs H (vs ++ [.ref t]) (ps ++ [p]) := by
  induction h with
  | nil => exact .cons e .nil
  | cons h _ ih => exact .cons h ih
def dP (p : Int × Int) : PyData := .tuple [.int p.1, .int p.2]
theorem Prs.dp {K : PySem.W.Frag} {H : Hp} {vs : List V} {ps : List (Int × Int)} (h : Prs H vs ps) : DpAll K H vs (ps.map dP) := by
  induction h with
  | nil => exact .nil
  | cons h _ ih => exact .cons (.tup (SqT.of h) (.cons (.int _) (.cons (.int _) .nil))) ih
/-- f'..', its parts one behind the other -/
def tJoined (ts : List TE) : TE := fun σ H Q => tJs ts Str.empty σ H fun out H1 => Q (.str out) H1
theorem pe_joinedN {X : Cx} {v1 v2 : Expr} {rest : List Expr} {ts : List TE} {pos : Pos} (h : PJ X (v1 :: v2 :: rest) ts) : PE X (.JoinedStr (v1 :: v2 :: rest) pos) (tJoined ts) := pe_joined h
end Sd

namespace Sd
open PySem PySem.Spec PyProof.Rows L2

/-! ### data that repr can show, with bounds -/
structure Dat (k B : Nat) (d : PyData) : Prop where
  rp : RP d
  dp : d.depth ≤ k
  le : d.shown.length ≤ B
theorem Dat.mono {k B k' B' : Nat} {d : PyData} (h : Dat k B d) (hk : k ≤ k') (hB : B ≤ B') : Dat k' B' d := ⟨h.rp, Nat.le_trans h.dp hk, Nat.le_trans h.le hB⟩
theorem Dat.fits {k B : Nat} {d : PyData} (h : Dat k B d) (hB : B ≤ 16000000) : d.shown.length ≤ sizeLine := fit_le (Nat.le_trans h.le hB)
theorem dat_int {i : Int} {k : Nat} (h : i.natAbs < 10 ^ k) (hk : k ≤ 100) : Dat 0 1001 (.int i) := ⟨rp_int (abs10 h hk), by simp only [PyData.depth]; omega, shown_int (abs10 h hk)⟩
theorem dat_str {x : Str} {n : Nat} (h : ∀ c ∈ TL.tl x, c < 128) (hl : x.length ≤ n) : Dat 0 (10 * n + 2) (.str x) := by
  refine ⟨⟨by simp only [PyData.showable], by simp only [PyData.hasDict], ?_, by simp only [PyData.depth]; omega⟩, by simp only [PyData.depth]; omega, ?_⟩
  · simp only [PyData.canLay0]
    unfold PyData.strOk
    rw [all_tl, List.all_eq_true]
    exact fun c hc => decide_eq_true (Nat.lt_of_lt_of_le (h c hc) (by decide))
  simp only [PyData.shown]
  have := PySem.StrLaws.reprText_len x fun c hc => Nat.lt_of_lt_of_le (h c hc) (by decide)
  omega
theorem rps_dat {k B : Nat} : ∀ {ds : List PyData}, (∀ d ∈ ds, Dat k B d) → RPs k ds
  | [], _ => RPs.nil
  | d :: ds, h => RPs.cons (h d List.mem_cons_self).rp (h d List.mem_cons_self).dp (rps_dat fun x hx => h x (List.mem_cons_of_mem _ hx))
theorem dat_list {k B n : Nat} {ds : List PyData} (h : ∀ d ∈ ds, Dat k B d) (hk : k ≤ 30) (hn : ds.length ≤ n) : Dat (k + 1) ((B + 2) * n + 3) (.list ds) := by
  obtain ⟨a, b⟩ := (rps_dat h).list (by omega)
  refine ⟨a, b, ?_⟩
  have := shown_list (B := B) (ds := ds) fun d hd => (h d hd).le
  have := Nat.mul_le_mul_left (B + 2) hn
  omega
theorem dat_tup {k B n : Nat} {ds : List PyData} (h : ∀ d ∈ ds, Dat k B d) (hk : k ≤ 30) (hn : ds.length ≤ n) : Dat (k + 1) ((B + 2) * n + 3) (.tuple ds) := by
  have hs := rps_dat h
  have hd : (PyData.tuple ds).depth ≤ k + 1 := by
    simp only [PyData.depth]
    have := hs.dp
    omega
  refine ⟨⟨?_, ?_, ?_, by omega⟩, hd, ?_⟩
  · simp only [PyData.showable, hs.sh]
  · simp only [PyData.hasDict, hs.nd]
  · simp only [PyData.canLay0, hs.cl]
  · simp only [PyData.shown]
    have h1 := tupleText_len_le (PyData.shownAll ds)
    have h2 : ((PyData.shownAll ds).map (·.length)).sum ≤ B * ds.length := by
      rw [shownAll_map, List.map_map]
      have := sum_bound (B := B) (l := ds.map ((fun x => x.length) ∘ PyData.shown)) fun x hx => by
        obtain ⟨d, hd, rfl⟩ := List.mem_map.mp hx
        exact (h d hd).le
      rw [List.length_map] at this
      exact this
    have h3 : (PyData.shownAll ds).length = ds.length := by rw [shownAll_map, List.length_map]
    rw [h3] at h1
    have h4 := Nat.mul_le_mul_left (B + 2) hn
    have h5 : (B + 2) * ds.length = B * ds.length + 2 * ds.length := Nat.add_mul _ _ _
    omega
theorem dat_ints {ns : List Int} {k n : Nat} (h : ∀ x ∈ ns, x.natAbs < 10 ^ k) (hk : k ≤ 100) (hn : ns.length ≤ n) : Dat 1 (1003 * n + 3) (dI ns) :=
  dat_list (k := 0) (B := 1001) (fun d hd => by
    obtain ⟨x, hx, rfl⟩ := List.mem_map.mp hd
    exact dat_int (h x hx) hk) (by decide) (by rw [List.length_map]; exact hn)
theorem dat_pairs {ps : List (Int × Int)} {k n : Nat} (h : ∀ p ∈ ps, p.1.natAbs < 10 ^ k ∧ p.2.natAbs < 10 ^ k) (hk : k ≤ 100) (hn : ps.length ≤ n) : Dat 2 (2011 * n + 3) (.list (ps.map dP)) :=
  dat_list (k := 1) (B := 2009) (fun d hd => by
    obtain ⟨p, hp, rfl⟩ := List.mem_map.mp hd
    exact dat_tup (k := 0) (B := 1001) (n := 2) (fun d hd => by
      simp only [List.mem_cons, List.not_mem_nil, or_false] at hd
      rcases hd with rfl | rfl
      · exact dat_int (h p hp).1 hk
      · exact dat_int (h p hp).2 hk) (by decide) (Nat.le_refl _)) (by decide) (by rw [List.length_map]; exact hn)
theorem intL_low (n : Int) : ∀ c ∈ intL n, c < 128 := fun c hc => by
  unfold intL at hc
  split at hc
  · rcases List.mem_cons.mp hc with e | e
    · omega
    · have := TL.numL_digits _ c e
      omega
  · have := TL.numL_digits _ c hc
    omega
theorem lookL_low (p : Int × Int) : ∀ c ∈ lookL p, c < 128 := fun c hc => by
  unfold lookL at hc
  rcases List.mem_append.mp hc with e | e
  · exact intL_low _ c e
  · rcases List.mem_cons.mp e with e | e
    · omega
    · exact intL_low _ c e
theorem joinL_low : ∀ {ws : List (List Nat)}, (∀ x ∈ ws, ∀ c ∈ x, c < 128) → ∀ c ∈ TL.joinL [32] ws, c < 128
  | [], _ => fun c hc => (List.not_mem_nil hc).elim
  | [p], h => h p (List.mem_singleton.mpr rfl)
  | p :: q :: r, h => fun c hc => by
    have hc : c ∈ p ++ ([32] ++ TL.joinL [32] (q :: r)) := hc
    rcases List.mem_append.mp hc with e | e
    · exact h p List.mem_cons_self c e
    · rcases List.mem_append.mp e with e | e
      · rw [List.mem_singleton.mp e]
        omega
      · exact joinL_low (fun x hx => h x (List.mem_cons_of_mem _ hx)) c e
theorem dat_words {ws : List (List Nat)} {k n : Nat} (h : ∀ x ∈ ws, x.length ≤ k ∧ ∀ c ∈ x, c < 128) (hn : ws.length ≤ n) : Dat 0 (10 * ((k + 1) * n) + 2) (.str (wordsS ws)) := by
  refine dat_str (fun c hc => ?_) ?_
  · rw [tl_words] at hc
    exact joinL_low (fun x hx => (h x hx).2) c hc
  · exact Nat.le_trans (words_len fun x hx => (h x hx).1) (Nat.mul_le_mul_left _ hn)
theorem dat_row {ns : List Int} {k n : Nat} (hk : 0 < k) (h : ∀ x ∈ ns, x.natAbs < 10 ^ k) (hn : ns.length ≤ n) : Dat 0 (10 * ((k + 1 + 1) * n) + 2) (.str (wordsS (ns.map intL))) :=
  dat_words (fun x hx => by
    obtain ⟨m, hm, rfl⟩ := List.mem_map.mp hx
    exact ⟨intL_len hk (h m hm), intL_low m⟩) (by rw [List.length_map]; exact hn)
theorem dat_looks {ps : List (Int × Int)} {k n : Nat} (hk : 0 < k) (h : ∀ p ∈ ps, p.1.natAbs < 10 ^ k ∧ p.2.natAbs < 10 ^ k) (hn : ps.length ≤ n) : Dat 0 (10 * ((2 * k + 3 + 1) * n) + 2) (.str (wordsS (ps.map lookL))) :=
  dat_words (fun x hx => by
    obtain ⟨p, hp, rfl⟩ := List.mem_map.mp hx
    exact ⟨look_len hk (h p hp).1 (h p hp).2, lookL_low p⟩) (by rw [List.length_map]; exact hn)
end Sd

namespace Sd
open PySem PySem.Spec PyProof.Rows L2
def topS (i : Nat) : Stmt := PySem.Challenge.pw_slitdiscs_k47_texts_written_and_read.main.body.getD i (.Pass ⟨0, 0, 0, 0⟩)
abbrev s_number_text : Stmt := topS 10
theorem sc_number_text : FnScope ["number", "parts", "left", "part", "digits"] ["number"] (defScope s_number_text) := ⟨rfl, rfl, rfl, by decide +kernel, rfl, by decide +kernel, by decide +kernel⟩
abbrev s_numbers_text : Stmt := topS 11
theorem sc_numbers_text : FnScope ["numbers", "number"] ["numbers"] (defScope s_numbers_text) := ⟨rfl, rfl, rfl, by decide +kernel, rfl, by decide +kernel, by decide +kernel⟩
abbrev s_number_in : Stmt := topS 12
theorem sc_number_in : FnScope ["word", "digits"] ["word"] (defScope s_number_in) := ⟨rfl, rfl, rfl, by decide +kernel, rfl, by decide +kernel, by decide +kernel⟩
abbrev s_count_in : Stmt := topS 13
theorem sc_count_in : FnScope ["word", "number"] ["word"] (defScope s_count_in) := ⟨rfl, rfl, rfl, by decide +kernel, rfl, by decide +kernel, by decide +kernel⟩
abbrev s_format_disc : Stmt := topS 15
theorem sc_format_disc : FnScope ["disc"] ["disc"] (defScope s_format_disc) := ⟨rfl, rfl, rfl, by decide +kernel, rfl, by decide +kernel, by decide +kernel⟩
abbrev s_format_row : Stmt := topS 16
theorem sc_format_row : FnScope ["row"] ["row"] (defScope s_format_row) := ⟨rfl, rfl, rfl, by decide +kernel, rfl, by decide +kernel, by decide +kernel⟩
abbrev s_format_looks : Stmt := topS 17
theorem sc_format_looks : FnScope ["looks", "turn", "light"] ["looks"] (defScope s_format_looks) := ⟨rfl, rfl, rfl, by decide +kernel, rfl, by decide +kernel, by decide +kernel⟩
abbrev s_parse_disc : Stmt := topS 18
theorem sc_parse_disc : FnScope ["text"] ["text"] (defScope s_parse_disc) := ⟨rfl, rfl, rfl, by decide +kernel, rfl, by decide +kernel, by decide +kernel⟩
abbrev s_parse_row : Stmt := topS 19
theorem sc_parse_row : FnScope ["text"] ["text"] (defScope s_parse_row) := ⟨rfl, rfl, rfl, by decide +kernel, rfl, by decide +kernel, by decide +kernel⟩
abbrev s_parse_looks : Stmt := topS 20
theorem sc_parse_looks : FnScope ["text"] ["text"] (defScope s_parse_looks) := ⟨rfl, rfl, rfl, by decide +kernel, rfl, by decide +kernel, by decide +kernel⟩
abbrev s_check_text : Stmt := topS 21
theorem sc_check_text : FnScope ["text"] ["text"] (defScope s_check_text) := ⟨rfl, rfl, rfl, by decide +kernel, rfl, by decide +kernel, by decide +kernel⟩
abbrev s_parse_words : Stmt := topS 22
theorem sc_parse_words : FnScope ["text", "value_in", "most", "values", "index", "word", "value"] ["text", "value_in", "most"] (defScope s_parse_words) := ⟨rfl, rfl, rfl, by decide +kernel, rfl, by decide +kernel, by decide +kernel⟩
abbrev s_slot_in : Stmt := topS 23
theorem sc_slot_in : FnScope ["word", "number"] ["word"] (defScope s_slot_in) := ⟨rfl, rfl, rfl, by decide +kernel, rfl, by decide +kernel, by decide +kernel⟩
abbrev s_look_in : Stmt := topS 24
theorem sc_look_in : FnScope ["word", "before", "_", "behind", "turn", "light"] ["word"] (defScope s_look_in) := ⟨rfl, rfl, rfl, by decide +kernel, rfl, by decide +kernel, by decide +kernel⟩
abbrev s_law_tank : Stmt := topS 26
theorem sc_law_tank : FnScope ["script", "at", "cell"] ["script", "at"] (defScope s_law_tank) := ⟨rfl, rfl, rfl, by decide +kernel, rfl, by decide +kernel, by decide +kernel⟩
abbrev s_law_tap : Stmt := topS 27
theorem sc_law_tap : FnScope ["tank", "many", "drawn", "mixed"] ["tank", "many"] (defScope s_law_tap) := ⟨rfl, rfl, rfl, by decide +kernel, rfl, by decide +kernel, by decide +kernel⟩
abbrev s_law_drawn_count : Stmt := topS 28
theorem sc_law_drawn_count : FnScope ["tank", "most", "some"] ["tank", "most"] (defScope s_law_drawn_count) := ⟨rfl, rfl, rfl, by decide +kernel, rfl, by decide +kernel, by decide +kernel⟩
abbrev s_law_drawn_rim : Stmt := topS 29
theorem sc_law_drawn_rim : FnScope ["tank", "count", "kind", "wide", "rim", "slot_here", "sizes", "size"] ["tank", "count"] (defScope s_law_drawn_rim) := ⟨rfl, rfl, rfl, by decide +kernel, rfl, by decide +kernel, by decide +kernel⟩
abbrev s_law_drawn_notes : Stmt := topS 31
theorem sc_law_drawn_notes : FnScope ["tank", "far", "found", "turn", "by"] ["tank", "far"] (defScope s_law_drawn_notes) := ⟨rfl, rfl, rfl, by decide +kernel, rfl, by decide +kernel, by decide +kernel⟩
abbrev s_law_line : Stmt := topS 32
theorem sc_law_line : FnScope ["rows", "one"] ["rows"] (defScope s_law_line) := ⟨rfl, rfl, rfl, by decide +kernel, rfl, by decide +kernel, by decide +kernel⟩
abbrev s_law_notes_text : Stmt := topS 33
theorem sc_law_notes_text : FnScope ["notes", "by", "much"] ["notes"] (defScope s_law_notes_text) := ⟨rfl, rfl, rfl, by decide +kernel, rfl, by decide +kernel, by decide +kernel⟩
abbrev s_law_right : Stmt := topS 34
theorem sc_law_right : FnScope ["rim", "line", "notes", "kept", "texts_here", "told", "some", "again"] ["rim", "line", "notes"] (defScope s_law_right) := ⟨rfl, rfl, rfl, by decide +kernel, rfl, by decide +kernel, by decide +kernel⟩
abbrev s_law : Stmt := topS 35
theorem sc_law : FnScope ["script", "at", "tank", "turn", "rim", "far", "line", "one", "nines", "told"] ["script"] (defScope s_law) := ⟨rfl, rfl, rfl, by decide +kernel, rfl, by decide +kernel, by decide +kernel⟩
/-- what the top has written -/
structure Txt (K : PySem.W.Frag) (mg : Str → Option Value) where
  a_number_text : Addr
  d_number_text : FuncData
  F_number_text : Fun K "number_text" "number_text" s_number_text a_number_text d_number_text
  b_number_text : Binds K d_number_text ["number"] []
  g_number_text : mg "number_text" = some (.ref a_number_text)
  a_numbers_text : Addr
  d_numbers_text : FuncData
  F_numbers_text : Fun K "numbers_text" "numbers_text" s_numbers_text a_numbers_text d_numbers_text
  b_numbers_text : Binds K d_numbers_text ["numbers"] []
  g_numbers_text : mg "numbers_text" = some (.ref a_numbers_text)
  a_number_in : Addr
  d_number_in : FuncData
  F_number_in : Fun K "number_in" "number_in" s_number_in a_number_in d_number_in
  b_number_in : Binds K d_number_in ["word"] []
  g_number_in : mg "number_in" = some (.ref a_number_in)
  a_count_in : Addr
  d_count_in : FuncData
  F_count_in : Fun K "count_in" "count_in" s_count_in a_count_in d_count_in
  b_count_in : Binds K d_count_in ["word"] []
  g_count_in : mg "count_in" = some (.ref a_count_in)
  a_format_disc : Addr
  d_format_disc : FuncData
  F_format_disc : Fun K "format_disc" "format_disc" s_format_disc a_format_disc d_format_disc
  b_format_disc : Binds K d_format_disc ["disc"] []
  g_format_disc : mg "format_disc" = some (.ref a_format_disc)
  a_format_row : Addr
  d_format_row : FuncData
  F_format_row : Fun K "format_row" "format_row" s_format_row a_format_row d_format_row
  b_format_row : Binds K d_format_row ["row"] []
  g_format_row : mg "format_row" = some (.ref a_format_row)
  a_format_looks : Addr
  d_format_looks : FuncData
  F_format_looks : Fun K "format_looks" "format_looks" s_format_looks a_format_looks d_format_looks
  b_format_looks : Binds K d_format_looks ["looks"] []
  g_format_looks : mg "format_looks" = some (.ref a_format_looks)
  a_parse_disc : Addr
  d_parse_disc : FuncData
  F_parse_disc : Fun K "parse_disc" "parse_disc" s_parse_disc a_parse_disc d_parse_disc
  b_parse_disc : Binds K d_parse_disc ["text"] []
  g_parse_disc : mg "parse_disc" = some (.ref a_parse_disc)
  a_parse_row : Addr
  d_parse_row : FuncData
  F_parse_row : Fun K "parse_row" "parse_row" s_parse_row a_parse_row d_parse_row
  b_parse_row : Binds K d_parse_row ["text"] []
  g_parse_row : mg "parse_row" = some (.ref a_parse_row)
  a_parse_looks : Addr
  d_parse_looks : FuncData
  F_parse_looks : Fun K "parse_looks" "parse_looks" s_parse_looks a_parse_looks d_parse_looks
  b_parse_looks : Binds K d_parse_looks ["text"] []
  g_parse_looks : mg "parse_looks" = some (.ref a_parse_looks)
  a_check_text : Addr
  d_check_text : FuncData
  F_check_text : Fun K "_check_text" "_check_text" s_check_text a_check_text d_check_text
  b_check_text : Binds K d_check_text ["text"] []
  g_check_text : mg "_check_text" = some (.ref a_check_text)
  a_parse_words : Addr
  d_parse_words : FuncData
  F_parse_words : Fun K "_parse_words" "_parse_words" s_parse_words a_parse_words d_parse_words
  b_parse_words : Binds K d_parse_words ["text", "value_in", "most"] []
  g_parse_words : mg "_parse_words" = some (.ref a_parse_words)
  a_slot_in : Addr
  d_slot_in : FuncData
  F_slot_in : Fun K "_slot_in" "_slot_in" s_slot_in a_slot_in d_slot_in
  b_slot_in : Binds K d_slot_in ["word"] []
  g_slot_in : mg "_slot_in" = some (.ref a_slot_in)
  a_look_in : Addr
  d_look_in : FuncData
  F_look_in : Fun K "_look_in" "_look_in" s_look_in a_look_in d_look_in
  b_look_in : Binds K d_look_in ["word"] []
  g_look_in : mg "_look_in" = some (.ref a_look_in)
  a_law_tank : Addr
  d_law_tank : FuncData
  F_law_tank : Fun K "_law_tank" "_law_tank" s_law_tank a_law_tank d_law_tank
  b_law_tank : Binds K d_law_tank ["script", "at"] []
  g_law_tank : mg "_law_tank" = some (.ref a_law_tank)
  a_law_tap : Addr
  d_law_tap : FuncData
  F_law_tap : Fun K "_law_tap" "_law_tap" s_law_tap a_law_tap d_law_tap
  b_law_tap : Binds K d_law_tap ["tank", "many"] []
  g_law_tap : mg "_law_tap" = some (.ref a_law_tap)
  a_law_drawn_count : Addr
  d_law_drawn_count : FuncData
  F_law_drawn_count : Fun K "_law_drawn_count" "_law_drawn_count" s_law_drawn_count a_law_drawn_count d_law_drawn_count
  b_law_drawn_count : Binds K d_law_drawn_count ["tank", "most"] []
  g_law_drawn_count : mg "_law_drawn_count" = some (.ref a_law_drawn_count)
  a_law_drawn_rim : Addr
  d_law_drawn_rim : FuncData
  F_law_drawn_rim : Fun K "_law_drawn_rim" "_law_drawn_rim" s_law_drawn_rim a_law_drawn_rim d_law_drawn_rim
  b_law_drawn_rim : Binds K d_law_drawn_rim ["tank", "count"] []
  g_law_drawn_rim : mg "_law_drawn_rim" = some (.ref a_law_drawn_rim)
  a_law_drawn_notes : Addr
  d_law_drawn_notes : FuncData
  F_law_drawn_notes : Fun K "_law_drawn_notes" "_law_drawn_notes" s_law_drawn_notes a_law_drawn_notes d_law_drawn_notes
  b_law_drawn_notes : Binds K d_law_drawn_notes ["tank", "far"] []
  g_law_drawn_notes : mg "_law_drawn_notes" = some (.ref a_law_drawn_notes)
  a_law_line : Addr
  d_law_line : FuncData
  F_law_line : Fun K "_law_line" "_law_line" s_law_line a_law_line d_law_line
  b_law_line : Binds K d_law_line ["rows"] []
  g_law_line : mg "_law_line" = some (.ref a_law_line)
  a_law_notes_text : Addr
  d_law_notes_text : FuncData
  F_law_notes_text : Fun K "_law_notes_text" "_law_notes_text" s_law_notes_text a_law_notes_text d_law_notes_text
  b_law_notes_text : Binds K d_law_notes_text ["notes"] []
  g_law_notes_text : mg "_law_notes_text" = some (.ref a_law_notes_text)
  a_law_right : Addr
  d_law_right : FuncData
  F_law_right : Fun K "_law_right" "_law_right" s_law_right a_law_right d_law_right
  b_law_right : Binds K d_law_right ["rim", "line", "notes"] []
  g_law_right : mg "_law_right" = some (.ref a_law_right)
  a_law : Addr
  d_law : FuncData
  F_law : Fun K "law" "law" s_law a_law d_law
  g_law : mg "law" = some (.ref a_law)
  t_MOST_SLOTS : Tok
  g_MOST_SLOTS : mg "MOST_SLOTS" = some (.int (40) t_MOST_SLOTS)
  t_MOST_LIGHT : Tok
  g_MOST_LIGHT : mg "MOST_LIGHT" = some (.int (1000000000000000000000000000000) t_MOST_LIGHT)
  t_MOST_LOOKS : Tok
  g_MOST_LOOKS : mg "MOST_LOOKS" = some (.int (40) t_MOST_LOOKS)
  t_MOST_DIGITS : Tok
  g_MOST_DIGITS : mg "MOST_DIGITS" = some (.int (40) t_MOST_DIGITS)
  t_PART_DIGITS : Tok
  g_PART_DIGITS : mg "PART_DIGITS" = some (.int (60) t_PART_DIGITS)
  t_PART : Tok
  g_PART : mg "PART" = some (.int (1000000000000000000000000000000000000000000000000000000000000) t_PART)
  n_abs : mg "abs" = none
  n_divmod : mg "divmod" = none
  n_enumerate : mg "enumerate" = none
  n_int : mg "int" = none
  n_isinstance : mg "isinstance" = none
  n_len : mg "len" = none
  n_max : mg "max" = none
  n_min : mg "min" = none
  n_range : mg "range" = none
  n_repr : mg "repr" = none
  n_str : mg "str" = none
def kp_format_disc_disc {α : Type} : List α → List α → List α
  | [], [x0] => [x0]
  | _, _ => []
theorem kb_format_disc_disc {K : PySem.W.Frag} {mg : Str → Option Value} (T : Txt K mg) : KBinds K T.d_format_disc ["disc"] ["disc"] kp_format_disc_disc kp_format_disc_disc := by
  obtain ⟨_, _, _, _, _, _, _, _, _, e, _, _⟩ := T.F_format_disc.ex
  rw [e]
  refine ⟨fun s us ws _ hl => ?_, fun r1 r2 => ?_⟩
  · match us, ws, hl with
    | [], [x0], _ => exact .of_eq rfl
  · cases r1 with
    | cons _ _ => exact .nil
    | nil =>
      cases r2 with
      | nil => exact .nil
      | cons h0 r2 =>
        cases r2 with
        | cons _ _ => exact .nil
        | nil => exact .cons h0 .nil
def kp_format_row_row {α : Type} : List α → List α → List α
  | [], [x0] => [x0]
  | _, _ => []
theorem kb_format_row_row {K : PySem.W.Frag} {mg : Str → Option Value} (T : Txt K mg) : KBinds K T.d_format_row ["row"] ["row"] kp_format_row_row kp_format_row_row := by
  obtain ⟨_, _, _, _, _, _, _, _, _, e, _, _⟩ := T.F_format_row.ex
  rw [e]
  refine ⟨fun s us ws _ hl => ?_, fun r1 r2 => ?_⟩
  · match us, ws, hl with
    | [], [x0], _ => exact .of_eq rfl
  · cases r1 with
    | cons _ _ => exact .nil
    | nil =>
      cases r2 with
      | nil => exact .nil
      | cons h0 r2 =>
        cases r2 with
        | cons _ _ => exact .nil
        | nil => exact .cons h0 .nil
def kp_format_looks_looks {α : Type} : List α → List α → List α
  | [], [x0] => [x0]
  | _, _ => []
theorem kb_format_looks_looks {K : PySem.W.Frag} {mg : Str → Option Value} (T : Txt K mg) : KBinds K T.d_format_looks ["looks"] ["looks"] kp_format_looks_looks kp_format_looks_looks := by
  obtain ⟨_, _, _, _, _, _, _, _, _, e, _, _⟩ := T.F_format_looks.ex
  rw [e]
  refine ⟨fun s us ws _ hl => ?_, fun r1 r2 => ?_⟩
  · match us, ws, hl with
    | [], [x0], _ => exact .of_eq rfl
  · cases r1 with
    | cons _ _ => exact .nil
    | nil =>
      cases r2 with
      | nil => exact .nil
      | cons h0 r2 =>
        cases r2 with
        | cons _ _ => exact .nil
        | nil => exact .cons h0 .nil
def kp_parse_disc_text {α : Type} : List α → List α → List α
  | [], [x0] => [x0]
  | _, _ => []
theorem kb_parse_disc_text {K : PySem.W.Frag} {mg : Str → Option Value} (T : Txt K mg) : KBinds K T.d_parse_disc ["text"] ["text"] kp_parse_disc_text kp_parse_disc_text := by
  obtain ⟨_, _, _, _, _, _, _, _, _, e, _, _⟩ := T.F_parse_disc.ex
  rw [e]
  refine ⟨fun s us ws _ hl => ?_, fun r1 r2 => ?_⟩
  · match us, ws, hl with
    | [], [x0], _ => exact .of_eq rfl
  · cases r1 with
    | cons _ _ => exact .nil
    | nil =>
      cases r2 with
      | nil => exact .nil
      | cons h0 r2 =>
        cases r2 with
        | cons _ _ => exact .nil
        | nil => exact .cons h0 .nil
def kp_parse_row_text {α : Type} : List α → List α → List α
  | [], [x0] => [x0]
  | _, _ => []
theorem kb_parse_row_text {K : PySem.W.Frag} {mg : Str → Option Value} (T : Txt K mg) : KBinds K T.d_parse_row ["text"] ["text"] kp_parse_row_text kp_parse_row_text := by
  obtain ⟨_, _, _, _, _, _, _, _, _, e, _, _⟩ := T.F_parse_row.ex
  rw [e]
  refine ⟨fun s us ws _ hl => ?_, fun r1 r2 => ?_⟩
  · match us, ws, hl with
    | [], [x0], _ => exact .of_eq rfl
  · cases r1 with
    | cons _ _ => exact .nil
    | nil =>
      cases r2 with
      | nil => exact .nil
      | cons h0 r2 =>
        cases r2 with
        | cons _ _ => exact .nil
        | nil => exact .cons h0 .nil
def kp_parse_looks_text {α : Type} : List α → List α → List α
  | [], [x0] => [x0]
  | _, _ => []
theorem kb_parse_looks_text {K : PySem.W.Frag} {mg : Str → Option Value} (T : Txt K mg) : KBinds K T.d_parse_looks ["text"] ["text"] kp_parse_looks_text kp_parse_looks_text := by
  obtain ⟨_, _, _, _, _, _, _, _, _, e, _, _⟩ := T.F_parse_looks.ex
  rw [e]
  refine ⟨fun s us ws _ hl => ?_, fun r1 r2 => ?_⟩
  · match us, ws, hl with
    | [], [x0], _ => exact .of_eq rfl
  · cases r1 with
    | cons _ _ => exact .nil
    | nil =>
      cases r2 with
      | nil => exact .nil
      | cons h0 r2 =>
        cases r2 with
        | cons _ _ => exact .nil
        | nil => exact .cons h0 .nil
section
variable {P : Program} {w : World} {K : PySem.W.Frag} {mg : Str → Option Value} {base : Heap}
/-! ### _law_tank, _law_tap -/
def mixA (y z : Int) : Int := (y + 350377 * z) ^ (3 : Int).toNat % 170141183460469231731687303715884105727
theorem mixA_in (y z : Int) : 0 ≤ mixA y z ∧ mixA y z < 170141183460469231731687303715884105727 := ⟨Int.emod_nonneg _ (by decide), Int.emod_lt_of_pos _ (by decide)⟩
def spTap : Sp := fun vs H Q _ => ∃ (T : Addr) (m c : Int), vs = [.ref T, .int m] ∧ 0 < m ∧ m < 2 ^ 200 ∧ Tank H T c ∧ c < 2 ^ 40 ∧
  ∀ (r : Int) (H' : Hp), 0 ≤ r → r < m → Tank H' T (c + 1) → But T H H' → Q (.int r) H'
theorem ok_law_tap (T : Txt K mg) : FnOk P w K mg base CX0 1 T.a_law_tap T.d_law_tap ["tank", "many"] spTap := by
  refine T.F_law_tap.ok sc_law_tap (fun vs H Q E h => ?_) (fun cdv A outer s H vs Q E hr h => ?_)
  · obtain ⟨_, _, _, rfl, _⟩ := h
    rfl
  · obtain ⟨t, m, c, rfl, hm0, hm, ⟨x, y, z, hT, hx, hy0, hy, hz0, hz⟩, hc, q⟩ := h
    refine ⟨_, (pss_cons (ps_if (pt_cmpR op_gt (pe_ix (ixL (K := K) rfl) (pv 0) pe_int (fun _ _ => rfl)) pe_int (nomark _)) (pss_cons (ps_set (i := 2) sc_law_tap.nd rfl (.inl rfl) (pe_op op_mod (pe_callTy call_int1 (by rfl) T.n_int (by decide +kernel) (pa_cons (pe_ix (ixL (K := K) rfl) (pv 0) pe_int (fun _ _ => rfl)) pa_nil)) (pv 1)))
      (pss_cons (ps_asg (pe_op op_fdivW (pe_ix (ixL (K := K) rfl) (pv 0) pe_int (fun _ _ => rfl)) (pv 1)) (pg_sub (pv 0) pe_int set_list))
      (pss_one (ps_ret (pv 2))))) pss_nil)
      (pss_cons (ps_asg (pe_op op_add (pe_ix (ixL (K := K) rfl) (pv 0) pe_int (fun _ _ => rfl)) pe_int) (pg_sub (pv 0) pe_int set_list))
      (pss_cons (ps_set (i := 3) sc_law_tap.nd rfl (.inl rfl) (pe_op op_mod (pe_callTy call_int1 (by rfl) T.n_int (by decide +kernel) (pa_cons (pe_op op_pow3 (pe_op op_add (pe_ix (ixL (K := K) rfl) (pv 0) pe_int (fun _ _ => rfl)) (pe_op op_mul pe_int (pe_ix (ixL (K := K) rfl) (pv 0) pe_int (fun _ _ => rfl)))) pe_int) pa_nil)) pe_int))
      (pss_cons (ps_set (i := 3) sc_law_tap.nd rfl (.inl rfl) (pe_op op_mod (pe_callTy call_int1 (by rfl) T.n_int (by decide +kernel) (pa_cons (pe_op op_pow3 (pe_op op_add (pv 3) (pe_op op_mul pe_int (pe_ix (ixL (K := K) rfl) (pv 0) pe_int (fun _ _ => rfl)))) pe_int) pa_nil)) (pe_op op_add (pe_op op_pow pe_int pe_int) pe_int)))
      (pss_one (ps_ret (pe_op op_mod (pe_callTy call_int1 (by rfl) T.n_int (by decide +kernel) (pa_cons (pe_op op_fdivW (pv 3) pe_int) pa_nil)) (pv 1)))))))), ?_⟩
    refine ⟨.ref t, rfl, t, _, 0, .int x, rfl, rfl, SqL.of hT, rfl, x, 0, rfl, rfl, _, rfl, ite2 (fun h => ?_) (fun h => ?_)⟩
    · have hx1 : 0 < x := of_decide_eq_true h
      refine ⟨.ref t, rfl, t, _, 0, .int x, rfl, rfl, SqL.of hT, rfl, .inl ⟨x, rfl, .int m, rfl, x, m, rfl, rfl, hm0, ?_⟩⟩
      refine ⟨.ref t, rfl, t, _, 0, .int x, rfl, rfl, SqL.of hT, rfl, .int m, rfl, x, m, rfl, rfl, wide_div (b := 200) hm0 (by omega) (by decide) (by decide), ?_⟩
      refine ⟨.ref t, rfl, t, _, 0, 0, rfl, rfl, hT, rfl, ?_⟩
      refine ⟨.int (x % m), rfl, q _ _ (Int.emod_nonneg _ (by omega)) (Int.emod_lt_of_pos _ hm0) ⟨x / m, y, z, upd_same, Int.ediv_nonneg hx (by omega), hy0, hy, hz0, by omega⟩ upd_but⟩
    · refine ⟨.ref t, rfl, t, _, 2, .int z, rfl, rfl, SqL.of hT, rfl, z, 1, rfl, rfl, ?_⟩
      refine ⟨.ref t, rfl, t, _, 2, 2, rfl, rfl, hT, rfl, ?_⟩
      have hT2 : (upd H t (.lst [.int x, .int y, .int (z + 1)])) t = some (.lst [.int x, .int y, .int (z + 1)]) := upd_same
      refine ⟨.ref t, rfl, t, _, 1, .int y, rfl, rfl, SqL.of hT2, rfl, .ref t, rfl, t, _, 2, .int (z + 1), rfl, rfl, SqL.of hT2, rfl, 350377, z + 1, rfl, rfl, .inl ⟨by decide, by decide⟩, ?_⟩
      refine ⟨y, 350377 * (z + 1), rfl, rfl, _, 3, rfl, rfl, ⟨rfl, by omega, by omega⟩, .inl ⟨_, rfl, _, 170141183460469231731687303715884105727, rfl, rfl, (by show (0 : Int) < 170141183460469231731687303715884105727; decide), ?_⟩⟩
      obtain ⟨g0, g1⟩ := mixA_in y (z + 1)
      refine ⟨.int (mixA y (z + 1)), rfl, .ref t, rfl, t, _, 2, .int (z + 1), rfl, rfl, SqL.of hT2, rfl, 27644437, z + 1, rfl, rfl, .inl ⟨by decide, by decide⟩, ?_⟩
      refine ⟨mixA y (z + 1), 27644437 * (z + 1), rfl, rfl, _, 3, rfl, rfl, ⟨rfl, by omega, by omega⟩, .inl ⟨_, rfl, 10, 46, rfl, rfl, ⟨by decide, by decide, by decide⟩, _, 9, rfl, rfl, _, _, rfl, rfl, (by show (0 : Int) < 10 ^ (46 : Int).toNat + 9; decide +kernel), ?_⟩⟩
      refine ⟨_, rfl, _, 524288, rfl, rfl, wide_div (b := 30) (by decide) (by decide) (by decide) (by decide), .inl ⟨_, rfl, .int m, rfl, _, m, rfl, rfl, hm0, ?_⟩⟩
      exact q _ _ (Int.emod_nonneg _ (by omega)) (Int.emod_lt_of_pos _ hm0) ⟨x, y, z + 1, upd_same, hx, hy0, hy, by omega, by omega⟩ upd_but
def spTank (K : PySem.W.Frag) : Sp := fun vs H Q _ => ∃ (a : Addr) (ns : List Int) (i : Int), vs = [.ref a, .int i] ∧ SqL K H a (ns.map V.int) ∧ 0 ≤ i ∧ i < 100 ∧
  ∀ (t : Addr) (H' : Hp), Same H H' → H t = none → Tank H' t 0 → Q (.ref t) H'
theorem ok_law_tank (T : Txt K mg) : FnOk P w K mg base CX0 1 T.a_law_tank T.d_law_tank ["script", "at"] (spTank K) := by
  refine T.F_law_tank.ok sc_law_tank (fun vs H Q E h => ?_) (fun cdv A outer s H vs Q E hr h => ?_)
  · obtain ⟨_, _, _, rfl, _⟩ := h
    rfl
  · obtain ⟨a, ns, i, rfl, hS, hi0, hi, q⟩ := h
    refine ⟨_, (pss_cons (ps_set (i := 2) sc_law_tank.nd rfl (.inl rfl) (pe_ifExp (pt_cmpR op_lt (pv 1) (pe_callB (lenL (K := K) rfl) (by rfl) T.n_len (by decide +kernel) (pa_cons (pv 0) pa_nil)) (nomark _)) (pe_ix (ixL (K := K) rfl) (pv 0) (pv 1) (fun _ _ => rfl)) pe_int))
      (pss_one (ps_ret (pe_lst (pa_cons (pe_callB (call_max2 rfl) (by rfl) T.n_max (by decide +kernel) (pa_cons pe_int (pa_cons (pe_op op_sub (pe_callB call_abs (by rfl) T.n_abs (by decide +kernel) (pa_cons (pv 2) pa_nil)) (pe_op op_pow pe_int pe_int)) pa_nil))) (pa_cons (pe_op op_add (pe_op op_mod (pe_callTy call_int1 (by rfl) T.n_int (by decide +kernel) (pa_cons (pv 2) pa_nil)) pe_int) (pe_op op_mul pe_int (pe_op op_add (pv 1) pe_int))) (pa_cons pe_int pa_nil))))))), ?_⟩
    have fin : ∀ c : Int, (fun σ H' => ∃ y2, σ = [some (.ref a), some (.int i), some y2] ∧ y2 = V.int c ∧ H' = H) [some (.ref a), some (.int i), some (V.int c)] H := fun c => ⟨_, rfl, rfl, rfl⟩
    have key : ∀ c : Int, (0 : Int) ≤ max 0 ((if c < 0 then -c else c) - 10 ^ 18) := fun c => Int.le_max_left _ _
    refine ⟨.int i, rfl, .ref a, rfl, a, _, rfl, .inl hS, i, _, rfl, rfl, _, rfl, ite2 (fun h => ?_) (fun h => ?_)⟩
    · have h1 : i < ns.length := by
        have := of_decide_eq_true h
        rw [List.length_map] at this
        exact this
      obtain ⟨c, hc, hat⟩ := at_in hi0 h1
      refine ⟨.ref a, rfl, .int i, rfl, a, _, i, .int c, rfl, rfl, hS, hat, ?_⟩
      refine ⟨.int c, rfl, c, rfl, 10, 18, rfl, rfl, ⟨by decide, by decide, by decide⟩, _, _, rfl, rfl, 0, _, rfl, ?_⟩
      refine ⟨.int c, rfl, .inl ⟨c, rfl, c, 1000000000000000003, rfl, rfl, (by show (0 : Int) < 1000000000000000003; decide), .int i, rfl, i, 1, rfl, rfl, 104729, i + 1, rfl, rfl, .inl ⟨by decide, by decide⟩, _, _, rfl, rfl, (by show 3 ≤ sizeLine; decide), fun t ht => ?_⟩⟩
      have m0 := Int.emod_nonneg c (show (1000000000000000003 : Int) ≠ 0 by decide)
      have m1 := Int.emod_lt_of_pos c (show (0 : Int) < 1000000000000000003 by decide)
      refine q t _ (new_same ht) ht ⟨_, _, 0, upd_same, ?_, by omega, by omega, by omega, by omega⟩
      split <;> omega
    · refine ⟨.int 0, rfl, 0, rfl, 10, 18, rfl, rfl, ⟨by decide, by decide, by decide⟩, _, _, rfl, rfl, 0, _, rfl, ?_⟩
      refine ⟨.int 0, rfl, .inl ⟨0, rfl, 0, 1000000000000000003, rfl, rfl, (by show (0 : Int) < 1000000000000000003; decide), .int i, rfl, i, 1, rfl, rfl, 104729, i + 1, rfl, rfl, .inl ⟨by decide, by decide⟩, _, _, rfl, rfl, (by show 3 ≤ sizeLine; decide), fun t ht => ?_⟩⟩
      refine q t _ (new_same ht) ht ⟨_, _, 0, upd_same, ?_, by omega, by omega, by omega, by omega⟩
      split <;> omega

/-! ### _law_drawn_count, _law_drawn_turn -/
def spCount : Sp := fun vs H Q _ => ∃ (T : Addr) (m c : Int), vs = [.ref T, .int m] ∧ 1 ≤ m ∧ m ≤ 40 ∧ Tank H T c ∧ 0 ≤ c ∧ c < 2 ^ 39 ∧
  ∀ (r : Int) (H' : Hp), 1 ≤ r → r ≤ m → Tank H' T (c + 3) → But T H H' → Q (.int r) H'
theorem ok_law_drawn_count (T : Txt K mg) : FnOk P w K mg base CX0 2 T.a_law_drawn_count T.d_law_drawn_count ["tank", "most"] spCount := by
  have G_law_tap := ok_law_tap (P := P) (w := w) (base := base) T
  refine T.F_law_drawn_count.ok sc_law_drawn_count (fun vs H Q E h => ?_) (fun cdv A outer s H vs Q E hr h => ?_)
  · obtain ⟨_, _, _, rfl, _⟩ := h
    rfl
  · obtain ⟨t, m, c, rfl, hm1, hm, hT, hc0, hc, q⟩ := h
    refine ⟨_, (pss_cons (ps_set (i := 2) sc_law_drawn_count.nd rfl (.inl rfl) (pe_lst (pa_cons pe_int (pa_cons (pv 1) (pa_cons pe_int (pa_cons pe_int (pa_cons pe_int (pa_cons pe_int (pa_cons pe_int (pa_cons (pe_op op_add pe_int (pe_call G_law_tap hr (by rfl) T.g_law_tap T.F_law_tap.kp T.b_law_tap .nil pass0 (pa_cons (pv 0) (pa_cons (pv 1) pa_nil)))) (pa_cons (pe_op op_add pe_int (pe_call G_law_tap hr (by rfl) T.g_law_tap T.F_law_tap.kp T.b_law_tap .nil pass0 (pa_cons (pv 0) (pa_cons (pv 1) pa_nil)))) pa_nil)))))))))))
      (pss_one (ps_ret (pe_callB (call_min2 rfl) (by rfl) T.n_min (by decide +kernel) (pa_cons (pv 1) (pa_cons (pe_ix (ixL (K := K) rfl) (pv 2) (pe_call G_law_tap hr (by rfl) T.g_law_tap T.F_law_tap.kp T.b_law_tap .nil pass0 (pa_cons (pv 0) (pa_cons pe_int pa_nil))) (fun _ _ => rfl)) pa_nil)))))), ?_⟩
    refine ⟨.int m, rfl, .ref t, rfl, .int m, rfl, t, m, c, rfl, by omega, by omega, hT, by omega, fun r1 H1 a1 b1 k1 u1 => ?_⟩
    refine ⟨1, r1, rfl, rfl, .ref t, rfl, .int m, rfl, t, m, c + 1, rfl, by omega, by omega, k1, by omega, fun r2 H2 a2 b2 k2 u2 => ?_⟩
    refine ⟨1, r2, rfl, rfl, (by show 9 ≤ sizeLine; decide), fun l hl => ?_⟩
    refine ⟨.int m, rfl, .ref l, rfl, .ref t, rfl, t, 9, c + 2, rfl, by omega, by omega, (k2.mono (by omega)).up hl, by omega, fun r3 H3 a3 b3 k3 u3 => ?_⟩
    have hl3 : H3 l = some (.lst (([1, m, 6, 7, 12, 36, 40, 1 + r1, 1 + r2] : List Int).map V.int)) := u3 _ _ upd_same (k2.ne hl)
    obtain ⟨n, hn, hat⟩ := at_in (ns := [1, m, 6, 7, 12, 36, 40, 1 + r1, 1 + r2]) a3 (by show r3 < 9; omega)
    have hn1 : 1 ≤ n := by
      have := List.mem_of_getElem? hn
      simp only [List.mem_cons, List.not_mem_nil, or_false] at this
      omega
    refine ⟨l, _, r3, .int n, rfl, rfl, SqL.of hl3, hat, m, n, rfl, ?_⟩
    have hb : But t H H3 := ((u1.trans u2).trans (But.of (new_same hl))).trans u3
    split
    · exact q _ _ hn1 (by omega) (k3.mono (by omega)) hb
    · exact q _ _ hm1 (by omega) (k3.mono (by omega)) hb

/-! ### _law_drawn_rim -/
def spRim : Sp := fun vs H Q _ => ∃ (T : Addr) (n c : Int), vs = [.ref T, .int n] ∧ 1 ≤ n ∧ n ≤ 40 ∧ Tank H T c ∧ 0 ≤ c ∧ c < 2 ^ 38 ∧
  ∀ (l : Addr) (ns : List Int) (H' : Hp), Rim ns → (ns.length : Int) = n → But T H H' → H l = none → H' l = some (.lst (ns.map V.int)) → Tank H' T (c + 60) → Q (.ref l) H'
/-- what holds between the ifs -/
def MidRim (t : Addr) (H : Hp) (n k w e : Int) : L2.St → Hp → Prop := fun σ' H' => ∃ (D : Addr) (ns : List Int) (y5 y6 y7 : Option V),
  σ' = [some (.ref t), some (.int n), some (.int k), some (.int w), some (.ref D), y5, y6, y7] ∧ Rim ns ∧ (ns.length : Int) = n ∧ H D = none ∧ H' D = some (.lst (ns.map V.int)) ∧ But t H H' ∧ Tank H' t e
theorem ok_law_drawn_rim (T : Txt K mg) : FnOk P w K mg base CX0 2 T.a_law_drawn_rim T.d_law_drawn_rim ["tank", "count"] spRim := by
  have G_law_tap := ok_law_tap (P := P) (w := w) (base := base) T
  refine T.F_law_drawn_rim.ok sc_law_drawn_rim (fun vs H Q E h => ?_) (fun cdv A outer s H vs Q E hr h => ?_)
  · obtain ⟨_, _, _, rfl, _⟩ := h
    rfl
  · obtain ⟨t, n, c, rfl, hn1, hn, hT, hc0, hc, q⟩ := h
    have e30 : (10 : Int) ^ (30 : Int).toNat = 1000000000000000000000000000000 := by decide +kernel
    refine ⟨_, (pss_cons (ps_asg (pe_tup (pa_cons (pe_call G_law_tap hr (by rfl) T.g_law_tap T.F_law_tap.kp T.b_law_tap .nil pass0 (pa_cons (pv 0) (pa_cons pe_int pa_nil))) (pa_cons (pe_ix (ixL (K := K) rfl) (pe_lst (pa_cons pe_int (pa_cons pe_int (pa_cons pe_int (pa_cons (pe_op op_add (pe_op op_pow pe_int pe_int) pe_int) pa_nil))))) (pe_call G_law_tap hr (by rfl) T.g_law_tap T.F_law_tap.kp T.b_law_tap .nil pass0 (pa_cons (pv 0) (pa_cons pe_int pa_nil))) (fun _ _ => rfl)) pa_nil))) (pg_tupL (K := K) (n := 2) rfl rfl (pgs_cons (pg_name (i := 2) sc_law_drawn_rim.nd rfl (.inr rfl)) (pgs_cons (pg_name (i := 3) sc_law_drawn_rim.nd rfl (.inr rfl)) pgs_nil))))
      (pss_cons (ps_setLc (i := 4) (own := [("slot_here", 5)]) (g := gName 5) (tt := tYes) (by rfl) sc_law_drawn_rim.nd rfl rfl (sw_true rfl rfl rfl (by decide +kernel)) (pi_range1 (by rfl) T.n_range (pa_cons (pv 1) pa_nil)) (blkOk_by (own := [("slot_here", 5)]) (N := ["tank", "count", "kind", "wide", "rim", "slot_here", "sizes", "size"]) (sc := defScope s_law_drawn_rim) (by decide +kernel))
        (fun _ _ _ _ _ => (pg_name (i := 5) sc_law_drawn_rim.nd rfl (Or.inl rfl))) (fun _ _ _ _ _ => pts_nil) (fun _ _ _ _ _ => (pe_call G_law_tap hr (by rfl) T.g_law_tap T.F_law_tap.kp T.b_law_tap .nil pass0 (pa_cons (pv 0) (pa_cons (pe_ix (ixL (K := K) rfl) (pe_lst (pa_cons pe_int (pa_cons pe_int (pa_cons (pv 3) (pa_cons (pv 3) (pa_cons (pe_op op_add (pe_op op_pow pe_int pe_int) pe_int) (pa_cons pe_int (pa_cons pe_int (pa_cons pe_int pa_nil))))))))) (pv 2) (fun _ _ => rfl)) pa_nil)))))
      (pss_mid (ps_if (pt_cmpR op_eq (pv 2) pe_int (nomark _)) (pss_cons (ps_set (i := 4) sc_law_drawn_rim.nd rfl (.inl rfl) (pe_op op_rep (pe_lst (pa_cons pe_int pa_nil)) (pv 1)))
      (pss_one (ps_asg (pe_op op_add pe_int (pe_call G_law_tap hr (by rfl) T.g_law_tap T.F_law_tap.kp T.b_law_tap .nil pass0 (pa_cons (pv 0) (pa_cons (pe_op op_sub (pv 3) pe_int) pa_nil)))) (pg_sub (pv 4) (pe_call G_law_tap hr (by rfl) T.g_law_tap T.F_law_tap.kp T.b_law_tap .nil pass0 (pa_cons (pv 0) (pa_cons (pv 1) pa_nil))) set_list)))) pss_nil)
      (pss_mid (ps_if (pt_cmpR op_eq (pv 2) pe_int (nomark _)) (pss_one (ps_set (i := 4) sc_law_drawn_rim.nd rfl (.inl rfl) (pe_op op_rep (pe_lst (pa_cons (pe_ix (ixL (K := K) rfl) (pv 4) pe_int (fun _ _ => rfl)) pa_nil)) (pv 1)))) pss_nil)
      (pss_mid (ps_if (pt_cmpR op_eq (pv 2) pe_int (nomark _)) (pss_cons (ps_setLc (i := 6) (own := [("size", 7)]) (g := gName 7) (by rfl) sc_law_drawn_rim.nd rfl rfl (sw_true rfl rfl rfl (by decide +kernel)) (pi_range2 (by rfl) T.n_range (pa_cons pe_int (pa_cons (pe_op op_add (pv 1) pe_int) pa_nil))) (blkOk_by (own := [("size", 7)]) (N := ["tank", "count", "kind", "wide", "rim", "slot_here", "sizes", "size"]) (sc := defScope s_law_drawn_rim) (by decide +kernel))
        (fun _ _ _ _ _ => (pg_name (i := 7) sc_law_drawn_rim.nd rfl (Or.inl rfl))) (fun _ _ _ _ _ => (pts_one (pt_cmpR op_eq (pe_op op_mod (pe_callTy call_int1 (by rfl) T.n_int (by decide +kernel) (pa_cons (pv 1) pa_nil)) (pv 7)) pe_int (nomark _)))) (fun _ _ _ _ _ => (pv 7)))
      (pss_cons (ps_set (i := 7) sc_law_drawn_rim.nd rfl (.inl rfl) (pe_ix (ixL (K := K) rfl) (pv 6) (pe_call G_law_tap hr (by rfl) T.g_law_tap T.F_law_tap.kp T.b_law_tap .nil pass0 (pa_cons (pv 0) (pa_cons (pe_callB (lenL (K := K) rfl) (by rfl) T.n_len (by decide +kernel) (pa_cons (pv 6) pa_nil)) pa_nil))) (fun _ _ => rfl)))
      (pss_one (ps_set (i := 4) sc_law_drawn_rim.nd rfl (.inl rfl) (pe_op op_rep (pe_slice (slL (K := K) rfl) (pv 4) po_none (po_some (pv 7))) (pe_op op_fdivW (pv 1) (pv 7))))))) pss_nil)
      (pss_one (ps_ret (pv 4)))))))), ?_⟩
    obtain ⟨oT, hoT⟩ := hT.some
    -- kind, wide
    refine ⟨.ref t, rfl, t, 8, c, rfl, by omega, by omega, hT, by omega, fun k H1 k0 k8 k1 u1 => ?_⟩
    refine ⟨10, 30, rfl, rfl, ⟨by decide, by decide, by decide⟩, _, 1, rfl, rfl, (by show 4 ≤ sizeLine; decide), fun l hl => ?_⟩
    refine ⟨.ref t, rfl, t, 4, c + 1, rfl, by omega, by omega, k1.up hl, by omega, fun r H2 r0 r4 k2 u2 => ?_⟩
    have hl2 : H2 l = some (.lst (([2, 2, 4, 10 ^ (30 : Int).toNat + 1] : List Int).map V.int)) := u2 _ _ upd_same (k1.ne hl)
    obtain ⟨w, hw, hat⟩ := at_in (ns := [2, 2, 4, 10 ^ (30 : Int).toNat + 1]) r0 (by show r < 4; omega)
    have hw1 : 2 ≤ w ∧ w ≤ 1000000000000000000000000000001 := by
      have := List.mem_of_getElem? hw
      simp only [List.mem_cons, List.not_mem_nil, or_false, e30] at this
      omega
    refine ⟨l, _, r, .int w, rfl, rfl, SqL.of hl2, hat, (by show 2 ≤ sizeLine; decide), fun p hp => ?_⟩
    refine ⟨p, _, rfl, SqT.of upd_same, rfl, _, _, rfl, _, _, rfl, rfl, ?_⟩
    have u3 : But t H (upd H2 p (.tup [.int k, .int w])) := (u1.trans ((But.of (new_same hl)).trans u2)).trans (But.of (new_same hp))
    have k3 : Tank (upd H2 p (.tup [.int k, .int w])) t (c + 2) := (k2.mono (by omega)).up hp
    generalize hH3 : upd H2 p (.tup [.int k, .int w]) = H3 at u3 k3
    -- rim = [..]
    refine ⟨.int n, rfl, n, rfl, by omega, by omega, fun D hD => ?_⟩
    have hHD : H D = none := free_but u3 hoT hD (by obtain ⟨o, e⟩ := k3.some; rw [e]; exact fun z => nomatch z)
    refine lc_range (lo := 0) (n := n.toNat) (fun i H' => But t H H' ∧ Tank H' t (c + 2 + i) ∧ ∃ ms : List Int, H' D = some (.lst (ms.map V.int)) ∧ ms.length = i ∧ ∀ m ∈ ms, 0 ≤ m ∧ m ≤ 1000000000000000000000000000000)
      ⟨u3.trans (But.of (new_same hD)), (k3.mono (by omega)).up hD, [], upd_same, rfl, fun m hm => (List.not_mem_nil hm).elim⟩ (fun i H4 hi hP => ⟨rfl, ?_⟩) (fun H4 hP => ?_)
    · obtain ⟨u4, k4, ms, hD4, hlen, hall⟩ := hP
      refine ⟨.ref t, rfl, .int w, rfl, .int w, rfl, 10, 30, rfl, rfl, ⟨by decide, by decide, by decide⟩, _, 1, rfl, rfl, (by show 8 ≤ sizeLine; decide), fun l2 hl2 => ?_⟩
      obtain ⟨m, hm, hatm⟩ := at_in (ns := [2, 2, w, w, 10 ^ (30 : Int).toNat + 1, 4, 1, 2]) k0 (by show k < 8; omega)
      have hm1 : 1 ≤ m ∧ m ≤ 1000000000000000000000000000001 := by
        have := List.mem_of_getElem? hm
        simp only [List.mem_cons, List.not_mem_nil, or_false, e30] at this
        omega
      refine ⟨.int k, rfl, l2, _, k, .int m, rfl, rfl, SqL.of upd_same, hatm, t, m, c + 2 + i, rfl, by omega, by omega, k4.up hl2, by omega, fun v H5 v0 v1 k5 u5 => ?_⟩
      have hD5 : H5 D = some (.lst (ms.map V.int)) := u5 _ _ (new_same hl2 _ _ hD4) (k3.ne hD)
      refine ⟨_, hD5, by rw [List.length_map]; exact sz40 (by omega), ?_, ?_, ms ++ [v], ?_, by rw [List.length_append]; show ms.length + 1 = i + 1; omega, fun z hz => ?_⟩
      · exact fun b o e ne => by
          rw [upd_ne (ne_of_none e hHD)]
          exact ((u4.trans (But.of (new_same hl2))).trans u5) b o e ne
      · obtain ⟨x, y, z, e, a1, a2, a3, a4, a5⟩ := k5
        exact ⟨x, y, z, by rw [upd_ne (k3.ne hD).symm]; exact e, a1, a2, a3, a4, by omega⟩
      · rw [upd_same, List.map_append]
        rfl
      · rcases List.mem_append.mp hz with h | h
        · exact hall z h
        · have e := List.mem_singleton.mp h
          subst e
          omega
    · obtain ⟨u4, k4, ms, hD4, hlen, hall⟩ := hP
      have hn2 : (ms.length : Int) = n := by omega
      have hR : Rim ms := ⟨by omega, by omega, hall⟩
      have ek : ((n.toNat : Nat) : Int) = n := by omega
      rw [ek] at k4
      -- if kind == 1
      refine ⟨MidRim t H n k w (c + 2 + n + 2), ⟨.int k, rfl, rfl, _, rfl, ite2 (fun _ => ?_) (fun _ => ?_)⟩, fun σ' H5 hM => ?_⟩
      · refine ⟨(by show 1 ≤ sizeLine; decide), fun l3 hl3 => ?_⟩
        refine ⟨.int n, rfl, l3, n, _, rfl, rfl, upd_same, by omega, by omega, (by show 1 * n.toNat ≤ sizeLine; exact sz40' (by omega)), fun p3 hp3 => ?_⟩
        have k5 : Tank (upd (upd H4 l3 (.lst [.int 0])) p3 (.lst (List.replicate n.toNat [V.int 0]).flatten)) t (c + 2 + n) := (k4.up hl3).up hp3
        have u5 : But t H (upd (upd H4 l3 (.lst [.int 0])) p3 (.lst (List.replicate n.toNat [V.int 0]).flatten)) := (u4.trans (But.of (new_same hl3))).trans (But.of (new_same hp3))
        refine ⟨.ref t, rfl, .int w, rfl, w, 1, rfl, rfl, t, w - 1, c + 2 + n, rfl, by omega, by omega, k5, by omega, fun v H6 v0 v1 k6 u6 => ?_⟩
        refine ⟨1, v, rfl, rfl, .ref p3, rfl, .ref t, rfl, .int n, rfl, t, n, c + 2 + n + 1, rfl, by omega, by omega, k6, by omega, fun j H7 j0 j1 k7 u7 => ?_⟩
        have hp7 : H7 p3 = some (.lst ((List.replicate n.toNat (0 : Int)).map V.int)) := u7 _ _ (u6 _ _ (by rw [upd_same, rep_one]) ((k4.up hl3).ne hp3)) ((k4.up hl3).ne hp3)
        have hlenr : ((List.replicate n.toNat (0 : Int)).map V.int).length = n.toNat := by rw [List.length_map, List.length_replicate]
        refine ⟨p3, _, _, j.toNat, rfl, rfl, hp7, ixN_in j0 (by rw [hlenr]; omega), ?_⟩
        have hHp : H p3 = none := free_but (u4.trans (But.of (new_same hl3))) hoT hp3 (by obtain ⟨o, e⟩ := (k4.up hl3).some; rw [e]; exact fun z => nomatch z)
        refine ⟨p3, (List.replicate n.toNat (0 : Int)).set j.toNat (1 + v), _, _, _, rfl, ⟨?_, ?_, fun z hz => ?_⟩, ?_, hHp, ?_, ?_, ?_⟩
        · rw [List.length_set, List.length_replicate]
          omega
        · rw [List.length_set, List.length_replicate]
          omega
        · rcases List.mem_or_eq_of_mem_set hz with h | h
          · rw [(List.mem_replicate.mp h).2]
            omega
          · omega
        · rw [List.length_set, List.length_replicate]
          exact ek
        · rw [upd_same, map_set]
        · exact fun b o e ne => by
            rw [upd_ne (ne_of_none e hHp)]
            exact ((u5.trans u6).trans u7) b o e ne
        · obtain ⟨x, y, z, e, a1, a2, a3, a4, a5⟩ := k7
          exact ⟨x, y, z, by rw [upd_ne ((k4.up hl3).ne hp3).symm]; exact e, a1, a2, a3, a4, by omega⟩
      · exact ⟨D, ms, _, _, _, rfl, hR, hn2, hHD, hD4, u4, k4.mono (by omega)⟩
      -- if kind == 2
      obtain ⟨D5, ns5, y5, y6, y7, rfl, hR5, hn5, hH5, hD5, u5, k5⟩ := hM
      refine ⟨MidRim t H n k w (c + 2 + n + 2), ⟨.int k, rfl, rfl, _, rfl, ite2 (fun _ => ?_) (fun _ => ?_)⟩, fun σ' H6 hM => ?_⟩
      · obtain ⟨m, hm, hat0⟩ := at_in (ns := ns5) (i := 0) (by omega) (by omega)
        have hmb := hR5.all m (List.mem_of_getElem? hm)
        refine ⟨.ref D5, rfl, D5, _, 0, .int m, rfl, rfl, SqL.of hD5, hat0, (by show 1 ≤ sizeLine; decide), fun l3 hl3 => ?_⟩
        refine ⟨.int n, rfl, l3, n, _, rfl, rfl, upd_same, by omega, by omega, (by show 1 * n.toNat ≤ sizeLine; exact sz40' (by omega)), fun p3 hp3 => ?_⟩
        have hHp : H p3 = none := free_but (u5.trans (But.of (new_same hl3))) hoT hp3 (by obtain ⟨o, e⟩ := (k5.up hl3).some; rw [e]; exact fun z => nomatch z)
        refine ⟨p3, List.replicate n.toNat m, _, _, _, rfl, ⟨?_, ?_, fun z hz => ?_⟩, ?_, hHp, by rw [upd_same, rep_one], (u5.trans (But.of (new_same hl3))).trans (But.of (new_same hp3)), (k5.up hl3).up hp3⟩
        · rw [List.length_replicate]
          omega
        · rw [List.length_replicate]
          omega
        · rw [(List.mem_replicate.mp hz).2]
          exact hmb
        · rw [List.length_replicate]
          exact ek
      · exact ⟨D5, ns5, y5, y6, y7, rfl, hR5, hn5, hH5, hD5, u5, k5⟩
      -- if kind == 3
      obtain ⟨D6, ns6, y5, y6, y7, rfl, hR6, hn6, hH6, hD6, u6, k6⟩ := hM
      refine ⟨MidRim t H n k w (c + 2 + n + 3), ⟨.int k, rfl, rfl, _, rfl, ite2 (fun _ => ?_) (fun _ => ?_)⟩, fun σ' H7 hM => ?_⟩
      · refine ⟨.int n, rfl, n, 1, rfl, rfl, 1, n + 1, rfl, ⟨by omega, by omega, by omega, by omega⟩, fun D2 hD2 => ?_⟩
        refine lc_range (lo := 1) (n := (n + 1 - 1).toNat) (fun i H' => Same H6 H' ∧ ∃ ss : List Int, H' D2 = some (.lst (ss.map V.int)) ∧ (∀ s ∈ ss, 1 ≤ s ∧ s ≤ n ∧ n % s = 0) ∧ ss.length ≤ i ∧ (0 < i → 1 ≤ ss.length))
          ⟨new_same hD2, [], upd_same, fun s hs => (List.not_mem_nil hs).elim, Nat.le_refl _, fun z => absurd z (Nat.lt_irrefl _)⟩ (fun i H7 hi hP => ⟨rfl, ?_⟩) (fun H7 hP => ?_)
        · obtain ⟨s7, ss, hD7, hss, hsl, hs0⟩ := hP
          refine ⟨.int n, rfl, .inl ⟨n, rfl, .int (1 + i), rfl, n, 1 + i, rfl, rfl, (by show (0 : Int) < _; omega), rfl, _, rfl, ite2 (fun h => ?_) (fun h => ?_)⟩⟩
          · have hz : n % (1 + (i : Int)) = 0 := V.int.inj (of_decide_eq_true h)
            refine ⟨.int (1 + i), rfl, _, hD7, by rw [List.length_map]; exact sz40 (by omega), fun b o e => ?_, ss ++ [1 + (i : Int)], ?_, fun z hzz => ?_, ?_, fun _ => ?_⟩
            · rw [upd_ne (ne_of_none e hD2)]
              exact s7 b o e
            · rw [upd_same, List.map_append]
              rfl
            · rcases List.mem_append.mp hzz with h | h
              · exact hss z h
              · have e := List.mem_singleton.mp h
                subst e
                exact ⟨by omega, by omega, hz⟩
            · rw [List.length_append]
              show ss.length + 1 ≤ i + 1
              omega
            · rw [List.length_append]
              show 1 ≤ ss.length + 1
              omega
          · refine ⟨s7, ss, hD7, hss, by omega, fun _ => ?_⟩
            rcases Nat.eq_zero_or_pos i with z | z
            · subst z
              exact absurd (decide_eq_true (by show V.int (n % (1 + ((0 : Nat) : Int))) = V.int 0; rw [show n % (1 + ((0 : Nat) : Int)) = 0 by omega])) h
            · exact hs0 z
        · obtain ⟨s7, ss, hD7, hss, hsl, hs0⟩ := hP
          have hs1 := hs0 (by omega)
          have k7 := k6.same s7
          refine ⟨.ref D2, rfl, .ref t, rfl, .ref D2, rfl, D2, _, rfl, .inl (SqL.of hD7), t, _, c + 2 + n + 2, rfl, by rw [List.length_map]; omega, by rw [List.length_map]; omega, k7, by omega, fun v H8 v0 v1 k8 u8 => ?_⟩
          rw [List.length_map] at v1
          obtain ⟨sz, hsz, hats⟩ := at_in v0 v1
          obtain ⟨z1, z2, z3⟩ := hss sz (List.mem_of_getElem? hsz)
          have hD8 : H8 D2 = some (.lst (ss.map V.int)) := u8 _ _ hD7 (k6.ne hD2)
          refine ⟨D2, _, v, .int sz, rfl, rfl, SqL.of hD8, hats, ?_⟩
          have hDt : D6 ≠ t := fun e => by
            rw [e] at hH6
            rw [hH6] at hoT
            cases hoT
          have hR8 : H8 D6 = some (.lst (ns6.map V.int)) := u8 _ _ (s7 _ _ hD6) hDt
          refine ⟨.ref D6, rfl, .int sz, rfl, sz, rfl, D6, _, rfl, SqL.of hR8, fun p3 hp3 => ?_⟩
          have hcut := cut_take ns6 sz (by omega)
          have hdv : n / sz * sz = n := Int.ediv_mul_cancel (Int.dvd_of_emod_eq_zero z3)
          have hq0 : 0 ≤ n / sz := Int.ediv_nonneg (by omega) (by omega)
          have hqn : n / sz ≤ n := Int.ediv_le_self _ (by omega)
          have htl : (ns6.take sz.toNat).length = sz.toNat := by rw [List.length_take]; omega
          have hlen2 : (n / sz).toNat * sz.toNat = n.toNat := by
            have e1 : (((n / sz).toNat * sz.toNat : Nat) : Int) = n := by
              rw [Int.natCast_mul, Int.toNat_of_nonneg hq0, Int.toNat_of_nonneg (by omega), hdv]
            omega
          refine ⟨.int n, rfl, .int sz, rfl, n, sz, rfl, rfl, wide_div (b := 200) (by omega) (by omega) (by decide) (by decide), p3, n / sz, _, rfl, rfl, upd_same, by omega, by omega, ?_, fun p4 hp4 => ?_⟩
          · rw [hcut, List.length_map, htl, Nat.mul_comm, hlen2]
            exact sz40' (by omega)
          · have hHp : H p4 = none := free_but (((u6.trans (But.of s7)).trans u8).trans (But.of (new_same hp3))) hoT hp4 (by obtain ⟨o, e⟩ := (k8.up hp3).some; rw [e]; exact fun z => nomatch z)
            refine ⟨p4, (List.replicate (n / sz).toNat (ns6.take sz.toNat)).flatten, _, _, _, rfl, ⟨?_, ?_, fun z hz => ?_⟩, ?_, hHp, by rw [upd_same, hcut, rep_map], (((u6.trans (But.of s7)).trans u8).trans (But.of (new_same hp3))).trans (But.of (new_same hp4)), ((k8.mono (by omega)).up hp3).up hp4⟩
            · rw [rep_len, htl, hlen2]
              omega
            · rw [rep_len, htl, hlen2]
              omega
            · exact hR6.all z (List.mem_of_mem_take (rep_mem hz))
            · rw [rep_len, htl, hlen2]
              exact ek
      · exact ⟨D6, ns6, y5, y6, y7, rfl, hR6, hn6, hH6, hD6, u6, k6.mono (by omega)⟩
      -- return rim
      obtain ⟨D7, ns7, y5, y6, y7, rfl, hR7, hn7, hH7, hD7, u7, k7⟩ := hM
      exact ⟨.ref D7, rfl, q D7 ns7 H7 hR7 hn7 u7 hH7 hD7 (k7.mono (by omega))⟩

/-! ### slitdiscs.words -/
def spNumText : Sp := fun vs H Q _ => ∃ n : Int, vs = [.int n] ∧ n.natAbs < 10 ^ 60 ∧ ∀ H', Same H H' → Q (.str (intS n)) H'
theorem ok_number_text (T : Txt K mg) : FnOk P w K mg base CX0 1 T.a_number_text T.d_number_text ["number"] spNumText := by
  refine T.F_number_text.ok sc_number_text (fun vs H Q E h => ?_) (fun cdv A outer s H vs Q E hr h => ?_)
  · obtain ⟨_, rfl, _⟩ := h
    rfl
  · obtain ⟨n, rfl, hn, q⟩ := h
    refine ⟨_, (pss_cons (ps_set (i := 1) sc_number_text.nd rfl (.inl rfl) (pe_lst pa_nil))
      (pss_cons (ps_set (i := 2) sc_number_text.nd rfl (.inl rfl) (pe_callB call_abs (by rfl) T.n_abs (by decide +kernel) (pa_cons (pv 0) pa_nil)))
      (pss_cons (ps_while PassesOwn.never (pt_cmpR op_ge (pv 2) (pe_glob (v := .int (1000000000000000000000000000000000000000000000000000000000000)) rfl T.g_PART ⟨_, rfl⟩) (nomark _)) (pss_cons ps_never
      (pss_one ps_never)))
      (pss_cons (ps_expr (pe_bm PySem.F.plainAttrs_list PySem.F.slot_list_append PySem.F.type_list_append mt_append (pv 1) (pa_cons (pe_callTy call_str_int (by rfl) T.n_str (by decide +kernel) (pa_cons (pv 2) pa_nil)) pa_nil)))
      (pss_cons (ps_set (i := 4) sc_number_text.nd rfl (.inl rfl) (pe_join pe_str (pe_revL (pv 1))))
      (pss_one (ps_ret (pe_ifExp (pt_cmpR op_lt (pv 0) pe_int (nomark _)) (pe_joinedN (PJ.cons pe_str (PJ.cons (pe_fmt (pv 4)) PJ.nil))) (pv 4))))))))), ?_⟩
    have e60 : (10 : Nat) ^ 60 = 1000000000000000000000000000000000000000000000000000000000000 := by decide +kernel
    rw [e60] at hn
    refine ⟨(by show 0 ≤ sizeLine; decide), fun p hp => ?_⟩
    refine ⟨.int n, rfl, n, rfl, ?_⟩
    obtain ⟨L, hL⟩ : ∃ L : Int, L = (if n < 0 then -n else n) := ⟨_, rfl⟩
    show gName 2 (V.int (if n < 0 then -n else n)) _ _ _
    rw [← hL]
    have hL0 : 0 ≤ L := by rw [hL]; split <;> omega
    have hL1 : L < 1000000000000000000000000000000000000000000000000000000000000 := by rw [hL]; split <;> omega
    have hLn : L.natAbs = n.natAbs := by rw [hL]; split <;> omega
    have s1 := new_same (o := .lst []) hp
    have g1 : (upd H p (.lst [])) p = some (.lst []) := upd_same
    generalize upd H p (.lst []) = H1 at s1 g1 ⊢
    refine ⟨fun m σ H' => m = 0 ∧ σ = [some (.int n), some (.ref p), some (.int L), none, none] ∧ H' = H1, ⟨0, rfl, rfl, rfl⟩, fun m σ H' hW => ?_⟩
    obtain ⟨rfl, rfl, rfl⟩ := hW
    refine ⟨.int L, rfl, L, _, rfl, rfl, _, rfl, ite2 (fun h => absurd (of_decide_eq_true h) (by omega)) (fun _ => ?_)⟩
    have hlog : L.natAbs.log2 < 1920 := abs_log (k := 60) (by rw [hLn, e60]; exact hn) (by decide)
    refine ⟨.ref p, rfl, .inl ⟨rfl, _, SqL.of g1⟩, .int L, rfl, L, rfl, hlog, p, _, _, rfl, rfl, g1, (by show 0 < sizeLine; decide), ?_⟩
    have eL : (toString L : String) = toString L := rfl
    have s2 : Same H (upd H' p (.lst ([] ++ [.str (Str.ofString (toString L))]))) := same_over s1 hp
    have g2 : (upd H' p (.lst ([] ++ [.str (Str.ofString (toString L))]))) p = some (.lst ([intS L].map V.str)) := by rw [upd_same, str_int]; rfl
    generalize upd H' p (.lst ([] ++ [.str (Str.ofString (toString L))])) = H2 at s2 g2 ⊢
    refine ⟨⟨_, rfl⟩, .ref p, rfl, p, _, rfl, SqL.of g2, fun p3 hp3 => ?_⟩
    have s3 := s2.trans (new_same (o := .lst ([intS L].map V.str).reverse) hp3)
    have il : (intS L).length ≤ 61 := by
      show (mkS (intL L)).length ≤ 61
      rw [mk_len]
      exact intL_len (by decide) (by rw [hLn, e60]; exact hn)
    refine ⟨_, p3, [intS L], rfl, rfl, .inl (SqL.of upd_same), ?_, ?_⟩
    · rw [cNone, mk_len]
      show (intS L).length + 0 + 1 * 0 ≤ 16777216
      omega
    rw [join_one]
    refine ⟨.int n, rfl, n, 0, rfl, rfl, _, rfl, ite2 (fun h => ?_) (fun h => ?_)⟩
    · have hn0 : n < 0 := of_decide_eq_true h
      have e : mkS [] ++ mkS [45] ++ intS L = intS n := by
        show mkS [] ++ mkS [45] ++ mkS (intL L) = mkS (intL n)
        rw [mk_app, mk_app, intL_neg hn0, intL_pos hL0, hLn]
        rfl
      refine ⟨_, rfl, ?_, .str (intS L), rfl, .inl ⟨_, rfl, spl_le il (by decide), _, rfl, ?_, ?_⟩⟩
      · rw [cDash]
        exact (by decide : (1 : Nat) ≤ sizeLine)
      · rw [cDash]
        show (mkS [] ++ mkS [45] ++ intS L).length ≤ sizeLine
        rw [e]
        show (mkS (intL n)).length ≤ sizeLine
        rw [mk_len]
        exact spl_le (intL_len (k := 60) (by decide) (by rw [e60]; exact hn)) (by decide)
      · rw [cDash]
        show Q (.str (mkS [] ++ mkS [45] ++ intS L)) _
        rw [e]
        exact q _ s3
    · have hn0 : L = n := by
        rw [hL, if_neg (fun z => h (decide_eq_true z))]
      refine ⟨_, rfl, ?_⟩
      have z := q _ s3
      have e : intS n = intS L := by rw [hn0]
      rw [e] at z
      exact z
def spNumsText (K : PySem.W.Frag) : Sp := fun vs H Q _ => ∃ (a : Addr) (ns : List Int), vs = [.ref a] ∧ SqL K H a (ns.map V.int) ∧ (∀ n ∈ ns, n.natAbs < 10 ^ 60) ∧ ns.length ≤ 100 ∧ ∀ H', Same H H' → Q (.str (wordsS (ns.map intL))) H'
theorem take_strs {l : List Str} {i : Nat} {v : Str} (h : l[i]? = some v) : (l.take i).map V.str ++ [.str v] = (l.take (i + 1)).map V.str := by
  rw [List.take_add_one, h, List.map_append]
  rfl
theorem ok_numbers_text (T : Txt K mg) : FnOk P w K mg base CX0 2 T.a_numbers_text T.d_numbers_text ["numbers"] (spNumsText K) := by
  have G_number_text := ok_number_text (P := P) (w := w) (base := base) T
  refine T.F_numbers_text.ok sc_numbers_text (fun vs H Q E h => ?_) (fun cdv A outer s H vs Q E hr h => ?_)
  · obtain ⟨_, _, rfl, _⟩ := h
    rfl
  · obtain ⟨a, ns, rfl, hS, hn, hl, q⟩ := h
    refine ⟨_, (pss_one (ps_ret (pe_join pe_str (pe_lc (own := [("number", 1)]) (g := gName 1) (tt := tYes) (by rfl) sc_numbers_text.nd (pi_listL (K := K) rfl (pv 0)) (blkOk_by (own := [("number", 1)]) (N := ["numbers", "number"]) (sc := defScope s_numbers_text) (by decide +kernel))
        (fun _ _ _ _ _ => (pg_name (i := 1) sc_numbers_text.nd rfl (Or.inl rfl))) (fun _ _ _ _ _ => pts_nil) (fun _ _ _ _ _ => (pe_call G_number_text hr (by rfl) T.g_number_text T.F_number_text.kp T.b_number_text .nil pass0 (pa_cons (pv 1) pa_nil))))))), ?_⟩
    refine ⟨⟨_, rfl⟩, .ref a, rfl, a, rfl, ⟨_, hS⟩, fun D hD => ?_⟩
    refine lc_list (K := K) (a := a) (xs := ns.map V.int) (fun i H' => Same H H' ∧ H' D = some (.lst (((ns.map intS).take i).map V.str)))
      ⟨new_same hD, upd_same⟩ (fun i H' _ hP => hP.1.seq hS) (fun i x H1 hx hP => ⟨rfl, ?_⟩) (fun H1 hP => ?_)
    · obtain ⟨s1, g1⟩ := hP
      obtain ⟨n, hx', rfl⟩ := int_at hx
      have hi : i < ns.length := (List.getElem?_eq_some_iff.mp hx').1
      refine ⟨.int n, rfl, n, rfl, hn n (List.mem_of_getElem? hx'), fun H2 s2 => ?_⟩
      refine ⟨_, s2 _ _ g1, ?_, same_over (s1.trans s2) hD, ?_⟩
      · rw [List.length_map, List.length_take]
        exact sz40 (by omega)
      · rw [upd_same, take_strs (by rw [List.getElem?_map, hx']; rfl)]
    · obtain ⟨s1, g1⟩ := hP
      rw [List.length_map, List.take_of_length_le (by rw [List.length_map]; exact Nat.le_refl _)] at g1
      have e : (ns.map intL).map mkS = ns.map intS := by
        rw [List.map_map]
        rfl
      refine ⟨spS, D, ns.map intS, congrArg V.str cSp, rfl, .inl (SqL.of g1), ?_, ?_⟩
      · rw [← e]
        exact join_fits (k := 61) (fun w hw => by
          obtain ⟨n, hn', rfl⟩ := List.mem_map.mp hw
          exact intL_len (by decide) (hn n hn')) (by decide) (by rw [List.length_map]; omega)
      · have z := q H1 s1
        unfold wordsS at z
        rw [e] at z
        exact z
/-! ### number_in, count_in -/
theorem hd_intL {n : Int} : (intL n).head? = some 45 ↔ n < 0 := by
  by_cases h : n < 0
  · rw [intL_neg h]
    exact ⟨fun _ => h, fun _ => rfl⟩
  · rw [intL_pos (by omega)]
    refine ⟨fun e => ?_, fun e => absurd e h⟩
    have hm : (45 : Nat) ∈ TL.numL n.natAbs := by
      cases e2 : TL.numL n.natAbs with
      | nil => rw [e2] at e; cases e
      | cons c r =>
        rw [e2] at e
        rw [← Option.some.inj e]
        exact List.mem_cons_self
    exact absurd hm (TL.numL_free (.inl (by decide)))
def spNumIn : Sp := fun vs H Q _ => ∃ n : Int, vs = [.str (intS n)] ∧ n.natAbs < 10 ^ 40 ∧ Q (.int n) H
theorem ok_number_in (T : Txt K mg) : FnOk P w K mg base CX0 1 T.a_number_in T.d_number_in ["word"] spNumIn := by
  refine T.F_number_in.ok sc_number_in (fun vs H Q E h => ?_) (fun cdv A outer s H vs Q E hr h => ?_)
  · obtain ⟨_, rfl, _⟩ := h
    rfl
  · obtain ⟨n, rfl, hn, q⟩ := h
    refine ⟨_, (pss_cons (ps_set (i := 1) sc_number_in.nd rfl (.inl rfl) (pe_ifExp (pt_val (pe_m1 PySem.F.slot_str_startswith PySem.F.type_str_startswith mt_startswith (pv 0) pe_str)) (pe_slice sl_str (pv 0) (po_some pe_int) po_none) (pv 0)))
      (pss_cons (ps_if (PW.pt (pw_or (pt_not (pt_val (pe_m0 PySem.F.slot_str_isascii PySem.F.type_str_isascii mt_isascii (pv 1)))) (pw_or (pt_not (pt_val (pe_m0 PySem.F.slot_str_isdigit PySem.F.type_str_isdigit mt_isdigit (pv 1)))) (pw_or1 (pt_cmpR op_gt (pe_callB call_len_str (by rfl) T.n_len (by decide +kernel) (pa_cons (pv 1) pa_nil)) (pe_glob (v := .int (40)) rfl T.g_MOST_DIGITS ⟨_, rfl⟩) (nomark _)))))) (pss_one (ps_ret pe_non)) pss_nil)
      (pss_cons (ps_if (PW.pt (pw_and (pt_val (pe_m1 PySem.F.slot_str_startswith PySem.F.type_str_startswith mt_startswith (pv 1) pe_str)) (pw_and1 (pt_cmpR op_ne (pv 0) pe_str (nomark _))))) (pss_one (ps_ret pe_non)) pss_nil)
      (pss_one (ps_ret (pe_callTy call_int_str (by rfl) T.n_int (by decide +kernel) (pa_cons (pv 0) pa_nil))))))), ?_⟩
    have il : (intS n).length ≤ 41 := by
      show (mkS (intL n)).length ≤ 41
      rw [mk_len]
      exact intL_len (by decide) hn
    have dl := TL.numL_len (k := 40) (by decide) hn
    refine ⟨.str (intS n), rfl, ⟨_, rfl⟩, intS n, mkS [45], rfl, by rw [cDash], _, rfl, ?_⟩
    have es : Txt.startswith (intS n) (mkS [45]) = decide (n < 0) := by
      show Txt.startswith (mkS (intL n)) (mkS [45]) = _
      rw [starts_one]
      exact decide_eq_decide.mpr hd_intL
    rw [es]
    by_cases hn1 : n < 0
    · rw [decide_eq_true hn1]
      refine iteT ?_
      refine ⟨.str (intS n), rfl, 1, rfl, intS n, rfl, spl_le il (by decide), ?_⟩
      have ec : cutS (intS n) (some 1) none = mkS (TL.numL n.natAbs) := by
        show cutS (mkS (intL n)) (some 1) none = _
        rw [intL_neg hn1, cut_tail]
      rw [ec]
      refine ⟨.str (mkS (TL.numL n.natAbs)), rfl, ⟨_, rfl⟩, _, rfl, rfl, trivial, _, rfl, ?_⟩
      rw [dig_isascii]
      refine iteF ?_
      refine ⟨.str (mkS (TL.numL n.natAbs)), rfl, ⟨_, rfl⟩, _, rfl, rfl, trivial, _, rfl, ?_⟩
      rw [dig_isdigit]
      refine iteF ?_
      refine ⟨.str (mkS (TL.numL n.natAbs)), rfl, _, rfl, spl_le (by rw [mk_len]; exact dl) (by decide), _, 40, rfl, rfl, _, rfl, ite2 (fun h => absurd (of_decide_eq_true h) (by rw [mk_len]; omega)) (fun _ => ?_)⟩
      refine ⟨.str (mkS (TL.numL n.natAbs)), rfl, ⟨_, rfl⟩, _, mkS [48], rfl, by rw [cZero], _, rfl, ?_⟩
      rw [starts_one]
      by_cases hz : (TL.numL n.natAbs).head? = some 48
      · rw [decide_eq_true hz]
        refine iteT ?_
        have hn0 : n = 0 := by
          refine Classical.byContradiction fun e => numL_head n.natAbs (by omega) hz
        have ew : V.str (intS n) = V.str (Str.ofString "0") := by
          rw [cZero, hn0]
          rfl
        refine ⟨.str (intS n), rfl, rfl, _, rfl, iteNS ew ?_⟩
        exact ⟨.str (intS n), rfl, _, n, rfl, int_reads (Nat.lt_of_lt_of_le hn (Nat.pow_le_pow_right (by decide) (by decide))), by omega, q⟩
      · rw [decide_eq_false hz]
        refine iteF (iteF ?_)
        exact ⟨.str (intS n), rfl, _, n, rfl, int_reads (Nat.lt_of_lt_of_le hn (Nat.pow_le_pow_right (by decide) (by decide))), by omega, q⟩
    · rw [decide_eq_false hn1]
      refine iteF ?_
      refine ⟨.str (intS n), rfl, ?_⟩
      have ed : intS n = mkS (TL.numL n.natAbs) := by
        show mkS (intL n) = _
        rw [intL_pos (by omega)]
      show gName 1 (V.str (intS n)) _ _ _
      rw [show gName 1 (V.str (intS n)) = gName 1 (V.str (mkS (TL.numL n.natAbs))) from congrArg (fun z => gName 1 (V.str z)) ed]
      refine ⟨.str (mkS (TL.numL n.natAbs)), rfl, ⟨_, rfl⟩, _, rfl, rfl, trivial, _, rfl, ?_⟩
      rw [dig_isascii]
      refine iteF ?_
      refine ⟨.str (mkS (TL.numL n.natAbs)), rfl, ⟨_, rfl⟩, _, rfl, rfl, trivial, _, rfl, ?_⟩
      rw [dig_isdigit]
      refine iteF ?_
      refine ⟨.str (mkS (TL.numL n.natAbs)), rfl, _, rfl, spl_le (by rw [mk_len]; exact dl) (by decide), _, 40, rfl, rfl, _, rfl, ite2 (fun h => absurd (of_decide_eq_true h) (by rw [mk_len]; omega)) (fun _ => ?_)⟩
      refine ⟨.str (mkS (TL.numL n.natAbs)), rfl, ⟨_, rfl⟩, _, mkS [48], rfl, by rw [cZero], _, rfl, ?_⟩
      rw [starts_one]
      by_cases hz : (TL.numL n.natAbs).head? = some 48
      · rw [decide_eq_true hz]
        refine iteT ?_
        have hn0 : n = 0 := by
          refine Classical.byContradiction fun e => numL_head n.natAbs (by omega) hz
        have ew : V.str (intS n) = V.str (Str.ofString "0") := by
          rw [cZero, hn0]
          rfl
        refine ⟨.str (intS n), rfl, rfl, _, rfl, iteNS ew ?_⟩
        exact ⟨.str (intS n), rfl, _, n, rfl, int_reads (Nat.lt_of_lt_of_le hn (Nat.pow_le_pow_right (by decide) (by decide))), by omega, q⟩
      · rw [decide_eq_false hz]
        refine iteF (iteF ?_)
        exact ⟨.str (intS n), rfl, _, n, rfl, int_reads (Nat.lt_of_lt_of_le hn (Nat.pow_le_pow_right (by decide) (by decide))), by omega, q⟩
def spCountIn : Sp := fun vs H Q _ => ∃ n : Int, vs = [.str (intS n)] ∧ 0 ≤ n ∧ n.natAbs < 10 ^ 40 ∧ Q (.int n) H
theorem ok_count_in (T : Txt K mg) : FnOk P w K mg base CX0 2 T.a_count_in T.d_count_in ["word"] spCountIn := by
  have G_number_in := ok_number_in (P := P) (w := w) (base := base) T
  refine T.F_count_in.ok sc_count_in (fun vs H Q E h => ?_) (fun cdv A outer s H vs Q E hr h => ?_)
  · obtain ⟨_, rfl, _⟩ := h
    rfl
  · obtain ⟨n, rfl, h0, hn, q⟩ := h
    refine ⟨_, (pss_cons (ps_set (i := 1) sc_count_in.nd rfl (.inl rfl) (pe_call G_number_in hr (by rfl) T.g_number_in T.F_number_in.kp T.b_number_in .nil pass0 (pa_cons (pv 0) pa_nil)))
      (pss_one (ps_ret (pe_ifExp (PW.pt (pw_or (pt_cmpR op_isN (pv 1) pe_non (nomark _)) (pw_or1 (pt_cmpR op_lt (pv 1) pe_int (nomark _))))) pe_non (pv 1))))), ?_⟩
    refine ⟨.str (intS n), rfl, n, rfl, hn, ?_⟩
    refine ⟨.int n, rfl, rfl, _, rfl, ?_⟩
    show (if decide (V.int n = V.non) = true then _ else _)
    rw [decide_eq_false (fun e => nomatch e)]
    refine iteF ?_
    refine ⟨.int n, rfl, n, 0, rfl, rfl, _, rfl, ite2 (fun h => absurd (of_decide_eq_true h) (by omega)) (fun _ => ?_)⟩
    exact ⟨.int n, rfl, q⟩

/-! ### slitdiscs.texts, written -/
theorem ok_format_disc (T : Txt K mg) : FnOk P w K mg base CX0 3 T.a_format_disc T.d_format_disc ["disc"] (spNumsText K) := by
  have G_numbers_text := ok_numbers_text (P := P) (w := w) (base := base) T
  refine T.F_format_disc.ok sc_format_disc (fun vs H Q E h => ?_) (fun cdv A outer s H vs Q E hr h => ?_)
  · obtain ⟨_, _, rfl, _⟩ := h
    rfl
  · obtain ⟨a, ns, rfl, h⟩ := h
    refine ⟨_, (pss_one (ps_ret (pe_call G_numbers_text hr (by rfl) T.g_numbers_text T.F_numbers_text.kp T.b_numbers_text .nil pass0 (pa_cons (pv 0) pa_nil)))), ?_⟩
    exact ⟨.ref a, rfl, a, ns, rfl, h⟩
theorem ok_format_row (T : Txt K mg) : FnOk P w K mg base CX0 3 T.a_format_row T.d_format_row ["row"] (spNumsText K) := by
  have G_numbers_text := ok_numbers_text (P := P) (w := w) (base := base) T
  refine T.F_format_row.ok sc_format_row (fun vs H Q E h => ?_) (fun cdv A outer s H vs Q E hr h => ?_)
  · obtain ⟨_, _, rfl, _⟩ := h
    rfl
  · obtain ⟨a, ns, rfl, h⟩ := h
    refine ⟨_, (pss_one (ps_ret (pe_call G_numbers_text hr (by rfl) T.g_numbers_text T.F_numbers_text.kp T.b_numbers_text .nil pass0 (pa_cons (pv 0) pa_nil)))), ?_⟩
    exact ⟨.ref a, rfl, a, ns, rfl, h⟩
def spLooksText (K : PySem.W.Frag) : Sp := fun vs H Q _ => ∃ (a : Addr) (xs : List V) (ps : List (Int × Int)), vs = [.ref a] ∧ SqL K H a xs ∧ Prs H xs ps ∧ (∀ p ∈ ps, p.1.natAbs < 10 ^ 60 ∧ p.2.natAbs < 10 ^ 60) ∧ ps.length ≤ 100 ∧ ∀ H', Same H H' → Q (.str (wordsS (ps.map lookL))) H'
theorem ok_format_looks (T : Txt K mg) : FnOk P w K mg base CX0 2 T.a_format_looks T.d_format_looks ["looks"] (spLooksText K) := by
  have G_number_text := ok_number_text (P := P) (w := w) (base := base) T
  refine T.F_format_looks.ok sc_format_looks (fun vs H Q E h => ?_) (fun cdv A outer s H vs Q E hr h => ?_)
  · obtain ⟨_, _, _, rfl, _⟩ := h
    rfl
  · obtain ⟨a, xs, ps, rfl, hS, hP, hb, hl, q⟩ := h
    refine ⟨_, (pss_one (ps_ret (pe_join pe_str (pe_lc (own := [("turn", 1), ("light", 2)]) (tt := tYes) (by rfl) sc_format_looks.nd (pi_listL (K := K) rfl (pv 0)) (blkOk_by (own := [("turn", 1), ("light", 2)]) (N := ["looks", "turn", "light"]) (sc := defScope s_format_looks) (by decide +kernel))
        (fun _ _ _ _ _ => (pg_tupL (K := K) (n := 2) rfl rfl (pgs_cons (pg_name (i := 1) sc_format_looks.nd rfl (.inl rfl)) (pgs_cons (pg_name (i := 2) sc_format_looks.nd rfl (.inl rfl)) pgs_nil)))) (fun _ _ _ _ _ => pts_nil) (fun _ _ _ _ _ => (pe_joinedN (PJ.cons (pe_fmt (pe_call G_number_text hr (by rfl) T.g_number_text T.F_number_text.kp T.b_number_text .nil pass0 (pa_cons (pv 1) pa_nil))) (PJ.cons pe_str (PJ.cons (pe_fmt (pe_call G_number_text hr (by rfl) T.g_number_text T.F_number_text.kp T.b_number_text .nil pass0 (pa_cons (pv 2) pa_nil))) PJ.nil))))))))), ?_⟩
    refine ⟨⟨_, rfl⟩, .ref a, rfl, a, rfl, ⟨_, hS⟩, fun D hD => ?_⟩
    have hxl := hP.len
    refine lc_list (K := K) (a := a) (xs := xs) (fun i H' => Same H H' ∧ H' D = some (.lst ((((ps.map fun p => mkS (lookL p)) : List Str).take i).map V.str)))
      ⟨new_same hD, upd_same⟩ (fun i H' _ hP => hP.1.seq hS) (fun i x H1 hx hQ => ?_) (fun H1 hQ => ?_)
    · obtain ⟨s1, g1⟩ := hQ
      obtain ⟨t, p, rfl, hp, et⟩ := hP.at hx
      have hi : i < ps.length := (List.getElem?_eq_some_iff.mp hp).1
      obtain ⟨b1, b2⟩ := hb p (List.mem_of_getElem? hp)
      refine ⟨t, _, rfl, SqT.of (s1 _ _ et), rfl, _, _, rfl, _, _, rfl, rfl, rfl, ?_⟩
      have l1 : (intS p.1).length ≤ 61 := by
        show (mkS (intL p.1)).length ≤ 61
        rw [mk_len]
        exact intL_len (by decide) b1
      have l2 : (intS p.2).length ≤ 61 := by
        show (mkS (intL p.2)).length ≤ 61
        rw [mk_len]
        exact intL_len (by decide) b2
      have e1 : mkS [] ++ intS p.1 = intS p.1 := by
        show mkS [] ++ mkS (intL p.1) = mkS (intL p.1)
        rw [mk_app]
        rfl
      have e3 : intS p.1 ++ mkS [61] ++ intS p.2 = mkS (lookL p) := by
        show mkS (intL p.1) ++ mkS [61] ++ mkS (intL p.2) = _
        rw [mk_app, mk_app, List.append_assoc]
        rfl
      have ll := look_len (k := 60) (by decide) b1 b2
      refine ⟨.int p.1, rfl, p.1, rfl, b1, fun H2 s2 => .inl ⟨_, rfl, spl_le l1 (by decide), _, rfl, ?_, ?_⟩⟩
      · show (mkS [] ++ intS p.1).length ≤ sizeLine
        rw [e1]
        exact spl_le l1 (by decide)
      show ∃ y : Str, _
      refine ⟨_, rfl, ?_, ?_⟩
      · show (mkS [] ++ intS p.1 ++ Str.ofString "=").length ≤ sizeLine
        rw [e1, cEq]
        show (mkS (intL p.1) ++ mkS [61]).length ≤ sizeLine
        rw [mk_app, mk_len, List.length_append]
        have : (intL p.1).length ≤ 61 := intL_len (by decide) b1
        exact spl_le (k := 100) (by show (intL p.1).length + 1 ≤ 100; omega) (by decide)
      refine ⟨.int p.2, rfl, p.2, rfl, b2, fun H3 s3 => .inl ⟨_, rfl, spl_le l2 (by decide), _, rfl, ?_, ?_⟩⟩
      · show (mkS [] ++ intS p.1 ++ Str.ofString "=" ++ intS p.2).length ≤ sizeLine
        rw [e1, cEq, e3, mk_len]
        exact spl_le ll (by decide)
      show ∃ acc, _
      have s13 := (s1.trans s2).trans s3
      refine ⟨_, (s2.trans s3) _ _ g1, ?_, same_over s13 hD, ?_⟩
      · rw [List.length_map, List.length_take]
        exact sz40 (by omega)
      · show upd H3 D (.lst (_ ++ [V.str (mkS [] ++ intS p.1 ++ Str.ofString "=" ++ intS p.2)])) D = _
        rw [upd_same, e1, cEq, e3, take_strs (by rw [List.getElem?_map, hp]; rfl)]
    · obtain ⟨s1, g1⟩ := hQ
      rw [hxl, List.take_of_length_le (by rw [List.length_map]; exact Nat.le_refl _)] at g1
      have e : (ps.map lookL).map mkS = ps.map fun p => mkS (lookL p) := by
        rw [List.map_map]
        rfl
      refine ⟨spS, D, ps.map fun p => mkS (lookL p), congrArg V.str cSp, rfl, .inl (SqL.of g1), ?_, ?_⟩
      · rw [← e]
        exact join_fits (k := 123) (fun w hw => by
          obtain ⟨p, hp, rfl⟩ := List.mem_map.mp hw
          exact look_len (k := 60) (by decide) (hb p hp).1 (hb p hp).2) (by decide) (by rw [List.length_map]; omega)
      · have z := q H1 s1
        unfold wordsS at z
        rw [e] at z
        exact z
/-! ### read -/
def spSlotIn : Sp := fun vs H Q _ => ∃ n : Int, vs = [.str (intS n)] ∧ 0 ≤ n ∧ n ≤ 1000000000000000000000000000000 ∧ Q (.int n) H
theorem rim_small {n : Int} (h0 : 0 ≤ n) (h : n ≤ 1000000000000000000000000000000) : n.natAbs < 10 ^ 40 := by
  have e : (10 : Nat) ^ 40 = 10000000000000000000000000000000000000000 := by decide +kernel
  rw [e]
  omega
theorem ok_slot_in (T : Txt K mg) : FnOk P w K mg base CX0 3 T.a_slot_in T.d_slot_in ["word"] spSlotIn := by
  have G_count_in := ok_count_in (P := P) (w := w) (base := base) T
  refine T.F_slot_in.ok sc_slot_in (fun vs H Q E h => ?_) (fun cdv A outer s H vs Q E hr h => ?_)
  · obtain ⟨_, rfl, _⟩ := h
    rfl
  · obtain ⟨n, rfl, h0, hn, q⟩ := h
    refine ⟨_, (pss_cons (ps_set (i := 1) sc_slot_in.nd rfl (.inl rfl) (pe_call G_count_in hr (by rfl) T.g_count_in T.F_count_in.kp T.b_count_in .nil pass0 (pa_cons (pv 0) pa_nil)))
      (pss_one (ps_ret (pe_ifExp (PW.pt (pw_or (pt_cmpR op_isN (pv 1) pe_non (nomark _)) (pw_or1 (pt_cmpR op_gt (pv 1) (pe_glob (v := .int (1000000000000000000000000000000)) rfl T.g_MOST_LIGHT ⟨_, rfl⟩) (nomark _))))) pe_non (pv 1))))), ?_⟩
    refine ⟨.str (intS n), rfl, n, rfl, h0, rim_small h0 hn, ?_⟩
    refine ⟨.int n, rfl, rfl, _, rfl, ?_⟩
    show (if decide (V.int n = V.non) = true then _ else _)
    rw [decide_eq_false (fun e => nomatch e)]
    refine iteF ?_
    refine ⟨.int n, rfl, n, _, rfl, rfl, _, rfl, ite2 (fun h => absurd (of_decide_eq_true h) (by omega)) (fun _ => ?_)⟩
    exact ⟨.int n, rfl, q⟩
def spLookIn : Sp := fun vs H Q _ => ∃ p : Int × Int, vs = [.str (mkS (lookL p))] ∧ p.1.natAbs < 10 ^ 40 ∧ 0 ≤ p.2 ∧ p.2.natAbs < 10 ^ 40 ∧ ∀ (t : Addr) (H' : Hp), Same H H' → H' t = some (.tup [.int p.1, .int p.2]) → Q (.ref t) H'
theorem ok_look_in (T : Txt K mg) : FnOk P w K mg base CX0 3 T.a_look_in T.d_look_in ["word"] spLookIn := by
  have G_number_in := ok_number_in (P := P) (w := w) (base := base) T
  have G_count_in := ok_count_in (P := P) (w := w) (base := base) T
  refine T.F_look_in.ok sc_look_in (fun vs H Q E h => ?_) (fun cdv A outer s H vs Q E hr h => ?_)
  · obtain ⟨_, rfl, _⟩ := h
    rfl
  · obtain ⟨p, rfl, b1, b0, b2, q⟩ := h
    refine ⟨_, (pss_cons (ps_asg (pe_partition (pv 0) pe_str) (pg_tupL (K := K) (n := 3) rfl rfl (pgs_cons (pg_name (i := 1) sc_look_in.nd rfl (.inl rfl)) (pgs_cons (pg_name (i := 2) sc_look_in.nd rfl (.inl rfl)) (pgs_cons (pg_name (i := 3) sc_look_in.nd rfl (.inl rfl)) pgs_nil)))))
      (pss_cons (ps_par (i := 4) (j := 5) (by rfl) sc_look_in.nd rfl rfl (by decide) rfl rfl (pa_cons (pe_call G_number_in (hr.mono (by decide)) (by rfl) T.g_number_in T.F_number_in.kp T.b_number_in .nil pass0 (pa_cons (pv 1) pa_nil)) (pa_cons (pe_call G_count_in hr (by rfl) T.g_count_in T.F_count_in.kp T.b_count_in .nil pass0 (pa_cons (pv 3) pa_nil)) pa_nil)) (by rfl))
      (pss_one (ps_ret (pe_ifExp (PW.pt (pw_or (pt_cmpR op_isN (pv 4) pe_non (nomark _)) (pw_or1 (pt_cmpR op_isN (pv 5) pe_non (nomark _))))) pe_non (pe_tup (pa_cons (pv 4) (pa_cons (pv 5) pa_nil)))))))), ?_⟩
    have ll := look_len (k := 40) (by decide) b1 b2
    refine ⟨.str (mkS (lookL p)), rfl, ⟨_, rfl⟩, mkS (lookL p), mkS [61], rfl, by rw [cEq], rfl, by rw [mk_len]; exact spl_le ll (by decide), fun t ht => ?_⟩
    rw [look_cut]
    have s1 := new_same (o := .tup [.str (intS p.1), .str (mkS [61]), .str (intS p.2)]) ht
    refine ⟨t, _, rfl, SqT.of upd_same, rfl, _, _, rfl, _, _, rfl, _, _, rfl, rfl, ?_⟩
    refine ⟨.str (intS p.1), rfl, p.1, rfl, b1, .str (intS p.2), rfl, p.2, rfl, b0, b2, _, _, rfl, ?_⟩
    refine ⟨.int p.1, rfl, rfl, _, rfl, ?_⟩
    show (if decide (V.int p.1 = V.non) = true then _ else _)
    rw [decide_eq_false (fun e => nomatch e)]
    refine iteF ?_
    refine ⟨.int p.2, rfl, rfl, _, rfl, ?_⟩
    show (if decide (V.int p.2 = V.non) = true then _ else _)
    rw [decide_eq_false (fun e => nomatch e)]
    refine iteF ?_
    refine ⟨.int p.1, rfl, .int p.2, rfl, (by show 2 ≤ sizeLine; decide), fun t2 ht2 => ?_⟩
    exact q t2 _ (s1.trans (new_same ht2)) upd_same
def spCheckText : Sp := fun vs H Q _ => ∃ x : Str, vs = [.str x] ∧ Q .non H
theorem kit_str_str {K : PySem.W.Frag} : PySem.W.kitOne K (.type "str") (.type "str") = some true := kit_ty (by decide +kernel)
theorem ok_check_text (T : Txt K mg) : FnOk P w K mg base CX0 1 T.a_check_text T.d_check_text ["text"] spCheckText := by
  refine T.F_check_text.ok sc_check_text (fun vs H Q E h => ?_) (fun cdv A outer s H vs Q E hr h => ?_)
  · obtain ⟨_, rfl, _⟩ := h
    rfl
  · obtain ⟨x, rfl, q⟩ := h
    refine ⟨_, (pss_one (ps_if (pt_not (pt_val (pe_callB (isiL (K := K) rfl) (by rfl) T.n_isinstance (by decide +kernel) (pa_cons (pv 0) (pa_cons (pe_bltn (v := .ty "str") (u := Value.type "str") rfl T.n_str (by decide +kernel) rfl) pa_nil))))) (pss_one ps_never) pss_nil)), ?_⟩
    exact ⟨.str x, rfl, .str x, .ty "str", _, _, true, rfl, .ty _, .base (.str x), kit_str_str, true, rfl, iteF q⟩
/-- all tuples are as they were -/
def SameT (H1 H2 : Hp) : Prop := ∀ b xs, H1 b = some (.tup xs) → H2 b = some (.tup xs)
theorem SameT.of {H1 H2 : Hp} (s : Same H1 H2) : SameT H1 H2 := fun b xs e => s _ _ e
theorem SameT.trans {H1 H2 H3 : Hp} (a : SameT H1 H2) (b : SameT H2 H3) : SameT H1 H3 := fun c xs e => b c xs (a c xs e)
theorem SameT.put {H : Hp} {D : Addr} {us : List V} {o : HO} (e : H D = some (.lst us)) : SameT H (upd H D o) := fun b xs h => by
  rw [upd_ne (fun z => by rw [z, e] at h; cases h)]
  exact h
/-- what the words are read as -/
def spParse (P : Program) (w : World) (K : PySem.W.Frag) (mg : Str → Option Value) (base : Heap) : Sp := fun vs H Q _ => ∃ (f : Addr) (m : Int) (ws : List (List Nat)) (spW : Sp) (R : List Nat → V → Hp → Prop),
  vs = [.str (wordsS ws), .ref f, .int m] ∧ FnR P w K mg base CX0 4 f spW ∧ PySem.W.keepIn K (.ref f) = true ∧ ws ≠ [] ∧ (∀ x ∈ ws, 32 ∉ x ∧ x.length ≤ 200) ∧ (ws.length : Int) ≤ m ∧ ws.length ≤ 100 ∧
  (∀ x v H1 H2, R x v H1 → SameT H1 H2 → R x v H2) ∧ (∀ x v H1, R x v H1 → v ≠ .non) ∧
  (∀ x ∈ ws, ∀ (H1 : Hp) (Q1 : VK), (∀ v H2, Same H1 H2 → R x v H2 → Q1 v H2) → spW [.str (mkS x)] H1 Q1 E0) ∧
  ∀ (l : Addr) (us : List V) (H' : Hp), Same H H' → H l = none → H' l = some (.lst us) → us.length = ws.length → (∀ (i : Nat) (x : List Nat) (v : V), ws[i]? = some x → us[i]? = some v → R x v H') → Q (.ref l) H'
theorem strs_at {l : List Str} {i : Nat} {x : V} (h : (l.map V.str)[i]? = some x) : ∃ y, l[i]? = some y ∧ x = .str y := by
  rw [List.getElem?_map] at h
  cases e : l[i]? with
  | none =>
    rw [e] at h
    cases h
  | some n =>
    rw [e] at h
    exact ⟨n, rfl, (Option.some.inj h).symm⟩
theorem ok_parse_words (T : Txt K mg) : FnOk P w K mg base CX0 5 T.a_parse_words T.d_parse_words ["text", "value_in", "most"] (spParse P w K mg base) := by
  refine T.F_parse_words.ok sc_parse_words (fun vs H Q E h => ?_) (fun cdv A outer s H vs Q E hr h => ?_)
  · obtain ⟨_, _, _, _, _, rfl, _⟩ := h
    rfl
  · obtain ⟨f, m, ws, spW, R, rfl, Fv, hkv, hne, hfree, hm, hl, hst, hnn, hsp, q⟩ := h
    have hrv := hr
    refine ⟨_, (pss_cons (ps_set (i := 3) sc_parse_words.nd rfl (.inl rfl) (pe_lst pa_nil))
      (pss_cons (ps_for PassesOwn.never rfl (enumL (K := K) rfl (by rfl) T.n_enumerate (pa_cons (pe_split (pv 0) pe_str) pa_nil)) (pg_tupL (K := K) (n := 2) rfl rfl (pgs_cons (pg_name (i := 4) sc_parse_words.nd rfl (.inl rfl)) (pgs_cons (pg_name (i := 5) sc_parse_words.nd rfl (.inl rfl)) pgs_nil))) (pss_cons (ps_set (i := 6) sc_parse_words.nd rfl (.inl rfl) (ItX.pe_callV (i := 1) Fv hrv hkv pass0 rfl (.inl rfl) (pa_cons (pv 5) pa_nil)))
      (pss_cons (ps_if (PW.pt (pw_or (pt_cmpR op_isN (pv 6) pe_non (nomark _)) (pw_or1 (pt_cmpR op_ge (pv 4) (pv 2) (nomark _))))) (pss_one ps_never) pss_nil)
      (pss_one (ps_expr (pe_bm PySem.F.plainAttrs_list PySem.F.slot_list_append PySem.F.type_list_append mt_append (pv 3) (pa_cons (pv 6) pa_nil)))))))
      (pss_one (ps_ret (pv 3))))), ?_⟩
    refine ⟨(by show 0 ≤ sizeLine; decide), fun D hD => ?_⟩
    have wl := words_len (k := 200) (fun x hx => (hfree x hx).2)
    have wl2 : (wordsS ws).length + 2 ≤ sizeLine := spl_le (k := 30000) (by omega) (by decide)
    refine ⟨.str (wordsS ws), rfl, ⟨_, rfl⟩, wordsS ws, spS, rfl, congrArg (fun z => [V.str z]) cSp, by decide +kernel, wl2, fun L hL => ?_⟩
    rw [words_split hne (fun x hx => (hfree x hx).1)]
    have s1 := (new_same (o := .lst []) hD).trans (new_same (o := .lst ((ws.map mkS).map V.str)) hL)
    have gD := new_same (o := .lst ((ws.map mkS).map V.str)) hL _ _ (upd_same (H := H) (a := D) (o := .lst []))
    have gL : (upd (upd H D (.lst [])) L (.lst ((ws.map mkS).map V.str))) L = some (.lst ((ws.map mkS).map V.str)) := upd_same
    generalize upd (upd H D (.lst [])) L (.lst ((ws.map mkS).map V.str)) = H1 at s1 gD gL ⊢
    have nDL : L ≠ D := fun e => by
      rw [e] at gL
      rw [gL] at gD
      have := HO.lst.inj (Option.some.inj gD)
      rw [List.map_eq_nil_iff, List.map_eq_nil_iff] at this
      exact hne this
    refine ⟨L, _, rfl, SqL.of gL, for_it (walk_enum (K := K) (xs := (ws.map mkS).map V.str)) (fun i σ H' => ∃ (y4 y5 y6 : Option V) (us : List V), σ = [some (.str (wordsS ws)), some (.ref f), some (.int m), some (.ref D), y4, y5, y6] ∧ Same H H' ∧ H' L = some (.lst ((ws.map mkS).map V.str)) ∧ H' D = some (.lst us) ∧ us.length = i ∧
        ∀ (j : Nat) (x : List Nat) (v : V), ws[j]? = some x → us[j]? = some v → R x v H')
      ⟨none, none, none, [], rfl, s1, gL, gD, rfl, fun j x v _ e => nomatch e⟩ (fun i σ H' _ ⟨_, _, _, _, _, _, g, _⟩ => SqL.of g) (fun i x σ H2 H3 hi hP hY => ?_) (fun σ H2 hP => ?_)⟩
    · obtain ⟨y4, y5, y6, us, rfl, s2, gL2, gD2, hul, hR⟩ := hP
      obtain ⟨p, z1, z2, rfl, hp, rfl, e3, e4⟩ := hY
      have e3 : V.int (i : Int) = z1 := Option.some.inj e3
      subst e3
      obtain ⟨y, hy, rfl⟩ := strs_at e4
      rw [List.getElem?_map] at hy
      obtain ⟨x, hx, rfl⟩ : ∃ x, ws[i]? = some x ∧ y = mkS x := by
        cases e : ws[i]? with
        | none => rw [e] at hy; cases hy
        | some x => rw [e] at hy; exact ⟨x, rfl, (Option.some.inj hy).symm⟩
      have hiw : i < ws.length := (List.getElem?_eq_some_iff.mp hx).1
      refine ⟨p, _, rfl, SqT.of upd_same, rfl, _, _, rfl, _, _, rfl, rfl, ?_⟩
      have s3 := new_same (o := .tup [.int i, .str (mkS x)]) hp
      refine ⟨rfl, .str (mkS x), rfl, hsp x (List.mem_of_getElem? hx) _ _ fun v H4 s4 hv => ?_⟩
      have hvn := hnn _ _ _ hv
      have s34 := s3.trans s4
      refine ⟨v, rfl, ?_⟩
      refine ⟨rfl, _, rfl, ?_⟩
      show (if decide (v = V.non) = true then _ else _)
      rw [decide_eq_false hvn]
      refine iteF ?_
      refine ⟨.int i, rfl, .int m, rfl, i, m, rfl, rfl, _, rfl, ite2 (fun h => absurd (of_decide_eq_true h) (by omega)) (fun _ => ?_)⟩
      have gD4 := s34 _ _ gD2
      refine ⟨.ref D, rfl, .inl ⟨rfl, _, SqL.of gD4⟩, v, rfl, D, _, _, rfl, rfl, gD4, by rw [hul]; exact sz40 (by omega), ?_⟩
      refine ⟨_, _, _, us ++ [v], rfl, same_over (s2.trans s34) hD, ?_, upd_same, by rw [List.length_append, hul]; rfl, fun j x' v' hx' hv' => ?_⟩
      · rw [upd_ne nDL]
        exact s34 _ _ gL2
      · have sp := SameT.put (o := .lst (us ++ [v])) gD4
        rcases Nat.lt_or_ge j us.length with z | z
        · rw [List.getElem?_append_left z] at hv'
          exact hst _ _ _ _ (hR j x' v' hx' hv') ((SameT.of s34).trans sp)
        · have ej : j = i := by
            have := (List.getElem?_eq_some_iff.mp hv').1
            rw [List.length_append] at this
            have : j < us.length + 1 := this
            omega
          subst ej
          rw [hx] at hx'
          cases hx'
          rw [← hul, List.getElem?_concat_length] at hv'
          cases hv'
          exact hst _ _ _ _ hv sp
    · obtain ⟨y4, y5, y6, us, rfl, s2, gL2, gD2, hul, hR⟩ := hP
      rw [List.length_map, List.length_map] at hul
      exact ⟨.ref D, rfl, q D us H2 s2 hD gD2 hul hR⟩
theorem intL_inj {m n : Int} (hm : m.natAbs < 10 ^ 600) (hn : n.natAbs < 10 ^ 600) (h : intL m = intL n) : m = n := by
  have e1 := int_reads hm
  have e2 := int_reads hn
  unfold intS at e1 e2
  rw [h, e2] at e1
  exact (Option.some.inj e1).symm
theorem ten_up {n : Int} {a b : Nat} (h : n.natAbs < 10 ^ a) (hab : a ≤ b) : n.natAbs < 10 ^ b := Nat.lt_of_lt_of_le h (Nat.pow_le_pow_right (by decide) hab)
def readI (x : List Nat) (v : V) (_ : Hp) : Prop := ∃ n : Int, x = intL n ∧ n.natAbs < 10 ^ 600 ∧ v = .int n
theorem read_ints {ns : List Int} {us : List V} {H : Hp} (hb : ∀ n ∈ ns, n.natAbs < 10 ^ 600) (hl : us.length = (ns.map intL).length)
    (h : ∀ (i : Nat) (x : List Nat) (v : V), (ns.map intL)[i]? = some x → us[i]? = some v → readI x v H) : us = ns.map V.int := by
  rw [List.length_map] at hl
  refine List.ext_getElem? fun i => ?_
  by_cases hi : i < ns.length
  · have e1 : ns[i]? = some ns[i] := List.getElem?_eq_getElem hi
    have e2 : us[i]? = some us[i] := List.getElem?_eq_getElem (by omega)
    obtain ⟨n, en, hn, ev⟩ := h i (intL ns[i]) us[i] (by rw [List.getElem?_map, e1]; rfl) e2
    have := intL_inj (hb _ (List.getElem_mem hi)) hn en
    rw [e2, ev, List.getElem?_map, e1, ← this]
    rfl
  · rw [List.getElem?_eq_none (by omega), List.getElem?_eq_none (by rw [List.length_map]; omega)]
theorem int_word {n : Int} {k : Nat} (h : n.natAbs < 10 ^ k) (hk : 0 < k) (hk2 : k ≤ 100) : 32 ∉ intL n ∧ (intL n).length ≤ 200 := ⟨intL_free (.inl (by decide)) (by decide), by have := intL_len hk h; omega⟩
def spParseDisc : Sp := fun vs H Q _ => ∃ ns : List Int, vs = [.str (wordsS (ns.map intL))] ∧ Rim ns ∧ ∀ (l : Addr) (H' : Hp), Same H H' → H l = none → H' l = some (.lst (ns.map V.int)) → Q (.ref l) H'
theorem ok_parse_disc (T : Txt K mg) : FnOk P w K mg base CX0 6 T.a_parse_disc T.d_parse_disc ["text"] spParseDisc := by
  have G_check_text := ok_check_text (P := P) (w := w) (base := base) T
  have G_parse_words := ok_parse_words (P := P) (w := w) (base := base) T
  have G_slot_in := ok_slot_in (P := P) (w := w) (base := base) T
  refine T.F_parse_disc.ok sc_parse_disc (fun vs H Q E h => ?_) (fun cdv A outer s H vs Q E hr h => ?_)
  · obtain ⟨_, rfl, _⟩ := h
    rfl
  · obtain ⟨ns, rfl, hR, q⟩ := h
    refine ⟨_, (pss_cons (ps_expr (pe_call G_check_text (hr.mono (by decide)) (by rfl) T.g_check_text T.F_check_text.kp T.b_check_text .nil pass0 (pa_cons (pv 0) pa_nil)))
      (pss_one (ps_ret (pe_call G_parse_words hr (by rfl) T.g_parse_words T.F_parse_words.kp T.b_parse_words .nil pass0 (pa_cons (pv 0) (pa_cons (pe_glob (v := .ref T.a_slot_in) rfl T.g_slot_in rfl) (pa_cons (pe_glob (v := .int (40)) rfl T.g_MOST_SLOTS ⟨_, rfl⟩) pa_nil))))))), ?_⟩
    have l40 := hR.le
    have lp := hR.pos
    have hb : ∀ n ∈ ns, n.natAbs < 10 ^ 40 := fun n hn => rim_small (hR.all n hn).1 (hR.all n hn).2
    refine ⟨.str _, rfl, _, rfl, ?_⟩
    refine ⟨.str _, rfl, T.a_slot_in, 40, ns.map intL, spSlotIn, readI, rfl, ((G_slot_in.raw T.b_slot_in .nil).imp fun vs H Q E h => by rw [List.append_nil]; exact h).mono (by decide), T.F_slot_in.kp, ?_, ?_, ?_, ?_, ?_, ?_, ?_, ?_⟩
    · intro e
      rw [List.map_eq_nil_iff.mp e] at lp
      cases lp
    · intro x hx
      obtain ⟨n, hn, rfl⟩ := List.mem_map.mp hx
      exact int_word (hb n hn) (by decide) (by decide)
    · rw [List.length_map]
      omega
    · rw [List.length_map]
      omega
    · exact fun x v H1 H2 h _ => h
    · rintro x v H1 ⟨n, _, _, rfl⟩
      exact fun e => nomatch e
    · intro x hx H1 Q1 hq
      obtain ⟨n, hn, rfl⟩ := List.mem_map.mp hx
      exact ⟨n, rfl, (hR.all n hn).1, (hR.all n hn).2, hq _ _ (Same.refl H1) ⟨n, rfl, ten_up (hb n hn) (by decide), rfl⟩⟩
    · intro l us H' s f e hl hr
      have eu := read_ints (fun n hn => ten_up (hb n hn) (by decide)) hl hr
      subst eu
      exact q l H' s f e
def spParseRow : Sp := fun vs H Q _ => ∃ ns : List Int, vs = [.str (wordsS (ns.map intL))] ∧ (∀ n ∈ ns, n.natAbs < 10 ^ 40) ∧ 1 ≤ ns.length ∧ ns.length ≤ 40 ∧ ∀ (l : Addr) (H' : Hp), Same H H' → H l = none → H' l = some (.lst (ns.map V.int)) → Q (.ref l) H'
theorem ok_parse_row (T : Txt K mg) : FnOk P w K mg base CX0 6 T.a_parse_row T.d_parse_row ["text"] spParseRow := by
  have G_check_text := ok_check_text (P := P) (w := w) (base := base) T
  have G_parse_words := ok_parse_words (P := P) (w := w) (base := base) T
  have G_number_in := ok_number_in (P := P) (w := w) (base := base) T
  refine T.F_parse_row.ok sc_parse_row (fun vs H Q E h => ?_) (fun cdv A outer s H vs Q E hr h => ?_)
  · obtain ⟨_, rfl, _⟩ := h
    rfl
  · obtain ⟨ns, rfl, hb, lp, l40, q⟩ := h
    refine ⟨_, (pss_cons (ps_expr (pe_call G_check_text (hr.mono (by decide)) (by rfl) T.g_check_text T.F_check_text.kp T.b_check_text .nil pass0 (pa_cons (pv 0) pa_nil)))
      (pss_one (ps_ret (pe_call G_parse_words hr (by rfl) T.g_parse_words T.F_parse_words.kp T.b_parse_words .nil pass0 (pa_cons (pv 0) (pa_cons (pe_glob (v := .ref T.a_number_in) rfl T.g_number_in rfl) (pa_cons (pe_glob (v := .int (40)) rfl T.g_MOST_SLOTS ⟨_, rfl⟩) pa_nil))))))), ?_⟩
    refine ⟨.str _, rfl, _, rfl, ?_⟩
    refine ⟨.str _, rfl, T.a_number_in, 40, ns.map intL, spNumIn, readI, rfl, ((G_number_in.raw T.b_number_in .nil).imp fun vs H Q E h => by rw [List.append_nil]; exact h).mono (by decide), T.F_number_in.kp, ?_, ?_, ?_, ?_, ?_, ?_, ?_, ?_⟩
    · intro e
      rw [List.map_eq_nil_iff.mp e] at lp
      cases lp
    · intro x hx
      obtain ⟨n, hn, rfl⟩ := List.mem_map.mp hx
      exact int_word (hb n hn) (by decide) (by decide)
    · rw [List.length_map]
      omega
    · rw [List.length_map]
      omega
    · exact fun x v H1 H2 h _ => h
    · rintro x v H1 ⟨n, _, _, rfl⟩
      exact fun e => nomatch e
    · intro x hx H1 Q1 hq
      obtain ⟨n, hn, rfl⟩ := List.mem_map.mp hx
      exact ⟨n, rfl, hb n hn, hq _ _ (Same.refl H1) ⟨n, rfl, ten_up (hb n hn) (by decide), rfl⟩⟩
    · intro l us H' s f e hl hr
      have eu := read_ints (fun n hn => ten_up (hb n hn) (by decide)) hl hr
      subst eu
      exact q l H' s f e
def readP (x : List Nat) (v : V) (H : Hp) : Prop := ∃ p : Int × Int, x = lookL p ∧ (p.1.natAbs < 10 ^ 600 ∧ p.2.natAbs < 10 ^ 600) ∧ ∃ t, v = .ref t ∧ H t = some (.tup [.int p.1, .int p.2])
theorem look_inj {p r : Int × Int} (hp : p.1.natAbs < 10 ^ 600 ∧ p.2.natAbs < 10 ^ 600) (hr : r.1.natAbs < 10 ^ 600 ∧ r.2.natAbs < 10 ^ 600) (h : lookL p = lookL r) : p = r := by
  have e1 := look_cut p
  rw [h, look_cut r] at e1
  have a := (mk_inj.mp (Prod.mk.inj e1).1)
  have b := (mk_inj.mp (Prod.mk.inj (Prod.mk.inj e1).2).2)
  exact Prod.ext (intL_inj hp.1 hr.1 a.symm) (intL_inj hp.2 hr.2 b.symm)
theorem read_looks {H : Hp} : ∀ {ps : List (Int × Int)} {us : List V}, (∀ p ∈ ps, p.1.natAbs < 10 ^ 600 ∧ p.2.natAbs < 10 ^ 600) → us.length = (ps.map lookL).length →
    (∀ (i : Nat) (x : List Nat) (v : V), (ps.map lookL)[i]? = some x → us[i]? = some v → readP x v H) → Prs H us ps
  | [], [], _, _, _ => .nil
  | [], _ :: _, _, hl, _ => nomatch hl
  | _ :: _, [], _, hl, _ => nomatch hl
  | p :: ps, u :: us, hb, hl, h => by
    obtain ⟨r, er, hr, t, rfl, et⟩ := h 0 (lookL p) u rfl rfl
    have e := look_inj (hb p List.mem_cons_self) hr er
    subst e
    exact .cons et (read_looks (fun p hp => hb p (List.mem_cons_of_mem _ hp)) (Nat.succ.inj hl) fun i x v hx hv => h (i + 1) x v hx hv)
def spParseLooks : Sp := fun vs H Q _ => ∃ ps : List (Int × Int), vs = [.str (wordsS (ps.map lookL))] ∧ (∀ p ∈ ps, p.1.natAbs < 10 ^ 40 ∧ 0 ≤ p.2 ∧ p.2.natAbs < 10 ^ 40) ∧ ps.length ≤ 40 ∧
  ∀ (l : Addr) (us : List V) (H' : Hp), Same H H' → H l = none → H' l = some (.lst us) → Prs H' us ps → Q (.ref l) H'
theorem ok_parse_looks (T : Txt K mg) : FnOk P w K mg base CX0 6 T.a_parse_looks T.d_parse_looks ["text"] spParseLooks := by
  have G_check_text := ok_check_text (P := P) (w := w) (base := base) T
  have G_parse_words := ok_parse_words (P := P) (w := w) (base := base) T
  have G_look_in := ok_look_in (P := P) (w := w) (base := base) T
  refine T.F_parse_looks.ok sc_parse_looks (fun vs H Q E h => ?_) (fun cdv A outer s H vs Q E hr h => ?_)
  · obtain ⟨_, rfl, _⟩ := h
    rfl
  · obtain ⟨ps, rfl, hb, l40, q⟩ := h
    refine ⟨_, (pss_cons (ps_expr (pe_call G_check_text (hr.mono (by decide)) (by rfl) T.g_check_text T.F_check_text.kp T.b_check_text .nil pass0 (pa_cons (pv 0) pa_nil)))
      (pss_cons (ps_if (pt_cmpR op_eq (pv 0) pe_str (nomark _)) (pss_one (ps_ret (pe_lst pa_nil))) pss_nil)
      (pss_one (ps_ret (pe_call G_parse_words hr (by rfl) T.g_parse_words T.F_parse_words.kp T.b_parse_words .nil pass0 (pa_cons (pv 0) (pa_cons (pe_glob (v := .ref T.a_look_in) rfl T.g_look_in rfl) (pa_cons (pe_glob (v := .int (40)) rfl T.g_MOST_LOOKS ⟨_, rfl⟩) pa_nil)))))))), ?_⟩
    refine ⟨.str _, rfl, _, rfl, ?_⟩
    refine ⟨.str _, rfl, rfl, _, rfl, ?_⟩
    rw [cNone]
    cases ps with
    | nil =>
      have e : V.str (wordsS (([] : List (Int × Int)).map lookL)) = V.str (mkS []) := by
        show V.str (Txt.join spS []) = _
        rw [join_none]
      rw [decide_eq_true e]
      refine iteT ?_
      refine ⟨(by show 0 ≤ sizeLine; decide), fun l hl => ?_⟩
      exact q l [] _ (new_same hl) hl upd_same .nil
    | cons p ps =>
      have e : ¬ V.str (wordsS ((p :: ps).map lookL)) = V.str (mkS []) := fun z => by
        have z2 := congrArg TL.tl (V.str.inj z)
        rw [tl_words] at z2
        have z3 : TL.joinL [32] ((p :: ps).map lookL) = [] := z2
        have ne : lookL p ≠ [] := fun y => by
          unfold lookL at y
          exact absurd (List.append_eq_nil_iff.mp y).2 (fun y => nomatch y)
        cases ps with
        | nil => exact ne z3
        | cons r rs => exact ne (List.append_eq_nil_iff.mp z3).1
      rw [decide_eq_false e]
      refine iteF ?_
      refine ⟨.str _, rfl, T.a_look_in, 40, (p :: ps).map lookL, spLookIn, readP, rfl, ((G_look_in.raw T.b_look_in .nil).imp fun vs H Q E h => by rw [List.append_nil]; exact h).mono (by decide), T.F_look_in.kp, ?_, ?_, ?_, ?_, ?_, ?_, ?_, ?_⟩
      · exact fun z => nomatch z
      · intro x hx
        obtain ⟨r, hr, rfl⟩ := List.mem_map.mp hx
        obtain ⟨b1, b0, b2⟩ := hb r hr
        exact ⟨look_free r, by have := look_len (k := 40) (by decide) b1 b2; omega⟩
      · rw [List.length_map]
        omega
      · rw [List.length_map]
        omega
      · rintro x v H1 H2 ⟨r, er, hr, t, ev, et⟩ s
        exact ⟨r, er, hr, t, ev, s _ _ et⟩
      · rintro x v H1 ⟨r, _, _, t, rfl, _⟩
        exact fun e => nomatch e
      · intro x hx H1 Q1 hq
        obtain ⟨r, hr, rfl⟩ := List.mem_map.mp hx
        obtain ⟨b1, b0, b2⟩ := hb r hr
        exact ⟨r, rfl, b1, b0, b2, fun t H' s e => hq _ _ s ⟨r, rfl, ⟨ten_up b1 (by decide), ten_up b2 (by decide)⟩, t, rfl, e⟩⟩
      · intro l us H' s f e hl hr
        exact q l us H' s f e (read_looks (fun r hr => ⟨ten_up (hb r hr).1 (by decide), ten_up (hb r hr).2.2 (by decide)⟩) hl hr)

/-! ### the law's words -/
theorem Prs.upT {H H1 : Hp} {vs : List V} {ps : List (Int × Int)} (h : Prs H vs ps) (s : SameT H H1) : Prs H1 vs ps := by
  induction h with
  | nil => exact .nil
  | cons h _ ih => exact .cons (s _ _ h) ih
theorem SameT.but {T : Addr} {c : Int} {H H1 : Hp} (u : But T H H1) (k : Tank H T c) : SameT H H1 := fun b xs e => u b _ e fun z => by
  obtain ⟨x, y, z', hT, _⟩ := k
  rw [z, hT] at e
  cases e
theorem rep_oneW (v : V) : ∀ k : Nat, (List.replicate k [v]).flatten = List.replicate k v
  | 0 => rfl
  | k + 1 => by
    rw [List.replicate_succ, List.replicate_succ, List.flatten_cons, rep_oneW v k]
    rfl
theorem prs_rep {H : Hp} {t : Addr} {p : Int × Int} (h : H t = some (.tup [.int p.1, .int p.2])) : ∀ k : Nat, Prs H (List.replicate k (.ref t)) (List.replicate k p)
  | 0 => .nil
  | k + 1 => .cons h (prs_rep h k)
theorem rep_mapW (ms : List Int) : ∀ k : Nat, (List.replicate k (ms.map V.int)).flatten = ((List.replicate k ms).flatten).map V.int
  | 0 => rfl
  | k + 1 => by
    rw [List.replicate_succ, List.replicate_succ, List.flatten_cons, List.flatten_cons, List.map_append, rep_mapW ms k]
theorem bits60 {n : Int} (h : n.natAbs < 10 ^ 60) : n.natAbs.log2 < 1920 := abs_log (k := 60) h (by decide)
theorem ok_law_line (T : Txt K mg) : FnOk P w K mg base CX0 1 T.a_law_line T.d_law_line ["rows"] (spNumsText K) := by
  refine T.F_law_line.ok sc_law_line (fun vs H Q E h => ?_) (fun cdv A outer s H vs Q E hr h => ?_)
  · obtain ⟨_, _, rfl, _⟩ := h
    rfl
  · obtain ⟨a, ns, rfl, hS, hn, hl, q⟩ := h
    refine ⟨_, (pss_one (ps_ret (pe_join pe_str (pe_lc (own := [("one", 1)]) (g := gName 1) (tt := tYes) (by rfl) sc_law_line.nd (pi_listL (K := K) rfl (pv 0)) (blkOk_by (own := [("one", 1)]) (N := ["rows", "one"]) (sc := defScope s_law_line) (by decide +kernel))
        (fun _ _ _ _ _ => (pg_name (i := 1) sc_law_line.nd rfl (Or.inl rfl))) (fun _ _ _ _ _ => pts_nil) (fun _ _ _ _ _ => (pe_callTy call_str_int (by rfl) T.n_str (by decide +kernel) (pa_cons (pv 1) pa_nil))))))), ?_⟩
    refine ⟨⟨_, rfl⟩, .ref a, rfl, a, rfl, ⟨_, hS⟩, fun D hD => ?_⟩
    refine lc_list (K := K) (a := a) (xs := ns.map V.int) (fun i H' => Same H H' ∧ H' D = some (.lst (((ns.map intS).take i).map V.str)))
      ⟨new_same hD, upd_same⟩ (fun i H' _ hP => hP.1.seq hS) (fun i x H1 hx hP => ⟨rfl, ?_⟩) (fun H1 hP => ?_)
    · obtain ⟨s1, g1⟩ := hP
      obtain ⟨n, hx', rfl⟩ := int_at hx
      have hi : i < ns.length := (List.getElem?_eq_some_iff.mp hx').1
      refine ⟨.int n, rfl, n, rfl, bits60 (hn n (List.mem_of_getElem? hx')), ?_⟩
      refine ⟨_, g1, ?_, same_over s1 hD, ?_⟩
      · rw [List.length_map, List.length_take]
        exact sz40 (by omega)
      · rw [upd_same, str_int, take_strs (by rw [List.getElem?_map, hx']; rfl)]
    · obtain ⟨s1, g1⟩ := hP
      rw [List.length_map, List.take_of_length_le (by rw [List.length_map]; exact Nat.le_refl _)] at g1
      have e : (ns.map intL).map mkS = ns.map intS := by
        rw [List.map_map]
        rfl
      refine ⟨spS, D, ns.map intS, congrArg V.str cSp, rfl, .inl (SqL.of g1), ?_, ?_⟩
      · rw [← e]
        exact join_fits (k := 61) (fun w hw => by
          obtain ⟨n, hn', rfl⟩ := List.mem_map.mp hw
          exact intL_len (by decide) (hn n hn')) (by decide) (by rw [List.length_map]; omega)
      · have z := q H1 s1
        unfold wordsS at z
        rw [e] at z
        exact z
theorem ok_law_notes_text (T : Txt K mg) : FnOk P w K mg base CX0 1 T.a_law_notes_text T.d_law_notes_text ["notes"] (spLooksText K) := by
  refine T.F_law_notes_text.ok sc_law_notes_text (fun vs H Q E h => ?_) (fun cdv A outer s H vs Q E hr h => ?_)
  · obtain ⟨_, _, _, rfl, _⟩ := h
    rfl
  · obtain ⟨a, xs, ps, rfl, hS, hP, hb, hl, q⟩ := h
    refine ⟨_, (pss_one (ps_ret (pe_join pe_str (pe_lc (own := [("by", 1), ("much", 2)]) (tt := tYes) (by rfl) sc_law_notes_text.nd (pi_listL (K := K) rfl (pv 0)) (blkOk_by (own := [("by", 1), ("much", 2)]) (N := ["notes", "by", "much"]) (sc := defScope s_law_notes_text) (by decide +kernel))
        (fun _ _ _ _ _ => (pg_tupL (K := K) (n := 2) rfl rfl (pgs_cons (pg_name (i := 1) sc_law_notes_text.nd rfl (.inl rfl)) (pgs_cons (pg_name (i := 2) sc_law_notes_text.nd rfl (.inl rfl)) pgs_nil)))) (fun _ _ _ _ _ => pts_nil) (fun _ _ _ _ _ => (pe_op op_add_str (pe_op op_add_str (pe_callTy call_str_int (by rfl) T.n_str (by decide +kernel) (pa_cons (pv 1) pa_nil)) pe_str) (pe_callTy call_str_int (by rfl) T.n_str (by decide +kernel) (pa_cons (pv 2) pa_nil)))))))), ?_⟩
    refine ⟨⟨_, rfl⟩, .ref a, rfl, a, rfl, ⟨_, hS⟩, fun D hD => ?_⟩
    have hxl := hP.len
    refine lc_list (K := K) (a := a) (xs := xs) (fun i H' => Same H H' ∧ H' D = some (.lst ((((ps.map fun p => mkS (lookL p)) : List Str).take i).map V.str)))
      ⟨new_same hD, upd_same⟩ (fun i H' _ hP => hP.1.seq hS) (fun i x H1 hx hQ => ?_) (fun H1 hQ => ?_)
    · obtain ⟨s1, g1⟩ := hQ
      obtain ⟨t, p, rfl, hp, et⟩ := hP.at hx
      have hi : i < ps.length := (List.getElem?_eq_some_iff.mp hp).1
      obtain ⟨b1, b2⟩ := hb p (List.mem_of_getElem? hp)
      have l1 : (intS p.1).length ≤ 61 := by
        show (mkS (intL p.1)).length ≤ 61
        rw [mk_len]
        exact intL_len (by decide) b1
      have l2 : (intS p.2).length ≤ 61 := by
        show (mkS (intL p.2)).length ≤ 61
        rw [mk_len]
        exact intL_len (by decide) b2
      have e3 : intS p.1 ++ mkS [61] ++ intS p.2 = mkS (lookL p) := by
        show mkS (intL p.1) ++ mkS [61] ++ mkS (intL p.2) = _
        rw [mk_app, mk_app, List.append_assoc]
        rfl
      refine ⟨t, _, rfl, SqT.of (s1 _ _ et), rfl, _, _, rfl, _, _, rfl, rfl, rfl, ?_⟩
      refine ⟨.int p.1, rfl, p.1, rfl, bits60 b1, ?_⟩
      rw [str_int]
      refine ⟨_, _, rfl, rfl, ?_, ?_⟩
      · rw [cEq, mk_len]
        exact spl_le (show (intS p.1).length + 1 ≤ 62 by omega) (by decide)
      refine ⟨.int p.2, rfl, p.2, rfl, bits60 b2, ?_⟩
      rw [str_int]
      refine ⟨_, _, rfl, rfl, ?_, ?_⟩
      · rw [cEq, Str.length_append, mk_len]
        exact spl_le (show (intS p.1).length + 1 + (intS p.2).length ≤ 123 by omega) (by decide)
      rw [cEq, e3]
      refine ⟨_, g1, ?_, same_over s1 hD, ?_⟩
      · rw [List.length_map, List.length_take]
        exact sz40 (by omega)
      · rw [upd_same, take_strs (by rw [List.getElem?_map, hp]; rfl)]
    · obtain ⟨s1, g1⟩ := hQ
      rw [hxl, List.take_of_length_le (by rw [List.length_map]; exact Nat.le_refl _)] at g1
      have e : (ps.map lookL).map mkS = ps.map fun p => mkS (lookL p) := by
        rw [List.map_map]
        rfl
      refine ⟨spS, D, ps.map fun p => mkS (lookL p), congrArg V.str cSp, rfl, .inl (SqL.of g1), ?_, ?_⟩
      · rw [← e]
        exact join_fits (k := 123) (fun w hw => by
          obtain ⟨p, hp, rfl⟩ := List.mem_map.mp hw
          exact look_len (k := 60) (by decide) (hb p hp).1 (hb p hp).2) (by decide) (by rw [List.length_map]; omega)
      · have z := q H1 s1
        unfold wordsS at z
        rw [e] at z
        exact z
/-! ### _law_drawn_notes -/
theorem e40N : (10 : Nat) ^ 40 = 10000000000000000000000000000000000000000 := by decide +kernel
def spNotesDrawn : Sp := fun vs H Q _ => ∃ (T : Addr) (m c : Int), vs = [.ref T, .int m] ∧ 1 ≤ m ∧ m ≤ 10000000000000000000000000000000000000000 ∧ Tank H T c ∧ 0 ≤ c ∧ c < 2 ^ 38 ∧
  ∀ (l : Addr) (us : List V) (ps : List (Int × Int)) (H' : Hp), But T H H' → H l = none → H' l = some (.lst us) → Prs H' us ps →
    (∀ p ∈ ps, p.1.natAbs < 10 ^ 40 ∧ 0 ≤ p.2 ∧ p.2.natAbs < 10 ^ 40) → ps.length ≤ 40 → Tank H' T (c + 200) → Q (.ref l) H'
theorem ok_law_drawn_notes (T : Txt K mg) : FnOk P w K mg base CX0 2 T.a_law_drawn_notes T.d_law_drawn_notes ["tank", "far"] spNotesDrawn := by
  have G_law_tap := ok_law_tap (P := P) (w := w) (base := base) T
  refine T.F_law_drawn_notes.ok sc_law_drawn_notes (fun vs H Q E h => ?_) (fun cdv A outer s H vs Q E hr h => ?_)
  · obtain ⟨_, _, _, rfl, _⟩ := h
    rfl
  · obtain ⟨t, m, c, rfl, hm1, hm, hT, hc0, hc, q⟩ := h
    refine ⟨_, (pss_cons (ps_set (i := 2) sc_law_drawn_notes.nd rfl (.inl rfl) (pe_lst pa_nil))
      (pss_cons (ps_for PassesOwn.never rfl (pi_range1 (by rfl) T.n_range (pa_cons (pe_ix (ixL (K := K) rfl) (pe_lst (pa_cons (pe_call G_law_tap hr (by rfl) T.g_law_tap T.F_law_tap.kp T.b_law_tap .nil pass0 (pa_cons (pv 0) (pa_cons pe_int pa_nil))) (pa_cons (pe_call G_law_tap hr (by rfl) T.g_law_tap T.F_law_tap.kp T.b_law_tap .nil pass0 (pa_cons (pv 0) (pa_cons pe_int pa_nil))) (pa_cons pe_int pa_nil)))) (pe_call G_law_tap hr (by rfl) T.g_law_tap T.F_law_tap.kp T.b_law_tap .nil pass0 (pa_cons (pv 0) (pa_cons pe_int pa_nil))) (fun _ _ => rfl)) pa_nil)) (pg_name (i := 3) sc_law_drawn_notes.nd rfl (.inl rfl)) (pss_cons (ps_set (i := 4) sc_law_drawn_notes.nd rfl (.inl rfl) (pe_op op_mul (pe_call G_law_tap hr (by rfl) T.g_law_tap T.F_law_tap.kp T.b_law_tap .nil pass0 (pa_cons (pv 0) (pa_cons (pe_ix (ixL (K := K) rfl) (pe_lst (pa_cons pe_int (pa_cons (pv 1) pa_nil))) (pe_call G_law_tap hr (by rfl) T.g_law_tap T.F_law_tap.kp T.b_law_tap .nil pass0 (pa_cons (pv 0) (pa_cons pe_int pa_nil))) (fun _ _ => rfl)) pa_nil))) (pe_ix (ixL (K := K) rfl) (pe_lst (pa_cons pe_int (pa_cons (pe_un un_neg pe_int) pa_nil))) (pe_call G_law_tap hr (by rfl) T.g_law_tap T.F_law_tap.kp T.b_law_tap .nil pass0 (pa_cons (pv 0) (pa_cons pe_int pa_nil))) (fun _ _ => rfl))))
      (pss_one (ps_expr (pe_bm PySem.F.plainAttrs_list PySem.F.slot_list_append PySem.F.type_list_append mt_append (pv 2) (pa_cons (pe_tup (pa_cons (pv 4) (pa_cons (pe_call G_law_tap hr (by rfl) T.g_law_tap T.F_law_tap.kp T.b_law_tap .nil pass0 (pa_cons (pv 0) (pa_cons (pv 1) pa_nil))) pa_nil))) pa_nil))))))
      (pss_one (ps_ret (pv 2))))), ?_⟩
    refine ⟨(by show 0 ≤ sizeLine; decide), fun D hD => ?_⟩
    have nDt : D ≠ t := hT.ne hD
    have u0 : But t H (upd H D (.lst [])) := But.of (new_same hD)
    refine ⟨.ref t, rfl, t, 5, c, rfl, by omega, by omega, hT.up hD, by omega, fun r1 H1 a1 b1 k1 u1 => ?_⟩
    refine ⟨.ref t, rfl, t, 41, c + 1, rfl, by omega, by omega, k1, by omega, fun r2 H2 a2 b2 k2 u2 => ?_⟩
    refine ⟨(by show 3 ≤ sizeLine; decide), fun l hl => ?_⟩
    refine ⟨.ref t, rfl, t, 3, c + 1 + 1, rfl, by omega, by omega, k2.up hl, by omega, fun r3 H3 a3 b3 k3 u3 => ?_⟩
    have hl3 : H3 l = some (.lst (([r1, r2, 40] : List Int).map V.int)) := u3 _ _ upd_same (k2.ne hl)
    obtain ⟨n, hn, hat⟩ := at_in (ns := [r1, r2, 40]) a3 (by show r3 < 3; omega)
    have hn1 : 0 ≤ n ∧ n ≤ 40 := by
      have := List.mem_of_getElem? hn
      simp only [List.mem_cons, List.not_mem_nil, or_false] at this
      omega
    have uA : But t H H3 := (((u0.trans u1).trans u2).trans (But.of (new_same hl))).trans u3
    have gD : H3 D = some (.lst []) := u3 _ _ (new_same hl _ _ (u2 _ _ (u1 _ _ upd_same nDt) nDt)) nDt
    refine ⟨l, _, r3, .int n, rfl, rfl, SqL.of hl3, hat, n, rfl, by omega, by omega, for_range (lo := 0)
      (fun i σ H' => ∃ (y3 y4 : Option V) (us : List V) (ps : List (Int × Int)), σ = [some (.ref t), some (.int m), some (.ref D), y3, y4] ∧ But t H H' ∧ H' D = some (.lst us) ∧ Prs H' us ps ∧
        (∀ p ∈ ps, p.1.natAbs < 10 ^ 40 ∧ 0 ≤ p.2 ∧ p.2.natAbs < 10 ^ 40) ∧ ps.length = i ∧ Tank H' t (c + 3 + 4 * i))
      ⟨none, none, [], [], rfl, uA, gD, .nil, fun p hp => (List.not_mem_nil hp).elim, rfl, k3.mono (by omega)⟩ (fun i σ H4 hi hP => ?_) (fun σ H4 hP => ?_)⟩
    · obtain ⟨y3, y4, us, ps, rfl, u4, g4, hPr, hb, hlen, k4⟩ := hP
      have hi40 : i < 40 := by omega
      refine ⟨.ref t, rfl, .int m, rfl, (by show 2 ≤ sizeLine; decide), fun l1 h1 => ?_⟩
      refine ⟨.ref t, rfl, t, 2, c + 3 + 4 * i, rfl, by omega, by omega, k4.up h1, by omega, fun v1 H5 a5 b5 k5 u5 => ?_⟩
      have hl5 : H5 l1 = some (.lst (([9, m] : List Int).map V.int)) := u5 _ _ upd_same (k4.ne h1)
      obtain ⟨x, hx, hatx⟩ := at_in (ns := [9, m]) a5 (by show v1 < 2; omega)
      have hx1 : 1 ≤ x ∧ x ≤ 10000000000000000000000000000000000000000 := by
        have := List.mem_of_getElem? hx
        simp only [List.mem_cons, List.not_mem_nil, or_false] at this
        omega
      refine ⟨l1, _, v1, .int x, rfl, rfl, SqL.of hl5, hatx, t, x, c + 3 + 4 * i + 1, rfl, by omega, by omega, k5, by omega, fun v2 H6 a6 b6 k6 u6 => ?_⟩
      refine ⟨1, rfl, (by show 2 ≤ sizeLine; decide), fun l2 h2 => ?_⟩
      refine ⟨.ref t, rfl, t, 2, c + 3 + 4 * i + 1 + 1, rfl, by omega, by omega, k6.up h2, by omega, fun v3 H7 a7 b7 k7 u7 => ?_⟩
      have hl7 : H7 l2 = some (.lst (([1, -1] : List Int).map V.int)) := u7 _ _ upd_same (k6.ne h2)
      obtain ⟨d, hd, hat7⟩ := at_in (ns := [1, -1]) a7 (by show v3 < 2; omega)
      have hd1 : d = 1 ∨ d = -1 := by
        have := List.mem_of_getElem? hd
        simp only [List.mem_cons, List.not_mem_nil, or_false] at this
        exact this
      refine ⟨l2, _, v3, .int d, rfl, rfl, SqL.of hl7, hat7, v2, d, rfl, rfl, .inr (by omega), ?_⟩
      have lo : (v2 * d).natAbs < 10 ^ 40 := by
        rw [e40N]
        rcases hd1 with rfl | rfl <;> omega
      obtain ⟨y, hy⟩ : ∃ y, y = v2 * d := ⟨_, rfl⟩
      rw [← hy] at lo
      show gName 4 (V.int (v2 * d)) _ _ _
      rw [← hy]
      have g7 : H7 D = some (.lst us) := (((((But.of (new_same h1)).trans u5).trans u6).trans (But.of (new_same h2))).trans u7) _ _ g4 nDt
      refine ⟨.ref D, rfl, .inl ⟨rfl, _, SqL.of g7⟩, .int y, rfl, .ref t, rfl, .int m, rfl, t, m, c + 3 + 4 * i + 1 + 1 + 1, rfl, by omega, by omega, k7, by omega, fun v4 H8 a8 b8 k8 u8 => ?_⟩
      refine ⟨(by show 2 ≤ sizeLine; decide), fun tp htp => ?_⟩
      have u48 : But t H4 H8 := ((((((But.of (new_same h1)).trans u5).trans u6).trans (But.of (new_same h2))).trans u7)).trans u8
      have g8 := u48 _ _ g4 nDt
      have sT := new_same (o := .tup [.int y, .int v4]) htp
      have g9 := sT _ _ g8
      refine ⟨D, _, _, rfl, rfl, g9, ?_, ?_⟩
      · rw [hPr.len]
        exact sz40 (by omega)
      · refine ⟨_, _, us ++ [.ref tp], ps ++ [(y, v4)], rfl, fun b o e n => ?_, upd_same, ?_, fun p hp => ?_, by rw [List.length_append]; show ps.length + 1 = i + 1; omega, ?_⟩
        · rw [upd_ne (ne_of_none e hD)]
          exact sT _ _ (u48 _ _ (u4 _ _ e n) n)
        · have hQ : Prs (upd H8 tp (.tup [.int y, .int v4])) us ps := (hPr.upT (SameT.but u48 k4)).up sT
          have hQ2 := hQ.snoc (t := tp) (p := (y, v4)) upd_same
          exact hQ2.upT (SameT.put g9)
        · rcases List.mem_append.mp hp with h | h
          · exact hb p h
          · rw [List.mem_singleton.mp h]
            refine ⟨lo, a8, ?_⟩
            show v4.natAbs < 10 ^ 40
            rw [e40N]
            omega
        · obtain ⟨x1, x2, x3, e, z1, z2, z3, z4, z5⟩ := k8.up (o := .tup [.int y, .int v4]) htp
          exact ⟨x1, x2, x3, by rw [upd_ne nDt.symm]; exact e, z1, z2, z3, z4, by omega⟩
    · obtain ⟨y3, y4, us, ps, rfl, u4, g4, hPr, hb, hlen, k4⟩ := hP
      exact ⟨.ref D, rfl, q D us ps H4 u4 hD g4 hPr hb (by omega) (k4.mono (by omega))⟩

/-! ### _law_right -/
theorem three_dat {x y z : PyData} {B : Nat} (hx : Dat 2 B x) (hy : Dat 2 B y) (hz : Dat 2 B z) : Dat 3 ((B + 2) * 3 + 3) (.list [x, y, z]) := dat_list (n := 3) (fun d hd => by
  simp only [List.mem_cons, List.not_mem_nil, or_false] at hd
  rcases hd with rfl | rfl | rfl
  · exact hx
  · exact hy
  · exact hz) (by decide) (Nat.le_refl _)
theorem none_back {H H1 : Hp} {p : Addr} (s : Same H H1) (n : H1 p = none) : H p = none := by
  cases e : H p with
  | none => rfl
  | some o =>
    have := s _ _ e
    rw [n] at this
    cases this
def spRight47 : Sp := fun vs H Q _ => ∃ (l1 l2 l3 : Addr) (r ms : List Int) (xs : List V) (ps : List (Int × Int)), vs = [.ref l1, .ref l2, .ref l3] ∧
  H l1 = some (.lst (r.map V.int)) ∧ Rim r ∧ H l2 = some (.lst (ms.map V.int)) ∧ (∀ n ∈ ms, n.natAbs < 10 ^ 40) ∧ 1 ≤ ms.length ∧ ms.length ≤ 40 ∧
  H l3 = some (.lst xs) ∧ Prs H xs ps ∧ (∀ p ∈ ps, p.1.natAbs < 10 ^ 40 ∧ 0 ≤ p.2 ∧ p.2.natAbs < 10 ^ 40) ∧ ps.length ≤ 40 ∧ ∀ H', Same H H' → Q (.bl true) H'
theorem ok_law_right (T : Txt K mg) : FnG P w K mg base CX0 7 T.a_law_right T.d_law_right ["rim", "line", "notes"] spRight47 := by
  have G_law_line := ok_law_line (P := P) (w := w) (base := base) T
  have G_law_notes_text := ok_law_notes_text (P := P) (w := w) (base := base) T
  have G_format_disc := ok_format_disc (P := P) (w := w) (base := base) T
  have G_format_row := ok_format_row (P := P) (w := w) (base := base) T
  have G_format_looks := ok_format_looks (P := P) (w := w) (base := base) T
  have G_parse_disc := ok_parse_disc (P := P) (w := w) (base := base) T
  have G_parse_row := ok_parse_row (P := P) (w := w) (base := base) T
  have G_parse_looks := ok_parse_looks (P := P) (w := w) (base := base) T
  refine okG T.F_law_right sc_law_right (fun vs H Q E h => ?_) (fun cdv A outer s H vs Q E hg hr h => ?_)
  · obtain ⟨_, _, _, _, _, _, _, rfl, _⟩ := h
    rfl
  · obtain ⟨l1, l2, l3, r, ms, xs, ps, rfl, g1, hR, g2, hm, hm1, hm40, g3, hP, hb, hp40, q⟩ := h
    refine ⟨_, (pss_cons (ps_par (i := 3) (j := 4) (by rfl) sc_law_right.nd rfl rfl (by decide) rfl rfl (pa_cons (pe_callB (reprL (K := K) rfl hg hr) (by rfl) T.n_repr (by decide +kernel) (pa_cons (pe_lst (pa_cons (pv 0) (pa_cons (pv 1) (pa_cons (pv 2) pa_nil)))) pa_nil)) (pa_cons (pe_lst (pa_cons (pe_call G_law_line (hr.mono (by decide)) (by rfl) T.g_law_line T.F_law_line.kp T.b_law_line .nil pass0 (pa_cons (pv 0) pa_nil)) (pa_cons (pe_call G_law_line (hr.mono (by decide)) (by rfl) T.g_law_line T.F_law_line.kp T.b_law_line .nil pass0 (pa_cons (pv 1) pa_nil)) (pa_cons (pe_call G_law_notes_text (hr.mono (by decide)) (by rfl) T.g_law_notes_text T.F_law_notes_text.kp T.b_law_notes_text .nil pass0 (pa_cons (pv 2) pa_nil)) pa_nil)))) pa_nil)) (by rfl))
      (pss_cons (ps_set (i := 5) sc_law_right.nd rfl (.inl rfl) (pe_lst (pa_cons (pe_callW G_format_disc (hr.mono (by decide)) rfl T.g_format_disc T.F_format_disc.kp (kb_format_disc_disc T) pass0 (pk_cons (pv 0) pk_nil)) (pa_cons (pe_callW G_format_row (hr.mono (by decide)) rfl T.g_format_row T.F_format_row.kp (kb_format_row_row T) pass0 (pk_cons (pv 1) pk_nil)) (pa_cons (pe_callW G_format_looks (hr.mono (by decide)) rfl T.g_format_looks T.F_format_looks.kp (kb_format_looks_looks T) pass0 (pk_cons (pv 2) pk_nil)) pa_nil)))))
      (pss_cons (ps_if (PW.pt (pw_or (pt_cmpR op_ne (pe_callB (reprL (K := K) rfl hg hr) (by rfl) T.n_repr (by decide +kernel) (pa_cons (pv 5) pa_nil)) (pe_callB (reprL (K := K) rfl hg hr) (by rfl) T.n_repr (by decide +kernel) (pa_cons (pv 4) pa_nil)) (nomark _)) (pw_or1 (pt_cmpR op_ne (pe_callB (reprL (K := K) rfl hg hr) (by rfl) T.n_repr (by decide +kernel) (pa_cons (pe_lst (pa_cons (pv 0) (pa_cons (pv 1) (pa_cons (pv 2) pa_nil)))) pa_nil)) (pv 3) (nomark _))))) (pss_one (ps_ret pe_bl)) pss_nil)
      (pss_cons (ps_set (i := 5) sc_law_right.nd rfl (.inl rfl) (pe_lst (pa_cons (pe_callW G_parse_disc hr rfl T.g_parse_disc T.F_parse_disc.kp (kb_parse_disc_text T) pass0 (pk_cons (pe_ix (ixL (K := K) rfl) (pv 4) pe_int (fun _ _ => rfl)) pk_nil)) (pa_cons (pe_callW G_parse_row hr rfl T.g_parse_row T.F_parse_row.kp (kb_parse_row_text T) pass0 (pk_cons (pe_ix (ixL (K := K) rfl) (pv 4) pe_int (fun _ _ => rfl)) pk_nil)) (pa_cons (pe_callW G_parse_looks hr rfl T.g_parse_looks T.F_parse_looks.kp (kb_parse_looks_text T) pass0 (pk_cons (pe_ix (ixL (K := K) rfl) (pv 4) pe_int (fun _ _ => rfl)) pk_nil)) pa_nil)))))
      (pss_cons (ps_if (pt_cmpR op_ne (pe_callB (reprL (K := K) rfl hg hr) (by rfl) T.n_repr (by decide +kernel) (pa_cons (pv 5) pa_nil)) (pv 3) (nomark _)) (pss_one (ps_ret pe_bl)) pss_nil)
      (pss_cons (ps_for PassesOwn.never rfl (pi_listL (K := K) rfl (pv 5)) (pg_name (i := 6) sc_law_right.nd rfl (.inl rfl)) (pss_one (ps_expr (pe_bm PySem.F.plainAttrs_list PySem.F.slot_list_append PySem.F.type_list_append mt_append (pv 6) (pa_cons pe_non pa_nil)))))
      (pss_cons (ps_set (i := 7) sc_law_right.nd rfl (.inl rfl) (pe_lst (pa_cons (pe_call G_parse_disc hr (by rfl) T.g_parse_disc T.F_parse_disc.kp T.b_parse_disc .nil pass0 (pa_cons (pe_ix (ixL (K := K) rfl) (pv 4) pe_int (fun _ _ => rfl)) pa_nil)) (pa_cons (pe_call G_parse_row hr (by rfl) T.g_parse_row T.F_parse_row.kp T.b_parse_row .nil pass0 (pa_cons (pe_ix (ixL (K := K) rfl) (pv 4) pe_int (fun _ _ => rfl)) pa_nil)) (pa_cons (pe_call G_parse_looks hr (by rfl) T.g_parse_looks T.F_parse_looks.kp T.b_parse_looks .nil pass0 (pa_cons (pe_ix (ixL (K := K) rfl) (pv 4) pe_int (fun _ _ => rfl)) pa_nil)) pa_nil)))))
      (pss_one (ps_ret (pe_cmpR op_eq (pe_callB (reprL (K := K) rfl hg hr) (by rfl) T.n_repr (by decide +kernel) (pa_cons (pv 7) pa_nil)) (pv 3) (nomark _))))))))))), ?_⟩
    have r40 := hR.le
    have rb : ∀ n ∈ r, n.natAbs < 10 ^ 40 := fun n hn => rim_small (hR.all n hn).1 (hR.all n hn).2
    have pb : ∀ p ∈ ps, p.1.natAbs < 10 ^ 40 ∧ p.2.natAbs < 10 ^ 40 := fun p hp => ⟨(hb p hp).1, (hb p hp).2.2⟩
    have rb6 : ∀ n ∈ r, n.natAbs < 10 ^ 60 := fun n hn => ten_up (rb n hn) (by decide)
    have mb6 : ∀ n ∈ ms, n.natAbs < 10 ^ 60 := fun n hn => ten_up (hm n hn) (by decide)
    have pb6 : ∀ p ∈ ps, p.1.natAbs < 10 ^ 60 ∧ p.2.natAbs < 10 ^ 60 := fun p hp => ⟨ten_up (pb p hp).1 (by decide), ten_up (pb p hp).2 (by decide)⟩
    have hDA := three_dat ((dat_ints (n := 40) rb (by decide) r40).mono (k' := 2) (B' := 200000) (by decide) (by decide)) ((dat_ints (n := 40) hm (by decide) hm40).mono (k' := 2) (B' := 200000) (by decide) (by decide)) ((dat_pairs (n := 40) pb (by decide) hp40).mono (k' := 2) (B' := 200000) (by decide) (by decide))
    have hDB := three_dat ((dat_row (n := 40) (by decide) rb r40).mono (k' := 2) (B' := 200000) (by decide) (by decide)) ((dat_row (n := 40) (by decide) hm hm40).mono (k' := 2) (B' := 200000) (by decide) (by decide)) ((dat_looks (n := 40) (by decide) pb hp40).mono (k' := 2) (B' := 200000) (by decide) (by decide))
    have fA := hDA.fits (by decide)
    have fB := hDB.fits (by decide)
    have dp3 : ∀ {H' : Hp} {p : Addr} {x y z : V} {d e f : PyData}, H' p = some (.lst [x, y, z]) → Dp K H' x d → Dp K H' y e → Dp K H' z f → Dp K H' (.ref p) (.list [d, e, f]) :=
      fun h e1 e2 e3 => .lst (SqL.of h) (.cons e1 (.cons e2 (.cons e3 .nil)))
    -- kept
    refine ⟨.ref l1, rfl, .ref l2, rfl, .ref l3, rfl, (by show 3 ≤ sizeLine; decide), fun q1 f1 => ?_⟩
    have s1 := new_same (o := .lst [.ref l1, .ref l2, .ref l3]) f1
    refine ⟨q1, _, rfl, dp3 upd_same (dp_ints (SqL.of (s1 _ _ g1))) (dp_ints (SqL.of (s1 _ _ g2))) (.lst (SqL.of (s1 _ _ g3)) (hP.up s1).dp), hDA.rp.sh, hDA.rp.nd, hDA.rp.dp, fA, ?_⟩
    generalize upd H q1 (.lst [.ref l1, .ref l2, .ref l3]) = H1 at s1 ⊢
    -- texts_here
    refine ⟨.ref l1, rfl, l1, r, rfl, SqL.of (s1 _ _ g1), rb6, by omega, fun H2 s2 => ?_⟩
    have s2 := s1.trans s2
    refine ⟨.ref l2, rfl, l2, ms, rfl, SqL.of (s2 _ _ g2), mb6, by omega, fun H3 s3 => ?_⟩
    have s3 := s2.trans s3
    refine ⟨.ref l3, rfl, l3, xs, ps, rfl, SqL.of (s3 _ _ g3), hP.up s3, pb6, by omega, fun H4 s4 => ?_⟩
    have s4 := s3.trans s4
    refine ⟨(by show 3 ≤ sizeLine; decide), fun q2 f2 => ?_⟩
    have s5 := s4.trans (new_same (o := .lst [.str (wordsS (r.map intL)), .str (wordsS (ms.map intL)), .str (wordsS (ps.map lookL))]) f2)
    have gT : (upd H4 q2 (.lst [.str (wordsS (r.map intL)), .str (wordsS (ms.map intL)), .str (wordsS (ps.map lookL))])) q2 = some (.lst [.str (wordsS (r.map intL)), .str (wordsS (ms.map intL)), .str (wordsS (ps.map lookL))]) := upd_same
    generalize upd H4 q2 (.lst [.str (wordsS (r.map intL)), .str (wordsS (ms.map intL)), .str (wordsS (ps.map lookL))]) = H5 at s5 gT ⊢
    refine ⟨_, _, rfl, ?_⟩
    -- told
    refine ⟨.ref l1, rfl, l1, r, rfl, SqL.of (s5 _ _ g1), rb6, by omega, fun H6 s6 => ?_⟩
    refine ⟨.ref l2, rfl, l2, ms, rfl, SqL.of (s6 _ _ (s5 _ _ g2)), mb6, by omega, fun H7 s7 => ?_⟩
    have s57 := s6.trans s7
    refine ⟨.ref l3, rfl, l3, xs, ps, rfl, SqL.of (s57 _ _ (s5 _ _ g3)), hP.up (s5.trans s57), pb6, by omega, fun H8 s8 => ?_⟩
    refine ⟨(by show 3 ≤ sizeLine; decide), fun q3 f3 => ?_⟩
    have s9 := (s57.trans s8).trans (new_same (o := .lst [.str (wordsS (r.map intL)), .str (wordsS (ms.map intL)), .str (wordsS (ps.map lookL))]) f3)
    have gU : (upd H8 q3 (.lst [.str (wordsS (r.map intL)), .str (wordsS (ms.map intL)), .str (wordsS (ps.map lookL))])) q3 = some (.lst [.str (wordsS (r.map intL)), .str (wordsS (ms.map intL)), .str (wordsS (ps.map lookL))]) := upd_same
    generalize upd H8 q3 (.lst [.str (wordsS (r.map intL)), .str (wordsS (ms.map intL)), .str (wordsS (ps.map lookL))]) = H9 at s9 gU ⊢
    have gT9 := s9 _ _ gT
    have s09 := s5.trans s9
    refine ⟨.ref q3, rfl, q3, _, rfl, dp3 gU (.str _) (.str _) (.str _), hDB.rp.sh, hDB.rp.nd, hDB.rp.dp, fB, ?_⟩
    refine ⟨.ref q2, rfl, q2, _, rfl, dp3 gT9 (.str _) (.str _) (.str _), hDB.rp.sh, hDB.rp.nd, hDB.rp.dp, fB, rfl, _, rfl, iteNS rfl ?_⟩
    refine ⟨.ref l1, rfl, .ref l2, rfl, .ref l3, rfl, (by show 3 ≤ sizeLine; decide), fun q4 f4 => ?_⟩
    have s10 := s09.trans (new_same (o := .lst [.ref l1, .ref l2, .ref l3]) f4)
    have gT10 := (new_same (o := .lst [.ref l1, .ref l2, .ref l3]) f4) _ _ gT9
    refine ⟨q4, _, rfl, dp3 upd_same (dp_ints (SqL.of (s10 _ _ g1))) (dp_ints (SqL.of (s10 _ _ g2))) (.lst (SqL.of (s10 _ _ g3)) (hP.up s10).dp), hDA.rp.sh, hDA.rp.nd, hDA.rp.dp, fA, ?_⟩
    generalize upd H9 q4 (.lst [.ref l1, .ref l2, .ref l3]) = H10 at s10 gT10 ⊢
    refine ⟨.str _, rfl, rfl, _, rfl, iteNS rfl ?_⟩
    -- read
    refine ⟨.ref q2, rfl, q2, _, 0, .str (wordsS (r.map intL)), rfl, rfl, SqL.of gT10, rfl, r, rfl, hR, fun a1 H11 s11 n1 e1 => ?_⟩
    refine ⟨.ref q2, rfl, q2, _, 1, .str (wordsS (ms.map intL)), rfl, rfl, SqL.of (s11 _ _ gT10), rfl, ms, rfl, hm, hm1, hm40, fun a2 H12 s12 n2 e2 => ?_⟩
    have s12' := s11.trans s12
    refine ⟨.ref q2, rfl, q2, _, 2, .str (wordsS (ps.map lookL)), rfl, rfl, SqL.of (s12' _ _ gT10), rfl, ps, rfl, hb, hp40, fun a3 us H13 s13 n3 e3 hU => ?_⟩
    have s13' := s12'.trans s13
    refine ⟨(by show 3 ≤ sizeLine; decide), fun q5 f5 => ?_⟩
    have sN := new_same (o := .lst [.ref a1, .ref a2, .ref a3]) f5
    have s14 := s13'.trans sN
    have i1 := sN _ _ (s13 _ _ (s12 _ _ e1))
    have i2 := sN _ _ (s13 _ _ e2)
    have i3 := sN _ _ e3
    have hU2 := hU.up sN
    have n12 : a1 ≠ a2 := ne_of_none e1 n2
    have n13 : a1 ≠ a3 := ne_of_none (s12 _ _ e1) n3
    have n23 : a2 ≠ a3 := ne_of_none e2 n3
    have n15 : a1 ≠ q5 := ne_of_none (s13 _ _ (s12 _ _ e1)) f5
    have n25 : a2 ≠ q5 := ne_of_none (s13 _ _ e2) f5
    have n35 : a3 ≠ q5 := ne_of_none e3 f5
    have o2 : H10 a2 = none := none_back s11 n2
    have o3 : H10 a3 = none := none_back s12' n3
    refine ⟨.ref q5, rfl, q5, _, rfl, dp3 upd_same (dp_ints (SqL.of i1)) (dp_ints (SqL.of i2)) (.lst (SqL.of i3) hU2.dp), hDA.rp.sh, hDA.rp.nd, hDA.rp.dp, fA, .str _, rfl, rfl, _, rfl, iteNS rfl ?_⟩
    have hul := hU.len
    have i5 : (upd H13 q5 (.lst [.ref a1, .ref a2, .ref a3])) q5 = some (.lst [.ref a1, .ref a2, .ref a3]) := upd_same
    generalize upd H13 q5 (.lst [.ref a1, .ref a2, .ref a3]) = H14 at s14 i1 i2 i3 i5 ⊢
    -- for some in told
    refine ⟨.ref q5, rfl, q5, rfl, ⟨_, SqL.of i5⟩, for_list (K := K) (a := q5) (xs := [.ref a1, .ref a2, .ref a3])
      (fun i σ H' => ∃ (y6 : Option V) (m1 m2 m3 : List V), σ = [some (.ref l1), some (.ref l2), some (.ref l3), some (.str (PyData.shown (.list [dI r, dI ms, .list (ps.map dP)]))), some (.ref q2), some (.ref q5), y6, none] ∧
        H' q5 = some (.lst [.ref a1, .ref a2, .ref a3]) ∧ Same H10 H' ∧ H' a1 = some (.lst m1) ∧ H' a2 = some (.lst m2) ∧ H' a3 = some (.lst m3) ∧ m1.length ≤ 40 + i ∧ m2.length ≤ 40 + i ∧ m3.length ≤ 40 + i)
      ⟨none, _, _, _, rfl, i5, s14, i1, i2, i3, by rw [List.length_map]; omega, by rw [List.length_map]; omega, by omega⟩ (fun i σ H' _ ⟨_, _, _, _, _, e, _⟩ => SqL.of e) (fun i x σ H15 hx hP => ?_) (fun σ H15 hP => ?_)⟩
    · obtain ⟨y6, m1, m2, m3, rfl, j5, sP, j1, j2, j3, b1, b2, b3⟩ := hP
      have hi3 : i < 3 := (List.getElem?_eq_some_iff.mp hx).1
      have hx3 : x = .ref a1 ∨ x = .ref a2 ∨ x = .ref a3 := by
        have := List.mem_of_getElem? hx
        simp only [List.mem_cons, List.not_mem_nil, or_false] at this
        exact this
      rcases hx3 with rfl | rfl | rfl
      · refine ⟨.ref a1, rfl, .inl ⟨rfl, _, SqL.of j1⟩, a1, _, _, rfl, rfl, j1, sz40 (by omega), ?_⟩
        refine ⟨_, m1 ++ [.non], m2, m3, rfl, by rw [upd_ne n15.symm]; exact j5, same_over sP n1, upd_same, by rw [upd_ne n12.symm]; exact j2, by rw [upd_ne n13.symm]; exact j3, by rw [List.length_append]; show m1.length + 1 ≤ _; omega, by omega, by omega⟩
      · refine ⟨.ref a2, rfl, .inl ⟨rfl, _, SqL.of j2⟩, a2, _, _, rfl, rfl, j2, sz40 (by omega), ?_⟩
        refine ⟨_, m1, m2 ++ [.non], m3, rfl, by rw [upd_ne n25.symm]; exact j5, same_over sP o2, by rw [upd_ne n12]; exact j1, upd_same, by rw [upd_ne n23.symm]; exact j3, by omega, by rw [List.length_append]; show m2.length + 1 ≤ _; omega, by omega⟩
      · refine ⟨.ref a3, rfl, .inl ⟨rfl, _, SqL.of j3⟩, a3, _, _, rfl, rfl, j3, sz40 (by omega), ?_⟩
        refine ⟨_, m1, m2, m3 ++ [.non], rfl, by rw [upd_ne n35.symm]; exact j5, same_over sP o3, by rw [upd_ne n13]; exact j1, by rw [upd_ne n23]; exact j2, upd_same, by omega, by omega, by rw [List.length_append]; show m3.length + 1 ≤ _; omega⟩
    · obtain ⟨y6, m1, m2, m3, rfl, j5, sP, j1, j2, j3, b1, b2, b3⟩ := hP
      have gT15 := sP _ _ gT10
      have s15 := s10.trans sP
      -- again
      refine ⟨.ref q2, rfl, q2, _, 0, .str (wordsS (r.map intL)), rfl, rfl, SqL.of gT15, rfl, r, rfl, hR, fun c1 H16 t1 _ w1 => ?_⟩
      refine ⟨.ref q2, rfl, q2, _, 1, .str (wordsS (ms.map intL)), rfl, rfl, SqL.of (t1 _ _ gT15), rfl, ms, rfl, hm, hm1, hm40, fun c2 H17 t2 _ w2 => ?_⟩
      have t12 := t1.trans t2
      refine ⟨.ref q2, rfl, q2, _, 2, .str (wordsS (ps.map lookL)), rfl, rfl, SqL.of (t12 _ _ gT15), rfl, ps, rfl, hb, hp40, fun c3 us2 H18 t3 _ w3 hU3 => ?_⟩
      refine ⟨(by show 3 ≤ sizeLine; decide), fun q6 f6 => ?_⟩
      have tN := new_same (o := .lst [.ref c1, .ref c2, .ref c3]) f6
      refine ⟨.ref q6, rfl, q6, _, rfl, dp3 upd_same (dp_ints (SqL.of (tN _ _ (t3 _ _ (t2 _ _ w1))))) (dp_ints (SqL.of (tN _ _ (t3 _ _ w2)))) (.lst (SqL.of (tN _ _ w3)) (hU3.up tN).dp), hDA.rp.sh, hDA.rp.nd, hDA.rp.dp, fA, .str _, rfl, rfl, ?_⟩
      have z := q _ ((s15.trans (t12.trans t3)).trans tN)
      show Q (.bl (decide (V.str (PyData.list [dI r, dI ms, PyData.list (ps.map dP)]).shown = V.str (PyData.list [dI r, dI ms, PyData.list (ps.map dP)]).shown))) _
      rw [decide_eq_true rfl]
      exact z

def spLaw (K : PySem.W.Frag) : Sp := fun vs H Q _ => ∃ (a : Addr) (ns : List Int), vs = [.ref a] ∧ SqL K H a (ns.map V.int) ∧ ns.length ≤ 63 ∧ ∀ H', Q (.bl true) H'

theorem ok_law (T : Txt K mg) : FnG P w K mg base CX0 8 T.a_law T.d_law ["script"] (spLaw K) := by
  have G_law_tank := ok_law_tank (P := P) (w := w) (base := base) T
  have G_law_tap := ok_law_tap (P := P) (w := w) (base := base) T
  have G_law_drawn_count := ok_law_drawn_count (P := P) (w := w) (base := base) T
  have G_law_drawn_rim := ok_law_drawn_rim (P := P) (w := w) (base := base) T
  have G_law_drawn_notes := ok_law_drawn_notes (P := P) (w := w) (base := base) T
  have G_law_right := ok_law_right (P := P) (w := w) (base := base) T
  have G_format_row := ok_format_row (P := P) (w := w) (base := base) T
  have G_format_looks := ok_format_looks (P := P) (w := w) (base := base) T
  refine okG T.F_law sc_law (fun vs H Q E h => ?_) (fun cdv A outer s H vs Q E hg hr h => ?_)
  · obtain ⟨_, _, rfl, _⟩ := h
    rfl
  · obtain ⟨a, ns, rfl, hS, hlen, q⟩ := h
    refine ⟨_, (pss_cons (ps_for PassesOwn.never rfl (pi_range1 (by rfl) T.n_range (pa_cons (pe_callB (call_max2 rfl) (by rfl) T.n_max (by decide +kernel) (pa_cons pe_int (pa_cons (pe_callB (call_min2 rfl) (by rfl) T.n_min (by decide +kernel) (pa_cons pe_int (pa_cons (pe_callB (lenL (K := K) rfl) (by rfl) T.n_len (by decide +kernel) (pa_cons (pv 0) pa_nil)) pa_nil))) pa_nil))) pa_nil)) (pg_name (i := 1) sc_law.nd rfl (.inl rfl)) (pss_cons (ps_set (i := 2) sc_law.nd rfl (.inr rfl) (pe_call G_law_tank (hr.mono (by decide)) (by rfl) T.g_law_tank T.F_law_tank.kp T.b_law_tank .nil pass0 (pa_cons (pv 0) (pa_cons (pv 1) pa_nil))))
      (pss_one (ps_for PassesOwn.never rfl (pi_range1 (by rfl) T.n_range (pa_cons pe_int pa_nil)) (pg_name (i := 3) sc_law.nd rfl (.inl rfl)) (pss_cons (ps_asg (pe_tup (pa_cons (pe_call G_law_drawn_rim (hr.mono (by decide)) (by rfl) T.g_law_drawn_rim T.F_law_drawn_rim.kp T.b_law_drawn_rim .nil pass0 (pa_cons (pv 2) (pa_cons (pe_call G_law_drawn_count (hr.mono (by decide)) (by rfl) T.g_law_drawn_count T.F_law_drawn_count.kp T.b_law_drawn_count .nil pass0 (pa_cons (pv 2) (pa_cons pe_int pa_nil))) pa_nil))) (pa_cons (pe_ix (ixL (K := K) rfl) (pe_lst (pa_cons pe_int (pa_cons (pe_op op_pow pe_int pe_int) pa_nil))) (pe_call G_law_tap (hr.mono (by decide)) (by rfl) T.g_law_tap T.F_law_tap.kp T.b_law_tap .nil pass0 (pa_cons (pv 2) (pa_cons pe_int pa_nil))) (fun _ _ => rfl)) pa_nil))) (pg_tupL (K := K) (n := 2) rfl rfl (pgs_cons (pg_name (i := 4) sc_law.nd rfl (.inl rfl)) (pgs_cons (pg_name (i := 5) sc_law.nd rfl (.inr rfl)) pgs_nil))))
      (pss_cons (ps_setLc (i := 6) (own := [("one", 7)]) (g := gName 7) (tt := tYes) (by rfl) sc_law.nd rfl rfl (sw_true rfl rfl rfl (by decide +kernel)) (pi_range1 (by rfl) T.n_range (pa_cons (pe_op op_add pe_int (pe_call G_law_tap (hr.mono (by decide)) (by rfl) T.g_law_tap T.F_law_tap.kp T.b_law_tap .nil pass0 (pa_cons (pv 2) (pa_cons pe_int pa_nil)))) pa_nil)) (blkOk_by (own := [("one", 7)]) (N := ["script", "at", "tank", "turn", "rim", "far", "line", "one", "nines", "told"]) (sc := defScope s_law) (by decide +kernel))
        (fun _ _ _ _ _ => (pg_name (i := 7) sc_law.nd rfl (Or.inl rfl))) (fun _ _ _ _ _ => pts_nil) (fun _ _ _ _ _ => (pe_op op_mul (pe_call G_law_tap (hr.mono (by decide)) (by rfl) T.g_law_tap T.F_law_tap.kp T.b_law_tap .nil pass0 (pa_cons (pv 2) (pa_cons (pv 5) pa_nil))) (pe_ix (ixL (K := K) rfl) (pe_lst (pa_cons pe_int (pa_cons (pe_un un_neg pe_int) pa_nil))) (pe_call G_law_tap (hr.mono (by decide)) (by rfl) T.g_law_tap T.F_law_tap.kp T.b_law_tap .nil pass0 (pa_cons (pv 2) (pa_cons pe_int pa_nil))) (fun _ _ => rfl)))))
      (pss_one (ps_if (pt_not (pt_val (pe_callG G_law_right hg hr (by rfl) T.g_law_right T.F_law_right.kp T.b_law_right .nil pass0 (pa_cons (pv 4) (pa_cons (pv 6) (pa_cons (pe_call G_law_drawn_notes (hr.mono (by decide)) (by rfl) T.g_law_drawn_notes T.F_law_drawn_notes.kp T.b_law_drawn_notes .nil pass0 (pa_cons (pv 2) (pa_cons (pv 5) pa_nil))) pa_nil)))))) (pss_one (ps_ret pe_bl)) pss_nil))))))))
      (pss_cons (ps_set (i := 8) sc_law.nd rfl (.inl rfl) (pe_op op_sub (pe_op op_pow pe_int pe_int) pe_int))
      (pss_cons (ps_if (pt_not (pt_val (pe_callG G_law_right hg hr (by rfl) T.g_law_right T.F_law_right.kp T.b_law_right .nil pass0 (pa_cons (pe_op op_rep (pe_lst (pa_cons (pe_op op_pow pe_int pe_int) pa_nil)) pe_int) (pa_cons (pe_op op_rep (pe_lst (pa_cons (pv 8) (pa_cons (pe_op op_sub pe_int (pv 8)) pa_nil))) pe_int) (pa_cons (pe_op op_rep (pe_lst (pa_cons (pe_tup (pa_cons (pe_op op_sub pe_int (pv 8)) (pa_cons (pv 8) pa_nil))) pa_nil)) pe_int) pa_nil)))))) (pss_one (ps_ret pe_bl)) pss_nil)
      (pss_cons (ps_set (i := 9) sc_law.nd rfl (.inl rfl) (pe_lst (pa_cons (pe_call G_format_row (hr.mono (by decide)) (by rfl) T.g_format_row T.F_format_row.kp T.b_format_row .nil pass0 (pa_cons (pe_lst (pa_cons (pe_op op_pow pe_int pe_int) (pa_cons (pe_op op_sub pe_int (pe_op op_pow pe_int pe_int)) pa_nil))) pa_nil)) (pa_cons (pe_call G_format_looks (hr.mono (by decide)) (by rfl) T.g_format_looks T.F_format_looks.kp T.b_format_looks .nil pass0 (pa_cons (pe_lst (pa_cons (pe_tup (pa_cons (pe_op op_sub pe_int (pe_op op_pow pe_int pe_int)) (pa_cons (pe_op op_pow pe_int pe_int) pa_nil))) pa_nil)) pa_nil)) pa_nil))))
      (pss_one (ps_ret (pe_cmpR (eqD (K := K) rfl hr) (pv 9) (pe_lst (pa_cons (pe_op op_add_str (pe_op op_add_str (pe_op op_add_str pe_str (pe_op op_mulS pe_str pe_int)) pe_str) (pe_op op_mulS pe_str pe_int)) (pa_cons (pe_op op_add_str (pe_op op_add_str (pe_op op_add_str pe_str (pe_op op_mulS pe_str pe_int)) pe_str) (pe_op op_mulS pe_str pe_int)) pa_nil))) (nomark _)))))))), ?_⟩
    have e40 : (10 : Int) ^ (40 : Int).toNat = 10000000000000000000000000000000000000000 := by decide +kernel
    refine ⟨.ref a, rfl, a, _, rfl, .inl hS, 4, _, rfl, 1, _, rfl, _, rfl, ?_, ?_, for_range (lo := 0)
      (fun i σ H' => ∃ y1 y2 y3 y4 y5 y6 : Option V, σ = [some (.ref a), y1, y2, y3, y4, y5, y6, none, none, none] ∧ Same H H' ∧ i ≤ 4) ⟨none, none, none, none, none, none, rfl, Same.refl H, by omega⟩ (fun i σ H1 hi hP => ?_) (fun σ H1 hP => ?_)⟩
    · split <;> split <;> omega
    · split <;> split <;> omega
    · obtain ⟨y1, y2, y3, y4, y5, y6, rfl, s1, _⟩ := hP
      have hi4 : i < 4 := by
        revert hi
        split <;> split <;> omega
      refine ⟨.ref a, rfl, .int (0 + i), rfl, a, ns, 0 + i, rfl, s1.seq hS, by omega, by omega, fun t H2 s2 ht k2 => ?_⟩
      refine ⟨6, rfl, by decide, by decide, for_range (lo := 0) (n := (6 : Int).toNat) (fun j σ H' => ∃ z3 z4 z5 z6 : Option V, σ = [some (.ref a), some (.int (0 + i)), some (.ref t), z3, z4, z5, z6, none, none, none] ∧ But t H2 H' ∧ Tank H' t (1000 * j))
        ⟨_, _, _, _, rfl, But.refl t H2, k2.mono (by omega)⟩ (fun j σ H3 hj hP => ?_) (fun σ H3 hP => ?_)⟩
      · obtain ⟨z3, z4, z5, z6, rfl, u3, k3⟩ := hP
        have hj6 : j < 6 := hj
        -- rim, far
        refine ⟨.ref t, rfl, .ref t, rfl, t, 40, 1000 * j, rfl, by omega, by omega, k3, by omega, by omega, fun n H4 r1 r2 k4 u4 => ?_⟩
        refine ⟨t, n, 1000 * j + 3, rfl, r1, by omega, k4, by omega, by omega, fun l r H5 hR hr5 u5 f5 g5 k5 => ?_⟩
        refine ⟨10, 40, rfl, rfl, ⟨by decide, by decide, by decide⟩, (by show 2 ≤ sizeLine; decide), fun l2 h2 => ?_⟩
        refine ⟨.ref t, rfl, t, 2, 1000 * j + 3 + 60, rfl, by omega, by omega, k5.up h2, by omega, fun v1 H6 v0 v2 k6 u6 => ?_⟩
        have hl6 : H6 l2 = some (.lst (([99, 10 ^ (40 : Int).toNat] : List Int).map V.int)) := u6 _ _ upd_same (k5.ne h2)
        obtain ⟨far, hfar, hat⟩ := at_in (ns := [99, 10 ^ (40 : Int).toNat]) v0 (by show v1 < 2; omega)
        have hf1 : 99 ≤ far ∧ far ≤ 10000000000000000000000000000000000000000 := by
          have := List.mem_of_getElem? hfar
          simp only [List.mem_cons, List.not_mem_nil, or_false, e40] at this
          omega
        refine ⟨l2, _, v1, .int far, rfl, rfl, SqL.of hl6, hat, (by show 2 ≤ sizeLine; decide), fun p hp => ?_⟩
        refine ⟨p, _, rfl, SqT.of upd_same, rfl, _, _, rfl, _, _, rfl, rfl, ?_⟩
        have nlt : l ≠ t := k4.ne f5
        have g7 : (upd H6 p (.tup [.ref l, .int far])) l = some (.lst (r.map V.int)) := new_same hp _ _ (u6 _ _ (new_same h2 _ _ g5) nlt)
        have u7 : But t H2 (upd H6 p (.tup [.ref l, .int far])) := ((((u3.trans u4).trans u5).trans (But.of (new_same h2))).trans u6).trans (But.of (new_same hp))
        have k7 := k6.up (o := .tup [.ref l, .int far]) hp
        generalize upd H6 p (.tup [.ref l, .int far]) = H7 at g7 u7 k7 ⊢
        -- line
        refine ⟨.ref t, rfl, t, 40, 1000 * j + 3 + 60 + 1, rfl, by omega, by omega, k7, by omega, fun w1 H8 w0 w2 k8 u8 => ?_⟩
        refine ⟨1, w1, rfl, rfl, 1 + w1, rfl, by omega, by omega, fun D hD => ?_⟩
        have nDt : D ≠ t := k8.ne hD
        have nlD : l ≠ D := ne_of_none (u8 _ _ g7 nlt) hD
        refine lc_range (lo := 0) (n := (1 + w1).toNat) (fun i H' => But t H2 H' ∧ Tank H' t (1000 * j + 65 + 2 * i) ∧ H' l = some (.lst (r.map V.int)) ∧ ∃ ms : List Int, H' D = some (.lst (ms.map V.int)) ∧ ms.length = i ∧ ∀ m ∈ ms, m.natAbs < 10 ^ 40)
          ⟨(u7.trans u8).trans (But.of (new_same hD)), (k8.mono (by omega)).up hD, new_same hD _ _ (u8 _ _ g7 nlt), [], upd_same, rfl, fun m hm => (List.not_mem_nil hm).elim⟩ (fun i H9 hi hP => ⟨rfl, ?_⟩) (fun H9 hP => ?_)
        · obtain ⟨u9, k9, g9, ms, hD9, hlen9, hall⟩ := hP
          have hi40 : i < 40 := by omega
          refine ⟨.ref t, rfl, .int far, rfl, t, far, 1000 * j + 65 + 2 * i, rfl, by omega, by omega, k9, by omega, fun x1 HA xa xb kA uA => ?_⟩
          refine ⟨1, rfl, (by show 2 ≤ sizeLine; decide), fun l3 h3 => ?_⟩
          refine ⟨.ref t, rfl, t, 2, 1000 * j + 65 + 2 * i + 1, rfl, by omega, by omega, kA.up h3, by omega, fun x2 HB ya yb kB uB => ?_⟩
          have hl3 : HB l3 = some (.lst (([1, -1] : List Int).map V.int)) := uB _ _ upd_same (kA.ne h3)
          obtain ⟨d, hd, hat3⟩ := at_in (ns := [1, -1]) ya (by show x2 < 2; omega)
          have hd1 : d = 1 ∨ d = -1 := by
            have := List.mem_of_getElem? hd
            simp only [List.mem_cons, List.not_mem_nil, or_false] at this
            exact this
          refine ⟨l3, _, x2, .int d, rfl, rfl, SqL.of hl3, hat3, x1, d, rfl, rfl, .inr (by omega), ?_⟩
          have lo : (x1 * d).natAbs < 10 ^ 40 := by
            rw [e40N]
            rcases hd1 with rfl | rfl <;> omega
          have uAB := (uA.trans (But.of (new_same h3))).trans uB
          have gB : HB D = some (.lst (ms.map V.int)) := uAB _ _ hD9 nDt
          have hHD : H2 D = none := by
            cases e : H2 D with
            | none => rfl
            | some o =>
              have := (u7.trans u8) _ _ e nDt
              rw [hD] at this
              cases this
          refine ⟨_, gB, by rw [List.length_map]; exact sz40 (by omega), fun b o e n => ?_, ?_, ?_, ms ++ [x1 * d], ?_, by rw [List.length_append]; show ms.length + 1 = i + 1; omega, fun m hm => ?_⟩
          · rw [upd_ne (ne_of_none e hHD)]
            exact uAB _ _ (u9 _ _ e n) n
          · obtain ⟨c1, c2, c3, e, d1, d2, d3, d4, d5⟩ := kB
            exact ⟨c1, c2, c3, by rw [upd_ne nDt.symm]; exact e, d1, d2, d3, d4, by omega⟩
          · rw [upd_ne nlD]
            exact uAB _ _ g9 nlt
          · rw [upd_same, List.map_append]
            rfl
          · rcases List.mem_append.mp hm with h | h
            · exact hall m h
            · rw [List.mem_singleton.mp h]
              exact lo
        · obtain ⟨u9, k9, g9, ms, hD9, hlen9, hall⟩ := hP
          have hml : ms.length ≤ 40 := by omega
          refine ⟨.ref l, rfl, .ref D, rfl, .ref t, rfl, .int far, rfl, t, far, 1000 * j + 200, rfl, by omega, by omega, k9.mono (by omega), by omega, by omega, fun L us ps HA uA fA gA hPr hb hp40 kA => ?_⟩
          refine ⟨l, D, L, r, ms, us, ps, rfl, uA _ _ g9 nlt, hR, uA _ _ hD9 nDt, hall, by omega, hml, gA, hPr, hb, hp40, fun HB sB => ⟨true, rfl, iteF ?_⟩⟩
          exact ⟨_, _, _, _, rfl, (u9.trans uA).trans (But.of sB), (kA.same sB).mono (by omega)⟩
      · obtain ⟨z3, z4, z5, z6, rfl, u3, k3⟩ := hP
        refine ⟨_, _, _, _, _, _, rfl, fun b o e => u3 _ _ (s2 _ _ (s1 _ _ e)) (fun z => ?_), by omega⟩
        have e1 := s1 _ _ e
        rw [z, ht] at e1
        cases e1
    · obtain ⟨y1, y2, y3, y4, y5, y6, rfl, s1, _⟩ := hP
      clear s1 hS
      refine ⟨10, 40, rfl, rfl, ⟨by decide, by decide, by decide⟩, _, 1, rfl, rfl, ?_⟩
      -- the great texts
      refine ⟨10, 30, rfl, rfl, ⟨by decide, by decide, by decide⟩, (by show 1 ≤ sizeLine; decide), fun b1 i1 => ⟨b1, 40, _, rfl, rfl, upd_same, by decide, by decide, (by show 1 * 40 ≤ sizeLine; decide), fun a1 h1 => ?_⟩⟩
      have g1 : (upd (upd H1 b1 (.lst [.int (10 ^ (30 : Int).toNat)])) a1 (.lst (List.replicate (40 : Int).toNat [V.int (10 ^ (30 : Int).toNat)]).flatten)) a1 = some (.lst ((List.replicate 40 (10 ^ (30 : Int).toNat : Int)).map V.int)) := by rw [upd_same, rep_one]; rfl
      generalize upd (upd H1 b1 (.lst [.int (10 ^ (30 : Int).toNat)])) a1 (.lst (List.replicate (40 : Int).toNat [V.int (10 ^ (30 : Int).toNat)]).flatten) = H2 at g1 ⊢
      refine ⟨.int (10 ^ (40 : Int).toNat - 1), rfl, .int (10 ^ (40 : Int).toNat - 1), rfl, 0, _, rfl, rfl, (by show 2 ≤ sizeLine; decide), fun b2 i2 => ⟨b2, 20, _, rfl, rfl, upd_same, by decide, by decide, (by show 2 * 20 ≤ sizeLine; decide), fun a2 h2 => ?_⟩⟩
      have sN := (new_same (H := H2) (o := .lst [.int (10 ^ (40 : Int).toNat - 1), .int (0 - (10 ^ (40 : Int).toNat - 1))]) i2).trans (new_same (o := .lst (List.replicate (20 : Int).toNat [V.int (10 ^ (40 : Int).toNat - 1), .int (0 - (10 ^ (40 : Int).toNat - 1))]).flatten) h2)
      have g2 : (upd (upd H2 b2 (.lst [.int (10 ^ (40 : Int).toNat - 1), .int (0 - (10 ^ (40 : Int).toNat - 1))])) a2 (.lst (List.replicate (20 : Int).toNat [V.int (10 ^ (40 : Int).toNat - 1), .int (0 - (10 ^ (40 : Int).toNat - 1))]).flatten)) a2 = some (.lst (((List.replicate 20 ([10 ^ (40 : Int).toNat - 1, 0 - (10 ^ (40 : Int).toNat - 1)] : List Int)).flatten).map V.int)) := by
        rw [upd_same, ← rep_map]
        rfl
      have g1 := sN _ _ g1
      generalize upd (upd H2 b2 (.lst [.int (10 ^ (40 : Int).toNat - 1), .int (0 - (10 ^ (40 : Int).toNat - 1))])) a2 (.lst (List.replicate (20 : Int).toNat [V.int (10 ^ (40 : Int).toNat - 1), .int (0 - (10 ^ (40 : Int).toNat - 1))]).flatten) = H3 at g1 g2 ⊢
      clear sN
      refine ⟨.int (10 ^ (40 : Int).toNat - 1), rfl, 0, _, rfl, rfl, .int (10 ^ (40 : Int).toNat - 1), rfl, (by show 2 ≤ sizeLine; decide), fun p3 i3 => ⟨(by show 1 ≤ sizeLine; decide), fun b3 j3 => ⟨b3, 40, _, rfl, rfl, upd_same, by decide, by decide, (by show 1 * 40 ≤ sizeLine; decide), fun a3 h3 => ?_⟩⟩⟩
      have sM := (new_same (o := .lst [.ref p3]) j3).trans (new_same (o := .lst (List.replicate (40 : Int).toNat [V.ref p3]).flatten) h3)
      have sN := (new_same (H := H3) (o := .tup [.int (0 - (10 ^ (40 : Int).toNat - 1)), .int (10 ^ (40 : Int).toNat - 1)]) i3).trans sM
      have hp := sM _ _ (upd_same (H := H3) (a := p3) (o := .tup [.int (0 - (10 ^ (40 : Int).toNat - 1)), .int (10 ^ (40 : Int).toNat - 1)]))
      have g3 : (upd (upd (upd H3 p3 (.tup [.int (0 - (10 ^ (40 : Int).toNat - 1)), .int (10 ^ (40 : Int).toNat - 1)])) b3 (.lst [.ref p3])) a3 (.lst (List.replicate (40 : Int).toNat [V.ref p3]).flatten)) a3 = some (.lst (List.replicate 40 (V.ref p3))) := by
        rw [upd_same, rep_oneW]
        rfl
      have g1 := sN _ _ g1
      have g2 := sN _ _ g2
      generalize upd (upd (upd H3 p3 (.tup [.int (0 - (10 ^ (40 : Int).toNat - 1)), .int (10 ^ (40 : Int).toNat - 1)])) b3 (.lst [.ref p3])) a3 (.lst (List.replicate (40 : Int).toNat [V.ref p3]).flatten) = H4 at g1 g2 g3 hp ⊢
      clear sN sM
      refine ⟨a1, a2, a3, _, _, _, _, rfl, g1, ⟨by decide +kernel, by decide +kernel, by decide +kernel⟩, g2, by decide +kernel, by decide +kernel, by decide +kernel, g3, prs_rep (p := (0 - (10 ^ (40 : Int).toNat - 1), 10 ^ (40 : Int).toNat - 1)) hp 40, by decide +kernel, by decide +kernel, fun H5 s5 => ⟨true, rfl, iteF ?_⟩⟩
      clear g1 g2 g3 hp
      -- longer ones
      refine ⟨10, 45, rfl, rfl, ⟨by decide, by decide, by decide⟩, 10, 42, rfl, rfl, ⟨by decide, by decide, by decide⟩, 0, _, rfl, rfl, (by show 2 ≤ sizeLine; decide), fun c1 k1 => ?_⟩
      refine ⟨c1, [10 ^ (45 : Int).toNat, 0 - 10 ^ (42 : Int).toNat], rfl, SqL.of upd_same, by decide +kernel, by decide +kernel, fun H6 s6 => ?_⟩
      refine ⟨10, 45, rfl, rfl, ⟨by decide, by decide, by decide⟩, 0, _, rfl, rfl, 10, 41, rfl, rfl, ⟨by decide, by decide, by decide⟩, (by show 2 ≤ sizeLine; decide), fun p2 k2 => ⟨(by show 1 ≤ sizeLine; decide), fun c2 k3 => ?_⟩⟩
      refine ⟨c2, _, [(0 - 10 ^ (45 : Int).toNat, 10 ^ (41 : Int).toNat)], rfl, SqL.of upd_same, .cons (new_same k3 _ _ upd_same) .nil, by decide +kernel, by decide +kernel, fun H7 s7 => ?_⟩
      refine ⟨(by show 2 ≤ sizeLine; decide), fun q5 k5 => ?_⟩
      have w1 : Str.ofString "1" ++ Txt.mul (Str.ofString "0") 45 ++ Str.ofString " -1" ++ Txt.mul (Str.ofString "0") 42 = wordsS (([10 ^ (45 : Int).toNat, 0 - 10 ^ (42 : Int).toNat] : List Int).map intL) := TL.ext_tl (by decide +kernel)
      have w2 : Str.ofString "-1" ++ Txt.mul (Str.ofString "0") 45 ++ Str.ofString "=1" ++ Txt.mul (Str.ofString "0") 41 = wordsS (([(0 - 10 ^ (45 : Int).toNat, 10 ^ (41 : Int).toNat)] : List (Int × Int)).map lookL) := TL.ext_tl (by decide +kernel)
      rw [← w1, ← w2]
      refine ⟨.ref q5, rfl, _, 45, rfl, rfl, (⟨by decide, fun _ _ => by decide +kernel, fun _ _ => by decide +kernel⟩ : MulOk (Str.ofString "0") 45), _, _, rfl, rfl, by decide +kernel, _, _, rfl, rfl, by decide +kernel, _, 42, rfl, rfl, (⟨by decide, fun _ _ => by decide +kernel, fun _ _ => by decide +kernel⟩ : MulOk (Str.ofString "0") 42), _, _, rfl, rfl, by decide +kernel, ?_⟩
      refine ⟨_, 45, rfl, rfl, (⟨by decide, fun _ _ => by decide +kernel, fun _ _ => by decide +kernel⟩ : MulOk (Str.ofString "0") 45), _, _, rfl, rfl, by decide +kernel, _, _, rfl, rfl, by decide +kernel, _, 41, rfl, rfl, (⟨by decide, fun _ _ => by decide +kernel, fun _ _ => by decide +kernel⟩ : MulOk (Str.ofString "0") 41), _, _, rfl, rfl, by decide +kernel, (by show 2 ≤ sizeLine; decide), fun q6 k6 => ?_⟩
      have hD := dat_list (k := 0) (B := 10 * ((2 * 60 + 3 + 1) * 2) + 2) (n := 2) (ds := [.str (Str.ofString "1" ++ Txt.mul (Str.ofString "0") 45 ++ Str.ofString " -1" ++ Txt.mul (Str.ofString "0") 42), .str (Str.ofString "-1" ++ Txt.mul (Str.ofString "0") 45 ++ Str.ofString "=1" ++ Txt.mul (Str.ofString "0") 41)]) (fun d hd => by
        simp only [List.mem_cons, List.not_mem_nil, or_false] at hd
        rcases hd with rfl | rfl
        · rw [w1]
          exact (dat_row (k := 60) (n := 2) (by decide) (by decide +kernel) (by decide)).mono (Nat.le_refl _) (by decide)
        · rw [w2]
          exact (dat_looks (k := 60) (n := 2) (by decide) (by decide +kernel) (by decide)).mono (Nat.le_refl _) (by decide)) (by decide) (by decide)
      refine ⟨_, _, .lst (SqL.of (new_same k6 _ _ upd_same)) (.cons (.str _) (.cons (.str _) .nil)), .lst (SqL.of upd_same) (.cons (.str _) (.cons (.str _) .nil)), hD.rp.shaped, hD.rp.shaped, ?_⟩
      rw [hD.rp.refl]
      exact q _

end
/-! ### what the top has written, and the end -/
theorem all_mk {l : PySem.W.OpenLaw} {w : World} {K : PySem.W.Frag} {h : Heap} {mg : Str → Option Value} {fa : Addr} (X : K.In h) (G : h.Ns mainGlobals mg) (hfa : mg "law" = some (.ref fa))
    {f0 : Addr} {od0 an0 : Option Addr} {sl0 : Array (Option Value)} {oc0 kV0 dc0 pm0 cd0 ct0 : Value}
    (a0 : PySem.W.nsIn K mainGlobals "number_text" = some (some (.ref f0))) (l0 : K.lookup f0 = some ⟨oc0, od0, .func (PySem.W.fnOf "number_text" "number_text" (defArgs s_number_text) (defBody s_number_text) (defScope s_number_text) .none kV0 dc0 pm0 an0 cd0 ct0), sl0⟩) (c0 : PySem.W.codeIn K cd0 "number_text" = true) (k0 : PySem.W.keepIn K (.ref f0) = true)
    {f1 : Addr} {od1 an1 : Option Addr} {sl1 : Array (Option Value)} {oc1 kV1 dc1 pm1 cd1 ct1 : Value}
    (a1 : PySem.W.nsIn K mainGlobals "numbers_text" = some (some (.ref f1))) (l1 : K.lookup f1 = some ⟨oc1, od1, .func (PySem.W.fnOf "numbers_text" "numbers_text" (defArgs s_numbers_text) (defBody s_numbers_text) (defScope s_numbers_text) .none kV1 dc1 pm1 an1 cd1 ct1), sl1⟩) (c1 : PySem.W.codeIn K cd1 "numbers_text" = true) (k1 : PySem.W.keepIn K (.ref f1) = true)
    {f2 : Addr} {od2 an2 : Option Addr} {sl2 : Array (Option Value)} {oc2 kV2 dc2 pm2 cd2 ct2 : Value}
    (a2 : PySem.W.nsIn K mainGlobals "number_in" = some (some (.ref f2))) (l2 : K.lookup f2 = some ⟨oc2, od2, .func (PySem.W.fnOf "number_in" "number_in" (defArgs s_number_in) (defBody s_number_in) (defScope s_number_in) .none kV2 dc2 pm2 an2 cd2 ct2), sl2⟩) (c2 : PySem.W.codeIn K cd2 "number_in" = true) (k2 : PySem.W.keepIn K (.ref f2) = true)
    {f3 : Addr} {od3 an3 : Option Addr} {sl3 : Array (Option Value)} {oc3 kV3 dc3 pm3 cd3 ct3 : Value}
    (a3 : PySem.W.nsIn K mainGlobals "count_in" = some (some (.ref f3))) (l3 : K.lookup f3 = some ⟨oc3, od3, .func (PySem.W.fnOf "count_in" "count_in" (defArgs s_count_in) (defBody s_count_in) (defScope s_count_in) .none kV3 dc3 pm3 an3 cd3 ct3), sl3⟩) (c3 : PySem.W.codeIn K cd3 "count_in" = true) (k3 : PySem.W.keepIn K (.ref f3) = true)
    {f4 : Addr} {od4 an4 : Option Addr} {sl4 : Array (Option Value)} {oc4 kV4 dc4 pm4 cd4 ct4 : Value}
    (a4 : PySem.W.nsIn K mainGlobals "format_disc" = some (some (.ref f4))) (l4 : K.lookup f4 = some ⟨oc4, od4, .func (PySem.W.fnOf "format_disc" "format_disc" (defArgs s_format_disc) (defBody s_format_disc) (defScope s_format_disc) .none kV4 dc4 pm4 an4 cd4 ct4), sl4⟩) (c4 : PySem.W.codeIn K cd4 "format_disc" = true) (k4 : PySem.W.keepIn K (.ref f4) = true)
    {f5 : Addr} {od5 an5 : Option Addr} {sl5 : Array (Option Value)} {oc5 kV5 dc5 pm5 cd5 ct5 : Value}
    (a5 : PySem.W.nsIn K mainGlobals "format_row" = some (some (.ref f5))) (l5 : K.lookup f5 = some ⟨oc5, od5, .func (PySem.W.fnOf "format_row" "format_row" (defArgs s_format_row) (defBody s_format_row) (defScope s_format_row) .none kV5 dc5 pm5 an5 cd5 ct5), sl5⟩) (c5 : PySem.W.codeIn K cd5 "format_row" = true) (k5 : PySem.W.keepIn K (.ref f5) = true)
    {f6 : Addr} {od6 an6 : Option Addr} {sl6 : Array (Option Value)} {oc6 kV6 dc6 pm6 cd6 ct6 : Value}
    (a6 : PySem.W.nsIn K mainGlobals "format_looks" = some (some (.ref f6))) (l6 : K.lookup f6 = some ⟨oc6, od6, .func (PySem.W.fnOf "format_looks" "format_looks" (defArgs s_format_looks) (defBody s_format_looks) (defScope s_format_looks) .none kV6 dc6 pm6 an6 cd6 ct6), sl6⟩) (c6 : PySem.W.codeIn K cd6 "format_looks" = true) (k6 : PySem.W.keepIn K (.ref f6) = true)
    {f7 : Addr} {od7 an7 : Option Addr} {sl7 : Array (Option Value)} {oc7 kV7 dc7 pm7 cd7 ct7 : Value}
    (a7 : PySem.W.nsIn K mainGlobals "parse_disc" = some (some (.ref f7))) (l7 : K.lookup f7 = some ⟨oc7, od7, .func (PySem.W.fnOf "parse_disc" "parse_disc" (defArgs s_parse_disc) (defBody s_parse_disc) (defScope s_parse_disc) .none kV7 dc7 pm7 an7 cd7 ct7), sl7⟩) (c7 : PySem.W.codeIn K cd7 "parse_disc" = true) (k7 : PySem.W.keepIn K (.ref f7) = true)
    {f8 : Addr} {od8 an8 : Option Addr} {sl8 : Array (Option Value)} {oc8 kV8 dc8 pm8 cd8 ct8 : Value}
    (a8 : PySem.W.nsIn K mainGlobals "parse_row" = some (some (.ref f8))) (l8 : K.lookup f8 = some ⟨oc8, od8, .func (PySem.W.fnOf "parse_row" "parse_row" (defArgs s_parse_row) (defBody s_parse_row) (defScope s_parse_row) .none kV8 dc8 pm8 an8 cd8 ct8), sl8⟩) (c8 : PySem.W.codeIn K cd8 "parse_row" = true) (k8 : PySem.W.keepIn K (.ref f8) = true)
    {f9 : Addr} {od9 an9 : Option Addr} {sl9 : Array (Option Value)} {oc9 kV9 dc9 pm9 cd9 ct9 : Value}
    (a9 : PySem.W.nsIn K mainGlobals "parse_looks" = some (some (.ref f9))) (l9 : K.lookup f9 = some ⟨oc9, od9, .func (PySem.W.fnOf "parse_looks" "parse_looks" (defArgs s_parse_looks) (defBody s_parse_looks) (defScope s_parse_looks) .none kV9 dc9 pm9 an9 cd9 ct9), sl9⟩) (c9 : PySem.W.codeIn K cd9 "parse_looks" = true) (k9 : PySem.W.keepIn K (.ref f9) = true)
    {f10 : Addr} {od10 an10 : Option Addr} {sl10 : Array (Option Value)} {oc10 kV10 dc10 pm10 cd10 ct10 : Value}
    (a10 : PySem.W.nsIn K mainGlobals "_check_text" = some (some (.ref f10))) (l10 : K.lookup f10 = some ⟨oc10, od10, .func (PySem.W.fnOf "_check_text" "_check_text" (defArgs s_check_text) (defBody s_check_text) (defScope s_check_text) .none kV10 dc10 pm10 an10 cd10 ct10), sl10⟩) (c10 : PySem.W.codeIn K cd10 "_check_text" = true) (k10 : PySem.W.keepIn K (.ref f10) = true)
    {f11 : Addr} {od11 an11 : Option Addr} {sl11 : Array (Option Value)} {oc11 kV11 dc11 pm11 cd11 ct11 : Value}
    (a11 : PySem.W.nsIn K mainGlobals "_parse_words" = some (some (.ref f11))) (l11 : K.lookup f11 = some ⟨oc11, od11, .func (PySem.W.fnOf "_parse_words" "_parse_words" (defArgs s_parse_words) (defBody s_parse_words) (defScope s_parse_words) .none kV11 dc11 pm11 an11 cd11 ct11), sl11⟩) (c11 : PySem.W.codeIn K cd11 "_parse_words" = true) (k11 : PySem.W.keepIn K (.ref f11) = true)
    {f12 : Addr} {od12 an12 : Option Addr} {sl12 : Array (Option Value)} {oc12 kV12 dc12 pm12 cd12 ct12 : Value}
    (a12 : PySem.W.nsIn K mainGlobals "_slot_in" = some (some (.ref f12))) (l12 : K.lookup f12 = some ⟨oc12, od12, .func (PySem.W.fnOf "_slot_in" "_slot_in" (defArgs s_slot_in) (defBody s_slot_in) (defScope s_slot_in) .none kV12 dc12 pm12 an12 cd12 ct12), sl12⟩) (c12 : PySem.W.codeIn K cd12 "_slot_in" = true) (k12 : PySem.W.keepIn K (.ref f12) = true)
    {f13 : Addr} {od13 an13 : Option Addr} {sl13 : Array (Option Value)} {oc13 kV13 dc13 pm13 cd13 ct13 : Value}
    (a13 : PySem.W.nsIn K mainGlobals "_look_in" = some (some (.ref f13))) (l13 : K.lookup f13 = some ⟨oc13, od13, .func (PySem.W.fnOf "_look_in" "_look_in" (defArgs s_look_in) (defBody s_look_in) (defScope s_look_in) .none kV13 dc13 pm13 an13 cd13 ct13), sl13⟩) (c13 : PySem.W.codeIn K cd13 "_look_in" = true) (k13 : PySem.W.keepIn K (.ref f13) = true)
    {f14 : Addr} {od14 an14 : Option Addr} {sl14 : Array (Option Value)} {oc14 kV14 dc14 pm14 cd14 ct14 : Value}
    (a14 : PySem.W.nsIn K mainGlobals "_law_tank" = some (some (.ref f14))) (l14 : K.lookup f14 = some ⟨oc14, od14, .func (PySem.W.fnOf "_law_tank" "_law_tank" (defArgs s_law_tank) (defBody s_law_tank) (defScope s_law_tank) .none kV14 dc14 pm14 an14 cd14 ct14), sl14⟩) (c14 : PySem.W.codeIn K cd14 "_law_tank" = true) (k14 : PySem.W.keepIn K (.ref f14) = true)
    {f15 : Addr} {od15 an15 : Option Addr} {sl15 : Array (Option Value)} {oc15 kV15 dc15 pm15 cd15 ct15 : Value}
    (a15 : PySem.W.nsIn K mainGlobals "_law_tap" = some (some (.ref f15))) (l15 : K.lookup f15 = some ⟨oc15, od15, .func (PySem.W.fnOf "_law_tap" "_law_tap" (defArgs s_law_tap) (defBody s_law_tap) (defScope s_law_tap) .none kV15 dc15 pm15 an15 cd15 ct15), sl15⟩) (c15 : PySem.W.codeIn K cd15 "_law_tap" = true) (k15 : PySem.W.keepIn K (.ref f15) = true)
    {f16 : Addr} {od16 an16 : Option Addr} {sl16 : Array (Option Value)} {oc16 kV16 dc16 pm16 cd16 ct16 : Value}
    (a16 : PySem.W.nsIn K mainGlobals "_law_drawn_count" = some (some (.ref f16))) (l16 : K.lookup f16 = some ⟨oc16, od16, .func (PySem.W.fnOf "_law_drawn_count" "_law_drawn_count" (defArgs s_law_drawn_count) (defBody s_law_drawn_count) (defScope s_law_drawn_count) .none kV16 dc16 pm16 an16 cd16 ct16), sl16⟩) (c16 : PySem.W.codeIn K cd16 "_law_drawn_count" = true) (k16 : PySem.W.keepIn K (.ref f16) = true)
    {f17 : Addr} {od17 an17 : Option Addr} {sl17 : Array (Option Value)} {oc17 kV17 dc17 pm17 cd17 ct17 : Value}
    (a17 : PySem.W.nsIn K mainGlobals "_law_drawn_rim" = some (some (.ref f17))) (l17 : K.lookup f17 = some ⟨oc17, od17, .func (PySem.W.fnOf "_law_drawn_rim" "_law_drawn_rim" (defArgs s_law_drawn_rim) (defBody s_law_drawn_rim) (defScope s_law_drawn_rim) .none kV17 dc17 pm17 an17 cd17 ct17), sl17⟩) (c17 : PySem.W.codeIn K cd17 "_law_drawn_rim" = true) (k17 : PySem.W.keepIn K (.ref f17) = true)
    {f18 : Addr} {od18 an18 : Option Addr} {sl18 : Array (Option Value)} {oc18 kV18 dc18 pm18 cd18 ct18 : Value}
    (a18 : PySem.W.nsIn K mainGlobals "_law_drawn_notes" = some (some (.ref f18))) (l18 : K.lookup f18 = some ⟨oc18, od18, .func (PySem.W.fnOf "_law_drawn_notes" "_law_drawn_notes" (defArgs s_law_drawn_notes) (defBody s_law_drawn_notes) (defScope s_law_drawn_notes) .none kV18 dc18 pm18 an18 cd18 ct18), sl18⟩) (c18 : PySem.W.codeIn K cd18 "_law_drawn_notes" = true) (k18 : PySem.W.keepIn K (.ref f18) = true)
    {f19 : Addr} {od19 an19 : Option Addr} {sl19 : Array (Option Value)} {oc19 kV19 dc19 pm19 cd19 ct19 : Value}
    (a19 : PySem.W.nsIn K mainGlobals "_law_line" = some (some (.ref f19))) (l19 : K.lookup f19 = some ⟨oc19, od19, .func (PySem.W.fnOf "_law_line" "_law_line" (defArgs s_law_line) (defBody s_law_line) (defScope s_law_line) .none kV19 dc19 pm19 an19 cd19 ct19), sl19⟩) (c19 : PySem.W.codeIn K cd19 "_law_line" = true) (k19 : PySem.W.keepIn K (.ref f19) = true)
    {f20 : Addr} {od20 an20 : Option Addr} {sl20 : Array (Option Value)} {oc20 kV20 dc20 pm20 cd20 ct20 : Value}
    (a20 : PySem.W.nsIn K mainGlobals "_law_notes_text" = some (some (.ref f20))) (l20 : K.lookup f20 = some ⟨oc20, od20, .func (PySem.W.fnOf "_law_notes_text" "_law_notes_text" (defArgs s_law_notes_text) (defBody s_law_notes_text) (defScope s_law_notes_text) .none kV20 dc20 pm20 an20 cd20 ct20), sl20⟩) (c20 : PySem.W.codeIn K cd20 "_law_notes_text" = true) (k20 : PySem.W.keepIn K (.ref f20) = true)
    {f21 : Addr} {od21 an21 : Option Addr} {sl21 : Array (Option Value)} {oc21 kV21 dc21 pm21 cd21 ct21 : Value}
    (a21 : PySem.W.nsIn K mainGlobals "_law_right" = some (some (.ref f21))) (l21 : K.lookup f21 = some ⟨oc21, od21, .func (PySem.W.fnOf "_law_right" "_law_right" (defArgs s_law_right) (defBody s_law_right) (defScope s_law_right) .none kV21 dc21 pm21 an21 cd21 ct21), sl21⟩) (c21 : PySem.W.codeIn K cd21 "_law_right" = true) (k21 : PySem.W.keepIn K (.ref f21) = true)
    {f22 : Addr} {od22 an22 : Option Addr} {sl22 : Array (Option Value)} {oc22 kV22 dc22 pm22 cd22 ct22 : Value}
    (a22 : PySem.W.nsIn K mainGlobals "law" = some (some (.ref f22))) (l22 : K.lookup f22 = some ⟨oc22, od22, .func (PySem.W.fnOf "law" "law" (defArgs s_law) (defBody s_law) (defScope s_law) .none kV22 dc22 pm22 an22 cd22 ct22), sl22⟩) (c22 : PySem.W.codeIn K cd22 "law" = true) (k22 : PySem.W.keepIn K (.ref f22) = true)
    {t_MOST_SLOTS : Tok} (m_MOST_SLOTS : PySem.W.nsIn K mainGlobals "MOST_SLOTS" = some (some (.int (40) t_MOST_SLOTS)))
    {t_MOST_LIGHT : Tok} (m_MOST_LIGHT : PySem.W.nsIn K mainGlobals "MOST_LIGHT" = some (some (.int (1000000000000000000000000000000) t_MOST_LIGHT)))
    {t_MOST_LOOKS : Tok} (m_MOST_LOOKS : PySem.W.nsIn K mainGlobals "MOST_LOOKS" = some (some (.int (40) t_MOST_LOOKS)))
    {t_MOST_DIGITS : Tok} (m_MOST_DIGITS : PySem.W.nsIn K mainGlobals "MOST_DIGITS" = some (some (.int (40) t_MOST_DIGITS)))
    {t_PART_DIGITS : Tok} (m_PART_DIGITS : PySem.W.nsIn K mainGlobals "PART_DIGITS" = some (some (.int (60) t_PART_DIGITS)))
    {t_PART : Tok} (m_PART : PySem.W.nsIn K mainGlobals "PART" = some (some (.int (1000000000000000000000000000000000000000000000000000000000000) t_PART)))
    (z_abs : PySem.W.nsIn K mainGlobals "abs" = some none)
    (z_divmod : PySem.W.nsIn K mainGlobals "divmod" = some none)
    (z_enumerate : PySem.W.nsIn K mainGlobals "enumerate" = some none)
    (z_int : PySem.W.nsIn K mainGlobals "int" = some none)
    (z_isinstance : PySem.W.nsIn K mainGlobals "isinstance" = some none)
    (z_len : PySem.W.nsIn K mainGlobals "len" = some none)
    (z_max : PySem.W.nsIn K mainGlobals "max" = some none)
    (z_min : PySem.W.nsIn K mainGlobals "min" = some none)
    (z_range : PySem.W.nsIn K mainGlobals "range" = some none)
    (z_repr : PySem.W.nsIn K mainGlobals "repr" = some none)
    (z_str : PySem.W.nsIn K mainGlobals "str" = some none)
    : ∃ fd : FuncData, (∀ (s : Shared) (u : Value), BindsTo s fd ⟨[u], []⟩ [("script", u)]) ∧ ∀ base : Heap, K.In base → base.Ns mainGlobals mg → FnG l.prog w K mg base CX0 8 fa fd ["script"] (spLaw K) := by
  have e := hfa.symm.trans (PySem.W.mg_of X G a22)
  cases e
  have F0 := fun_mk (st := s_number_text) l0 c0 k0
  have b0 := F0.binds (ps := ["number"]) fun _ _ _ _ _ _ us hl => match us, hl with | [_], _ => rfl
  have F1 := fun_mk (st := s_numbers_text) l1 c1 k1
  have b1 := F1.binds (ps := ["numbers"]) fun _ _ _ _ _ _ us hl => match us, hl with | [_], _ => rfl
  have F2 := fun_mk (st := s_number_in) l2 c2 k2
  have b2 := F2.binds (ps := ["word"]) fun _ _ _ _ _ _ us hl => match us, hl with | [_], _ => rfl
  have F3 := fun_mk (st := s_count_in) l3 c3 k3
  have b3 := F3.binds (ps := ["word"]) fun _ _ _ _ _ _ us hl => match us, hl with | [_], _ => rfl
  have F4 := fun_mk (st := s_format_disc) l4 c4 k4
  have b4 := F4.binds (ps := ["disc"]) fun _ _ _ _ _ _ us hl => match us, hl with | [_], _ => rfl
  have F5 := fun_mk (st := s_format_row) l5 c5 k5
  have b5 := F5.binds (ps := ["row"]) fun _ _ _ _ _ _ us hl => match us, hl with | [_], _ => rfl
  have F6 := fun_mk (st := s_format_looks) l6 c6 k6
  have b6 := F6.binds (ps := ["looks"]) fun _ _ _ _ _ _ us hl => match us, hl with | [_], _ => rfl
  have F7 := fun_mk (st := s_parse_disc) l7 c7 k7
  have b7 := F7.binds (ps := ["text"]) fun _ _ _ _ _ _ us hl => match us, hl with | [_], _ => rfl
  have F8 := fun_mk (st := s_parse_row) l8 c8 k8
  have b8 := F8.binds (ps := ["text"]) fun _ _ _ _ _ _ us hl => match us, hl with | [_], _ => rfl
  have F9 := fun_mk (st := s_parse_looks) l9 c9 k9
  have b9 := F9.binds (ps := ["text"]) fun _ _ _ _ _ _ us hl => match us, hl with | [_], _ => rfl
  have F10 := fun_mk (st := s_check_text) l10 c10 k10
  have b10 := F10.binds (ps := ["text"]) fun _ _ _ _ _ _ us hl => match us, hl with | [_], _ => rfl
  have F11 := fun_mk (st := s_parse_words) l11 c11 k11
  have b11 := F11.binds (ps := ["text", "value_in", "most"]) fun _ _ _ _ _ _ us hl => match us, hl with | [_, _, _], _ => rfl
  have F12 := fun_mk (st := s_slot_in) l12 c12 k12
  have b12 := F12.binds (ps := ["word"]) fun _ _ _ _ _ _ us hl => match us, hl with | [_], _ => rfl
  have F13 := fun_mk (st := s_look_in) l13 c13 k13
  have b13 := F13.binds (ps := ["word"]) fun _ _ _ _ _ _ us hl => match us, hl with | [_], _ => rfl
  have F14 := fun_mk (st := s_law_tank) l14 c14 k14
  have b14 := F14.binds (ps := ["script", "at"]) fun _ _ _ _ _ _ us hl => match us, hl with | [_, _], _ => rfl
  have F15 := fun_mk (st := s_law_tap) l15 c15 k15
  have b15 := F15.binds (ps := ["tank", "many"]) fun _ _ _ _ _ _ us hl => match us, hl with | [_, _], _ => rfl
  have F16 := fun_mk (st := s_law_drawn_count) l16 c16 k16
  have b16 := F16.binds (ps := ["tank", "most"]) fun _ _ _ _ _ _ us hl => match us, hl with | [_, _], _ => rfl
  have F17 := fun_mk (st := s_law_drawn_rim) l17 c17 k17
  have b17 := F17.binds (ps := ["tank", "count"]) fun _ _ _ _ _ _ us hl => match us, hl with | [_, _], _ => rfl
  have F18 := fun_mk (st := s_law_drawn_notes) l18 c18 k18
  have b18 := F18.binds (ps := ["tank", "far"]) fun _ _ _ _ _ _ us hl => match us, hl with | [_, _], _ => rfl
  have F19 := fun_mk (st := s_law_line) l19 c19 k19
  have b19 := F19.binds (ps := ["rows"]) fun _ _ _ _ _ _ us hl => match us, hl with | [_], _ => rfl
  have F20 := fun_mk (st := s_law_notes_text) l20 c20 k20
  have b20 := F20.binds (ps := ["notes"]) fun _ _ _ _ _ _ us hl => match us, hl with | [_], _ => rfl
  have F21 := fun_mk (st := s_law_right) l21 c21 k21
  have b21 := F21.binds (ps := ["rim", "line", "notes"]) fun _ _ _ _ _ _ us hl => match us, hl with | [_, _, _], _ => rfl
  have F22 := fun_mk (st := s_law) l22 c22 k22
  exact ⟨_, fun s v => .of_eq rfl, fun base _ _ => ok_law ⟨f0, _, F0, b0, PySem.W.mg_of X G a0, f1, _, F1, b1, PySem.W.mg_of X G a1, f2, _, F2, b2, PySem.W.mg_of X G a2, f3, _, F3, b3, PySem.W.mg_of X G a3, f4, _, F4, b4, PySem.W.mg_of X G a4, f5, _, F5, b5, PySem.W.mg_of X G a5, f6, _, F6, b6, PySem.W.mg_of X G a6, f7, _, F7, b7, PySem.W.mg_of X G a7, f8, _, F8, b8, PySem.W.mg_of X G a8, f9, _, F9, b9, PySem.W.mg_of X G a9, f10, _, F10, b10, PySem.W.mg_of X G a10, f11, _, F11, b11, PySem.W.mg_of X G a11, f12, _, F12, b12, PySem.W.mg_of X G a12, f13, _, F13, b13, PySem.W.mg_of X G a13, f14, _, F14, b14, PySem.W.mg_of X G a14, f15, _, F15, b15, PySem.W.mg_of X G a15, f16, _, F16, b16, PySem.W.mg_of X G a16, f17, _, F17, b17, PySem.W.mg_of X G a17, f18, _, F18, b18, PySem.W.mg_of X G a18, f19, _, F19, b19, PySem.W.mg_of X G a19, f20, _, F20, b20, PySem.W.mg_of X G a20, f21, _, F21, b21, PySem.W.mg_of X G a21, fa, _, F22, PySem.W.mg_of X G a22, t_MOST_SLOTS, PySem.W.mg_of X G m_MOST_SLOTS, t_MOST_LIGHT, PySem.W.mg_of X G m_MOST_LIGHT, t_MOST_LOOKS, PySem.W.mg_of X G m_MOST_LOOKS, t_MOST_DIGITS, PySem.W.mg_of X G m_MOST_DIGITS, t_PART_DIGITS, PySem.W.mg_of X G m_PART_DIGITS, t_PART, PySem.W.mg_of X G m_PART, PySem.W.mg_none_of X G z_abs, PySem.W.mg_none_of X G z_divmod, PySem.W.mg_none_of X G z_enumerate, PySem.W.mg_none_of X G z_int, PySem.W.mg_none_of X G z_isinstance, PySem.W.mg_none_of X G z_len, PySem.W.mg_none_of X G z_max, PySem.W.mg_none_of X G z_min, PySem.W.mg_none_of X G z_range, PySem.W.mg_none_of X G z_repr, PySem.W.mg_none_of X G z_str⟩⟩
end Sd
open PySem PySem.W PyProof.Rows
set_option maxRecDepth 100000 in
set_option maxHeartbeats 0 in
theorem PySem.Challenge.cw_slitdiscs_k47_texts_written_and_read_holds : PySem.Challenge.rw_slitdiscs_k47_texts_written_and_read.Holds := by
  w_on; o_law; k_head; (case hw => w_witness2)
  k_fill
  refine Sd.gwalk (l := PySem.Challenge.rw_slitdiscs_k47_texts_written_and_read) (n := 63) (k := 8) (x := "script") (sp := Sd.spLaw) rfl (by decide) rfl ⟨rfl, by decide, by decide⟩ (fun w h Y => PySem.W.kIn_of Y) ?F (fun _ _ a ns hl hS => ⟨a, ns, rfl, hS, hl, fun _ => rfl⟩)
  case F =>
    intro w mg fa h KX G hmg
    refine' Sd.all_mk KX G hmg ?a0 ?l0 ?c0 ?k0 ?a1 ?l1 ?c1 ?k1 ?a2 ?l2 ?c2 ?k2 ?a3 ?l3 ?c3 ?k3 ?a4 ?l4 ?c4 ?k4 ?a5 ?l5 ?c5 ?k5 ?a6 ?l6 ?c6 ?k6 ?a7 ?l7 ?c7 ?k7 ?a8 ?l8 ?c8 ?k8 ?a9 ?l9 ?c9 ?k9 ?a10 ?l10 ?c10 ?k10 ?a11 ?l11 ?c11 ?k11 ?a12 ?l12 ?c12 ?k12 ?a13 ?l13 ?c13 ?k13 ?a14 ?l14 ?c14 ?k14 ?a15 ?l15 ?c15 ?k15 ?a16 ?l16 ?c16 ?k16 ?a17 ?l17 ?c17 ?k17 ?a18 ?l18 ?c18 ?k18 ?a19 ?l19 ?c19 ?k19 ?a20 ?l20 ?c20 ?k20 ?a21 ?l21 ?c21 ?k21 ?a22 ?l22 ?c22 ?k22 ?m_MOST_SLOTS ?m_MOST_LIGHT ?m_MOST_LOOKS ?m_MOST_DIGITS ?m_PART_DIGITS ?m_PART ?z_abs ?z_divmod ?z_enumerate ?z_int ?z_isinstance ?z_len ?z_max ?z_min ?z_range ?z_repr ?z_str
    (case a0 => k_is)
    (case l0 => k_is)
    (case c0 => k_is)
    (case k0 => k_is)
    (case a1 => k_is)
    (case l1 => k_is)
    (case c1 => k_is)
    (case k1 => k_is)
    (case a2 => k_is)
    (case l2 => k_is)
    (case c2 => k_is)
    (case k2 => k_is)
    (case a3 => k_is)
    (case l3 => k_is)
    (case c3 => k_is)
    (case k3 => k_is)
    (case a4 => k_is)
    (case l4 => k_is)
    (case c4 => k_is)
    (case k4 => k_is)
    (case a5 => k_is)
    (case l5 => k_is)
    (case c5 => k_is)
    (case k5 => k_is)
    (case a6 => k_is)
    (case l6 => k_is)
    (case c6 => k_is)
    (case k6 => k_is)
    (case a7 => k_is)
    (case l7 => k_is)
    (case c7 => k_is)
    (case k7 => k_is)
    (case a8 => k_is)
    (case l8 => k_is)
    (case c8 => k_is)
    (case k8 => k_is)
    (case a9 => k_is)
    (case l9 => k_is)
    (case c9 => k_is)
    (case k9 => k_is)
    (case a10 => k_is)
    (case l10 => k_is)
    (case c10 => k_is)
    (case k10 => k_is)
    (case a11 => k_is)
    (case l11 => k_is)
    (case c11 => k_is)
    (case k11 => k_is)
    (case a12 => k_is)
    (case l12 => k_is)
    (case c12 => k_is)
    (case k12 => k_is)
    (case a13 => k_is)
    (case l13 => k_is)
    (case c13 => k_is)
    (case k13 => k_is)
    (case a14 => k_is)
    (case l14 => k_is)
    (case c14 => k_is)
    (case k14 => k_is)
    (case a15 => k_is)
    (case l15 => k_is)
    (case c15 => k_is)
    (case k15 => k_is)
    (case a16 => k_is)
    (case l16 => k_is)
    (case c16 => k_is)
    (case k16 => k_is)
    (case a17 => k_is)
    (case l17 => k_is)
    (case c17 => k_is)
    (case k17 => k_is)
    (case a18 => k_is)
    (case l18 => k_is)
    (case c18 => k_is)
    (case k18 => k_is)
    (case a19 => k_is)
    (case l19 => k_is)
    (case c19 => k_is)
    (case k19 => k_is)
    (case a20 => k_is)
    (case l20 => k_is)
    (case c20 => k_is)
    (case k20 => k_is)
    (case a21 => k_is)
    (case l21 => k_is)
    (case c21 => k_is)
    (case k21 => k_is)
    (case a22 => k_is)
    (case l22 => k_is)
    (case c22 => k_is)
    (case k22 => k_is)
    (case m_MOST_SLOTS => k_is)
    (case m_MOST_LIGHT => k_is)
    (case m_MOST_LOOKS => k_is)
    (case m_MOST_DIGITS => k_is)
    (case m_PART_DIGITS => k_is)
    (case m_PART => k_is)
    (case z_abs => k_is)
    (case z_divmod => k_is)
    (case z_enumerate => k_is)
    (case z_int => k_is)
    (case z_isinstance => k_is)
    (case z_len => k_is)
    (case z_max => k_is)
    (case z_min => k_is)
    (case z_range => k_is)
    (case z_repr => k_is)
    (case z_str => k_is)
