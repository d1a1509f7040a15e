import PyProof.Rows.All
import Wide.All
import OpenK.AllK
import Wide.FinOn
import HandS.Comp
import HandS.Ends
import HandS.Iter
import HandS.Words
import HandS.WordsList
import HandS.Walk
import HandS.IsInst
import HandS.Wide
import PyProof.ReprRoads
import PyProof.ReprLen
import HandS.Text
import HandS.StrMore
import HandS.FStr
import HandS.IterVal
import HandS.Style
import PyProof.StrBlock2
import PySem.Challenge.RW_slitdiscs_k49_written_texts
set_option Elab.async false
set_option linter.all false
set_option maxRecDepth 100000
set_option maxHeartbeats 4000000
/-! Own layer over HandS: defs that run where no repr is under way (FnG), repr of data, powers of great ints, calls by keywords alone. -/
namespace Sd
open PySem PySem.Spec PyProof.Rows L2

/-! ### a def called where no repr is under way -/
structure FnG (P : Program) (w : World) (K : PySem.W.Frag) (mg : Str → Option Value) (base : Heap) (C : CXT) (k : Nat) (f : Addr) (fd : FuncData) (ps : List Str) (sp : Sp) : Prop where
  cnt : ∀ {vs H Q E}, sp vs H Q E → vs.length = ps.length
  go : ∀ (A : Around) (out : List Env) (s : Shared) (H : Hp) (ar : Args) (us : List Value) (vs : List V) (Q : VK) (E : XK), A.guards = some [] → Room k A →
    Env0 P w K mg base A out s H → BindsTo s fd ar (ps.zip us) → Vals vs us → sp vs H Q E →
    codeAny (model P w) A (.call (.ref f) ar) (CR C out P w H s Q E) s

section
variable {P : Program} {w : World} {K : PySem.W.Frag} {mg : Str → Option Value} {base : Heap} {C : CXT}
theorem gfn_of {k : Nat} {f : Addr} {nm ql : Str} {pms : Arguments} {bd : List Stmt} {sc : Scope} {v1 v2 v3 v4 cd v5 oc : Value} {an od : Option Addr}
    {osl : Array (Option Value)} {N ps : List Str} {sp : Sp}
    (lk : K.lookup f = some ⟨oc, od, .func (PySem.W.fnOf nm ql pms bd sc v1 v2 v3 v4 an cd v5), osl⟩)
    (hc : PySem.W.codeIn K cd ql = true) (S : FnScope N ps sc)
    (len : ∀ vs H Q E, sp vs H Q E → vs.length = ps.length)
    (hb : ∀ (A : Around) (out : List Env) (s : Shared) (H : Hp) (vs : List V) (Q : VK) (E : XK), A.guards = some [] →
      Room k (A.deeper (envOfC ql sc s.heap.objs.size f cd)) → sp vs H Q E →
      ∃ t, PSs (cxOf C P w K mg base N ql sc f cd A out s H E) bd t ∧ t { nx := fun _ H' => Q .non H', rt := Q } (start N vs) H) :
    FnG P w K mg base C (k + 1) f (PySem.W.fnOf nm ql pms bd sc v1 v2 v3 v4 an cd v5) ps sp := by
  refine ⟨fun h => len _ _ _ _ h, fun A out s H ar us vs Q E hg hr e0 hbd r hsp => ?_⟩
  have n1 := len _ _ _ _ hsp
  have kx : K.In s.heap := e0.mod.kin.keeps fun b o e => (e0.bs b o e).1
  have li : s.heap.NoLimit := e0.mod.nolimit.keeps fun b o e => (e0.bs b o e).1
  refine codeAny_call_function hr.depth (kx _ _ lk) rfl S.co S.gen rfl (PySem.W.codeRec_of kx hc) (hbd _ _ _ _ ?_)
  refine wpAny_newFunctionEnv_cells S.kind (fun ⟨n, v⟩ hy => ?_) fun env he s1 x => ?_
  · rcases S.par n (List.of_mem_zip hy).1 with q | q
    · exact .inl q
    · exact .inr ⟨q, PySem.W.cellsFrom_some _ _ _ (.inl q)⟩
  subst he
  refine ⟨li.keeps x.toInCall.keep, codeAny_func ?_⟩
  obtain ⟨t, ht, hq⟩ := hb A out s H vs Q E hg (hr.deeper _) hsp
  have I0 := inv_start (CX := C) (E := E) S hr.hd e0 n1 r x
  refine wpAny_mono (ht.run [] s1 (start N vs) H _ I0 hq) (fun fl s' hs => ?_) fun e s' hs => hs
  cases fl with
  | next =>
    obtain ⟨σ', H', J, q⟩ := hs
    exact ⟨.non, H', J.os, J.bare, J.base, J.hok, rfl, q⟩
  | ret u =>
    obtain ⟨v, σ', H', J, rv, q⟩ := hs
    exact ⟨v, H', J.os, J.bare, J.base, J.hok, rv, q⟩
  | brk => exact hs.elim fun _ ⟨_, _, q⟩ => False.elim q
  | cont => exact hs.elim fun _ ⟨_, _, q⟩ => False.elim q

/-- as Fun.ok, where no repr is under way -/
theorem okG {x ql : Str} {st : Stmt} {f : Addr} {fd : FuncData} {N ps : List Str} {k : Nat} {sp : Sp} (F : Fun K x ql st f fd) (S : FnScope N ps (defScope st))
    (len : ∀ vs H Q E, sp vs H Q E → vs.length = ps.length)
    (hb : ∀ (cd : Value) (A : Around) (out : List Env) (s : Shared) (H : Hp) (vs : List V) (Q : VK) (E : XK), A.guards = some [] →
      Room k (A.deeper (envOfC ql (defScope st) s.heap.objs.size f cd)) → sp vs H Q E →
      ∃ t, PSs (cxOf CX0 P w K mg base N ql (defScope st) f cd A out s H E).nox (defBody st) t ∧ t { nx := fun _ H' => Q .non H', rt := Q } (start N vs) H) :
    FnG P w K mg base CX0 (k + 1) f fd ps sp := by
  obtain ⟨oc, od, v2, v3, v4, an, cd, v5, osl, rfl, lk, hc⟩ := F.ex
  refine gfn_of lk hc S len fun A out s H vs Q E hg hr hsp => ?_
  obtain ⟨t, h, q⟩ := hb cd A out s H vs Q E hg hr hsp
  exact ⟨t, h.nox, q⟩
end

section
variable {X : Cx} {C : CXT} {k : Nat} {f : Addr} {fd : FuncData} {ps ks : List Str} {sp : Sp} {dvs : List V} {ds : List Value} {E : XK} {x : Str} {p pos : Pos} {e : Expr} {es : List Expr} {kws : List Keyword} {t tk : TA}
theorem endG {pins : List (Addr × Obj)} {σ : L2.St} {H : Hp} {s s' : Shared} {Q : VK} {r : Result} (hx : Passes C X E) (I : Inv X pins σ H s) (h : CR C X.stack X.prog X.w H s Q E r s') :
    (match r with | .ok (.ret u) => EP X pins σ Q u s' | .ok _ => False | .error e => X.xe e s') := by
  cases r with
  | error e => exact hx pins σ H s e s' I h
  | ok fl =>
    cases fl with
    | ret u => exact I.after h
    | next => exact h
    | brk => exact h
    | cont => exact h
theorem goG {pins : List (Addr × Obj)} {σ : L2.St} {H : Hp} {s : Shared} {Q : VK} {us : List Value} {vs : List V} (F : FnG X.prog X.w X.K X.mg X.base C k f fd ps sp) (hA : X.A.guards = some []) (hr : Room k X.A)
    (hb : Binds X.K fd ps ds) (hd : Vals dvs ds) (hx : Passes C X E) (I : Inv X pins σ H s) (r : Vals vs us) (h : sp (vs ++ dvs) H Q E) :
    wpAny (model X.prog X.w) X.A (call (.ref f) us) (EP X pins σ Q) X.xe s := by
  have r2 := r.append hd
  have n2 : (us ++ ds).length = ps.length := r2.length.symm.trans (F.cnt h)
  refine wpAny_call (codeAny_mono (F.go X.A X.stack s H ⟨us, []⟩ _ _ Q E hA hr I.env0 (hb s us I.kIn n2) r2 h) fun r s' hq => ?_)
  have z := endG hx I hq
  cases r with
  | error e => exact z
  | ok fl => cases fl <;> exact z
/-- f(e, ..) where no repr is under way -/
theorem pe_callG (F : FnG X.prog X.w X.K X.mg X.base C k f fd ps sp) (hA : X.A.guards = some []) (hr : Room k X.A) (hg : Gl X x) (hm : X.mg x = some (.ref f)) (hk : PySem.W.keepIn X.K (.ref f) = true)
    (hb : Binds X.K fd ps ds) (hd : Vals dvs ds) (hx : Passes C X E) (ha : PA X (e :: es) t) (hdb : (x == ("__debug__" : Str)) = false := by decide)
    (he : starEach (e :: es) X.env = (false, eval e X.env) :: starEach es X.env := by rfl) (hpl : (backTo pos (starEach es X.env)).any (·.1) = false := by rfl) :
    PE X (.Call (.Name x p) (e :: es) [] pos) (tCall sp dvs E t) := by
  refine ⟨fun pins s σ H Q I h => wpAny_Call_Name_kw (ld_glob I hg hm ?_ hdb)⟩
  refine PySem.W.callWith_K (h₀ := X.base) I.ok.mod.kin hk (thn (ha.run pos pins s σ H _ I h) fun us s1 z => ?_) he hpl
  obtain ⟨vs, H1, I1, r, q⟩ := z
  exact ⟨I1.kIn, goG F hA hr hb hd hx I1 r q⟩
/-- f(k = v, ..): keywords alone -/
def tCallW (sp : Sp) (gV : List V → List V) (E : XK) (tk : TA) : TE := fun σ H Q => tk σ H fun zs H2 => sp (gV zs) H2 Q E
variable {g : List Value → List Value → List Value} {gV : List V → List V → List V}
theorem pe_callW (F : FnOk X.prog X.w X.K X.mg X.base C k f fd ps sp) (hr : Room k X.A) (hg : Gl X x) (hm : X.mg x = some (.ref f)) (hk : PySem.W.keepIn X.K (.ref f) = true) (hb : KBinds X.K fd ps ks g gV) (hx : Passes C X E)
    (hkw : PK X kws tk) (hall : (backToKw pos (keywordEach kws X.env)).all (·.1.isSome) = true := by rfl) (hks : (backToKw pos (keywordEach kws X.env)).filterMap (·.1) = ks := by rfl)
    (hdb : (x == ("__debug__" : Str)) = false := by decide)
    (hpl : ((backTo pos (starEach [] X.env)).any (·.1) || (backToKw pos (keywordEach kws X.env)).any (·.1.isNone)) = false := by rfl) :
    PE X (.Call (.Name x p) [] kws pos) (tCallW sp (gV []) E tk) := by
  refine ⟨fun pins s σ H Q I h => wpAny_Call_Name_kw (ld_glob I hg hm ?_ hdb)⟩
  refine PySem.W.callWith_KW0 (h₀ := X.base) I.ok.mod.kin hk hall (thn (hkw.run pos pins s σ H _ I h) fun ws s2 z => ?_) hpl
  obtain ⟨zs, H2, I2, rz, q2⟩ := z
  refine ⟨I2.kIn, ?_⟩
  rw [hks]
  exact run_fnk F hr hb hx I2 .nil rz q2
end

/-! ### the law's call -/
theorem glaw {P : Program} {w : World} {K : PySem.W.Frag} {mg mb : Str → Option Value} {k : Nat} {fa a : Addr} {fd : FuncData} {x : Str} {sp : Sp} {s1 : Shared} {vs : List Value} {ns : List Int}
    (kx : K.In s1.heap) (hn : s1.heap.Ns mainGlobals mg) (hb : s1.heap.Ns builtinsNs mb) (hbb : ∀ x : Str, x ≠ "__name__" → mb x = bootBuiltins x) (hlim : s1.heap.NoLimit) (hgs : s1.gens = #[])
    (ha : s1.heap.get? a = some { cls := .type "list", data := .seq vs.toArray }) (hi : IntsAre vs ns) (hl : ns.length ≤ sizeLine) (hr : Room k callerA)
    (F : ∀ base : Heap, K.In base → base.Ns mainGlobals mg → FnG P w K mg base CX0 k fa fd [x] sp) (hbind : ∀ (s : Shared) (u : Value), BindsTo s fd ⟨[u], []⟩ [(x, u)])
    (hsp : ∀ H : Hp, SqL K H a (ns.map V.int) → sp [.ref a] H (fun v _ => v = .bl true) E0) :
    codeAny (model P w) callerA (.call (.ref fa) ⟨[.ref a], []⟩) (fun r s' => r = .ok (.ret (.bool true)) ∧ OldK s1.heap s'.heap ∧ s'.os = s1.os ∧ AllBare s'.gens) s1 := by
  have rv := vals_ints hi
  have nv := hi.length
  -- the abstract heap: the script, locked, unless the module itself holds it
  have main : ∀ H : Hp, (∀ b, H b = none ∨ (b = a ∧ H b = some (.frz { cls := .type "list", data := .seq vs.toArray } (.lst (ns.map V.int))))) → (H a ≠ none → K.lookup a = none) →
      SqL K H a (ns.map V.int) → HOk P w H s1.heap →
      codeAny (model P w) callerA (.call (.ref fa) ⟨[.ref a], []⟩) (fun r s' => r = .ok (.ret (.bool true)) ∧ OldK s1.heap s'.heap ∧ s'.os = s1.os ∧ AllBare s'.gens) s1 := by
    intro H hO hK hS hok
    have out : ∀ {b : Addr} {o : Obj}, s1.heap.get? b = some o → (b = a → H b = none) → (hidT s1.heap H).get? b = some o := fun {b o} e n => hidT_get e (by
      rcases hO b with z | ⟨z, _⟩
      · exact z
      · exact n z)
    have dct : ∀ {b : Addr} {m : Str → Option Value}, s1.heap.Ns b m → (hidT s1.heap H).Ns b m := fun {b m} ⟨o, es, ep, e, d, r⟩ => ⟨o, es, ep, out e (fun z => by
      subst z
      rw [ha] at e
      cases e
      cases (show Data.seq vs.toArray _ = Data.dict es ep from d)), d, r⟩
    have kb : K.In (hidT s1.heap H) := fun b o e => out (kx b o e) fun z => by
      subst z
      cases q : H b with
      | none => rfl
      | some u =>
        rw [hK (by rw [q]; exact fun z => nomatch z)] at e
        cases e
    have md : Mod K mg (hidT s1.heap H) := ⟨kb, dct hn, ⟨mb, dct hb, hbb⟩, let ⟨mc, h1, h2⟩ := hlim; ⟨mc, dct h1, h2⟩⟩
    have en : Env0 P w K mg (hidT s1.heap H) callerA [] s1 H := ⟨rfl, md, fun b o e => of_hidT e, Nat.le_of_eq (hidT_size _ _), trivial, fun b z => (List.not_mem_nil z).elim, hok, .of_eq hgs⟩
    refine codeAny_mono ((F _ kb (dct hn)).go callerA [] s1 H ⟨[.ref a], []⟩ [.ref a] [.ref a] _ _ rfl hr en (hbind s1 (.ref a)) (.cons rfl .nil) (hsp H hS)) fun r s' h => ?_
    cases r with
    | error e => exact False.elim h
    | ok fl =>
      cases fl with
      | next => exact False.elim h
      | brk => exact False.elim h
      | cont => exact False.elim h
      | ret u =>
        obtain ⟨v, H', os, br, un, ok', r', q⟩ := h
        cases (show v = .bl true from q)
        cases (show u = Value.bool true from r')
        refine ⟨rfl, OldK.of_keep fun b o e => ?_, os, br⟩
        rcases hO b with z | ⟨_, z⟩
        · exact un.keep b o e z (fun z => (List.not_mem_nil z).elim) (fun z => (List.not_mem_nil z).elim)
        · have e1 := (hok b _ z).1
          have e2 := (ok' b _ (un.frzs b _ _ z)).1
          rw [e] at e1
          cases e1
          exact e2
  cases hk : K.lookup a with
  | some o =>
    have e := kx a o hk
    rw [ha] at e
    cases e
    refine main (fun _ => none) (fun _ => .inl rfl) (fun z => absurd rfl z) (.inr ⟨_, vs.toArray, _, hk, rfl, rfl, rfl, ?_, ?_⟩) fun b u z => nomatch (show (none : Option HO) = some u from z)
    · rw [List.size_toArray, nv]
      exact hl
    · simpa using rv
  | none =>
    refine main (fun b => if b = a then some (.frz { cls := .type "list", data := .seq vs.toArray } (.lst (ns.map V.int))) else none) (fun b => ?_) (fun _ => hk) (.inl (.inr ⟨{ cls := .type "list", data := .seq vs.toArray }, if_pos rfl⟩)) (fun b u z => ?_)
    · by_cases q : b = a
      · exact .inr ⟨q, if_pos q⟩
      · exact .inl (if_neg q)
    · by_cases q : b = a
      · have z2 := (if_pos q).symm.trans z
        cases z2
        subst q
        exact ⟨ha, by rw [List.length_map]; exact hl, vs, _, rv, ha⟩
      · have z2 := (if_neg q).symm.trans z
        cases z2
theorem gwalk {l : PySem.W.OpenLaw} {n k : Nat} {q : Program} {lo : List Str} {XP : (Str → Option Value) → Heap → Prop} {YP : World → Heap → Prop} {d : DefRec} {K : Params → PySem.W.Frag} {sp : PySem.W.Frag → Sp} {x : Str}
    (hn : l.most = some n) (hn2 : n ≤ sizeLine) (hdf : d.params.defaults = []) (hr : Room k callerA) (hY : ∀ (w : World) (h : Heap), YP w h → (K w.params).In h)
    (F : ∀ (w : World) (mg : Str → Option Value) (fa : Addr) (h : Heap), (K w.params).In h → h.Ns mainGlobals mg → mg d.name = some (.ref fa) →
      ∃ fd : FuncData, (∀ (s : Shared) (u : Value), BindsTo s fd ⟨[u], []⟩ [(x, u)]) ∧
        ∀ base : Heap, (K w.params).In base → base.Ns mainGlobals mg → FnG l.prog w (K w.params) mg base CX0 k fa fd [x] (sp (K w.params)))
    (hsp : ∀ (K : PySem.W.Frag) (H : Hp) (a : Addr) (ns : List Int), ns.length ≤ n → SqL K H a (ns.map V.int) → sp K [.ref a] H (fun v _ => v = .bl true) E0) :
    PySem.W.WalkO q lo XP YP l.row.toRowW d [] (fun f vs => PySem.call f vs) := by
  refine Att.attach_call hn hdf fun w s₀ s₁ mg mb fa o pm cd doc a vs ns G Y ho hd hcd hmg hobj hints hlen hg => ?_
  have kx := hY w _ Y
  obtain ⟨fd, hb, hF⟩ := F w mg fa _ kx G.T.g hmg
  exact glaw kx G.T.g G.T.b G.T.builtins G.T.nolimit hg hobj hints (Nat.le_trans hlen hn2) hr hF hb fun H hS => hsp (K w.params) H a ns hlen hS

/-! ### repr of data -/
def rRepr (K : PySem.W.Frag) : List V → Hp → VK → Prop := fun xs H Q => ∃ (a : Addr) (d : PyData), xs = [.ref a] ∧ Dp K H (.ref a) d ∧ d.showable = true ∧ d.hasDict = false ∧ d.depth ≤ 32 ∧ d.shown.length ≤ sizeLine ∧ Q (.str d.shown) H
theorem call_repr {X : Cx} (hA : X.A.guards = some []) {k : Nat} (hr : Room k X.A) : CallR X (.builtin "repr") (rRepr X.K) := by
  intro pins s σ H xs us Q I r h
  obtain ⟨a, d, rfl, hd, h1, h2, h3, h4, q⟩ := h
  cases r with
  | cons r1 r2 =>
    cases r2
    cases r1
    obtain ⟨as, rd⟩ := Dp.reads I d _ _ hd rfl
    have hu := hr.units
    refine repr_of_reads' rd h1 (fun z => by rw [h2] at z; cases z) hA (by omega) (fun _ _ e => e) (fun h' u tk kp => ?_) h4
    exact ⟨.str d.shown, H, I.kept (t' := tk) kp, ⟨u, rfl⟩, q⟩

/-- repr of any data -/
def rReprV (K : PySem.W.Frag) : List V → Hp → VK → Prop := fun xs H Q => ∃ (x : V) (d : PyData), xs = [x] ∧ Dp K H x d ∧ d.showable = true ∧ d.hasDict = false ∧ d.depth ≤ 32 ∧ d.shown.length ≤ sizeLine ∧ Q (.str d.shown) H
theorem reprV {X : Cx} {K : PySem.W.Frag} (hK : X.K = K) (hA : X.A.guards = some []) {k : Nat} (hr : Room k X.A) : CallR X (.builtin "repr") (rReprV K) := by
  subst hK
  intro pins s σ H xs us Q I r h
  obtain ⟨x, d, rfl, hd, h1, h2, h3, h4, q⟩ := h
  have ref : ∀ a : Addr, x = .ref a → wpAny (model X.prog X.w) X.A (call (.builtin "repr") us) (EP X pins σ Q) X.xe s := fun a e => by
    subst e
    exact call_repr hA hr pins s σ H _ us Q I r ⟨a, d, rfl, hd, h1, h2, h3, h4, q⟩
  cases hd with
  | lst _ _ => exact ref _ rfl
  | tup _ _ => exact ref _ rfl
  | non =>
    cases r with
    | cons r1 r2 =>
      cases r2
      cases r1
      exact PySem.P.repr_of_none ⟨.str (PyData.shown .none), H, I.tok _, ⟨_, rfl⟩, q⟩
  | bl b =>
    cases r with
    | cons r1 r2 =>
      cases r2
      cases r1
      cases b with
      | true => exact PySem.P.repr_of_bool ⟨.str (PyData.shown (.bool true)), H, I.tok _, ⟨_, rfl⟩, q⟩
      | false => exact PySem.P.repr_of_bool ⟨.str (PyData.shown (.bool false)), H, I.tok _, ⟨_, rfl⟩, q⟩
  | int i =>
    cases r with
    | cons r1 r2 =>
      cases r2
      obtain ⟨t, rfl⟩ := r1
      have z : i.natAbs.log2 < 1920 := by
        simp only [PyData.showable] at h1
        exact of_decide_eq_true h1
      exact PySem.P.repr_of_int z ⟨.str (PyData.shown (.int i)), H, I.tok _, ⟨_, rfl⟩, q⟩
  | str y =>
    cases r with
    | cons r1 r2 =>
      cases r2
      obtain ⟨t, rfl⟩ := r1
      exact PySem.P.repr_of_str ⟨.str (PyData.shown (.str y)), H, I.tok _, ⟨_, rfl⟩, q⟩ h4

/-! ### a statement, then the rest by a word between them -/
def tMid (t u : TS) : TS := fun D σ H => ∃ M : L2.St → Hp → Prop, t { D with nx := M } σ H ∧ ∀ σ' H', M σ' H' → u D σ' H'
theorem pss_mid {X : Cx} {st : Stmt} {rs : List Stmt} {t u : TS} (h1 : PS X st t) (h2 : PSs X rs u) : PSs X (st :: rs) (tMid t u) :=
  ⟨fun pins s σ H D I ⟨M, hm, hu⟩ => wpAny_execs_cons (thn (h1.run pins s σ H { D with nx := M } I hm) fun f s1 q => by
    cases f with
    | next => exact q.elim fun σ' ⟨H', I', z⟩ => h2.run pins s1 σ' H' D I' (hu σ' H' z)
    | ret v => exact q
    | brk => exact q
    | cont => exact q)⟩

/-! ### rules with the written part named (for blocks of comprehensions) -/
theorem ixL {X : Cx} {K : PySem.W.Frag} (h : X.K = K) : IxR X (rIxL K) := h ▸ ix_list
theorem slL {X : Cx} {K : PySem.W.Frag} (h : X.K = K) : SlR X (rSlL K) := h ▸ sl_list
def rLenL (K : PySem.W.Frag) : List V → Hp → VK → Prop := fun xs H Q => ∃ (p : Addr) (ys : List V), xs = [.ref p] ∧ (SqL K H p ys ∨ SqT K H p ys) ∧ Q (.int ys.length) H
theorem lenL {X : Cx} {K : PySem.W.Frag} (h : X.K = K) : CallR X (.builtin "len") (rLenL K) := h ▸ call_len_seq
theorem sumL {X : Cx} {K : PySem.W.Frag} (h : X.K = K) (hc : X.calm = true) : CallR X (.builtin "sum") (rSum K) := h ▸ cr_sum hc
theorem maxL {X : Cx} {K : PySem.W.Frag} (h : X.K = K) (hc : X.calm = true) : CallR X (.builtin "max") (rMax K) := h ▸ cr_max hc
theorem minL {X : Cx} {K : PySem.W.Frag} (h : X.K = K) (hc : X.calm = true) : CallR X (.builtin "min") (rMin K) := h ▸ cr_min hc
theorem isiL {X : Cx} {K : PySem.W.Frag} (h : X.K = K) : CallR X (.builtin "isinstance") (rIsi K) := h ▸ call_isi
theorem reprL {X : Cx} {K : PySem.W.Frag} (h : X.K = K) (hA : X.A.guards = some []) {k : Nat} (hr : Room k X.A) : CallR X (.builtin "repr") (rRepr K) := h ▸ call_repr hA hr
theorem pg_tupL {X : Cx} {K : PySem.W.Frag} {es : List Expr} {j : Nat} {pos : Pos} {t : TGs} {n : Nat} (h : X.K = K) (hc : X.calm = true) (hs : PGs X es t)
    (hn : (assignEach es X.env).length = n := by rfl) (hst : (assignEach es X.env).findIdx? (·.1) = none := by rfl) : PG X (.Tuple es j pos) (gTup K n t) := h ▸ pg_tup hc hs hn hst
theorem enumL {X : Cx} {K : PySem.W.Frag} {elts : List Expr} {kk : Nat} {tpos p pos : Pos} {e : Expr} {ta : TA} (h : X.K = K) (hg : Gl X "enumerate") (hm : X.mg "enumerate" = none) (ha : PA X [e] ta)
    (hs : starEach [e] X.env = [(false, eval e X.env)] := by rfl) : PI X (.Tuple elts kk tpos) (.Call (.Name "enumerate" p) [e] [] pos) (iEnum K ta) := h ▸ pi_enum hg hm ha hs
theorem zipL {X : Cx} {K : PySem.W.Frag} {elts : List Expr} {kk : Nat} {tpos p pos : Pos} {e e2 : Expr} {ta : TA} (h : X.K = K) (hg : Gl X "zip") (hm : X.mg "zip" = none) (ha : PA X [e, e2] ta)
    (hs : starEach [e, e2] X.env = (false, eval e X.env) :: starEach [e2] X.env := by rfl) (hpl : (backTo pos (starEach [e2] X.env)).any (·.1) = false := by rfl) :
    PI X (.Tuple elts kk tpos) (.Call (.Name "zip" p) [e, e2] [] pos) (iZip K ta) := h ▸ pi_zip hg hm ha hs hpl
theorem pi_tupL {X : Cx} {K : PySem.W.Frag} {tg l : Expr} {tl : TE} (h : X.K = K) (hl : PE X l tl) : PI X tg l (iTup K tl) := h ▸ pi_tup hl
theorem pi_listL {X : Cx} {K : PySem.W.Frag} {tg l : Expr} {tl : TE} (h : X.K = K) (hl : PE X l tl) : PI X tg l (iList K tl) := h ▸ pi_list hl
def rListL (K : PySem.W.Frag) : List V → Hp → VK → Prop := fun xs H Q => ∃ (p : Addr) (ys : List V), xs = [.ref p] ∧ (SqL K H p ys ∨ SqT K H p ys) ∧ ∀ l, H l = none → Q (.ref l) (upd H l (.lst ys))
theorem listL {X : Cx} {K : PySem.W.Frag} (h : X.K = K) : CallR X (.type "list") (rListL K) := h ▸ call_list_of
theorem eqD {X : Cx} {K : PySem.W.Frag} (h : X.K = K) {k : Nat} (hr : Room k X.A) : OpR X (compareOp .Eq) (rEqD K) := h ▸ op_eqD hr.units
theorem neD {X : Cx} {K : PySem.W.Frag} (h : X.K = K) {k : Nat} (hr : Room k X.A) : OpR X (compareOp .NotEq) (rNeD K) := h ▸ op_neD hr.units

/-! ### a power of a great int, the exponent small -/
def CPow3 (i j : Int) : Prop := j = 3 ∧ 0 ≤ i ∧ i.natAbs < 2 ^ 200
theorem op_pow3 {X : Cx} : OpR X (binaryOp .Pow) (rI CPow3 fun i j => .int (i ^ j.toNat)) := opI fun i j t u s Q E hc q => by
  obtain ⟨rfl, h0, h1⟩ := hc
  by_cases e : (i == 0 || i == 1) = true
  · refine PySem.AutoIntOps.pow_1 (by decide) (by decide) e ?_
    have e2 : i ^ (3 : Int).toNat = i := by
      rcases (Bool.or_eq_true _ _).mp e with z | z
      · rw [eq_of_beq z]; rfl
      · rw [eq_of_beq z]; rfl
    rw [e2] at q
    exact q
  · refine PySem.AutoIntOps.pow_4 (by decide) (by decide) e ?_ ?_ q
    · intro z
      have := eq_of_beq z
      omega
    · intro z
      unfold Builtin.Int.intTooBig at z
      have z3 := of_decide_eq_true z
      have b : Builtin.Int.intBits i ≤ 201 := by
        unfold Builtin.Int.intBits
        have y := PySem.Flt.log2_lt_of (show 0 < 200 by decide) h1
        split <;> omega
      have e : bitsLine = 134217728 := by decide
      rw [e] at z3
      omega
end Sd

namespace Sd
open PySem PySem.Spec PyProof.Rows L2

/-! ### heaps -/
/-- all but T is as it was -/
def But (T : Addr) (H H' : Hp) : Prop := ∀ b o, H b = some o → b ≠ T → H' b = some o
theorem But.refl (T : Addr) (H : Hp) : But T H H := fun _ _ h _ => h
theorem But.trans {T : Addr} {H H1 H2 : Hp} (a : But T H H1) (b : But T H1 H2) : But T H H2 := fun c o h n => b c o (a c o h n) n
theorem But.of {T : Addr} {H H' : Hp} (s : Same H H') : But T H H' := fun b o h _ => s b o h
theorem But.lst {T : Addr} {H H' : Hp} {a : Addr} {o : HO} (s : But T H H') (h : H a = some o) (n : a ≠ T) : H' a = some o := s a o h n
theorem new_same {H : Hp} {p : Addr} {o : HO} (h : H p = none) : Same H (upd H p o) := fun b x e => by
  rw [upd_ne (ne_of_none e h)]
  exact e
theorem upd_but {H : Hp} {T : Addr} {o : HO} : But T H (upd H T o) := fun b x e n => by
  rw [upd_ne n]
  exact e
theorem free_but {T : Addr} {H H' : Hp} {p : Addr} {o : HO} (s : But T H H') (hT : H T = some o) (h : H' p = none) (hT' : H' T ≠ none) : H p = none := by
  cases q : H p with
  | none => rfl
  | some u =>
    by_cases e : p = T
    · subst e
      exact absurd h hT'
    · rw [s p u q e] at h
      cases h
/-- the law's tank -/
def Tank (H : Hp) (T : Addr) (c : Int) : Prop := ∃ x y z : Int, H T = some (.lst [.int x, .int y, .int z]) ∧ 0 ≤ x ∧ 0 ≤ y ∧ y < 2 ^ 100 ∧ 0 ≤ z ∧ z ≤ c
theorem Tank.some {H : Hp} {T : Addr} {c : Int} (h : Tank H T c) : ∃ o, H T = some o := let ⟨_, _, _, e, _⟩ := h; ⟨_, e⟩
theorem Tank.same {H H' : Hp} {T : Addr} {c : Int} (h : Tank H T c) (s : Same H H') : Tank H' T c := let ⟨x, y, z, e, r⟩ := h; ⟨x, y, z, s _ _ e, r⟩
theorem Tank.ne {H : Hp} {T p : Addr} {c : Int} (h : Tank H T c) (n : H p = none) : p ≠ T := fun e => by
  obtain ⟨o, q⟩ := h.some
  rw [e, q] at n
  cases n
theorem Tank.up {H : Hp} {T p : Addr} {c : Int} {o : HO} (h : Tank H T c) (n : H p = none) : Tank (upd H p o) T c := h.same (new_same n)
theorem Tank.mono {H : Hp} {T : Addr} {c d : Int} (h : Tank H T c) (l : c ≤ d) : Tank H T d := let ⟨x, y, z, e, a, b, r, f, g⟩ := h; ⟨x, y, z, e, a, b, r, f, by omega⟩

/-! ### lists of ints -/
theorem tyx_list {K : PySem.W.Frag} {H : Hp} {a : Addr} {xs : List V} (h : SqL K H a xs) : TyX K H (.ref a) (.type "list") := by
  rcases h with (h | ⟨o, h⟩) | ⟨o, its, n, hk, hc, _⟩
  · exact .base (.lst h)
  · exact .base (.frz h)
  · exact .kList hk hc
theorem kit_int_int {K : PySem.W.Frag} : PySem.W.kitOne K (.type "int") (.type "int") = some true := kit_ty (by decide +kernel)
theorem kit_int_bool {K : PySem.W.Frag} : PySem.W.kitOne K (.type "int") (.type "bool") = some false := kit_ty (by decide +kernel)
theorem kit_list_list {K : PySem.W.Frag} : PySem.W.kitOne K (.type "list") (.type "list") = some true := kit_ty (by decide +kernel)
/-- a rim: from 1 to 40 numbers from 0 to 10 ** 30 -/
structure Rim (ns : List Int) : Prop where
  pos : 1 ≤ ns.length
  le : ns.length ≤ 40
  all : ∀ n ∈ ns, 0 ≤ n ∧ n ≤ 1000000000000000000000000000000
theorem sz40 {n : Nat} (h : n ≤ 100000) : n < sizeLine := Nat.lt_of_le_of_lt h (by decide)
theorem sz40' {n : Nat} (h : n ≤ 100000) : n ≤ sizeLine := Nat.le_of_lt (sz40 h)
theorem int_at {ns : List Int} {i : Nat} {x : V} (h : (ns.map V.int)[i]? = some x) : ∃ n, ns[i]? = some n ∧ x = .int n := by
  rw [List.getElem?_map] at h
  cases e : ns[i]? with
  | none =>
    rw [e] at h
    cases h
  | some n =>
    rw [e] at h
    exact ⟨n, rfl, (Option.some.inj h).symm⟩
theorem at_int {ns : List Int} {i : Nat} {n : Int} (h : ns[i]? = some n) : (ns.map V.int)[i]? = some (.int n) := by
  rw [List.getElem?_map, h]
  rfl
/-- xs[i] at an int that lies within -/
theorem at_in {ns : List Int} {i : Int} (h0 : 0 ≤ i) (h1 : i < ns.length) : ∃ n, ns[i.toNat]? = some n ∧ atI (ns.map V.int) i = some (.int n) := by
  have h2 : i.toNat < ns.length := by omega
  obtain ⟨j, rfl⟩ : ∃ j : Nat, i = (j : Int) := ⟨i.toNat, by omega⟩
  have h3 : j < ns.length := by omega
  exact ⟨ns[j], List.getElem?_eq_getElem h3, atI_nat (at_int (List.getElem?_eq_getElem h3))⟩
theorem ixN_in {n : Nat} {i : Int} (h0 : 0 ≤ i) (h1 : i < n) : ixN n i = some i.toNat := by
  unfold ixN
  rw [if_pos h0, if_pos h1]

/-! ### turning, mirroring -/
/-- what stands at slot j behind a turn by t -/
def rot (ns : List Int) (t : Int) : List Int := (List.range ns.length).map fun (j : Nat) => ns.getD ((((j : Int) - t) % (ns.length : Int)).toNat) 0
def mir (ns : List Int) : List Int := (List.range ns.length).map fun (j : Nat) => ns.getD (((-(j : Int)) % (ns.length : Int)).toNat) 0
theorem rot_len (ns : List Int) (t : Int) : (rot ns t).length = ns.length := by
  unfold rot
  rw [List.length_map, List.length_range]
theorem mir_len (ns : List Int) : (mir ns).length = ns.length := by
  unfold mir
  rw [List.length_map, List.length_range]
theorem rot_at {ns : List Int} {t : Int} {j : Nat} (h : j < ns.length) : (rot ns t)[j]? = some (ns.getD ((((j : Int) - t) % (ns.length : Int)).toNat) 0) := by
  unfold rot
  rw [List.getElem?_map, List.getElem?_range h]
  rfl
theorem mir_at {ns : List Int} {j : Nat} (h : j < ns.length) : (mir ns)[j]? = some (ns.getD (((-(j : Int)) % (ns.length : Int)).toNat) 0) := by
  unfold mir
  rw [List.getElem?_map, List.getElem?_range h]
  rfl
theorem mod_in {i : Int} {n : Nat} (h : 0 < n) : 0 ≤ i % (n : Int) ∧ i % (n : Int) < n := ⟨Int.emod_nonneg _ (by omega), Int.emod_lt_of_pos _ (by omega)⟩
theorem getD_at {ns : List Int} {j : Nat} {n : Int} (h : ns[j]? = some n) : ns.getD j 0 = n := by
  rw [List.getD_eq_getElem?_getD, h]
  rfl
theorem at_getD {ns : List Int} {j : Nat} (h : j < ns.length) : ns[j]? = some (ns.getD j 0) := by
  rw [List.getD_eq_getElem?_getD, List.getElem?_eq_getElem h]
  rfl
theorem rot_all {ns : List Int} {t : Int} {P : Int → Prop} (h : ∀ n ∈ ns, P n) : ∀ n ∈ rot ns t, P n := fun n hn => by
  unfold rot at hn
  obtain ⟨j, hj, rfl⟩ := List.mem_map.mp hn
  have hj := List.mem_range.mp hj
  have hm := mod_in (i := (j : Int) - t) (show 0 < ns.length by omega)
  exact h _ (List.mem_of_getElem? (at_getD (show (((j : Int) - t) % (ns.length : Int)).toNat < ns.length by omega)))
theorem mir_all {ns : List Int} {P : Int → Prop} (h : ∀ n ∈ ns, P n) : ∀ n ∈ mir ns, P n := fun n hn => by
  unfold mir at hn
  obtain ⟨j, hj, rfl⟩ := List.mem_map.mp hn
  have hj := List.mem_range.mp hj
  have hm := mod_in (i := -(j : Int)) (show 0 < ns.length by omega)
  exact h _ (List.mem_of_getElem? (at_getD (show ((-(j : Int)) % (ns.length : Int)).toNat < ns.length by omega)))
theorem Rim.rot {ns : List Int} (h : Rim ns) (t : Int) : Rim (rot ns t) := ⟨by rw [rot_len]; exact h.pos, by rw [rot_len]; exact h.le, rot_all h.all⟩
theorem Rim.mir {ns : List Int} (h : Rim ns) : Rim (mir ns) := ⟨by rw [mir_len]; exact h.pos, by rw [mir_len]; exact h.le, mir_all h.all⟩
/-- filling slot by slot: found[(i + t) % n] = ns[i] for i below k leaves rot where it was filled -/
theorem rot_back {ns : List Int} {t : Int} {i : Nat} (hi : i < ns.length) : (rot ns t)[((((i : Int) + t) % (ns.length : Int)).toNat)]? = ns[i]? := by
  have hm := mod_in (i := (i : Int) + t) (show 0 < ns.length by omega)
  rw [rot_at (by omega), at_getD hi]
  have e : ((((((i : Int) + t) % (ns.length : Int)).toNat : Nat) : Int) - t) % (ns.length : Int) = (i : Int) := by
    rw [Int.toNat_of_nonneg hm.1, Int.emod_sub_emod]
    rw [show (i : Int) + t - t = (i : Int) by omega]
    exact Int.emod_eq_of_lt (by omega) (by omega)
  rw [e, Int.toNat_natCast]
theorem mir_back {ns : List Int} {i : Nat} (hi : i < ns.length) : (mir ns)[((((0 : Int) - (i : Int)) % (ns.length : Int)).toNat)]? = ns[i]? := by
  have hm := mod_in (i := (0 : Int) - (i : Int)) (show 0 < ns.length by omega)
  rw [mir_at (by omega), at_getD hi]
  have e : (-((((((0 : Int) - (i : Int)) % (ns.length : Int)).toNat : Nat) : Int))) % (ns.length : Int) = (i : Int) := by
    rw [Int.toNat_of_nonneg hm.1]
    rw [show -(((0 : Int) - (i : Int)) % (ns.length : Int)) = 0 - ((0 : Int) - (i : Int)) % (ns.length : Int) by omega, Int.sub_emod_emod]
    rw [show (0 : Int) - (0 - (i : Int)) = (i : Int) by omega]
    exact Int.emod_eq_of_lt (by omega) (by omega)
  rw [e, Int.toNat_natCast]
/-- filled at the places f 0, f 1 .. f (k - 1) as res is -/
def Filled (f : Nat → Nat) (res ms : List Int) (k : Nat) : Prop := ms.length = res.length ∧ ∀ p, (∃ j, j < k ∧ f j = p) → ms[p]? = res[p]?
theorem Filled.step {f : Nat → Nat} {res ms : List Int} {k : Nat} {v : Int} (h : Filled f res ms k) (e : res[f k]? = some v) : Filled f res (ms.set (f k) v) (k + 1) := by
  refine ⟨by rw [List.length_set]; exact h.1, fun p ⟨j, hj, hp⟩ => ?_⟩
  have hk : f k < ms.length := by
    rw [h.1]
    exact (List.getElem?_eq_some_iff.mp e).1
  by_cases q : f k = p
  · subst q
    rw [List.getElem?_set_self hk, e]
  · rw [List.getElem?_set_ne q]
    refine h.2 p ⟨j, ?_, hp⟩
    rcases Nat.lt_or_ge j k with z | z
    · exact z
    · have : j = k := by omega
      subst this
      exact absurd hp q
theorem Filled.done {f : Nat → Nat} {res ms : List Int} {n : Nat} (h : Filled f res ms n) (on : ∀ p, p < res.length → ∃ j, j < n ∧ f j = p) : ms = res := by
  refine List.ext_getElem? fun p => ?_
  by_cases q : p < res.length
  · exact h.2 p (on p q)
  · rw [List.getElem?_eq_none (by rw [h.1]; omega), List.getElem?_eq_none (by omega)]
theorem rot_on {ns : List Int} {t : Int} {p : Nat} (hp : p < ns.length) : ∃ j, j < ns.length ∧ (((j : Int) + t) % (ns.length : Int)).toNat = p := by
  have hm := mod_in (i := (p : Int) - t) (show 0 < ns.length by omega)
  refine ⟨(((p : Int) - t) % (ns.length : Int)).toNat, by omega, ?_⟩
  have e : ((((((p : Int) - t) % (ns.length : Int)).toNat : Nat) : Int) + t) % (ns.length : Int) = (p : Int) := by
    rw [Int.toNat_of_nonneg hm.1, Int.emod_add_emod]
    rw [show (p : Int) - t + t = (p : Int) by omega]
    exact Int.emod_eq_of_lt (by omega) (by omega)
  rw [e, Int.toNat_natCast]
theorem mir_on {ns : List Int} {p : Nat} (hp : p < ns.length) : ∃ j, j < ns.length ∧ (((0 : Int) - (j : Int)) % (ns.length : Int)).toNat = p := by
  have hm := mod_in (i := (0 : Int) - (p : Int)) (show 0 < ns.length by omega)
  refine ⟨(((0 : Int) - (p : Int)) % (ns.length : Int)).toNat, by omega, ?_⟩
  have e : ((0 : Int) - (((((0 : Int) - (p : Int)) % (ns.length : Int)).toNat : Nat) : Int)) % (ns.length : Int) = (p : Int) := by
    rw [Int.toNat_of_nonneg hm.1, Int.sub_emod_emod]
    rw [show (0 : Int) - (0 - (p : Int)) = (p : Int) by omega]
    exact Int.emod_eq_of_lt (by omega) (by omega)
  rw [e, Int.toNat_natCast]
theorem map_set {ns : List Int} {j : Nat} {v : Int} : (ns.map V.int).set j (.int v) = (ns.set j v).map V.int := by
  rw [List.map_set]
theorem take_next {l : List Int} {i : Nat} {v : Int} (h : l[i]? = some v) : (l.take i).map V.int ++ [.int v] = (l.take (i + 1)).map V.int := by
  rw [List.take_add_one, h, List.map_append]
  rfl
theorem take_all {l : List Int} {n : Nat} (h : l.length ≤ n) : l.take n = l := List.take_of_length_le h
theorem rep_one (v : Int) : ∀ k : Nat, (List.replicate k [V.int v]).flatten = (List.replicate k v).map V.int
  | 0 => rfl
  | k + 1 => by
    rw [List.replicate_succ, List.replicate_succ, List.flatten_cons, List.map_cons, rep_one v k]
    rfl
theorem rep_map (ns : List Int) : ∀ k : Nat, (List.replicate k (ns.map V.int)).flatten = ((List.replicate k ns).flatten).map V.int
  | 0 => rfl
  | k + 1 => by
    rw [List.replicate_succ, List.replicate_succ, List.flatten_cons, List.flatten_cons, List.map_append, rep_map ns k]
theorem rep_len (ns : List Int) : ∀ k : Nat, ((List.replicate k ns).flatten).length = k * ns.length
  | 0 => by simp
  | k + 1 => by
    rw [List.replicate_succ, List.flatten_cons, List.length_append, rep_len ns k, Nat.succ_mul, Nat.add_comm]
theorem rep_mem {ns : List Int} {k : Nat} {x : Int} (h : x ∈ (List.replicate k ns).flatten) : x ∈ ns := by
  obtain ⟨l, hl, hx⟩ := List.mem_flatten.mp h
  rw [(List.mem_replicate.mp hl).2] at hx
  exact hx
theorem cut_take (ns : List Int) (s : Int) (h0 : 0 ≤ s) : cutV (ns.map V.int) none (some s) = (ns.take s.toNat).map V.int := by
  obtain ⟨k, rfl⟩ : ∃ k : Nat, s = (k : Int) := ⟨s.toNat, by omega⟩
  unfold cutV
  rw [HT.sIx_none, HT.sIx_nat, Int.toNat_natCast, List.drop_zero, Nat.sub_zero, List.map_take]
  rcases Nat.le_total k (ns.map V.int).length with z | z
  · rw [Nat.min_eq_left z]
  · rw [Nat.min_eq_right z, List.take_of_length_le (Nat.le_refl _), List.take_of_length_le z]

/-! ### data: lists of ints, for repr and == -/
def dI (ns : List Int) : PyData := .list (ns.map PyData.int)
theorem dpAll_ints {K : PySem.W.Frag} {H : Hp} : ∀ ns : List Int, DpAll K H (ns.map V.int) (ns.map PyData.int)
  | [] => .nil
  | n :: ns => .cons (.int n) (dpAll_ints ns)
theorem dp_ints {K : PySem.W.Frag} {H : Hp} {a : Addr} {ns : List Int} (h : SqL K H a (ns.map V.int)) : Dp K H (.ref a) (dI ns) := .lst h (dpAll_ints ns)
/-- what repr and == ask of data -/
structure RP (d : PyData) : Prop where
  sh : d.showable = true
  nd : d.hasDict = false
  cl : d.canLay0 = true
  dp : d.depth ≤ 32
theorem RP.shaped {d : PyData} (h : RP d) : SeqAt.shaped d = true := by
  have := h.dp
  exact Bool.and_eq_true_iff.mpr ⟨h.cl, decide_eq_true (by omega)⟩
theorem RP.refl {d : PyData} (h : RP d) : PyData.eqv d d = true := SeqAt.eqv_refl d h.cl
theorem rp_int {i : Int} (h : i.natAbs < 2 ^ 1000) : RP (.int i) := ⟨by simp only [PyData.showable]; exact decide_eq_true (Nat.lt_trans (PySem.Flt.log2_lt_of (by decide) h) (by decide)), by simp only [PyData.hasDict], by simp only [PyData.canLay0], by simp only [PyData.depth]; omega⟩
/-- all of a list: depth one less -/
structure RPs (k : Nat) (ds : List PyData) : Prop where
  sh : PyData.showableAll ds = true
  nd : PyData.hasDictAll ds = false
  cl : PyData.canLayAll0 ds = true
  dp : PyData.depthAll ds ≤ k
theorem RPs.nil {k : Nat} : RPs k [] := ⟨by simp only [PyData.showableAll], by simp only [PyData.hasDictAll], by simp only [PyData.canLayAll0], by simp only [PyData.depthAll]; omega⟩
theorem RPs.cons {k : Nat} {d : PyData} {ds : List PyData} (h : RP d) (hk : d.depth ≤ k) (hs : RPs k ds) : RPs k (d :: ds) := by
  refine ⟨?_, ?_, ?_, ?_⟩
  · simp only [PyData.showableAll, h.sh, hs.sh, Bool.and_self]
  · simp only [PyData.hasDictAll, h.nd, hs.nd, Bool.or_self]
  · simp only [PyData.canLayAll0, h.cl, hs.cl, Bool.and_self]
  · simp only [PyData.depthAll]
    have := hs.dp
    omega
theorem RPs.list {k : Nat} {ds : List PyData} (h : RPs k ds) (hk : k ≤ 31) : RP (.list ds) ∧ (PyData.list ds).depth ≤ k + 1 := by
  have hd : (PyData.list ds).depth ≤ k + 1 := by
    simp only [PyData.depth]
    have := h.dp
    omega
  refine ⟨⟨?_, ?_, ?_, by omega⟩, hd⟩
  · simp only [PyData.showable, h.sh]
  · simp only [PyData.hasDict, h.nd]
  · simp only [PyData.canLay0, h.cl]
theorem rps_ints : ∀ {ns : List Int}, (∀ n ∈ ns, n.natAbs < 2 ^ 1000) → RPs 0 (ns.map PyData.int)
  | [], _ => RPs.nil
  | n :: ns, h => RPs.cons (rp_int (h n List.mem_cons_self)) (by simp only [PyData.depth]; omega) (rps_ints fun x hx => h x (List.mem_cons_of_mem _ hx))
theorem rp_ints {ns : List Int} (h : ∀ n ∈ ns, n.natAbs < 2 ^ 1000) : RP (dI ns) := ((rps_ints h).list (by omega)).1
theorem dp_ints_depth {ns : List Int} (h : ∀ n ∈ ns, n.natAbs < 2 ^ 1000) : (dI ns).depth ≤ 1 := ((rps_ints h).list (by omega)).2
theorem sum_bound {B : Nat} : ∀ {l : List Nat}, (∀ x ∈ l, x ≤ B) → l.sum ≤ B * l.length
  | [], _ => Nat.zero_le _
  | x :: l, h => by
    have h1 := h x List.mem_cons_self
    have h2 := sum_bound (B := B) (l := l) fun y hy => h y (List.mem_cons_of_mem _ hy)
    rw [List.sum_cons, List.length_cons, Nat.mul_succ]
    omega
theorem shownAll_map (ds : List PyData) : PyData.shownAll ds = ds.map PyData.shown := by
  induction ds with
  | nil => rfl
  | cons d ds ih =>
    simp only [PyData.shownAll, List.map_cons, ih]
/-- how long a list's text is at most, by its items' -/
theorem shown_list {B : Nat} {ds : List PyData} (h : ∀ d ∈ ds, d.shown.length ≤ B) : (PyData.list ds).shown.length ≤ (B + 2) * ds.length + 3 := by
  simp only [PyData.shown]
  have h1 := listText_len_le (PyData.shownAll ds)
  have h2 : ((PyData.shownAll ds).map (·.length)).sum ≤ B * ds.length := by
    rw [shownAll_map, List.map_map]
    have := sum_bound (B := B) (l := ds.map ((fun x => x.length) ∘ PyData.shown)) fun x hx => by
      obtain ⟨d, hd, rfl⟩ := List.mem_map.mp hx
      exact h d hd
    rw [List.length_map] at this
    exact this
  have h3 : (PyData.shownAll ds).length = ds.length := by rw [shownAll_map, List.length_map]
  rw [h3] at h1
  rw [Nat.add_mul]
  omega
theorem shown_int {i : Int} (h : i.natAbs < 2 ^ 1000) : (PyData.int i).shown.length ≤ 1001 := by
  simp only [PyData.shown]
  rw [PySem.ofString_length]
  exact int_text_length_le (by decide) (PySem.Flt.log2_lt_of (by decide) h)
theorem shown_ints {ns : List Int} (h : ∀ n ∈ ns, n.natAbs < 2 ^ 1000) : (dI ns).shown.length ≤ 1003 * ns.length + 3 := by
  have := shown_list (B := 1001) (ds := ns.map PyData.int) fun d hd => by
    obtain ⟨n, hn, rfl⟩ := List.mem_map.mp hd
    exact shown_int (h n hn)
  rw [List.length_map] at this
  exact this
theorem small_abs {n : Int} (h0 : 0 ≤ n) (h1 : n ≤ 1000000000000000000000000000000) : n.natAbs < 2 ^ 1000 := Nat.lt_of_le_of_lt (m := 1000000000000000000000000000000) (by omega) (by decide +kernel)
theorem Rim.abs {ns : List Int} (h : Rim ns) : ∀ n ∈ ns, n.natAbs < 2 ^ 1000 := fun n hn => small_abs (h.all n hn).1 (h.all n hn).2
theorem Rim.rp {ns : List Int} (h : Rim ns) : RP (dI ns) := rp_ints h.abs
theorem Rim.fits {ns : List Int} (h : Rim ns) : (dI ns).shown.length ≤ sizeLine := by
  have := shown_ints h.abs
  have := h.le
  exact sz40' (by omega)
/-- an object that was not there is written -/
theorem same_over {H H4 : Hp} {l : Addr} {o : HO} (s : Same H H4) (n : H l = none) : Same H (upd H4 l o) := fun b x e => by
  rw [upd_ne (ne_of_none e n)]
  exact s b x e
/-- turned back -/
theorem rot_rot {ns : List Int} {t : Int} : rot (rot ns t) (0 - t) = ns := by
  refine List.ext_getElem? fun j => ?_
  by_cases h : j < ns.length
  · rw [rot_at (by rw [rot_len]; exact h), rot_len]
    have hm := mod_in (i := (j : Int) - (0 - t)) (show 0 < ns.length by omega)
    have e := rot_back (t := t) h
    rw [show (j : Int) - (0 - t) = (j : Int) + t by omega]
    rw [show (j : Int) - (0 - t) = (j : Int) + t by omega] at hm
    rw [← e, ← at_getD (by rw [rot_len]; omega)]
  · rw [List.getElem?_eq_none (by rw [rot_len, rot_len]; omega), List.getElem?_eq_none (by omega)]
theorem mir_mir {ns : List Int} : mir (mir ns) = ns := by
  refine List.ext_getElem? fun j => ?_
  by_cases h : j < ns.length
  · rw [mir_at (by rw [mir_len]; exact h), mir_len]
    have hm := mod_in (i := (0 : Int) - (j : Int)) (show 0 < ns.length by omega)
    have e := mir_back h
    rw [show -(j : Int) = (0 : Int) - (j : Int) by omega]
    rw [← e, ← at_getD (by rw [mir_len]; omega)]
  · rw [List.getElem?_eq_none (by rw [mir_len, mir_len]; omega), List.getElem?_eq_none (by omega)]
end Sd

namespace Sd
open PySem PySem.Spec PyProof.Rows L2

/-! ### lights -/
def Ab (k : Nat) (ns : List Int) : Prop := ∀ n ∈ ns, n.natAbs < 2 ^ k
theorem pow_up {a b : Nat} (h : a ≤ b) : (2 : Nat) ^ a ≤ 2 ^ b := Nat.pow_le_pow_right (by decide) h
theorem Ab.mono {k j : Nat} {ns : List Int} (h : Ab k ns) (l : k ≤ j) : Ab j ns := fun n hn => Nat.lt_of_lt_of_le (h n hn) (pow_up l)
theorem Rim.ab {ns : List Int} (h : Rim ns) : Ab 100 ns := fun n hn => by
  have := h.all n hn
  exact Nat.lt_of_le_of_lt (m := 1000000000000000000000000000000) (by omega) (by decide +kernel)
theorem Ab.rot {k : Nat} {ns : List Int} (h : Ab k ns) (t : Int) : Ab k (rot ns t) := rot_all h
theorem Ab.at {k : Nat} {ns : List Int} (h : Ab k ns) {i : Nat} {n : Int} (e : ns[i]? = some n) : n.natAbs < 2 ^ k := h n (List.mem_of_getElem? e)
def prods (ns ms : List Int) : List Int := List.zipWith (· * ·) ns ms
theorem prods_len (ns ms : List Int) : (prods ns ms).length = min ns.length ms.length := List.length_zipWith
theorem prods_at {ns ms : List Int} {i : Nat} {x y : Int} (h1 : ns[i]? = some x) (h2 : ms[i]? = some y) : (prods ns ms)[i]? = some (x * y) := by
  unfold prods
  rw [List.getElem?_zipWith, h1, h2]
theorem prods_ab {a b : Nat} : ∀ {ns ms : List Int}, Ab a ns → Ab b ms → Ab (a + b) (prods ns ms)
  | [], _, _, _ => fun n hn => by
    simp only [prods, List.zipWith_nil_left] at hn
    exact (List.not_mem_nil hn).elim
  | _ :: _, [], _, _ => fun n hn => by
    simp only [prods, List.zipWith_nil_right] at hn
    exact (List.not_mem_nil hn).elim
  | x :: ns, y :: ms, h1, h2 => fun n hn => by
    have hn : n ∈ x * y :: prods ns ms := hn
    rcases List.mem_cons.mp hn with e | e
    · subst e
      exact wide_lt (h1 x List.mem_cons_self) (h2 y List.mem_cons_self)
    · exact prods_ab (fun z hz => h1 z (List.mem_cons_of_mem _ hz)) (fun z hz => h2 z (List.mem_cons_of_mem _ hz)) n e
theorem sum_ab {k : Nat} : ∀ {ns : List Int}, Ab k ns → ns.sum.natAbs ≤ ns.length * 2 ^ k
  | [], _ => Nat.zero_le _
  | x :: ns, h => by
    have h1 := h x List.mem_cons_self
    have h2 := sum_ab (k := k) (ns := ns) fun z hz => h z (List.mem_cons_of_mem _ hz)
    rw [List.sum_cons, List.length_cons, Nat.succ_mul]
    have := Int.natAbs_add_le x ns.sum
    omega
theorem sum_lt {k : Nat} {ns : List Int} (h : Ab k ns) (hl : ns.length < 1024) : ns.sum.natAbs < 2 ^ (k + 10) := by
  have h1 := sum_ab h
  rw [Nat.pow_add]
  refine Nat.lt_of_le_of_lt h1 ?_
  rw [Nat.mul_comm]
  exact Nat.mul_lt_mul_of_pos_left hl (Nat.two_pow_pos k)
/-- the light at a turn -/
def lightV (ns ms : List Int) (t : Int) : Int := (prods ns (rot ms t)).sum
def lightsV (ns ms : List Int) : List Int := (List.range ns.length).map fun (i : Nat) => lightV ns ms (i : Int)
theorem lightsV_len (ns ms : List Int) : (lightsV ns ms).length = ns.length := by
  unfold lightsV
  rw [List.length_map, List.length_range]
theorem lightsV_at {ns ms : List Int} {i : Nat} (h : i < ns.length) : (lightsV ns ms)[i]? = some (lightV ns ms (i : Int)) := by
  unfold lightsV
  rw [List.getElem?_map, List.getElem?_range h]
  rfl
theorem lightV_lt {a b : Nat} {ns ms : List Int} (h1 : Ab a ns) (h2 : Ab b ms) (hl : ns.length < 1024) (t : Int) : (lightV ns ms t).natAbs < 2 ^ (a + b + 10) := by
  refine sum_lt (prods_ab h1 (h2.rot t)) ?_
  rw [prods_len]
  omega
theorem lightsV_ab {a b : Nat} {ns ms : List Int} (h1 : Ab a ns) (h2 : Ab b ms) (hl : ns.length < 1024) : Ab (a + b + 10) (lightsV ns ms) := fun n hn => by
  unfold lightsV at hn
  obtain ⟨i, _, rfl⟩ := List.mem_map.mp hn
  exact lightV_lt h1 h2 hl i
theorem rot_mod (ms : List Int) (t : Int) : rot ms (t % (ms.length : Int)) = rot ms t := by
  unfold rot
  refine List.map_congr_left fun j _ => ?_
  rw [Int.sub_emod_emod]
theorem lightV_mod {ns ms : List Int} (t : Int) : lightV ns ms (t % (ms.length : Int)) = lightV ns ms t := by
  unfold lightV
  rw [rot_mod]
/-- lights[t % n], whatever the turn -/
theorem lights_any {ns ms : List Int} (t : Int) (hl : ns.length = ms.length) (h1 : 1 ≤ ns.length) : atI ((lightsV ns ms).map V.int) (t % (ns.length : Int)) = some (.int (lightV ns ms t)) := by
  have hm := mod_in (i := t) (show 0 < ns.length by omega)
  obtain ⟨n, hn, hat⟩ := at_in (ns := lightsV ns ms) hm.1 (by rw [lightsV_len]; exact hm.2)
  rw [lightsV_at (by omega), Int.toNat_of_nonneg hm.1, hl, lightV_mod] at hn
  rw [hat, ← Option.some.inj hn]
/-! ### the greatest, the places of some -/
theorem max_ex : ∀ {ns : List Int}, 1 ≤ ns.length → ∃ m, m ∈ ns ∧ ∀ y ∈ ns, y ≤ m
  | [], h => absurd h (by decide)
  | [x], _ => ⟨x, List.mem_cons_self, fun y hy => by rw [List.mem_singleton.mp hy]; exact Int.le_refl _⟩
  | x :: z :: ns, _ => by
    obtain ⟨m, hm, hg⟩ := max_ex (ns := z :: ns) (by simp)
    by_cases h : x ≤ m
    · refine ⟨m, List.mem_cons_of_mem _ hm, fun y hy => ?_⟩
      rcases List.mem_cons.mp hy with e | e
      · rw [e]
        exact h
      · exact hg y e
    · refine ⟨x, List.mem_cons_self, fun y hy => ?_⟩
      rcases List.mem_cons.mp hy with e | e
      · rw [e]
        exact Int.le_refl _
      · have := hg y e
        omega
theorem max_one {ns : List Int} {m m' : Int} (h1 : m ∈ ns) (h2 : ∀ y ∈ ns, y ≤ m) (h3 : m' ∈ ns) (h4 : ∀ y ∈ ns, y ≤ m') : m = m' := Int.le_antisymm (h4 _ h1) (h2 _ h3)
/-- the places below k of the items for which p holds -/
def places (p : Int → Bool) (ns : List Int) (k : Nat) : List Int := ((List.range k).filter fun i => p (ns.getD i 0)).map fun (i : Nat) => (i : Int)
theorem places_len (p : Int → Bool) (ns : List Int) (k : Nat) : (places p ns k).length ≤ k := by
  unfold places
  rw [List.length_map]
  refine Nat.le_trans (List.length_filter_le _ _) ?_
  rw [List.length_range]
  exact Nat.le_refl _
theorem places_yes {p : Int → Bool} {ns : List Int} {k : Nat} {n : Int} (h : ns[k]? = some n) (hp : p n = true) : places p ns (k + 1) = places p ns k ++ [(k : Int)] := by
  unfold places
  rw [List.range_succ, List.filter_append, List.map_append]
  have : ([k].filter fun i => p (ns.getD i 0)) = [k] := by
    rw [List.filter_cons, getD_at h, if_pos hp]
    rfl
  rw [this]
  rfl
theorem places_no {p : Int → Bool} {ns : List Int} {k : Nat} {n : Int} (h : ns[k]? = some n) (hp : ¬ p n = true) : places p ns (k + 1) = places p ns k := by
  unfold places
  rw [List.range_succ, List.filter_append, List.map_append]
  have : ([k].filter fun i => p (ns.getD i 0)) = [] := by
    rw [List.filter_cons, getD_at h, if_neg hp]
    rfl
  rw [this]
  simp
theorem places_ab (p : Int → Bool) (ns : List Int) {k : Nat} (h : k < 1000) : Ab 100 (places p ns k) := fun n hn => by
  unfold places at hn
  obtain ⟨i, hi, rfl⟩ := List.mem_map.mp hn
  have := List.mem_range.mp (List.mem_filter.mp hi).1
  exact Nat.lt_of_lt_of_le (m := 1000) (by omega) (by decide)
theorem Ab.rp {k : Nat} {ns : List Int} (h : Ab k ns) (hk : k ≤ 1000) : RP (dI ns) := rp_ints (h.mono hk)
theorem Ab.fits {k : Nat} {ns : List Int} (h : Ab k ns) (hk : k ≤ 1000) (hl : ns.length ≤ 2000) : (dI ns).shown.length ≤ 2100000 := by
  have := shown_ints (h.mono hk)
  omega
theorem fit_le {n : Nat} (h : n ≤ 16000000) : n ≤ sizeLine := Nat.le_trans h (by decide)
/-- some lists of ints, in a list -/
def dL (ls : List (List Int)) : PyData := .list (ls.map dI)
theorem rps_lists {k : Nat} (hk : k ≤ 1000) : ∀ {ls : List (List Int)}, (∀ l ∈ ls, Ab k l) → RPs 1 (ls.map dI)
  | [], _ => RPs.nil
  | l :: ls, h => RPs.cons ((h l List.mem_cons_self).rp hk) (dp_ints_depth ((h l List.mem_cons_self).mono hk)) (rps_lists hk fun x hx => h x (List.mem_cons_of_mem _ hx))
theorem rp_lists {k : Nat} (hk : k ≤ 1000) {ls : List (List Int)} (h : ∀ l ∈ ls, Ab k l) : RP (dL ls) := ((rps_lists hk h).list (by omega)).1
theorem fits_lists {k : Nat} (hk : k ≤ 1000) {ls : List (List Int)} (h : ∀ l ∈ ls, Ab k l) (hl : ∀ l ∈ ls, l.length ≤ 1000) (hn : ls.length ≤ 7) : (dL ls).shown.length ≤ sizeLine := by
  have h1 := shown_list (B := 2100000) (ds := ls.map dI) fun d hd => by
    obtain ⟨l, hm, rfl⟩ := List.mem_map.mp hd
    exact (h l hm).fits hk (by have := hl l hm; omega)
  rw [List.length_map] at h1
  refine fit_le (Nat.le_trans h1 ?_)
  omega
theorem all2 {P : List Int → Prop} {a b : List Int} (h1 : P a) (h2 : P b) : ∀ l ∈ [a, b], P l := fun l hl => by
  simp only [List.mem_cons, List.not_mem_nil, or_false] at hl
  rcases hl with rfl | rfl <;> assumption
theorem all3 {P : List Int → Prop} {a b c : List Int} (h1 : P a) (h2 : P b) (h3 : P c) : ∀ l ∈ [a, b, c], P l := fun l hl => by
  simp only [List.mem_cons, List.not_mem_nil, or_false] at hl
  rcases hl with rfl | rfl | rfl <;> assumption
end Sd

namespace Sd
open PySem PySem.Spec PyProof.Rows L2

/-! ### texts -/
def mkS (l : List Nat) : Str := ⟨l.toArray⟩
theorem tl_mk (l : List Nat) : TL.tl (mkS l) = l := rfl
theorem mk_tl (x : Str) : mkS (TL.tl x) = x := TL.ext_tl rfl
theorem mk_inj {a b : List Nat} : mkS a = mkS b ↔ a = b := ⟨fun e => by
  have := congrArg TL.tl e
  exact this, fun e => by rw [e]⟩
theorem mk_app (a b : List Nat) : mkS a ++ mkS b = mkS (a ++ b) := TL.ext_tl (by rw [TL.tl_append]; rfl)
theorem mk_len (l : List Nat) : (mkS l).length = l.length := by
  rw [TL.len_tl]
  rfl
/-- the signs of an int -/
def intL (n : Int) : List Nat := if n < 0 then 45 :: TL.numL n.natAbs else TL.numL n.natAbs
def intS (n : Int) : Str := mkS (intL n)
theorem tl_ofString (s : String) : TL.tl (Str.ofString s) = s.toList.map Char.toNat := by
  rw [PySem.Str.ofString_eq_toList]
theorem str_int (n : Int) : Str.ofString (toString n) = intS n := by
  refine TL.ext_tl ?_
  rw [show TL.tl (intS n) = intL n from rfl]
  unfold intL
  by_cases h : n < 0
  · rw [if_pos h, PyProof.Rows.toString_neg h, tl_ofString, String.toList_append, List.map_append]
    have e : (0 : Int) - n = ((n.natAbs : Nat) : Int) := by omega
    have t := TL.tl_num n.natAbs
    rw [tl_ofString] at t
    rw [e, t]
    rfl
  · rw [if_neg h]
    have e : n = ((n.natAbs : Nat) : Int) := by omega
    have t := TL.tl_num n.natAbs
    rw [← e] at t
    exact t
theorem numL_head : ∀ n : Nat, 0 < n → (TL.numL n).head? ≠ some 48 := fun n => by
  induction n using Nat.strongRecOn with
  | _ n ih =>
    intro hn
    by_cases h : n < 10
    · rw [TL.numL_lt h]
      intro e
      have := Option.some.inj e
      omega
    · rw [TL.numL_step (by omega)]
      have hp := ih (n / 10) (by omega) (by omega)
      cases e : TL.numL (n / 10) with
      | nil => exact absurd e (TL.numL_ne _)
      | cons c r =>
        rw [e] at hp
        exact hp
theorem intL_pos {n : Int} (h : 0 ≤ n) : intL n = TL.numL n.natAbs := if_neg (by omega)
theorem intL_neg {n : Int} (h : n < 0) : intL n = 45 :: TL.numL n.natAbs := if_pos h
theorem intL_ne (n : Int) : intL n ≠ [] := by
  unfold intL
  split
  · exact fun e => nomatch e
  · exact TL.numL_ne _
theorem intL_free {n : Int} {s : Nat} (h : s < 48 ∨ 57 < s) (h2 : s ≠ 45) : s ∉ intL n := fun hm => by
  unfold intL at hm
  split at hm
  · rcases List.mem_cons.mp hm with e | e
    · exact h2 e
    · exact TL.numL_free h e
  · exact TL.numL_free h hm
theorem intL_len {n : Int} {k : Nat} (hk : 0 < k) (h : n.natAbs < 10 ^ k) : (intL n).length ≤ k + 1 := by
  have := TL.numL_len hk h
  unfold intL
  split
  · rw [List.length_cons]
    omega
  · omega
theorem num_digit {c : Nat} (h0 : 48 ≤ c) (h1 : c ≤ 57) : Unicode.isDigit c = true := by
  have : ∀ d : Nat, d < 10 → Unicode.isDigit (48 + d) = true := by decide +kernel
  have e := this (c - 48) (by omega)
  rw [show 48 + (c - 48) = c by omega] at e
  exact e
theorem all_tl (x : Str) (p : Nat → Bool) : x.cps.all p = (TL.tl x).all p := by
  rw [← Array.all_toList]
theorem dig_isascii (n : Nat) : Txt.isascii (mkS (TL.numL n)) = true := by
  unfold Txt.isascii
  rw [all_tl, List.all_eq_true]
  intro c hc
  have := TL.numL_digits n c hc
  exact decide_eq_true (by omega)
theorem dig_isdigit (n : Nat) : Txt.isdigit (mkS (TL.numL n)) = true := by
  unfold Txt.isdigit
  rw [Bool.and_eq_true]
  refine ⟨decide_eq_true ?_, ?_⟩
  · rw [mk_len]
    exact List.length_pos_iff.mpr (TL.numL_ne n)
  · rw [all_tl, List.all_eq_true]
    intro c hc
    have := TL.numL_digits n c hc
    exact num_digit (by omega) (by omega)
theorem starts_one (l : List Nat) (c : Nat) : Txt.startswith (mkS l) (mkS [c]) = decide (l.head? = some c) := by
  unfold Txt.startswith
  rw [mk_len, mk_len, PySem.StrLaws.subAt_eq, mk_len]
  show (decide (0 + 1 ≤ l.length) && (List.take 1 (l.drop 0) == [c])) = _
  cases l with
  | nil => rfl
  | cons x r =>
    show (decide (0 + 1 ≤ r.length + 1) && ([x] == [c])) = decide (some x = some c)
    rw [decide_eq_true (by omega), Bool.true_and]
    by_cases h : x = c
    · subst h
      rw [decide_eq_true rfl]
      exact beq_self_eq_true _
    · rw [decide_eq_false (fun e => h (Option.some.inj e))]
      exact beq_eq_false_iff_ne.mpr fun e => h (List.cons.inj e).1
theorem int_reads {n : Int} (h : n.natAbs < 10 ^ 600) : PySem.intText? (intS n) = some n := by
  by_cases h0 : n < 0
  · have e := PySem.intText_neg (x := intS n) (cs := TL.numL n.natAbs) (by show intL n = _; exact intL_neg h0) (TL.numL_digits _) (TL.numL_ne _) (by
      rw [TL.len_tl]
      show (intL n).length ≤ 4300
      have := intL_len (by decide) h
      omega)
    rw [e, TL.numL_val]
    exact congrArg some (by omega)
  · have e := PySem.intText_digits (x := intS n) (by show NumText.AllDigits (intL n); rw [intL_pos (by omega)]; exact TL.numL_digits _) (by show intL n ≠ []; exact intL_ne n) (by
      rw [TL.len_tl]
      show (intL n).length ≤ 4300
      have := intL_len (by decide) h
      omega)
    rw [e]
    show some ((NumText.digitsVal (intL n) : Nat) : Int) = some n
    rw [intL_pos (by omega), TL.numL_val]
    exact congrArg some (by omega)
/-- words joined by a sign -/
def spS : Str := mkS [32]
def wordsS (ws : List (List Nat)) : Str := Txt.join spS (ws.map mkS)
theorem tl_words (ws : List (List Nat)) : TL.tl (wordsS ws) = TL.joinL [32] ws := by
  unfold wordsS
  rw [TL.join_eq, TL.tl_join, List.map_map]
  have e : ws.map (TL.tl ∘ mkS) = ws := by
    conv => rhs; rw [← List.map_id ws]
    exact List.map_congr_left fun _ _ => rfl
  rw [e]
  rfl
theorem words_split {ws : List (List Nat)} (hne : ws ≠ []) (hf : ∀ w ∈ ws, 32 ∉ w) : Txt.split (wordsS ws) spS = ws.map mkS :=
  TL.split_join (s := 32) (S := []) rfl (by decide +kernel) (fun e => hne (List.map_eq_nil_iff.mp e)) fun p hp => by
    obtain ⟨w, hw, rfl⟩ := List.mem_map.mp hp
    exact hf w hw
theorem joinL_len {k : Nat} : ∀ {ws : List (List Nat)}, (∀ w ∈ ws, w.length ≤ k) → (TL.joinL [32] ws).length ≤ (k + 1) * ws.length
  | [], _ => Nat.zero_le _
  | [p], h => by
    show p.length ≤ (k + 1) * 1
    have := h p (List.mem_singleton.mpr rfl)
    omega
  | p :: q :: r, h => by
    show (p ++ ([32] ++ TL.joinL [32] (q :: r))).length ≤ (k + 1) * ((q :: r).length + 1)
    have h1 := h p List.mem_cons_self
    have h2 := joinL_len (ws := q :: r) fun w hw => h w (List.mem_cons_of_mem _ hw)
    rw [List.length_append, List.length_append, Nat.mul_add]
    show p.length + (1 + _) ≤ _
    omega
theorem words_len {k : Nat} {ws : List (List Nat)} (h : ∀ w ∈ ws, w.length ≤ k) : (wordsS ws).length ≤ (k + 1) * ws.length := by
  rw [TL.len_tl, tl_words]
  exact joinL_len h
theorem join_fits {k : Nat} {ws : List (List Nat)} (h : ∀ w ∈ ws, w.length ≤ k) (hk : k ≤ 1000) (hn : ws.length ≤ 1000) : ((ws.map mkS).map (·.length)).sum + (ws.map mkS).length * spS.length ≤ 16777216 := by
  have h1 : ((ws.map mkS).map (·.length)).sum ≤ k * ws.length := by
    have := sum_bound (B := k) (l := (ws.map mkS).map (·.length)) fun x hx => by
      obtain ⟨y, hy, rfl⟩ := List.mem_map.mp hx
      obtain ⟨w, hw, rfl⟩ := List.mem_map.mp hy
      rw [mk_len]
      exact h w hw
    rw [List.length_map, List.length_map] at this
    exact this
  have h2 : k * ws.length ≤ 1000 * 1000 := Nat.mul_le_mul hk hn
  have h3 : spS.length = 1 := by rw [show spS = mkS [32] from rfl, mk_len]; rfl
  rw [List.length_map, h3]
  omega
/-- looks, as words -/
def lookL (p : Int × Int) : List Nat := intL p.1 ++ (61 :: intL p.2)
theorem look_free (p : Int × Int) : 32 ∉ lookL p := fun h => by
  unfold lookL at h
  rcases List.mem_append.mp h with e | e
  · exact intL_free (.inl (by decide)) (by decide) e
  · rcases List.mem_cons.mp e with e | e
    · exact absurd e (by decide)
    · exact intL_free (.inl (by decide)) (by decide) e
theorem look_cut (p : Int × Int) : Txt.partition (mkS (lookL p)) (mkS [61]) = (intS p.1, mkS [61], intS p.2) := by
  have e : mkS (lookL p) = intS p.1 ++ mkS [61] ++ intS p.2 := by
    unfold intS lookL
    rw [mk_app, mk_app, List.append_assoc]
    rfl
  rw [e]
  exact TL.partition_app (s := 61) (S := []) rfl (show 61 ∉ intL p.1 from intL_free (.inr (by decide)) (by decide))
theorem look_len {p : Int × Int} {k : Nat} (hk : 0 < k) (h1 : p.1.natAbs < 10 ^ k) (h2 : p.2.natAbs < 10 ^ k) : (lookL p).length ≤ 2 * k + 3 := by
  have a := intL_len hk h1
  have b := intL_len hk h2
  unfold lookL
  rw [List.length_append, List.length_cons]
  omega
/-! ### a text, many times -/
theorem op_mulS {X : Cx} : OpR X (binaryOp .Mult) (fun x y H Q => ∃ (a : Str) (n : Int), x = .str a ∧ y = .int n ∧ MulOk a n ∧ Q (.str (Txt.mul a n)) H) := by
  intro pins s σ H x y v u Q I rx ry h
  obtain ⟨a, n, rfl, rfl, hm, q⟩ := h
  obtain ⟨t, rfl⟩ := rx
  obtain ⟨t', rfl⟩ := ry
  exact PySem.SB.mul hm fun t'' k => ⟨.str _, H, I.tok _, ⟨_, rfl⟩, q⟩
/-! ### the written signs -/
theorem cSp : Str.ofString " " = spS := TL.ext_tl (by rw [tl_ofString]; rfl)
theorem cDash : Str.ofString "-" = mkS [45] := TL.ext_tl (by rw [tl_ofString]; rfl)
theorem cZero : Str.ofString "0" = mkS [48] := TL.ext_tl (by rw [tl_ofString]; rfl)
theorem cEq : Str.ofString "=" = mkS [61] := TL.ext_tl (by rw [tl_ofString]; rfl)
theorem cNone : Str.ofString "" = mkS [] := TL.ext_tl (by rw [tl_ofString]; rfl)
theorem join_one (y x : Str) : Txt.join y [x] = x := by
  rw [TL.join_eq]
  rfl
theorem join_none (y : Str) : Txt.join y [] = mkS [] := by
  rw [TL.join_eq]
  rfl
theorem cut_tail (c : Nat) (l : List Nat) : cutS (mkS (c :: l)) (some 1) none = mkS l := by
  unfold cutS
  have e1 : HT.sIx (mkS (c :: l)).length 0 (some 1) = 1 := by
    have := HT.sIx_nat (mkS (c :: l)).length 0 1
    rw [mk_len, List.length_cons] at this ⊢
    rw [show (some (1 : Int)) = some ((1 : Nat) : Int) from rfl, this]
    omega
  rw [e1, HT.sIx_none, mk_len]
  show mkS (((c :: l).drop 1).take ((c :: l).length - 1)) = mkS l
  rw [List.drop_one, List.tail_cons, List.length_cons, Nat.add_sub_cancel, List.take_length]
theorem spl_le {n k : Nat} (h : n ≤ k) (hk : k ≤ 1000000) : n ≤ sizeLine := Nat.le_trans h (Nat.le_trans hk (by decide))
theorem abs10 {n : Int} {k : Nat} (h : n.natAbs < 10 ^ k) (hk : k ≤ 100) : n.natAbs < 2 ^ 1000 := Nat.lt_of_lt_of_le h (Nat.le_trans (Nat.pow_le_pow_right (by decide) hk) (by decide +kernel))
theorem abs_log {n : Int} {k : Nat} (h : n.natAbs < 10 ^ k) (hk : k ≤ 100) : n.natAbs.log2 < 1920 := Nat.lt_trans (PySem.Flt.log2_lt_of (by decide) (abs10 h hk)) (by decide)
/-- pairs of ints, in tuples -/
inductive Prs (H : Hp) : List V → List (Int × Int) → Prop
  | nil : Prs H [] []
  | cons {t : Addr} {p : Int × Int} {vs : List V} {ps : List (Int × Int)} (h : H t = some (.tup [.int p.1, .int p.2])) (r : Prs H vs ps) : Prs H (.ref t :: vs) (p :: ps)
theorem Prs.up {H H1 : Hp} {vs : List V} {ps : List (Int × Int)} (h : Prs H vs ps) (s : Same H H1) : Prs H1 vs ps := by
  induction h with
  | nil => exact .nil
  | cons h _ ih => exact .cons (s _ _ h) ih
theorem Prs.len {H : Hp} {vs : List V} {ps : List (Int × Int)} (h : Prs H vs ps) : vs.length = ps.length := by
  induction h with
  | nil => rfl
  | cons _ _ ih => rw [List.length_cons, List.length_cons, ih]
theorem Prs.at {H : Hp} {vs : List V} {ps : List (Int × Int)} (h : Prs H vs ps) : ∀ {i : Nat} {v : V}, vs[i]? = some v → ∃ t p, v = .ref t ∧ ps[i]? = some p ∧ H t = some (.tup [.int p.1, .int p.2]) := by
  induction h with
  | nil => exact fun e => nomatch e
  | cons h _ ih =>
    intro i v e
    cases i with
    | zero => exact ⟨_, _, (Option.some.inj e).symm, rfl, h⟩
    | succ i => exact ih e
theorem Prs.snoc {H : Hp} {vs : List V} {ps : List (Int × Int)} {t : Addr} {p : Int × Int} (h : Prs H vs ps) (e : H t = some (.tup [.int p.1, .int p.2])) : Prs H (vs ++ [.ref t]) (ps ++ [p]) := by
  induction h with
  | nil => exact .cons e .nil
  | cons h _ ih => exact .cons h ih
def dP (p : Int × Int) : PyData := .tuple [.int p.1, .int p.2]
theorem Prs.dp {K : PySem.W.Frag} {H : Hp} {vs : List V} {ps : List (Int × Int)} (h : Prs H vs ps) : DpAll K H vs (ps.map dP) := by
  induction h with
  | nil => exact .nil
  | cons h _ ih => exact .cons (.tup (SqT.of h) (.cons (.int _) (.cons (.int _) .nil))) ih
/-- f'..', its parts one behind the other -/
def tJoined (ts : List TE) : TE := fun σ H Q => tJs ts Str.empty σ H fun out H1 => Q (.str out) H1
theorem pe_joinedN {X : Cx} {v1 v2 : Expr} {rest : List Expr} {ts : List TE} {pos : Pos} (h : PJ X (v1 :: v2 :: rest) ts) : PE X (.JoinedStr (v1 :: v2 :: rest) pos) (tJoined ts) := pe_joined h
end Sd

namespace Sd
open PySem PySem.Spec PyProof.Rows L2

/-! ### data that repr can show, with bounds -/
structure Dat (k B : Nat) (d : PyData) : Prop where
  rp : RP d
  dp : d.depth ≤ k
  le : d.shown.length ≤ B
theorem Dat.mono {k B k' B' : Nat} {d : PyData} (h : Dat k B d) (hk : k ≤ k') (hB : B ≤ B') : Dat k' B' d := ⟨h.rp, Nat.le_trans h.dp hk, Nat.le_trans h.le hB⟩
theorem Dat.fits {k B : Nat} {d : PyData} (h : Dat k B d) (hB : B ≤ 16000000) : d.shown.length ≤ sizeLine := fit_le (Nat.le_trans h.le hB)
theorem dat_int {i : Int} {k : Nat} (h : i.natAbs < 10 ^ k) (hk : k ≤ 100) : Dat 0 1001 (.int i) := ⟨rp_int (abs10 h hk), by simp only [PyData.depth]; omega, shown_int (abs10 h hk)⟩
theorem dat_str {x : Str} {n : Nat} (h : ∀ c ∈ TL.tl x, c < 128) (hl : x.length ≤ n) : Dat 0 (10 * n + 2) (.str x) := by
  refine ⟨⟨by simp only [PyData.showable], by simp only [PyData.hasDict], ?_, by simp only [PyData.depth]; omega⟩, by simp only [PyData.depth]; omega, ?_⟩
  · simp only [PyData.canLay0]
    unfold PyData.strOk
    rw [all_tl, List.all_eq_true]
    exact fun c hc => decide_eq_true (Nat.lt_of_lt_of_le (h c hc) (by decide))
  simp only [PyData.shown]
  have := PySem.StrLaws.reprText_len x fun c hc => Nat.lt_of_lt_of_le (h c hc) (by decide)
  omega
theorem rps_dat {k B : Nat} : ∀ {ds : List PyData}, (∀ d ∈ ds, Dat k B d) → RPs k ds
  | [], _ => RPs.nil
  | d :: ds, h => RPs.cons (h d List.mem_cons_self).rp (h d List.mem_cons_self).dp (rps_dat fun x hx => h x (List.mem_cons_of_mem _ hx))
theorem dat_list {k B n : Nat} {ds : List PyData} (h : ∀ d ∈ ds, Dat k B d) (hk : k ≤ 30) (hn : ds.length ≤ n) : Dat (k + 1) ((B + 2) * n + 3) (.list ds) := by
  obtain ⟨a, b⟩ := (rps_dat h).list (by omega)
  refine ⟨a, b, ?_⟩
  have := shown_list (B := B) (ds := ds) fun d hd => (h d hd).le
  have := Nat.mul_le_mul_left (B + 2) hn
  omega
theorem dat_tup {k B n : Nat} {ds : List PyData} (h : ∀ d ∈ ds, Dat k B d) (hk : k ≤ 30) (hn : ds.length ≤ n) : Dat (k + 1) ((B + 2) * n + 3) (.tuple ds) := by
  have hs := rps_dat h
  have hd : (PyData.tuple ds).depth ≤ k + 1 := by
    simp only [PyData.depth]
    have := hs.dp
    omega
  refine ⟨⟨?_, ?_, ?_, by omega⟩, hd, ?_⟩
  · simp only [PyData.showable, hs.sh]
  · simp only [PyData.hasDict, hs.nd]
  · simp only [PyData.canLay0, hs.cl]
  · simp only [PyData.shown]
    have h1 := tupleText_len_le (PyData.shownAll ds)
    have h2 : ((PyData.shownAll ds).map (·.length)).sum ≤ B * ds.length := by
      rw [shownAll_map, List.map_map]
      have := sum_bound (B := B) (l := ds.map ((fun x => x.length) ∘ PyData.shown)) fun x hx => by
        obtain ⟨d, hd, rfl⟩ := List.mem_map.mp hx
        exact (h d hd).le
      rw [List.length_map] at this
      exact this
    have h3 : (PyData.shownAll ds).length = ds.length := by rw [shownAll_map, List.length_map]
    rw [h3] at h1
    have h4 := Nat.mul_le_mul_left (B + 2) hn
    have h5 : (B + 2) * ds.length = B * ds.length + 2 * ds.length := Nat.add_mul _ _ _
    omega
theorem dat_ints {ns : List Int} {k n : Nat} (h : ∀ x ∈ ns, x.natAbs < 10 ^ k) (hk : k ≤ 100) (hn : ns.length ≤ n) : Dat 1 (1003 * n + 3) (dI ns) :=
  dat_list (k := 0) (B := 1001) (fun d hd => by
    obtain ⟨x, hx, rfl⟩ := List.mem_map.mp hd
    exact dat_int (h x hx) hk) (by decide) (by rw [List.length_map]; exact hn)
theorem dat_pairs {ps : List (Int × Int)} {k n : Nat} (h : ∀ p ∈ ps, p.1.natAbs < 10 ^ k ∧ p.2.natAbs < 10 ^ k) (hk : k ≤ 100) (hn : ps.length ≤ n) : Dat 2 (2011 * n + 3) (.list (ps.map dP)) :=
  dat_list (k := 1) (B := 2009) (fun d hd => by
    obtain ⟨p, hp, rfl⟩ := List.mem_map.mp hd
    exact dat_tup (k := 0) (B := 1001) (n := 2) (fun d hd => by
      simp only [List.mem_cons, List.not_mem_nil, or_false] at hd
      rcases hd with rfl | rfl
      · exact dat_int (h p hp).1 hk
      · exact dat_int (h p hp).2 hk) (by decide) (Nat.le_refl _)) (by decide) (by rw [List.length_map]; exact hn)
theorem intL_low (n : Int) : ∀ c ∈ intL n, c < 128 := fun c hc => by
  unfold intL at hc
  split at hc
  · rcases List.mem_cons.mp hc with e | e
    · omega
    · have := TL.numL_digits _ c e
      omega
  · have := TL.numL_digits _ c hc
    omega
theorem lookL_low (p : Int × Int) : ∀ c ∈ lookL p, c < 128 := fun c hc => by
  unfold lookL at hc
  rcases List.mem_append.mp hc with e | e
  · exact intL_low _ c e
  · rcases List.mem_cons.mp e with e | e
    · omega
    · exact intL_low _ c e
theorem joinL_low : ∀ {ws : List (List Nat)}, (∀ x ∈ ws, ∀ c ∈ x, c < 128) → ∀ c ∈ TL.joinL [32] ws, c < 128
  | [], _ => fun c hc => (List.not_mem_nil hc).elim
  | [p], h => h p (List.mem_singleton.mpr rfl)
  | p :: q :: r, h => fun c hc => by
    have hc : c ∈ p ++ ([32] ++ TL.joinL [32] (q :: r)) := hc
    rcases List.mem_append.mp hc with e | e
    · exact h p List.mem_cons_self c e
    · rcases List.mem_append.mp e with e | e
      · rw [List.mem_singleton.mp e]
        omega
      · exact joinL_low (fun x hx => h x (List.mem_cons_of_mem _ hx)) c e
theorem dat_words {ws : List (List Nat)} {k n : Nat} (h : ∀ x ∈ ws, x.length ≤ k ∧ ∀ c ∈ x, c < 128) (hn : ws.length ≤ n) : Dat 0 (10 * ((k + 1) * n) + 2) (.str (wordsS ws)) := by
  refine dat_str (fun c hc => ?_) ?_
  · rw [tl_words] at hc
    exact joinL_low (fun x hx => (h x hx).2) c hc
  · exact Nat.le_trans (words_len fun x hx => (h x hx).1) (Nat.mul_le_mul_left _ hn)
theorem dat_row {ns : List Int} {k n : Nat} (hk : 0 < k) (h : ∀ x ∈ ns, x.natAbs < 10 ^ k) (hn : ns.length ≤ n) : Dat 0 (10 * ((k + 1 + 1) * n) + 2) (.str (wordsS (ns.map intL))) :=
  dat_words (fun x hx => by
    obtain ⟨m, hm, rfl⟩ := List.mem_map.mp hx
    exact ⟨intL_len hk (h m hm), intL_low m⟩) (by rw [List.length_map]; exact hn)
theorem dat_looks {ps : List (Int × Int)} {k n : Nat} (hk : 0 < k) (h : ∀ p ∈ ps, p.1.natAbs < 10 ^ k ∧ p.2.natAbs < 10 ^ k) (hn : ps.length ≤ n) : Dat 0 (10 * ((2 * k + 3 + 1) * n) + 2) (.str (wordsS (ps.map lookL))) :=
  dat_words (fun x hx => by
    obtain ⟨p, hp, rfl⟩ := List.mem_map.mp hx
    exact ⟨look_len hk (h p hp).1 (h p hp).2, lookL_low p⟩) (by rw [List.length_map]; exact hn)
end Sd

namespace Sd
open PySem PySem.Spec PyProof.Rows L2
def topS (i : Nat) : Stmt := PySem.Challenge.pw_slitdiscs_k49_written_texts.main.body.getD i (.Pass ⟨0, 0, 0, 0⟩)
abbrev s_number_text : Stmt := topS 10
theorem sc_number_text : FnScope ["number", "parts", "left", "part", "digits"] ["number"] (defScope s_number_text) := ⟨rfl, rfl, rfl, by decide +kernel, rfl, by decide +kernel, by decide +kernel⟩
abbrev s_numbers_text : Stmt := topS 11
theorem sc_numbers_text : FnScope ["numbers", "number"] ["numbers"] (defScope s_numbers_text) := ⟨rfl, rfl, rfl, by decide +kernel, rfl, by decide +kernel, by decide +kernel⟩
abbrev s_number_in : Stmt := topS 12
theorem sc_number_in : FnScope ["word", "digits"] ["word"] (defScope s_number_in) := ⟨rfl, rfl, rfl, by decide +kernel, rfl, by decide +kernel, by decide +kernel⟩
abbrev s_count_in : Stmt := topS 13
theorem sc_count_in : FnScope ["word", "number"] ["word"] (defScope s_count_in) := ⟨rfl, rfl, rfl, by decide +kernel, rfl, by decide +kernel, by decide +kernel⟩
abbrev s_format_disc : Stmt := topS 15
theorem sc_format_disc : FnScope ["disc"] ["disc"] (defScope s_format_disc) := ⟨rfl, rfl, rfl, by decide +kernel, rfl, by decide +kernel, by decide +kernel⟩
abbrev s_format_row : Stmt := topS 16
theorem sc_format_row : FnScope ["row"] ["row"] (defScope s_format_row) := ⟨rfl, rfl, rfl, by decide +kernel, rfl, by decide +kernel, by decide +kernel⟩
abbrev s_format_looks : Stmt := topS 17
theorem sc_format_looks : FnScope ["looks", "turn", "light"] ["looks"] (defScope s_format_looks) := ⟨rfl, rfl, rfl, by decide +kernel, rfl, by decide +kernel, by decide +kernel⟩
abbrev s_parse_disc : Stmt := topS 18
theorem sc_parse_disc : FnScope ["text"] ["text"] (defScope s_parse_disc) := ⟨rfl, rfl, rfl, by decide +kernel, rfl, by decide +kernel, by decide +kernel⟩
abbrev s_parse_row : Stmt := topS 19
theorem sc_parse_row : FnScope ["text"] ["text"] (defScope s_parse_row) := ⟨rfl, rfl, rfl, by decide +kernel, rfl, by decide +kernel, by decide +kernel⟩
abbrev s_parse_looks : Stmt := topS 20
theorem sc_parse_looks : FnScope ["text"] ["text"] (defScope s_parse_looks) := ⟨rfl, rfl, rfl, by decide +kernel, rfl, by decide +kernel, by decide +kernel⟩
abbrev s_check_text : Stmt := topS 21
theorem sc_check_text : FnScope ["text"] ["text"] (defScope s_check_text) := ⟨rfl, rfl, rfl, by decide +kernel, rfl, by decide +kernel, by decide +kernel⟩
abbrev s_parse_words : Stmt := topS 22
theorem sc_parse_words : FnScope ["text", "value_in", "most", "values", "index", "word", "value"] ["text", "value_in", "most"] (defScope s_parse_words) := ⟨rfl, rfl, rfl, by decide +kernel, rfl, by decide +kernel, by decide +kernel⟩
abbrev s_slot_in : Stmt := topS 23
theorem sc_slot_in : FnScope ["word", "number"] ["word"] (defScope s_slot_in) := ⟨rfl, rfl, rfl, by decide +kernel, rfl, by decide +kernel, by decide +kernel⟩
abbrev s_look_in : Stmt := topS 24
theorem sc_look_in : FnScope ["word", "before", "_", "behind", "turn", "light"] ["word"] (defScope s_look_in) := ⟨rfl, rfl, rfl, by decide +kernel, rfl, by decide +kernel, by decide +kernel⟩
abbrev s_law_rims : Stmt := topS 26
theorem sc_law_rims : FnScope ["found"] [] (defScope s_law_rims) := ⟨rfl, rfl, rfl, by decide +kernel, rfl, by decide +kernel, by decide +kernel⟩
abbrev s_law_lines : Stmt := topS 27
theorem sc_law_lines : FnScope ["found"] [] (defScope s_law_lines) := ⟨rfl, rfl, rfl, by decide +kernel, rfl, by decide +kernel, by decide +kernel⟩
abbrev s_law_notes : Stmt := topS 28
theorem sc_law_notes : FnScope ["found"] [] (defScope s_law_notes) := ⟨rfl, rfl, rfl, by decide +kernel, rfl, by decide +kernel, by decide +kernel⟩
abbrev s_law : Stmt := topS 29
theorem sc_law : FnScope ["script", "rim", "written", "line", "notes"] ["script"] (defScope s_law) := ⟨rfl, rfl, rfl, by decide +kernel, rfl, by decide +kernel, by decide +kernel⟩
/-- what the top has written -/
structure Txt (K : PySem.W.Frag) (mg : Str → Option Value) where
  a_number_text : Addr
  d_number_text : FuncData
  F_number_text : Fun K "number_text" "number_text" s_number_text a_number_text d_number_text
  b_number_text : Binds K d_number_text ["number"] []
  g_number_text : mg "number_text" = some (.ref a_number_text)
  a_numbers_text : Addr
  d_numbers_text : FuncData
  F_numbers_text : Fun K "numbers_text" "numbers_text" s_numbers_text a_numbers_text d_numbers_text
  b_numbers_text : Binds K d_numbers_text ["numbers"] []
  g_numbers_text : mg "numbers_text" = some (.ref a_numbers_text)
  a_number_in : Addr
  d_number_in : FuncData
  F_number_in : Fun K "number_in" "number_in" s_number_in a_number_in d_number_in
  b_number_in : Binds K d_number_in ["word"] []
  g_number_in : mg "number_in" = some (.ref a_number_in)
  a_count_in : Addr
  d_count_in : FuncData
  F_count_in : Fun K "count_in" "count_in" s_count_in a_count_in d_count_in
  b_count_in : Binds K d_count_in ["word"] []
  g_count_in : mg "count_in" = some (.ref a_count_in)
  a_format_disc : Addr
  d_format_disc : FuncData
  F_format_disc : Fun K "format_disc" "format_disc" s_format_disc a_format_disc d_format_disc
  b_format_disc : Binds K d_format_disc ["disc"] []
  g_format_disc : mg "format_disc" = some (.ref a_format_disc)
  a_format_row : Addr
  d_format_row : FuncData
  F_format_row : Fun K "format_row" "format_row" s_format_row a_format_row d_format_row
  b_format_row : Binds K d_format_row ["row"] []
  g_format_row : mg "format_row" = some (.ref a_format_row)
  a_format_looks : Addr
  d_format_looks : FuncData
  F_format_looks : Fun K "format_looks" "format_looks" s_format_looks a_format_looks d_format_looks
  b_format_looks : Binds K d_format_looks ["looks"] []
  g_format_looks : mg "format_looks" = some (.ref a_format_looks)
  a_parse_disc : Addr
  d_parse_disc : FuncData
  F_parse_disc : Fun K "parse_disc" "parse_disc" s_parse_disc a_parse_disc d_parse_disc
  b_parse_disc : Binds K d_parse_disc ["text"] []
  g_parse_disc : mg "parse_disc" = some (.ref a_parse_disc)
  a_parse_row : Addr
  d_parse_row : FuncData
  F_parse_row : Fun K "parse_row" "parse_row" s_parse_row a_parse_row d_parse_row
  b_parse_row : Binds K d_parse_row ["text"] []
  g_parse_row : mg "parse_row" = some (.ref a_parse_row)
  a_parse_looks : Addr
  d_parse_looks : FuncData
  F_parse_looks : Fun K "parse_looks" "parse_looks" s_parse_looks a_parse_looks d_parse_looks
  b_parse_looks : Binds K d_parse_looks ["text"] []
  g_parse_looks : mg "parse_looks" = some (.ref a_parse_looks)
  a_check_text : Addr
  d_check_text : FuncData
  F_check_text : Fun K "_check_text" "_check_text" s_check_text a_check_text d_check_text
  b_check_text : Binds K d_check_text ["text"] []
  g_check_text : mg "_check_text" = some (.ref a_check_text)
  a_parse_words : Addr
  d_parse_words : FuncData
  F_parse_words : Fun K "_parse_words" "_parse_words" s_parse_words a_parse_words d_parse_words
  b_parse_words : Binds K d_parse_words ["text", "value_in", "most"] []
  g_parse_words : mg "_parse_words" = some (.ref a_parse_words)
  a_slot_in : Addr
  d_slot_in : FuncData
  F_slot_in : Fun K "_slot_in" "_slot_in" s_slot_in a_slot_in d_slot_in
  b_slot_in : Binds K d_slot_in ["word"] []
  g_slot_in : mg "_slot_in" = some (.ref a_slot_in)
  a_look_in : Addr
  d_look_in : FuncData
  F_look_in : Fun K "_look_in" "_look_in" s_look_in a_look_in d_look_in
  b_look_in : Binds K d_look_in ["word"] []
  g_look_in : mg "_look_in" = some (.ref a_look_in)
  a_law_rims : Addr
  d_law_rims : FuncData
  F_law_rims : Fun K "_law_rims" "_law_rims" s_law_rims a_law_rims d_law_rims
  b_law_rims : Binds K d_law_rims [] []
  g_law_rims : mg "_law_rims" = some (.ref a_law_rims)
  a_law_lines : Addr
  d_law_lines : FuncData
  F_law_lines : Fun K "_law_lines" "_law_lines" s_law_lines a_law_lines d_law_lines
  b_law_lines : Binds K d_law_lines [] []
  g_law_lines : mg "_law_lines" = some (.ref a_law_lines)
  a_law_notes : Addr
  d_law_notes : FuncData
  F_law_notes : Fun K "_law_notes" "_law_notes" s_law_notes a_law_notes d_law_notes
  b_law_notes : Binds K d_law_notes [] []
  g_law_notes : mg "_law_notes" = some (.ref a_law_notes)
  a_law : Addr
  d_law : FuncData
  F_law : Fun K "law" "law" s_law a_law d_law
  g_law : mg "law" = some (.ref a_law)
  t_MOST_SLOTS : Tok
  g_MOST_SLOTS : mg "MOST_SLOTS" = some (.int (40) t_MOST_SLOTS)
  t_MOST_LIGHT : Tok
  g_MOST_LIGHT : mg "MOST_LIGHT" = some (.int (1000000000000000000000000000000) t_MOST_LIGHT)
  t_MOST_LOOKS : Tok
  g_MOST_LOOKS : mg "MOST_LOOKS" = some (.int (40) t_MOST_LOOKS)
  t_MOST_DIGITS : Tok
  g_MOST_DIGITS : mg "MOST_DIGITS" = some (.int (40) t_MOST_DIGITS)
  t_PART_DIGITS : Tok
  g_PART_DIGITS : mg "PART_DIGITS" = some (.int (60) t_PART_DIGITS)
  t_PART : Tok
  g_PART : mg "PART" = some (.int (1000000000000000000000000000000000000000000000000000000000000) t_PART)
  n_abs : mg "abs" = none
  n_divmod : mg "divmod" = none
  n_enumerate : mg "enumerate" = none
  n_int : mg "int" = none
  n_isinstance : mg "isinstance" = none
  n_len : mg "len" = none
  n_repr : mg "repr" = none
  n_str : mg "str" = none
def kp_format_disc_disc {α : Type} : List α → List α → List α
  | [], [x0] => [x0]
  | _, _ => []
theorem kb_format_disc_disc {K : PySem.W.Frag} {mg : Str → Option Value} (T : Txt K mg) : KBinds K T.d_format_disc ["disc"] ["disc"] kp_format_disc_disc kp_format_disc_disc := by
  obtain ⟨_, _, _, _, _, _, _, _, _, e, _, _⟩ := T.F_format_disc.ex
  rw [e]
  refine ⟨fun s us ws _ hl => ?_, fun r1 r2 => ?_⟩
  · match us, ws, hl with
    | [], [x0], _ => exact .of_eq rfl
  · cases r1 with
    | cons _ _ => exact .nil
    | nil =>
      cases r2 with
      | nil => exact .nil
      | cons h0 r2 =>
        cases r2 with
        | cons _ _ => exact .nil
        | nil => exact .cons h0 .nil
def kp_parse_disc_text {α : Type} : List α → List α → List α
  | [], [x0] => [x0]
  | _, _ => []
theorem kb_parse_disc_text {K : PySem.W.Frag} {mg : Str → Option Value} (T : Txt K mg) : KBinds K T.d_parse_disc ["text"] ["text"] kp_parse_disc_text kp_parse_disc_text := by
  obtain ⟨_, _, _, _, _, _, _, _, _, e, _, _⟩ := T.F_parse_disc.ex
  rw [e]
  refine ⟨fun s us ws _ hl => ?_, fun r1 r2 => ?_⟩
  · match us, ws, hl with
    | [], [x0], _ => exact .of_eq rfl
  · cases r1 with
    | cons _ _ => exact .nil
    | nil =>
      cases r2 with
      | nil => exact .nil
      | cons h0 r2 =>
        cases r2 with
        | cons _ _ => exact .nil
        | nil => exact .cons h0 .nil
def kp_format_row_row {α : Type} : List α → List α → List α
  | [], [x0] => [x0]
  | _, _ => []
theorem kb_format_row_row {K : PySem.W.Frag} {mg : Str → Option Value} (T : Txt K mg) : KBinds K T.d_format_row ["row"] ["row"] kp_format_row_row kp_format_row_row := by
  obtain ⟨_, _, _, _, _, _, _, _, _, e, _, _⟩ := T.F_format_row.ex
  rw [e]
  refine ⟨fun s us ws _ hl => ?_, fun r1 r2 => ?_⟩
  · match us, ws, hl with
    | [], [x0], _ => exact .of_eq rfl
  · cases r1 with
    | cons _ _ => exact .nil
    | nil =>
      cases r2 with
      | nil => exact .nil
      | cons h0 r2 =>
        cases r2 with
        | cons _ _ => exact .nil
        | nil => exact .cons h0 .nil
def kp_parse_row_text {α : Type} : List α → List α → List α
  | [], [x0] => [x0]
  | _, _ => []
theorem kb_parse_row_text {K : PySem.W.Frag} {mg : Str → Option Value} (T : Txt K mg) : KBinds K T.d_parse_row ["text"] ["text"] kp_parse_row_text kp_parse_row_text := by
  obtain ⟨_, _, _, _, _, _, _, _, _, e, _, _⟩ := T.F_parse_row.ex
  rw [e]
  refine ⟨fun s us ws _ hl => ?_, fun r1 r2 => ?_⟩
  · match us, ws, hl with
    | [], [x0], _ => exact .of_eq rfl
  · cases r1 with
    | cons _ _ => exact .nil
    | nil =>
      cases r2 with
      | nil => exact .nil
      | cons h0 r2 =>
        cases r2 with
        | cons _ _ => exact .nil
        | nil => exact .cons h0 .nil
def kp_format_looks_looks {α : Type} : List α → List α → List α
  | [], [x0] => [x0]
  | _, _ => []
theorem kb_format_looks_looks {K : PySem.W.Frag} {mg : Str → Option Value} (T : Txt K mg) : KBinds K T.d_format_looks ["looks"] ["looks"] kp_format_looks_looks kp_format_looks_looks := by
  obtain ⟨_, _, _, _, _, _, _, _, _, e, _, _⟩ := T.F_format_looks.ex
  rw [e]
  refine ⟨fun s us ws _ hl => ?_, fun r1 r2 => ?_⟩
  · match us, ws, hl with
    | [], [x0], _ => exact .of_eq rfl
  · cases r1 with
    | cons _ _ => exact .nil
    | nil =>
      cases r2 with
      | nil => exact .nil
      | cons h0 r2 =>
        cases r2 with
        | cons _ _ => exact .nil
        | nil => exact .cons h0 .nil
def kp_parse_looks_text {α : Type} : List α → List α → List α
  | [], [x0] => [x0]
  | _, _ => []
theorem kb_parse_looks_text {K : PySem.W.Frag} {mg : Str → Option Value} (T : Txt K mg) : KBinds K T.d_parse_looks ["text"] ["text"] kp_parse_looks_text kp_parse_looks_text := by
  obtain ⟨_, _, _, _, _, _, _, _, _, e, _, _⟩ := T.F_parse_looks.ex
  rw [e]
  refine ⟨fun s us ws _ hl => ?_, fun r1 r2 => ?_⟩
  · match us, ws, hl with
    | [], [x0], _ => exact .of_eq rfl
  · cases r1 with
    | cons _ _ => exact .nil
    | nil =>
      cases r2 with
      | nil => exact .nil
      | cons h0 r2 =>
        cases r2 with
        | cons _ _ => exact .nil
        | nil => exact .cons h0 .nil
section
variable {P : Program} {w : World} {K : PySem.W.Frag} {mg : Str → Option Value} {base : Heap}
/-! ### slitdiscs.words -/
def spNumText : Sp := fun vs H Q _ => ∃ n : Int, vs = [.int n] ∧ n.natAbs < 10 ^ 60 ∧ ∀ H', Same H H' → Q (.str (intS n)) H'
theorem ok_number_text (T : Txt K mg) : FnOk P w K mg base CX0 1 T.a_number_text T.d_number_text ["number"] spNumText := by
  refine T.F_number_text.ok sc_number_text (fun vs H Q E h => ?_) (fun cdv A outer s H vs Q E hr h => ?_)
  · obtain ⟨_, rfl, _⟩ := h
    rfl
  · obtain ⟨n, rfl, hn, q⟩ := h
    refine ⟨_, (pss_cons (ps_set (i := 1) sc_number_text.nd rfl (.inl rfl) (pe_lst pa_nil))
      (pss_cons (ps_set (i := 2) sc_number_text.nd rfl (.inl rfl) (pe_callB call_abs (by rfl) T.n_abs (by decide +kernel) (pa_cons (pv 0) pa_nil)))
      (pss_cons (ps_while PassesOwn.never (pt_cmpR op_ge (pv 2) (pe_glob (v := .int (1000000000000000000000000000000000000000000000000000000000000)) rfl T.g_PART ⟨_, rfl⟩) (nomark _)) (pss_cons ps_never
      (pss_one ps_never)))
      (pss_cons (ps_expr (pe_bm PySem.F.plainAttrs_list PySem.F.slot_list_append PySem.F.type_list_append mt_append (pv 1) (pa_cons (pe_callTy call_str_int (by rfl) T.n_str (by decide +kernel) (pa_cons (pv 2) pa_nil)) pa_nil)))
      (pss_cons (ps_set (i := 4) sc_number_text.nd rfl (.inl rfl) (pe_join pe_str (pe_revL (pv 1))))
      (pss_one (ps_ret (pe_ifExp (pt_cmpR op_lt (pv 0) pe_int (nomark _)) (pe_joinedN (PJ.cons pe_str (PJ.cons (pe_fmt (pv 4)) PJ.nil))) (pv 4))))))))), ?_⟩
    have e60 : (10 : Nat) ^ 60 = 1000000000000000000000000000000000000000000000000000000000000 := by decide +kernel
    rw [e60] at hn
    refine ⟨(by show 0 ≤ sizeLine; decide), fun p hp => ?_⟩
    refine ⟨.int n, rfl, n, rfl, ?_⟩
    obtain ⟨L, hL⟩ : ∃ L : Int, L = (if n < 0 then -n else n) := ⟨_, rfl⟩
    show gName 2 (V.int (if n < 0 then -n else n)) _ _ _
    rw [← hL]
    have hL0 : 0 ≤ L := by rw [hL]; split <;> omega
    have hL1 : L < 1000000000000000000000000000000000000000000000000000000000000 := by rw [hL]; split <;> omega
    have hLn : L.natAbs = n.natAbs := by rw [hL]; split <;> omega
    have s1 := new_same (o := .lst []) hp
    have g1 : (upd H p (.lst [])) p = some (.lst []) := upd_same
    generalize upd H p (.lst []) = H1 at s1 g1 ⊢
    refine ⟨fun m σ H' => m = 0 ∧ σ = [some (.int n), some (.ref p), some (.int L), none, none] ∧ H' = H1, ⟨0, rfl, rfl, rfl⟩, fun m σ H' hW => ?_⟩
    obtain ⟨rfl, rfl, rfl⟩ := hW
    refine ⟨.int L, rfl, L, _, rfl, rfl, _, rfl, ite2 (fun h => absurd (of_decide_eq_true h) (by omega)) (fun _ => ?_)⟩
    have hlog : L.natAbs.log2 < 1920 := abs_log (k := 60) (by rw [hLn, e60]; exact hn) (by decide)
    refine ⟨.ref p, rfl, .inl ⟨rfl, _, SqL.of g1⟩, .int L, rfl, L, rfl, hlog, p, _, _, rfl, rfl, g1, (by show 0 < sizeLine; decide), ?_⟩
    have eL : (toString L : String) = toString L := rfl
    have s2 : Same H (upd H' p (.lst ([] ++ [.str (Str.ofString (toString L))]))) := same_over s1 hp
    have g2 : (upd H' p (.lst ([] ++ [.str (Str.ofString (toString L))]))) p = some (.lst ([intS L].map V.str)) := by rw [upd_same, str_int]; rfl
    generalize upd H' p (.lst ([] ++ [.str (Str.ofString (toString L))])) = H2 at s2 g2 ⊢
    refine ⟨⟨_, rfl⟩, .ref p, rfl, p, _, rfl, SqL.of g2, fun p3 hp3 => ?_⟩
    have s3 := s2.trans (new_same (o := .lst ([intS L].map V.str).reverse) hp3)
    have il : (intS L).length ≤ 61 := by
      show (mkS (intL L)).length ≤ 61
      rw [mk_len]
      exact intL_len (by decide) (by rw [hLn, e60]; exact hn)
    refine ⟨_, p3, [intS L], rfl, rfl, .inl (SqL.of upd_same), ?_, ?_⟩
    · rw [cNone, mk_len]
      show (intS L).length + 0 + 1 * 0 ≤ 16777216
      omega
    rw [join_one]
    refine ⟨.int n, rfl, n, 0, rfl, rfl, _, rfl, ite2 (fun h => ?_) (fun h => ?_)⟩
    · have hn0 : n < 0 := of_decide_eq_true h
      have e : mkS [] ++ mkS [45] ++ intS L = intS n := by
        show mkS [] ++ mkS [45] ++ mkS (intL L) = mkS (intL n)
        rw [mk_app, mk_app, intL_neg hn0, intL_pos hL0, hLn]
        rfl
      refine ⟨_, rfl, ?_, .str (intS L), rfl, .inl ⟨_, rfl, spl_le il (by decide), _, rfl, ?_, ?_⟩⟩
      · rw [cDash]
        exact (by decide : (1 : Nat) ≤ sizeLine)
      · rw [cDash]
        show (mkS [] ++ mkS [45] ++ intS L).length ≤ sizeLine
        rw [e]
        show (mkS (intL n)).length ≤ sizeLine
        rw [mk_len]
        exact spl_le (intL_len (k := 60) (by decide) (by rw [e60]; exact hn)) (by decide)
      · rw [cDash]
        show Q (.str (mkS [] ++ mkS [45] ++ intS L)) _
        rw [e]
        exact q _ s3
    · have hn0 : L = n := by
        rw [hL, if_neg (fun z => h (decide_eq_true z))]
      refine ⟨_, rfl, ?_⟩
      have z := q _ s3
      have e : intS n = intS L := by rw [hn0]
      rw [e] at z
      exact z
def spNumsText (K : PySem.W.Frag) : Sp := fun vs H Q _ => ∃ (a : Addr) (ns : List Int), vs = [.ref a] ∧ SqL K H a (ns.map V.int) ∧ (∀ n ∈ ns, n.natAbs < 10 ^ 60) ∧ ns.length ≤ 100 ∧ ∀ H', Same H H' → Q (.str (wordsS (ns.map intL))) H'
theorem take_strs {l : List Str} {i : Nat} {v : Str} (h : l[i]? = some v) : (l.take i).map V.str ++ [.str v] = (l.take (i + 1)).map V.str := by
  rw [List.take_add_one, h, List.map_append]
  rfl
theorem ok_numbers_text (T : Txt K mg) : FnOk P w K mg base CX0 2 T.a_numbers_text T.d_numbers_text ["numbers"] (spNumsText K) := by
  have G_number_text := ok_number_text (P := P) (w := w) (base := base) T
  refine T.F_numbers_text.ok sc_numbers_text (fun vs H Q E h => ?_) (fun cdv A outer s H vs Q E hr h => ?_)
  · obtain ⟨_, _, rfl, _⟩ := h
    rfl
  · obtain ⟨a, ns, rfl, hS, hn, hl, q⟩ := h
    refine ⟨_, (pss_one (ps_ret (pe_join pe_str (pe_lc (own := [("number", 1)]) (g := gName 1) (tt := tYes) (by rfl) sc_numbers_text.nd (pi_listL (K := K) rfl (pv 0)) (blkOk_by (own := [("number", 1)]) (N := ["numbers", "number"]) (sc := defScope s_numbers_text) (by decide +kernel))
        (fun _ _ _ _ _ => (pg_name (i := 1) sc_numbers_text.nd rfl (Or.inl rfl))) (fun _ _ _ _ _ => pts_nil) (fun _ _ _ _ _ => (pe_call G_number_text hr (by rfl) T.g_number_text T.F_number_text.kp T.b_number_text .nil pass0 (pa_cons (pv 1) pa_nil))))))), ?_⟩
    refine ⟨⟨_, rfl⟩, .ref a, rfl, a, rfl, ⟨_, hS⟩, fun D hD => ?_⟩
    refine lc_list (K := K) (a := a) (xs := ns.map V.int) (fun i H' => Same H H' ∧ H' D = some (.lst (((ns.map intS).take i).map V.str)))
      ⟨new_same hD, upd_same⟩ (fun i H' _ hP => hP.1.seq hS) (fun i x H1 hx hP => ⟨rfl, ?_⟩) (fun H1 hP => ?_)
    · obtain ⟨s1, g1⟩ := hP
      obtain ⟨n, hx', rfl⟩ := int_at hx
      have hi : i < ns.length := (List.getElem?_eq_some_iff.mp hx').1
      refine ⟨.int n, rfl, n, rfl, hn n (List.mem_of_getElem? hx'), fun H2 s2 => ?_⟩
      refine ⟨_, s2 _ _ g1, ?_, same_over (s1.trans s2) hD, ?_⟩
      · rw [List.length_map, List.length_take]
        exact sz40 (by omega)
      · rw [upd_same, take_strs (by rw [List.getElem?_map, hx']; rfl)]
    · obtain ⟨s1, g1⟩ := hP
      rw [List.length_map, List.take_of_length_le (by rw [List.length_map]; exact Nat.le_refl _)] at g1
      have e : (ns.map intL).map mkS = ns.map intS := by
        rw [List.map_map]
        rfl
      refine ⟨spS, D, ns.map intS, congrArg V.str cSp, rfl, .inl (SqL.of g1), ?_, ?_⟩
      · rw [← e]
        exact join_fits (k := 61) (fun w hw => by
          obtain ⟨n, hn', rfl⟩ := List.mem_map.mp hw
          exact intL_len (by decide) (hn n hn')) (by decide) (by rw [List.length_map]; omega)
      · have z := q H1 s1
        unfold wordsS at z
        rw [e] at z
        exact z
/-! ### number_in, count_in -/
theorem hd_intL {n : Int} : (intL n).head? = some 45 ↔ n < 0 := by
  by_cases h : n < 0
  · rw [intL_neg h]
    exact ⟨fun _ => h, fun _ => rfl⟩
  · rw [intL_pos (by omega)]
    refine ⟨fun e => ?_, fun e => absurd e h⟩
    have hm : (45 : Nat) ∈ TL.numL n.natAbs := by
      cases e2 : TL.numL n.natAbs with
      | nil => rw [e2] at e; cases e
      | cons c r =>
        rw [e2] at e
        rw [← Option.some.inj e]
        exact List.mem_cons_self
    exact absurd hm (TL.numL_free (.inl (by decide)))
def spNumIn : Sp := fun vs H Q _ => ∃ n : Int, vs = [.str (intS n)] ∧ n.natAbs < 10 ^ 40 ∧ Q (.int n) H
theorem ok_number_in (T : Txt K mg) : FnOk P w K mg base CX0 1 T.a_number_in T.d_number_in ["word"] spNumIn := by
  refine T.F_number_in.ok sc_number_in (fun vs H Q E h => ?_) (fun cdv A outer s H vs Q E hr h => ?_)
  · obtain ⟨_, rfl, _⟩ := h
    rfl
  · obtain ⟨n, rfl, hn, q⟩ := h
    refine ⟨_, (pss_cons (ps_set (i := 1) sc_number_in.nd rfl (.inl rfl) (pe_ifExp (pt_val (pe_m1 PySem.F.slot_str_startswith PySem.F.type_str_startswith mt_startswith (pv 0) pe_str)) (pe_slice sl_str (pv 0) (po_some pe_int) po_none) (pv 0)))
      (pss_cons (ps_if (PW.pt (pw_or (pt_not (pt_val (pe_m0 PySem.F.slot_str_isascii PySem.F.type_str_isascii mt_isascii (pv 1)))) (pw_or (pt_not (pt_val (pe_m0 PySem.F.slot_str_isdigit PySem.F.type_str_isdigit mt_isdigit (pv 1)))) (pw_or1 (pt_cmpR op_gt (pe_callB call_len_str (by rfl) T.n_len (by decide +kernel) (pa_cons (pv 1) pa_nil)) (pe_glob (v := .int (40)) rfl T.g_MOST_DIGITS ⟨_, rfl⟩) (nomark _)))))) (pss_one (ps_ret pe_non)) pss_nil)
      (pss_cons (ps_if (PW.pt (pw_and (pt_val (pe_m1 PySem.F.slot_str_startswith PySem.F.type_str_startswith mt_startswith (pv 1) pe_str)) (pw_and1 (pt_cmpR op_ne (pv 0) pe_str (nomark _))))) (pss_one (ps_ret pe_non)) pss_nil)
      (pss_one (ps_ret (pe_callTy call_int_str (by rfl) T.n_int (by decide +kernel) (pa_cons (pv 0) pa_nil))))))), ?_⟩
    have il : (intS n).length ≤ 41 := by
      show (mkS (intL n)).length ≤ 41
      rw [mk_len]
      exact intL_len (by decide) hn
    have dl := TL.numL_len (k := 40) (by decide) hn
    refine ⟨.str (intS n), rfl, ⟨_, rfl⟩, intS n, mkS [45], rfl, by rw [cDash], _, rfl, ?_⟩
    have es : Txt.startswith (intS n) (mkS [45]) = decide (n < 0) := by
      show Txt.startswith (mkS (intL n)) (mkS [45]) = _
      rw [starts_one]
      exact decide_eq_decide.mpr hd_intL
    rw [es]
    by_cases hn1 : n < 0
    · rw [decide_eq_true hn1]
      refine iteT ?_
      refine ⟨.str (intS n), rfl, 1, rfl, intS n, rfl, spl_le il (by decide), ?_⟩
      have ec : cutS (intS n) (some 1) none = mkS (TL.numL n.natAbs) := by
        show cutS (mkS (intL n)) (some 1) none = _
        rw [intL_neg hn1, cut_tail]
      rw [ec]
      refine ⟨.str (mkS (TL.numL n.natAbs)), rfl, ⟨_, rfl⟩, _, rfl, rfl, trivial, _, rfl, ?_⟩
      rw [dig_isascii]
      refine iteF ?_
      refine ⟨.str (mkS (TL.numL n.natAbs)), rfl, ⟨_, rfl⟩, _, rfl, rfl, trivial, _, rfl, ?_⟩
      rw [dig_isdigit]
      refine iteF ?_
      refine ⟨.str (mkS (TL.numL n.natAbs)), rfl, _, rfl, spl_le (by rw [mk_len]; exact dl) (by decide), _, 40, rfl, rfl, _, rfl, ite2 (fun h => absurd (of_decide_eq_true h) (by rw [mk_len]; omega)) (fun _ => ?_)⟩
      refine ⟨.str (mkS (TL.numL n.natAbs)), rfl, ⟨_, rfl⟩, _, mkS [48], rfl, by rw [cZero], _, rfl, ?_⟩
      rw [starts_one]
      by_cases hz : (TL.numL n.natAbs).head? = some 48
      · rw [decide_eq_true hz]
        refine iteT ?_
        have hn0 : n = 0 := by
          refine Classical.byContradiction fun e => numL_head n.natAbs (by omega) hz
        have ew : V.str (intS n) = V.str (Str.ofString "0") := by
          rw [cZero, hn0]
          rfl
        refine ⟨.str (intS n), rfl, rfl, _, rfl, iteNS ew ?_⟩
        exact ⟨.str (intS n), rfl, _, n, rfl, int_reads (Nat.lt_of_lt_of_le hn (Nat.pow_le_pow_right (by decide) (by decide))), by omega, q⟩
      · rw [decide_eq_false hz]
        refine iteF (iteF ?_)
        exact ⟨.str (intS n), rfl, _, n, rfl, int_reads (Nat.lt_of_lt_of_le hn (Nat.pow_le_pow_right (by decide) (by decide))), by omega, q⟩
    · rw [decide_eq_false hn1]
      refine iteF ?_
      refine ⟨.str (intS n), rfl, ?_⟩
      have ed : intS n = mkS (TL.numL n.natAbs) := by
        show mkS (intL n) = _
        rw [intL_pos (by omega)]
      show gName 1 (V.str (intS n)) _ _ _
      rw [show gName 1 (V.str (intS n)) = gName 1 (V.str (mkS (TL.numL n.natAbs))) from congrArg (fun z => gName 1 (V.str z)) ed]
      refine ⟨.str (mkS (TL.numL n.natAbs)), rfl, ⟨_, rfl⟩, _, rfl, rfl, trivial, _, rfl, ?_⟩
      rw [dig_isascii]
      refine iteF ?_
      refine ⟨.str (mkS (TL.numL n.natAbs)), rfl, ⟨_, rfl⟩, _, rfl, rfl, trivial, _, rfl, ?_⟩
      rw [dig_isdigit]
      refine iteF ?_
      refine ⟨.str (mkS (TL.numL n.natAbs)), rfl, _, rfl, spl_le (by rw [mk_len]; exact dl) (by decide), _, 40, rfl, rfl, _, rfl, ite2 (fun h => absurd (of_decide_eq_true h) (by rw [mk_len]; omega)) (fun _ => ?_)⟩
      refine ⟨.str (mkS (TL.numL n.natAbs)), rfl, ⟨_, rfl⟩, _, mkS [48], rfl, by rw [cZero], _, rfl, ?_⟩
      rw [starts_one]
      by_cases hz : (TL.numL n.natAbs).head? = some 48
      · rw [decide_eq_true hz]
        refine iteT ?_
        have hn0 : n = 0 := by
          refine Classical.byContradiction fun e => numL_head n.natAbs (by omega) hz
        have ew : V.str (intS n) = V.str (Str.ofString "0") := by
          rw [cZero, hn0]
          rfl
        refine ⟨.str (intS n), rfl, rfl, _, rfl, iteNS ew ?_⟩
        exact ⟨.str (intS n), rfl, _, n, rfl, int_reads (Nat.lt_of_lt_of_le hn (Nat.pow_le_pow_right (by decide) (by decide))), by omega, q⟩
      · rw [decide_eq_false hz]
        refine iteF (iteF ?_)
        exact ⟨.str (intS n), rfl, _, n, rfl, int_reads (Nat.lt_of_lt_of_le hn (Nat.pow_le_pow_right (by decide) (by decide))), by omega, q⟩
def spCountIn : Sp := fun vs H Q _ => ∃ n : Int, vs = [.str (intS n)] ∧ 0 ≤ n ∧ n.natAbs < 10 ^ 40 ∧ Q (.int n) H
theorem ok_count_in (T : Txt K mg) : FnOk P w K mg base CX0 2 T.a_count_in T.d_count_in ["word"] spCountIn := by
  have G_number_in := ok_number_in (P := P) (w := w) (base := base) T
  refine T.F_count_in.ok sc_count_in (fun vs H Q E h => ?_) (fun cdv A outer s H vs Q E hr h => ?_)
  · obtain ⟨_, rfl, _⟩ := h
    rfl
  · obtain ⟨n, rfl, h0, hn, q⟩ := h
    refine ⟨_, (pss_cons (ps_set (i := 1) sc_count_in.nd rfl (.inl rfl) (pe_call G_number_in hr (by rfl) T.g_number_in T.F_number_in.kp T.b_number_in .nil pass0 (pa_cons (pv 0) pa_nil)))
      (pss_one (ps_ret (pe_ifExp (PW.pt (pw_or (pt_cmpR op_isN (pv 1) pe_non (nomark _)) (pw_or1 (pt_cmpR op_lt (pv 1) pe_int (nomark _))))) pe_non (pv 1))))), ?_⟩
    refine ⟨.str (intS n), rfl, n, rfl, hn, ?_⟩
    refine ⟨.int n, rfl, rfl, _, rfl, ?_⟩
    show (if decide (V.int n = V.non) = true then _ else _)
    rw [decide_eq_false (fun e => nomatch e)]
    refine iteF ?_
    refine ⟨.int n, rfl, n, 0, rfl, rfl, _, rfl, ite2 (fun h => absurd (of_decide_eq_true h) (by omega)) (fun _ => ?_)⟩
    exact ⟨.int n, rfl, q⟩

/-! ### slitdiscs.texts, written -/
theorem ok_format_disc (T : Txt K mg) : FnOk P w K mg base CX0 3 T.a_format_disc T.d_format_disc ["disc"] (spNumsText K) := by
  have G_numbers_text := ok_numbers_text (P := P) (w := w) (base := base) T
  refine T.F_format_disc.ok sc_format_disc (fun vs H Q E h => ?_) (fun cdv A outer s H vs Q E hr h => ?_)
  · obtain ⟨_, _, rfl, _⟩ := h
    rfl
  · obtain ⟨a, ns, rfl, h⟩ := h
    refine ⟨_, (pss_one (ps_ret (pe_call G_numbers_text hr (by rfl) T.g_numbers_text T.F_numbers_text.kp T.b_numbers_text .nil pass0 (pa_cons (pv 0) pa_nil)))), ?_⟩
    exact ⟨.ref a, rfl, a, ns, rfl, h⟩
theorem ok_format_row (T : Txt K mg) : FnOk P w K mg base CX0 3 T.a_format_row T.d_format_row ["row"] (spNumsText K) := by
  have G_numbers_text := ok_numbers_text (P := P) (w := w) (base := base) T
  refine T.F_format_row.ok sc_format_row (fun vs H Q E h => ?_) (fun cdv A outer s H vs Q E hr h => ?_)
  · obtain ⟨_, _, rfl, _⟩ := h
    rfl
  · obtain ⟨a, ns, rfl, h⟩ := h
    refine ⟨_, (pss_one (ps_ret (pe_call G_numbers_text hr (by rfl) T.g_numbers_text T.F_numbers_text.kp T.b_numbers_text .nil pass0 (pa_cons (pv 0) pa_nil)))), ?_⟩
    exact ⟨.ref a, rfl, a, ns, rfl, h⟩
def spLooksText (K : PySem.W.Frag) : Sp := fun vs H Q _ => ∃ (a : Addr) (xs : List V) (ps : List (Int × Int)), vs = [.ref a] ∧ SqL K H a xs ∧ Prs H xs ps ∧ (∀ p ∈ ps, p.1.natAbs < 10 ^ 60 ∧ p.2.natAbs < 10 ^ 60) ∧ ps.length ≤ 100 ∧ ∀ H', Same H H' → Q (.str (wordsS (ps.map lookL))) H'
theorem ok_format_looks (T : Txt K mg) : FnOk P w K mg base CX0 2 T.a_format_looks T.d_format_looks ["looks"] (spLooksText K) := by
  have G_number_text := ok_number_text (P := P) (w := w) (base := base) T
  refine T.F_format_looks.ok sc_format_looks (fun vs H Q E h => ?_) (fun cdv A outer s H vs Q E hr h => ?_)
  · obtain ⟨_, _, _, rfl, _⟩ := h
    rfl
  · obtain ⟨a, xs, ps, rfl, hS, hP, hb, hl, q⟩ := h
    refine ⟨_, (pss_one (ps_ret (pe_join pe_str (pe_lc (own := [("turn", 1), ("light", 2)]) (tt := tYes) (by rfl) sc_format_looks.nd (pi_listL (K := K) rfl (pv 0)) (blkOk_by (own := [("turn", 1), ("light", 2)]) (N := ["looks", "turn", "light"]) (sc := defScope s_format_looks) (by decide +kernel))
        (fun _ _ _ _ _ => (pg_tupL (K := K) (n := 2) rfl rfl (pgs_cons (pg_name (i := 1) sc_format_looks.nd rfl (.inl rfl)) (pgs_cons (pg_name (i := 2) sc_format_looks.nd rfl (.inl rfl)) pgs_nil)))) (fun _ _ _ _ _ => pts_nil) (fun _ _ _ _ _ => (pe_joinedN (PJ.cons (pe_fmt (pe_call G_number_text hr (by rfl) T.g_number_text T.F_number_text.kp T.b_number_text .nil pass0 (pa_cons (pv 1) pa_nil))) (PJ.cons pe_str (PJ.cons (pe_fmt (pe_call G_number_text hr (by rfl) T.g_number_text T.F_number_text.kp T.b_number_text .nil pass0 (pa_cons (pv 2) pa_nil))) PJ.nil))))))))), ?_⟩
    refine ⟨⟨_, rfl⟩, .ref a, rfl, a, rfl, ⟨_, hS⟩, fun D hD => ?_⟩
    have hxl := hP.len
    refine lc_list (K := K) (a := a) (xs := xs) (fun i H' => Same H H' ∧ H' D = some (.lst ((((ps.map fun p => mkS (lookL p)) : List Str).take i).map V.str)))
      ⟨new_same hD, upd_same⟩ (fun i H' _ hP => hP.1.seq hS) (fun i x H1 hx hQ => ?_) (fun H1 hQ => ?_)
    · obtain ⟨s1, g1⟩ := hQ
      obtain ⟨t, p, rfl, hp, et⟩ := hP.at hx
      have hi : i < ps.length := (List.getElem?_eq_some_iff.mp hp).1
      obtain ⟨b1, b2⟩ := hb p (List.mem_of_getElem? hp)
      refine ⟨t, _, rfl, SqT.of (s1 _ _ et), rfl, _, _, rfl, _, _, rfl, rfl, rfl, ?_⟩
      have l1 : (intS p.1).length ≤ 61 := by
        show (mkS (intL p.1)).length ≤ 61
        rw [mk_len]
        exact intL_len (by decide) b1
      have l2 : (intS p.2).length ≤ 61 := by
        show (mkS (intL p.2)).length ≤ 61
        rw [mk_len]
        exact intL_len (by decide) b2
      have e1 : mkS [] ++ intS p.1 = intS p.1 := by
        show mkS [] ++ mkS (intL p.1) = mkS (intL p.1)
        rw [mk_app]
        rfl
      have e3 : intS p.1 ++ mkS [61] ++ intS p.2 = mkS (lookL p) := by
        show mkS (intL p.1) ++ mkS [61] ++ mkS (intL p.2) = _
        rw [mk_app, mk_app, List.append_assoc]
        rfl
      have ll := look_len (k := 60) (by decide) b1 b2
      refine ⟨.int p.1, rfl, p.1, rfl, b1, fun H2 s2 => .inl ⟨_, rfl, spl_le l1 (by decide), _, rfl, ?_, ?_⟩⟩
      · show (mkS [] ++ intS p.1).length ≤ sizeLine
        rw [e1]
        exact spl_le l1 (by decide)
      show ∃ y : Str, _
      refine ⟨_, rfl, ?_, ?_⟩
      · show (mkS [] ++ intS p.1 ++ Str.ofString "=").length ≤ sizeLine
        rw [e1, cEq]
        show (mkS (intL p.1) ++ mkS [61]).length ≤ sizeLine
        rw [mk_app, mk_len, List.length_append]
        have : (intL p.1).length ≤ 61 := intL_len (by decide) b1
        exact spl_le (k := 100) (by show (intL p.1).length + 1 ≤ 100; omega) (by decide)
      refine ⟨.int p.2, rfl, p.2, rfl, b2, fun H3 s3 => .inl ⟨_, rfl, spl_le l2 (by decide), _, rfl, ?_, ?_⟩⟩
      · show (mkS [] ++ intS p.1 ++ Str.ofString "=" ++ intS p.2).length ≤ sizeLine
        rw [e1, cEq, e3, mk_len]
        exact spl_le ll (by decide)
      show ∃ acc, _
      have s13 := (s1.trans s2).trans s3
      refine ⟨_, (s2.trans s3) _ _ g1, ?_, same_over s13 hD, ?_⟩
      · rw [List.length_map, List.length_take]
        exact sz40 (by omega)
      · show upd H3 D (.lst (_ ++ [V.str (mkS [] ++ intS p.1 ++ Str.ofString "=" ++ intS p.2)])) D = _
        rw [upd_same, e1, cEq, e3, take_strs (by rw [List.getElem?_map, hp]; rfl)]
    · obtain ⟨s1, g1⟩ := hQ
      rw [hxl, List.take_of_length_le (by rw [List.length_map]; exact Nat.le_refl _)] at g1
      have e : (ps.map lookL).map mkS = ps.map fun p => mkS (lookL p) := by
        rw [List.map_map]
        rfl
      refine ⟨spS, D, ps.map fun p => mkS (lookL p), congrArg V.str cSp, rfl, .inl (SqL.of g1), ?_, ?_⟩
      · rw [← e]
        exact join_fits (k := 123) (fun w hw => by
          obtain ⟨p, hp, rfl⟩ := List.mem_map.mp hw
          exact look_len (k := 60) (by decide) (hb p hp).1 (hb p hp).2) (by decide) (by rw [List.length_map]; omega)
      · have z := q H1 s1
        unfold wordsS at z
        rw [e] at z
        exact z
/-! ### read -/
def spSlotIn : Sp := fun vs H Q _ => ∃ n : Int, vs = [.str (intS n)] ∧ 0 ≤ n ∧ n ≤ 1000000000000000000000000000000 ∧ Q (.int n) H
theorem rim_small {n : Int} (h0 : 0 ≤ n) (h : n ≤ 1000000000000000000000000000000) : n.natAbs < 10 ^ 40 := by
  have e : (10 : Nat) ^ 40 = 10000000000000000000000000000000000000000 := by decide +kernel
  rw [e]
  omega
theorem ok_slot_in (T : Txt K mg) : FnOk P w K mg base CX0 3 T.a_slot_in T.d_slot_in ["word"] spSlotIn := by
  have G_count_in := ok_count_in (P := P) (w := w) (base := base) T
  refine T.F_slot_in.ok sc_slot_in (fun vs H Q E h => ?_) (fun cdv A outer s H vs Q E hr h => ?_)
  · obtain ⟨_, rfl, _⟩ := h
    rfl
  · obtain ⟨n, rfl, h0, hn, q⟩ := h
    refine ⟨_, (pss_cons (ps_set (i := 1) sc_slot_in.nd rfl (.inl rfl) (pe_call G_count_in hr (by rfl) T.g_count_in T.F_count_in.kp T.b_count_in .nil pass0 (pa_cons (pv 0) pa_nil)))
      (pss_one (ps_ret (pe_ifExp (PW.pt (pw_or (pt_cmpR op_isN (pv 1) pe_non (nomark _)) (pw_or1 (pt_cmpR op_gt (pv 1) (pe_glob (v := .int (1000000000000000000000000000000)) rfl T.g_MOST_LIGHT ⟨_, rfl⟩) (nomark _))))) pe_non (pv 1))))), ?_⟩
    refine ⟨.str (intS n), rfl, n, rfl, h0, rim_small h0 hn, ?_⟩
    refine ⟨.int n, rfl, rfl, _, rfl, ?_⟩
    show (if decide (V.int n = V.non) = true then _ else _)
    rw [decide_eq_false (fun e => nomatch e)]
    refine iteF ?_
    refine ⟨.int n, rfl, n, _, rfl, rfl, _, rfl, ite2 (fun h => absurd (of_decide_eq_true h) (by omega)) (fun _ => ?_)⟩
    exact ⟨.int n, rfl, q⟩
def spLookIn : Sp := fun vs H Q _ => ∃ p : Int × Int, vs = [.str (mkS (lookL p))] ∧ p.1.natAbs < 10 ^ 40 ∧ 0 ≤ p.2 ∧ p.2.natAbs < 10 ^ 40 ∧ ∀ (t : Addr) (H' : Hp), Same H H' → H' t = some (.tup [.int p.1, .int p.2]) → Q (.ref t) H'
theorem ok_look_in (T : Txt K mg) : FnOk P w K mg base CX0 3 T.a_look_in T.d_look_in ["word"] spLookIn := by
  have G_number_in := ok_number_in (P := P) (w := w) (base := base) T
  have G_count_in := ok_count_in (P := P) (w := w) (base := base) T
  refine T.F_look_in.ok sc_look_in (fun vs H Q E h => ?_) (fun cdv A outer s H vs Q E hr h => ?_)
  · obtain ⟨_, rfl, _⟩ := h
    rfl
  · obtain ⟨p, rfl, b1, b0, b2, q⟩ := h
    refine ⟨_, (pss_cons (ps_asg (pe_partition (pv 0) pe_str) (pg_tupL (K := K) (n := 3) rfl rfl (pgs_cons (pg_name (i := 1) sc_look_in.nd rfl (.inl rfl)) (pgs_cons (pg_name (i := 2) sc_look_in.nd rfl (.inl rfl)) (pgs_cons (pg_name (i := 3) sc_look_in.nd rfl (.inl rfl)) pgs_nil)))))
      (pss_cons (ps_par (i := 4) (j := 5) (by rfl) sc_look_in.nd rfl rfl (by decide) rfl rfl (pa_cons (pe_call G_number_in (hr.mono (by decide)) (by rfl) T.g_number_in T.F_number_in.kp T.b_number_in .nil pass0 (pa_cons (pv 1) pa_nil)) (pa_cons (pe_call G_count_in hr (by rfl) T.g_count_in T.F_count_in.kp T.b_count_in .nil pass0 (pa_cons (pv 3) pa_nil)) pa_nil)) (by rfl))
      (pss_one (ps_ret (pe_ifExp (PW.pt (pw_or (pt_cmpR op_isN (pv 4) pe_non (nomark _)) (pw_or1 (pt_cmpR op_isN (pv 5) pe_non (nomark _))))) pe_non (pe_tup (pa_cons (pv 4) (pa_cons (pv 5) pa_nil)))))))), ?_⟩
    have ll := look_len (k := 40) (by decide) b1 b2
    refine ⟨.str (mkS (lookL p)), rfl, ⟨_, rfl⟩, mkS (lookL p), mkS [61], rfl, by rw [cEq], rfl, by rw [mk_len]; exact spl_le ll (by decide), fun t ht => ?_⟩
    rw [look_cut]
    have s1 := new_same (o := .tup [.str (intS p.1), .str (mkS [61]), .str (intS p.2)]) ht
    refine ⟨t, _, rfl, SqT.of upd_same, rfl, _, _, rfl, _, _, rfl, _, _, rfl, rfl, ?_⟩
    refine ⟨.str (intS p.1), rfl, p.1, rfl, b1, .str (intS p.2), rfl, p.2, rfl, b0, b2, _, _, rfl, ?_⟩
    refine ⟨.int p.1, rfl, rfl, _, rfl, ?_⟩
    show (if decide (V.int p.1 = V.non) = true then _ else _)
    rw [decide_eq_false (fun e => nomatch e)]
    refine iteF ?_
    refine ⟨.int p.2, rfl, rfl, _, rfl, ?_⟩
    show (if decide (V.int p.2 = V.non) = true then _ else _)
    rw [decide_eq_false (fun e => nomatch e)]
    refine iteF ?_
    refine ⟨.int p.1, rfl, .int p.2, rfl, (by show 2 ≤ sizeLine; decide), fun t2 ht2 => ?_⟩
    exact q t2 _ (s1.trans (new_same ht2)) upd_same
def spCheckText : Sp := fun vs H Q _ => ∃ x : Str, vs = [.str x] ∧ Q .non H
theorem kit_str_str {K : PySem.W.Frag} : PySem.W.kitOne K (.type "str") (.type "str") = some true := kit_ty (by decide +kernel)
theorem ok_check_text (T : Txt K mg) : FnOk P w K mg base CX0 1 T.a_check_text T.d_check_text ["text"] spCheckText := by
  refine T.F_check_text.ok sc_check_text (fun vs H Q E h => ?_) (fun cdv A outer s H vs Q E hr h => ?_)
  · obtain ⟨_, rfl, _⟩ := h
    rfl
  · obtain ⟨x, rfl, q⟩ := h
    refine ⟨_, (pss_one (ps_if (pt_not (pt_val (pe_callB (isiL (K := K) rfl) (by rfl) T.n_isinstance (by decide +kernel) (pa_cons (pv 0) (pa_cons (pe_bltn (v := .ty "str") (u := Value.type "str") rfl T.n_str (by decide +kernel) rfl) pa_nil))))) (pss_one ps_never) pss_nil)), ?_⟩
    exact ⟨.str x, rfl, .str x, .ty "str", _, _, true, rfl, .ty _, .base (.str x), kit_str_str, true, rfl, iteF q⟩
/-- all tuples are as they were -/
def SameT (H1 H2 : Hp) : Prop := ∀ b xs, H1 b = some (.tup xs) → H2 b = some (.tup xs)
theorem SameT.of {H1 H2 : Hp} (s : Same H1 H2) : SameT H1 H2 := fun b xs e => s _ _ e
theorem SameT.trans {H1 H2 H3 : Hp} (a : SameT H1 H2) (b : SameT H2 H3) : SameT H1 H3 := fun c xs e => b c xs (a c xs e)
theorem SameT.put {H : Hp} {D : Addr} {us : List V} {o : HO} (e : H D = some (.lst us)) : SameT H (upd H D o) := fun b xs h => by
  rw [upd_ne (fun z => by rw [z, e] at h; cases h)]
  exact h
/-- what the words are read as -/
def spParse (P : Program) (w : World) (K : PySem.W.Frag) (mg : Str → Option Value) (base : Heap) : Sp := fun vs H Q _ => ∃ (f : Addr) (m : Int) (ws : List (List Nat)) (spW : Sp) (R : List Nat → V → Hp → Prop),
  vs = [.str (wordsS ws), .ref f, .int m] ∧ FnR P w K mg base CX0 4 f spW ∧ PySem.W.keepIn K (.ref f) = true ∧ ws ≠ [] ∧ (∀ x ∈ ws, 32 ∉ x ∧ x.length ≤ 200) ∧ (ws.length : Int) ≤ m ∧ ws.length ≤ 100 ∧
  (∀ x v H1 H2, R x v H1 → SameT H1 H2 → R x v H2) ∧ (∀ x v H1, R x v H1 → v ≠ .non) ∧
  (∀ x ∈ ws, ∀ (H1 : Hp) (Q1 : VK), (∀ v H2, Same H1 H2 → R x v H2 → Q1 v H2) → spW [.str (mkS x)] H1 Q1 E0) ∧
  ∀ (l : Addr) (us : List V) (H' : Hp), Same H H' → H l = none → H' l = some (.lst us) → us.length = ws.length → (∀ (i : Nat) (x : List Nat) (v : V), ws[i]? = some x → us[i]? = some v → R x v H') → Q (.ref l) H'
theorem strs_at {l : List Str} {i : Nat} {x : V} (h : (l.map V.str)[i]? = some x) : ∃ y, l[i]? = some y ∧ x = .str y := by
  rw [List.getElem?_map] at h
  cases e : l[i]? with
  | none =>
    rw [e] at h
    cases h
  | some n =>
    rw [e] at h
    exact ⟨n, rfl, (Option.some.inj h).symm⟩
theorem ok_parse_words (T : Txt K mg) : FnOk P w K mg base CX0 5 T.a_parse_words T.d_parse_words ["text", "value_in", "most"] (spParse P w K mg base) := by
  refine T.F_parse_words.ok sc_parse_words (fun vs H Q E h => ?_) (fun cdv A outer s H vs Q E hr h => ?_)
  · obtain ⟨_, _, _, _, _, rfl, _⟩ := h
    rfl
  · obtain ⟨f, m, ws, spW, R, rfl, Fv, hkv, hne, hfree, hm, hl, hst, hnn, hsp, q⟩ := h
    have hrv := hr
    refine ⟨_, (pss_cons (ps_set (i := 3) sc_parse_words.nd rfl (.inl rfl) (pe_lst pa_nil))
      (pss_cons (ps_for PassesOwn.never rfl (enumL (K := K) rfl (by rfl) T.n_enumerate (pa_cons (pe_split (pv 0) pe_str) pa_nil)) (pg_tupL (K := K) (n := 2) rfl rfl (pgs_cons (pg_name (i := 4) sc_parse_words.nd rfl (.inl rfl)) (pgs_cons (pg_name (i := 5) sc_parse_words.nd rfl (.inl rfl)) pgs_nil))) (pss_cons (ps_set (i := 6) sc_parse_words.nd rfl (.inl rfl) (ItX.pe_callV (i := 1) Fv hrv hkv pass0 rfl (.inl rfl) (pa_cons (pv 5) pa_nil)))
      (pss_cons (ps_if (PW.pt (pw_or (pt_cmpR op_isN (pv 6) pe_non (nomark _)) (pw_or1 (pt_cmpR op_ge (pv 4) (pv 2) (nomark _))))) (pss_one ps_never) pss_nil)
      (pss_one (ps_expr (pe_bm PySem.F.plainAttrs_list PySem.F.slot_list_append PySem.F.type_list_append mt_append (pv 3) (pa_cons (pv 6) pa_nil)))))))
      (pss_one (ps_ret (pv 3))))), ?_⟩
    refine ⟨(by show 0 ≤ sizeLine; decide), fun D hD => ?_⟩
    have wl := words_len (k := 200) (fun x hx => (hfree x hx).2)
    have wl2 : (wordsS ws).length + 2 ≤ sizeLine := spl_le (k := 30000) (by omega) (by decide)
    refine ⟨.str (wordsS ws), rfl, ⟨_, rfl⟩, wordsS ws, spS, rfl, congrArg (fun z => [V.str z]) cSp, by decide +kernel, wl2, fun L hL => ?_⟩
    rw [words_split hne (fun x hx => (hfree x hx).1)]
    have s1 := (new_same (o := .lst []) hD).trans (new_same (o := .lst ((ws.map mkS).map V.str)) hL)
    have gD := new_same (o := .lst ((ws.map mkS).map V.str)) hL _ _ (upd_same (H := H) (a := D) (o := .lst []))
    have gL : (upd (upd H D (.lst [])) L (.lst ((ws.map mkS).map V.str))) L = some (.lst ((ws.map mkS).map V.str)) := upd_same
    generalize upd (upd H D (.lst [])) L (.lst ((ws.map mkS).map V.str)) = H1 at s1 gD gL ⊢
    have nDL : L ≠ D := fun e => by
      rw [e] at gL
      rw [gL] at gD
      have := HO.lst.inj (Option.some.inj gD)
      rw [List.map_eq_nil_iff, List.map_eq_nil_iff] at this
      exact hne this
    refine ⟨L, _, rfl, SqL.of gL, for_it (walk_enum (K := K) (xs := (ws.map mkS).map V.str)) (fun i σ H' => ∃ (y4 y5 y6 : Option V) (us : List V), σ = [some (.str (wordsS ws)), some (.ref f), some (.int m), some (.ref D), y4, y5, y6] ∧ Same H H' ∧ H' L = some (.lst ((ws.map mkS).map V.str)) ∧ H' D = some (.lst us) ∧ us.length = i ∧
        ∀ (j : Nat) (x : List Nat) (v : V), ws[j]? = some x → us[j]? = some v → R x v H')
      ⟨none, none, none, [], rfl, s1, gL, gD, rfl, fun j x v _ e => nomatch e⟩ (fun i σ H' _ ⟨_, _, _, _, _, _, g, _⟩ => SqL.of g) (fun i x σ H2 H3 hi hP hY => ?_) (fun σ H2 hP => ?_)⟩
    · obtain ⟨y4, y5, y6, us, rfl, s2, gL2, gD2, hul, hR⟩ := hP
      obtain ⟨p, z1, z2, rfl, hp, rfl, e3, e4⟩ := hY
      have e3 : V.int (i : Int) = z1 := Option.some.inj e3
      subst e3
      obtain ⟨y, hy, rfl⟩ := strs_at e4
      rw [List.getElem?_map] at hy
      obtain ⟨x, hx, rfl⟩ : ∃ x, ws[i]? = some x ∧ y = mkS x := by
        cases e : ws[i]? with
        | none => rw [e] at hy; cases hy
        | some x => rw [e] at hy; exact ⟨x, rfl, (Option.some.inj hy).symm⟩
      have hiw : i < ws.length := (List.getElem?_eq_some_iff.mp hx).1
      refine ⟨p, _, rfl, SqT.of upd_same, rfl, _, _, rfl, _, _, rfl, rfl, ?_⟩
      have s3 := new_same (o := .tup [.int i, .str (mkS x)]) hp
      refine ⟨rfl, .str (mkS x), rfl, hsp x (List.mem_of_getElem? hx) _ _ fun v H4 s4 hv => ?_⟩
      have hvn := hnn _ _ _ hv
      have s34 := s3.trans s4
      refine ⟨v, rfl, ?_⟩
      refine ⟨rfl, _, rfl, ?_⟩
      show (if decide (v = V.non) = true then _ else _)
      rw [decide_eq_false hvn]
      refine iteF ?_
      refine ⟨.int i, rfl, .int m, rfl, i, m, rfl, rfl, _, rfl, ite2 (fun h => absurd (of_decide_eq_true h) (by omega)) (fun _ => ?_)⟩
      have gD4 := s34 _ _ gD2
      refine ⟨.ref D, rfl, .inl ⟨rfl, _, SqL.of gD4⟩, v, rfl, D, _, _, rfl, rfl, gD4, by rw [hul]; exact sz40 (by omega), ?_⟩
      refine ⟨_, _, _, us ++ [v], rfl, same_over (s2.trans s34) hD, ?_, upd_same, by rw [List.length_append, hul]; rfl, fun j x' v' hx' hv' => ?_⟩
      · rw [upd_ne nDL]
        exact s34 _ _ gL2
      · have sp := SameT.put (o := .lst (us ++ [v])) gD4
        rcases Nat.lt_or_ge j us.length with z | z
        · rw [List.getElem?_append_left z] at hv'
          exact hst _ _ _ _ (hR j x' v' hx' hv') ((SameT.of s34).trans sp)
        · have ej : j = i := by
            have := (List.getElem?_eq_some_iff.mp hv').1
            rw [List.length_append] at this
            have : j < us.length + 1 := this
            omega
          subst ej
          rw [hx] at hx'
          cases hx'
          rw [← hul, List.getElem?_concat_length] at hv'
          cases hv'
          exact hst _ _ _ _ hv sp
    · obtain ⟨y4, y5, y6, us, rfl, s2, gL2, gD2, hul, hR⟩ := hP
      rw [List.length_map, List.length_map] at hul
      exact ⟨.ref D, rfl, q D us H2 s2 hD gD2 hul hR⟩
theorem intL_inj {m n : Int} (hm : m.natAbs < 10 ^ 600) (hn : n.natAbs < 10 ^ 600) (h : intL m = intL n) : m = n := by
  have e1 := int_reads hm
  have e2 := int_reads hn
  unfold intS at e1 e2
  rw [h, e2] at e1
  exact (Option.some.inj e1).symm
theorem ten_up {n : Int} {a b : Nat} (h : n.natAbs < 10 ^ a) (hab : a ≤ b) : n.natAbs < 10 ^ b := Nat.lt_of_lt_of_le h (Nat.pow_le_pow_right (by decide) hab)
def readI (x : List Nat) (v : V) (_ : Hp) : Prop := ∃ n : Int, x = intL n ∧ n.natAbs < 10 ^ 600 ∧ v = .int n
theorem read_ints {ns : List Int} {us : List V} {H : Hp} (hb : ∀ n ∈ ns, n.natAbs < 10 ^ 600) (hl : us.length = (ns.map intL).length)
    (h : ∀ (i : Nat) (x : List Nat) (v : V), (ns.map intL)[i]? = some x → us[i]? = some v → readI x v H) : us = ns.map V.int := by
  rw [List.length_map] at hl
  refine List.ext_getElem? fun i => ?_
  by_cases hi : i < ns.length
  · have e1 : ns[i]? = some ns[i] := List.getElem?_eq_getElem hi
    have e2 : us[i]? = some us[i] := List.getElem?_eq_getElem (by omega)
    obtain ⟨n, en, hn, ev⟩ := h i (intL ns[i]) us[i] (by rw [List.getElem?_map, e1]; rfl) e2
    have := intL_inj (hb _ (List.getElem_mem hi)) hn en
    rw [e2, ev, List.getElem?_map, e1, ← this]
    rfl
  · rw [List.getElem?_eq_none (by omega), List.getElem?_eq_none (by rw [List.length_map]; omega)]
theorem int_word {n : Int} {k : Nat} (h : n.natAbs < 10 ^ k) (hk : 0 < k) (hk2 : k ≤ 100) : 32 ∉ intL n ∧ (intL n).length ≤ 200 := ⟨intL_free (.inl (by decide)) (by decide), by have := intL_len hk h; omega⟩
def spParseDisc : Sp := fun vs H Q _ => ∃ ns : List Int, vs = [.str (wordsS (ns.map intL))] ∧ Rim ns ∧ ∀ (l : Addr) (H' : Hp), Same H H' → H l = none → H' l = some (.lst (ns.map V.int)) → Q (.ref l) H'
theorem ok_parse_disc (T : Txt K mg) : FnOk P w K mg base CX0 6 T.a_parse_disc T.d_parse_disc ["text"] spParseDisc := by
  have G_check_text := ok_check_text (P := P) (w := w) (base := base) T
  have G_parse_words := ok_parse_words (P := P) (w := w) (base := base) T
  have G_slot_in := ok_slot_in (P := P) (w := w) (base := base) T
  refine T.F_parse_disc.ok sc_parse_disc (fun vs H Q E h => ?_) (fun cdv A outer s H vs Q E hr h => ?_)
  · obtain ⟨_, rfl, _⟩ := h
    rfl
  · obtain ⟨ns, rfl, hR, q⟩ := h
    refine ⟨_, (pss_cons (ps_expr (pe_call G_check_text (hr.mono (by decide)) (by rfl) T.g_check_text T.F_check_text.kp T.b_check_text .nil pass0 (pa_cons (pv 0) pa_nil)))
      (pss_one (ps_ret (pe_call G_parse_words hr (by rfl) T.g_parse_words T.F_parse_words.kp T.b_parse_words .nil pass0 (pa_cons (pv 0) (pa_cons (pe_glob (v := .ref T.a_slot_in) rfl T.g_slot_in rfl) (pa_cons (pe_glob (v := .int (40)) rfl T.g_MOST_SLOTS ⟨_, rfl⟩) pa_nil))))))), ?_⟩
    have l40 := hR.le
    have lp := hR.pos
    have hb : ∀ n ∈ ns, n.natAbs < 10 ^ 40 := fun n hn => rim_small (hR.all n hn).1 (hR.all n hn).2
    refine ⟨.str _, rfl, _, rfl, ?_⟩
    refine ⟨.str _, rfl, T.a_slot_in, 40, ns.map intL, spSlotIn, readI, rfl, ((G_slot_in.raw T.b_slot_in .nil).imp fun vs H Q E h => by rw [List.append_nil]; exact h).mono (by decide), T.F_slot_in.kp, ?_, ?_, ?_, ?_, ?_, ?_, ?_, ?_⟩
    · intro e
      rw [List.map_eq_nil_iff.mp e] at lp
      cases lp
    · intro x hx
      obtain ⟨n, hn, rfl⟩ := List.mem_map.mp hx
      exact int_word (hb n hn) (by decide) (by decide)
    · rw [List.length_map]
      omega
    · rw [List.length_map]
      omega
    · exact fun x v H1 H2 h _ => h
    · rintro x v H1 ⟨n, _, _, rfl⟩
      exact fun e => nomatch e
    · intro x hx H1 Q1 hq
      obtain ⟨n, hn, rfl⟩ := List.mem_map.mp hx
      exact ⟨n, rfl, (hR.all n hn).1, (hR.all n hn).2, hq _ _ (Same.refl H1) ⟨n, rfl, ten_up (hb n hn) (by decide), rfl⟩⟩
    · intro l us H' s f e hl hr
      have eu := read_ints (fun n hn => ten_up (hb n hn) (by decide)) hl hr
      subst eu
      exact q l H' s f e
def spParseRow : Sp := fun vs H Q _ => ∃ ns : List Int, vs = [.str (wordsS (ns.map intL))] ∧ (∀ n ∈ ns, n.natAbs < 10 ^ 40) ∧ 1 ≤ ns.length ∧ ns.length ≤ 40 ∧ ∀ (l : Addr) (H' : Hp), Same H H' → H l = none → H' l = some (.lst (ns.map V.int)) → Q (.ref l) H'
theorem ok_parse_row (T : Txt K mg) : FnOk P w K mg base CX0 6 T.a_parse_row T.d_parse_row ["text"] spParseRow := by
  have G_check_text := ok_check_text (P := P) (w := w) (base := base) T
  have G_parse_words := ok_parse_words (P := P) (w := w) (base := base) T
  have G_number_in := ok_number_in (P := P) (w := w) (base := base) T
  refine T.F_parse_row.ok sc_parse_row (fun vs H Q E h => ?_) (fun cdv A outer s H vs Q E hr h => ?_)
  · obtain ⟨_, rfl, _⟩ := h
    rfl
  · obtain ⟨ns, rfl, hb, lp, l40, q⟩ := h
    refine ⟨_, (pss_cons (ps_expr (pe_call G_check_text (hr.mono (by decide)) (by rfl) T.g_check_text T.F_check_text.kp T.b_check_text .nil pass0 (pa_cons (pv 0) pa_nil)))
      (pss_one (ps_ret (pe_call G_parse_words hr (by rfl) T.g_parse_words T.F_parse_words.kp T.b_parse_words .nil pass0 (pa_cons (pv 0) (pa_cons (pe_glob (v := .ref T.a_number_in) rfl T.g_number_in rfl) (pa_cons (pe_glob (v := .int (40)) rfl T.g_MOST_SLOTS ⟨_, rfl⟩) pa_nil))))))), ?_⟩
    refine ⟨.str _, rfl, _, rfl, ?_⟩
    refine ⟨.str _, rfl, T.a_number_in, 40, ns.map intL, spNumIn, readI, rfl, ((G_number_in.raw T.b_number_in .nil).imp fun vs H Q E h => by rw [List.append_nil]; exact h).mono (by decide), T.F_number_in.kp, ?_, ?_, ?_, ?_, ?_, ?_, ?_, ?_⟩
    · intro e
      rw [List.map_eq_nil_iff.mp e] at lp
      cases lp
    · intro x hx
      obtain ⟨n, hn, rfl⟩ := List.mem_map.mp hx
      exact int_word (hb n hn) (by decide) (by decide)
    · rw [List.length_map]
      omega
    · rw [List.length_map]
      omega
    · exact fun x v H1 H2 h _ => h
    · rintro x v H1 ⟨n, _, _, rfl⟩
      exact fun e => nomatch e
    · intro x hx H1 Q1 hq
      obtain ⟨n, hn, rfl⟩ := List.mem_map.mp hx
      exact ⟨n, rfl, hb n hn, hq _ _ (Same.refl H1) ⟨n, rfl, ten_up (hb n hn) (by decide), rfl⟩⟩
    · intro l us H' s f e hl hr
      have eu := read_ints (fun n hn => ten_up (hb n hn) (by decide)) hl hr
      subst eu
      exact q l H' s f e
def readP (x : List Nat) (v : V) (H : Hp) : Prop := ∃ p : Int × Int, x = lookL p ∧ (p.1.natAbs < 10 ^ 600 ∧ p.2.natAbs < 10 ^ 600) ∧ ∃ t, v = .ref t ∧ H t = some (.tup [.int p.1, .int p.2])
theorem look_inj {p r : Int × Int} (hp : p.1.natAbs < 10 ^ 600 ∧ p.2.natAbs < 10 ^ 600) (hr : r.1.natAbs < 10 ^ 600 ∧ r.2.natAbs < 10 ^ 600) (h : lookL p = lookL r) : p = r := by
  have e1 := look_cut p
  rw [h, look_cut r] at e1
  have a := (mk_inj.mp (Prod.mk.inj e1).1)
  have b := (mk_inj.mp (Prod.mk.inj (Prod.mk.inj e1).2).2)
  exact Prod.ext (intL_inj hp.1 hr.1 a.symm) (intL_inj hp.2 hr.2 b.symm)
theorem read_looks {H : Hp} : ∀ {ps : List (Int × Int)} {us : List V}, (∀ p ∈ ps, p.1.natAbs < 10 ^ 600 ∧ p.2.natAbs < 10 ^ 600) → us.length = (ps.map lookL).length →
    (∀ (i : Nat) (x : List Nat) (v : V), (ps.map lookL)[i]? = some x → us[i]? = some v → readP x v H) → Prs H us ps
  | [], [], _, _, _ => .nil
  | [], _ :: _, _, hl, _ => nomatch hl
  | _ :: _, [], _, hl, _ => nomatch hl
  | p :: ps, u :: us, hb, hl, h => by
    obtain ⟨r, er, hr, t, rfl, et⟩ := h 0 (lookL p) u rfl rfl
    have e := look_inj (hb p List.mem_cons_self) hr er
    subst e
    exact .cons et (read_looks (fun p hp => hb p (List.mem_cons_of_mem _ hp)) (Nat.succ.inj hl) fun i x v hx hv => h (i + 1) x v hx hv)
def spParseLooks : Sp := fun vs H Q _ => ∃ ps : List (Int × Int), vs = [.str (wordsS (ps.map lookL))] ∧ (∀ p ∈ ps, p.1.natAbs < 10 ^ 40 ∧ 0 ≤ p.2 ∧ p.2.natAbs < 10 ^ 40) ∧ ps.length ≤ 40 ∧
  ∀ (l : Addr) (us : List V) (H' : Hp), Same H H' → H l = none → H' l = some (.lst us) → Prs H' us ps → Q (.ref l) H'
theorem ok_parse_looks (T : Txt K mg) : FnOk P w K mg base CX0 6 T.a_parse_looks T.d_parse_looks ["text"] spParseLooks := by
  have G_check_text := ok_check_text (P := P) (w := w) (base := base) T
  have G_parse_words := ok_parse_words (P := P) (w := w) (base := base) T
  have G_look_in := ok_look_in (P := P) (w := w) (base := base) T
  refine T.F_parse_looks.ok sc_parse_looks (fun vs H Q E h => ?_) (fun cdv A outer s H vs Q E hr h => ?_)
  · obtain ⟨_, rfl, _⟩ := h
    rfl
  · obtain ⟨ps, rfl, hb, l40, q⟩ := h
    refine ⟨_, (pss_cons (ps_expr (pe_call G_check_text (hr.mono (by decide)) (by rfl) T.g_check_text T.F_check_text.kp T.b_check_text .nil pass0 (pa_cons (pv 0) pa_nil)))
      (pss_cons (ps_if (pt_cmpR op_eq (pv 0) pe_str (nomark _)) (pss_one (ps_ret (pe_lst pa_nil))) pss_nil)
      (pss_one (ps_ret (pe_call G_parse_words hr (by rfl) T.g_parse_words T.F_parse_words.kp T.b_parse_words .nil pass0 (pa_cons (pv 0) (pa_cons (pe_glob (v := .ref T.a_look_in) rfl T.g_look_in rfl) (pa_cons (pe_glob (v := .int (40)) rfl T.g_MOST_LOOKS ⟨_, rfl⟩) pa_nil)))))))), ?_⟩
    refine ⟨.str _, rfl, _, rfl, ?_⟩
    refine ⟨.str _, rfl, rfl, _, rfl, ?_⟩
    rw [cNone]
    cases ps with
    | nil =>
      have e : V.str (wordsS (([] : List (Int × Int)).map lookL)) = V.str (mkS []) := by
        show V.str (Txt.join spS []) = _
        rw [join_none]
      rw [decide_eq_true e]
      refine iteT ?_
      refine ⟨(by show 0 ≤ sizeLine; decide), fun l hl => ?_⟩
      exact q l [] _ (new_same hl) hl upd_same .nil
    | cons p ps =>
      have e : ¬ V.str (wordsS ((p :: ps).map lookL)) = V.str (mkS []) := fun z => by
        have z2 := congrArg TL.tl (V.str.inj z)
        rw [tl_words] at z2
        have z3 : TL.joinL [32] ((p :: ps).map lookL) = [] := z2
        have ne : lookL p ≠ [] := fun y => by
          unfold lookL at y
          exact absurd (List.append_eq_nil_iff.mp y).2 (fun y => nomatch y)
        cases ps with
        | nil => exact ne z3
        | cons r rs => exact ne (List.append_eq_nil_iff.mp z3).1
      rw [decide_eq_false e]
      refine iteF ?_
      refine ⟨.str _, rfl, T.a_look_in, 40, (p :: ps).map lookL, spLookIn, readP, rfl, ((G_look_in.raw T.b_look_in .nil).imp fun vs H Q E h => by rw [List.append_nil]; exact h).mono (by decide), T.F_look_in.kp, ?_, ?_, ?_, ?_, ?_, ?_, ?_, ?_⟩
      · exact fun z => nomatch z
      · intro x hx
        obtain ⟨r, hr, rfl⟩ := List.mem_map.mp hx
        obtain ⟨b1, b0, b2⟩ := hb r hr
        exact ⟨look_free r, by have := look_len (k := 40) (by decide) b1 b2; omega⟩
      · rw [List.length_map]
        omega
      · rw [List.length_map]
        omega
      · rintro x v H1 H2 ⟨r, er, hr, t, ev, et⟩ s
        exact ⟨r, er, hr, t, ev, s _ _ et⟩
      · rintro x v H1 ⟨r, _, _, t, rfl, _⟩
        exact fun e => nomatch e
      · intro x hx H1 Q1 hq
        obtain ⟨r, hr, rfl⟩ := List.mem_map.mp hx
        obtain ⟨b1, b0, b2⟩ := hb r hr
        exact ⟨r, rfl, b1, b0, b2, fun t H' s e => hq _ _ s ⟨r, rfl, ⟨ten_up b1 (by decide), ten_up b2 (by decide)⟩, t, rfl, e⟩⟩
      · intro l us H' s f e hl hr
        exact q l us H' s f e (read_looks (fun r hr => ⟨ten_up (hb r hr).1 (by decide), ten_up (hb r hr).2.2 (by decide)⟩) hl hr)

/-! ### the law's texts -/
inductive Txs (H : Hp) : List V → List (List Int) → Prop
  | nil : Txs H [] []
  | cons {p a : Addr} {ns : List Int} {vs : List V} {S : List (List Int)} (h : H p = some (.tup [.ref a, .str (wordsS (ns.map intL))])) (g : H a = some (.lst (ns.map V.int))) (r : Txs H vs S) : Txs H (.ref p :: vs) (ns :: S)
theorem Txs.up {H H1 : Hp} {vs : List V} {S : List (List Int)} (h : Txs H vs S) (s : Same H H1) : Txs H1 vs S := by
  induction h with
  | nil => exact .nil
  | cons h g _ ih => exact .cons (s _ _ h) (s _ _ g) ih
theorem Txs.at {H : Hp} {vs : List V} {S : List (List Int)} (h : Txs H vs S) : ∀ {i : Nat} {v : V}, vs[i]? = some v → ∃ p a ns, v = .ref p ∧ ns ∈ S ∧ H p = some (.tup [.ref a, .str (wordsS (ns.map intL))]) ∧ H a = some (.lst (ns.map V.int)) := by
  induction h with
  | nil => exact fun e => nomatch e
  | cons h g _ ih =>
    intro i v e
    cases i with
    | zero => exact ⟨_, _, _, (Option.some.inj e).symm, List.mem_cons_self, h, g⟩
    | succ i =>
      obtain ⟨p, a, ns, e1, e2, e3⟩ := ih e
      exact ⟨p, a, ns, e1, List.mem_cons_of_mem _ e2, e3⟩
inductive Lks (H : Hp) : List V → List (List (Int × Int)) → Prop
  | nil : Lks H [] []
  | cons {p a : Addr} {ps : List (Int × Int)} {us vs : List V} {S : List (List (Int × Int))} (h : H p = some (.tup [.ref a, .str (wordsS (ps.map lookL))])) (g : H a = some (.lst us)) (k : Prs H us ps) (r : Lks H vs S) : Lks H (.ref p :: vs) (ps :: S)
theorem Lks.at {H : Hp} {vs : List V} {S : List (List (Int × Int))} (h : Lks H vs S) : ∀ {i : Nat} {v : V}, vs[i]? = some v → ∃ p a ps us, v = .ref p ∧ ps ∈ S ∧ H p = some (.tup [.ref a, .str (wordsS (ps.map lookL))]) ∧ H a = some (.lst us) ∧ Prs H us ps := by
  induction h with
  | nil => exact fun e => nomatch e
  | cons h g k _ ih =>
    intro i v e
    cases i with
    | zero => exact ⟨_, _, _, _, (Option.some.inj e).symm, List.mem_cons_self, h, g, k⟩
    | succ i =>
      obtain ⟨p, a, ps, us, e1, e2, e3⟩ := ih e
      exact ⟨p, a, ps, us, e1, List.mem_cons_of_mem _ e2, e3⟩
def rims49 : List (List Int) := [[0, 1, 1, 12], [0], [10 ^ (30 : Int).toNat], List.replicate 40 1, [5, 0, 20, 100]]
def lines49 : List (List Int) := [[2, -1, 0], [-10], [0 - 10 ^ (39 : Int).toNat, 1], [0, 0], List.replicate 40 (-1)]
def notes49 : List (List (Int × Int)) := [[], [(0, 3), (-5, 1)], [(10, 0)], List.replicate 40 (7, 7), [(0 - 10 ^ (39 : Int).toNat, 10 ^ (39 : Int).toNat)]]
def spRims (S : List (List Int)) : Sp := fun vs H Q _ => vs = [] ∧ ∀ (l : Addr) (us : List V) (H' : Hp), Same H H' → H' l = some (.lst us) → Txs H' us S → Q (.ref l) H'
def spNotes : Sp := fun vs H Q _ => vs = [] ∧ ∀ (l : Addr) (us : List V) (H' : Hp), Same H H' → H' l = some (.lst us) → Lks H' us notes49 → Q (.ref l) H'
theorem rep_oneW (v : V) : ∀ k : Nat, (List.replicate k [v]).flatten = List.replicate k v
  | 0 => rfl
  | k + 1 => by
    rw [List.replicate_succ, List.replicate_succ, List.flatten_cons, rep_oneW v k]
    rfl
theorem prs_rep {H : Hp} {t : Addr} {p : Int × Int} (h : H t = some (.tup [.int p.1, .int p.2])) : ∀ k : Nat, Prs H (List.replicate k (.ref t)) (List.replicate k p)
  | 0 => .nil
  | k + 1 => .cons h (prs_rep h k)
theorem ok_law_rims (T : Txt K mg) : FnOk P w K mg base CX0 1 T.a_law_rims T.d_law_rims [] (spRims rims49) := by
  refine T.F_law_rims.ok sc_law_rims (fun vs H Q E h => ?_) (fun cdv A outer s H vs Q E hr h => ?_)
  · obtain ⟨rfl, _⟩ := h
    rfl
  · obtain ⟨rfl, q⟩ := h
    refine ⟨_, (pss_cons (ps_set (i := 0) sc_law_rims.nd rfl (.inl rfl) (pe_lst (pa_cons (pe_tup (pa_cons (pe_lst (pa_cons pe_int (pa_cons pe_int (pa_cons pe_int (pa_cons pe_int pa_nil))))) (pa_cons pe_str pa_nil))) (pa_cons (pe_tup (pa_cons (pe_lst (pa_cons pe_int pa_nil)) (pa_cons pe_str pa_nil))) (pa_cons (pe_tup (pa_cons (pe_lst (pa_cons (pe_op op_pow pe_int pe_int) pa_nil)) (pa_cons (pe_op op_add_str pe_str (pe_op op_mulS pe_str pe_int)) pa_nil))) (pa_cons (pe_tup (pa_cons (pe_op op_rep (pe_lst (pa_cons pe_int pa_nil)) pe_int) (pa_cons (pe_op op_add_str (pe_op op_mulS pe_str pe_int) pe_str) pa_nil))) pa_nil))))))
      (pss_one (ps_ret (pe_op op_cat (pv 0) (pe_lst (pa_cons (pe_tup (pa_cons (pe_lst (pa_cons pe_int (pa_cons pe_int (pa_cons pe_int (pa_cons pe_int pa_nil))))) (pa_cons pe_str pa_nil))) pa_nil)))))), ?_⟩
    have s0 := Same.refl H
    refine ⟨(by show 4 ≤ sizeLine; decide), fun a1 h1 => ?_⟩
    have sN : Same H (upd H a1 (.lst [.int 0, .int 1, .int 1, .int 12])) := (new_same (H := H) (o := .lst [.int 0, .int 1, .int 1, .int 12]) h1)
    have g_a1 : (upd H a1 (.lst [.int 0, .int 1, .int 1, .int 12])) a1 = some (.lst (([0, 1, 1, 12] : List Int).map V.int)) := by exact upd_same
    have s0 := s0.trans sN
    generalize upd H a1 (.lst [.int 0, .int 1, .int 1, .int 12]) = H1 at s0 g_a1 ⊢
    clear sN
    refine ⟨(by show 2 ≤ sizeLine; decide), fun p1 k1 => ?_⟩
    have sN : Same H1 (upd H1 p1 (.tup [.ref a1, .str (Str.ofString "0 1 1 12")])) := (new_same (H := H1) (o := .tup [.ref a1, .str (Str.ofString "0 1 1 12")]) k1)
    have g_a1 := sN _ _ g_a1
    have g_p1 : (upd H1 p1 (.tup [.ref a1, .str (Str.ofString "0 1 1 12")])) p1 = some (.tup [.ref a1, .str (wordsS (([0, 1, 1, 12] : List Int).map intL))]) := by rw [upd_same, show Str.ofString "0 1 1 12" = wordsS (([0, 1, 1, 12] : List Int).map intL) from TL.ext_tl (by decide +kernel)]
    have s0 := s0.trans sN
    generalize upd H1 p1 (.tup [.ref a1, .str (Str.ofString "0 1 1 12")]) = H2 at s0 g_a1 g_p1 ⊢
    clear sN
    refine ⟨(by show 1 ≤ sizeLine; decide), fun a2 h2 => ?_⟩
    have sN : Same H2 (upd H2 a2 (.lst [.int 0])) := (new_same (H := H2) (o := .lst [.int 0]) h2)
    have g_a1 := sN _ _ g_a1
    have g_p1 := sN _ _ g_p1
    have g_a2 : (upd H2 a2 (.lst [.int 0])) a2 = some (.lst (([0] : List Int).map V.int)) := by exact upd_same
    have s0 := s0.trans sN
    generalize upd H2 a2 (.lst [.int 0]) = H3 at s0 g_a1 g_p1 g_a2 ⊢
    clear sN
    refine ⟨(by show 2 ≤ sizeLine; decide), fun p2 k2 => ?_⟩
    have sN : Same H3 (upd H3 p2 (.tup [.ref a2, .str (Str.ofString "0")])) := (new_same (H := H3) (o := .tup [.ref a2, .str (Str.ofString "0")]) k2)
    have g_a1 := sN _ _ g_a1
    have g_p1 := sN _ _ g_p1
    have g_a2 := sN _ _ g_a2
    have g_p2 : (upd H3 p2 (.tup [.ref a2, .str (Str.ofString "0")])) p2 = some (.tup [.ref a2, .str (wordsS (([0] : List Int).map intL))]) := by rw [upd_same, show Str.ofString "0" = wordsS (([0] : List Int).map intL) from TL.ext_tl (by decide +kernel)]
    have s0 := s0.trans sN
    generalize upd H3 p2 (.tup [.ref a2, .str (Str.ofString "0")]) = H4 at s0 g_a1 g_p1 g_a2 g_p2 ⊢
    clear sN
    refine ⟨10, 30, rfl, rfl, ⟨by decide, by decide, by decide⟩, (by show 1 ≤ sizeLine; decide), fun a3 h3 => ?_⟩
    have sN : Same H4 (upd H4 a3 (.lst [.int (10 ^ (30 : Int).toNat)])) := (new_same (H := H4) (o := .lst [.int (10 ^ (30 : Int).toNat)]) h3)
    have g_a1 := sN _ _ g_a1
    have g_p1 := sN _ _ g_p1
    have g_a2 := sN _ _ g_a2
    have g_p2 := sN _ _ g_p2
    have g_a3 : (upd H4 a3 (.lst [.int (10 ^ (30 : Int).toNat)])) a3 = some (.lst (([10 ^ (30 : Int).toNat] : List Int).map V.int)) := by exact upd_same
    have s0 := s0.trans sN
    generalize upd H4 a3 (.lst [.int (10 ^ (30 : Int).toNat)]) = H5 at s0 g_a1 g_p1 g_a2 g_p2 g_a3 ⊢
    clear sN
    refine ⟨_, 30, rfl, rfl, (⟨by decide, fun _ _ => by decide +kernel, fun _ _ => by decide +kernel⟩ : MulOk (Str.ofString "0") 30), _, _, rfl, rfl, by decide +kernel, ?_⟩
    refine ⟨(by show 2 ≤ sizeLine; decide), fun p3 k3 => ?_⟩
    have sN : Same H5 (upd H5 p3 (.tup [.ref a3, .str (Str.ofString "1" ++ Txt.mul (Str.ofString "0") 30)])) := (new_same (H := H5) (o := .tup [.ref a3, .str (Str.ofString "1" ++ Txt.mul (Str.ofString "0") 30)]) k3)
    have g_a1 := sN _ _ g_a1
    have g_p1 := sN _ _ g_p1
    have g_a2 := sN _ _ g_a2
    have g_p2 := sN _ _ g_p2
    have g_a3 := sN _ _ g_a3
    have g_p3 : (upd H5 p3 (.tup [.ref a3, .str (Str.ofString "1" ++ Txt.mul (Str.ofString "0") 30)])) p3 = some (.tup [.ref a3, .str (wordsS (([10 ^ (30 : Int).toNat] : List Int).map intL))]) := by rw [upd_same, show Str.ofString "1" ++ Txt.mul (Str.ofString "0") 30 = wordsS (([10 ^ (30 : Int).toNat] : List Int).map intL) from TL.ext_tl (by decide +kernel)]
    have s0 := s0.trans sN
    generalize upd H5 p3 (.tup [.ref a3, .str (Str.ofString "1" ++ Txt.mul (Str.ofString "0") 30)]) = H6 at s0 g_a1 g_p1 g_a2 g_p2 g_a3 g_p3 ⊢
    clear sN
    refine ⟨(by show 1 ≤ sizeLine; decide), fun b4 i4 => ⟨b4, 40, _, rfl, rfl, upd_same, by decide, by decide, (by show 1 * 40 ≤ sizeLine; decide), fun a4 h4 => ?_⟩⟩
    have sN : Same H6 (upd (upd H6 b4 (.lst [.int 1])) a4 (.lst (List.replicate (40 : Int).toNat [V.int 1]).flatten)) := ((new_same (H := H6) (o := .lst [.int 1]) i4).trans (new_same (H := (upd H6 b4 (.lst [.int 1]))) (o := .lst (List.replicate (40 : Int).toNat [V.int 1]).flatten) h4))
    have g_a1 := sN _ _ g_a1
    have g_p1 := sN _ _ g_p1
    have g_a2 := sN _ _ g_a2
    have g_p2 := sN _ _ g_p2
    have g_a3 := sN _ _ g_a3
    have g_p3 := sN _ _ g_p3
    have g_a4 : (upd (upd H6 b4 (.lst [.int 1])) a4 (.lst (List.replicate (40 : Int).toNat [V.int 1]).flatten)) a4 = some (.lst ((List.replicate 40 (1 : Int)).map V.int)) := by rw [upd_same, rep_one]; rfl
    have s0 := s0.trans sN
    generalize upd (upd H6 b4 (.lst [.int 1])) a4 (.lst (List.replicate (40 : Int).toNat [V.int 1]).flatten) = H7 at s0 g_a1 g_p1 g_a2 g_p2 g_a3 g_p3 g_a4 ⊢
    clear sN
    refine ⟨_, 39, rfl, rfl, (⟨by decide, fun _ _ => by decide +kernel, fun _ _ => by decide +kernel⟩ : MulOk (Str.ofString "1 ") 39), _, _, rfl, rfl, by decide +kernel, ?_⟩
    refine ⟨(by show 2 ≤ sizeLine; decide), fun p4 k4 => ?_⟩
    have sN : Same H7 (upd H7 p4 (.tup [.ref a4, .str (Txt.mul (Str.ofString "1 ") 39 ++ Str.ofString "1")])) := (new_same (H := H7) (o := .tup [.ref a4, .str (Txt.mul (Str.ofString "1 ") 39 ++ Str.ofString "1")]) k4)
    have g_a1 := sN _ _ g_a1
    have g_p1 := sN _ _ g_p1
    have g_a2 := sN _ _ g_a2
    have g_p2 := sN _ _ g_p2
    have g_a3 := sN _ _ g_a3
    have g_p3 := sN _ _ g_p3
    have g_a4 := sN _ _ g_a4
    have g_p4 : (upd H7 p4 (.tup [.ref a4, .str (Txt.mul (Str.ofString "1 ") 39 ++ Str.ofString "1")])) p4 = some (.tup [.ref a4, .str (wordsS ((List.replicate 40 (1 : Int)).map intL))]) := by rw [upd_same, show Txt.mul (Str.ofString "1 ") 39 ++ Str.ofString "1" = wordsS ((List.replicate 40 (1 : Int)).map intL) from TL.ext_tl (by decide +kernel)]
    have s0 := s0.trans sN
    generalize upd H7 p4 (.tup [.ref a4, .str (Txt.mul (Str.ofString "1 ") 39 ++ Str.ofString "1")]) = H8 at s0 g_a1 g_p1 g_a2 g_p2 g_a3 g_p3 g_a4 g_p4 ⊢
    clear sN
    refine ⟨(by show 4 ≤ sizeLine; decide), fun l0 hl0 => ?_⟩
    have sN : Same H8 (upd H8 l0 (.lst [.ref p1, .ref p2, .ref p3, .ref p4])) := (new_same (H := H8) (o := .lst [.ref p1, .ref p2, .ref p3, .ref p4]) hl0)
    have g_a1 := sN _ _ g_a1
    have g_p1 := sN _ _ g_p1
    have g_a2 := sN _ _ g_a2
    have g_p2 := sN _ _ g_p2
    have g_a3 := sN _ _ g_a3
    have g_p3 := sN _ _ g_p3
    have g_a4 := sN _ _ g_a4
    have g_p4 := sN _ _ g_p4
    have g_l0 : (upd H8 l0 (.lst [.ref p1, .ref p2, .ref p3, .ref p4])) l0 = some (.lst [.ref p1, .ref p2, .ref p3, .ref p4]) := by rw [upd_same]
    have s0 := s0.trans sN
    generalize upd H8 l0 (.lst [.ref p1, .ref p2, .ref p3, .ref p4]) = H9 at s0 g_a1 g_p1 g_a2 g_p2 g_a3 g_p3 g_a4 g_p4 g_l0 ⊢
    clear sN
    simp only [List.set_cons_zero, List.set_cons_succ]
    refine ⟨.ref l0, rfl, ?_⟩
    refine ⟨(by show 4 ≤ sizeLine; decide), fun a5 h5 => ?_⟩
    have sN : Same H9 (upd H9 a5 (.lst [.int 5, .int 0, .int 20, .int 100])) := (new_same (H := H9) (o := .lst [.int 5, .int 0, .int 20, .int 100]) h5)
    have g_a1 := sN _ _ g_a1
    have g_p1 := sN _ _ g_p1
    have g_a2 := sN _ _ g_a2
    have g_p2 := sN _ _ g_p2
    have g_a3 := sN _ _ g_a3
    have g_p3 := sN _ _ g_p3
    have g_a4 := sN _ _ g_a4
    have g_p4 := sN _ _ g_p4
    have g_l0 := sN _ _ g_l0
    have g_a5 : (upd H9 a5 (.lst [.int 5, .int 0, .int 20, .int 100])) a5 = some (.lst (([5, 0, 20, 100] : List Int).map V.int)) := by exact upd_same
    have s0 := s0.trans sN
    generalize upd H9 a5 (.lst [.int 5, .int 0, .int 20, .int 100]) = H10 at s0 g_a1 g_p1 g_a2 g_p2 g_a3 g_p3 g_a4 g_p4 g_l0 g_a5 ⊢
    clear sN
    refine ⟨(by show 2 ≤ sizeLine; decide), fun p5 k5 => ?_⟩
    have sN : Same H10 (upd H10 p5 (.tup [.ref a5, .str (Str.ofString "5 0 20 100")])) := (new_same (H := H10) (o := .tup [.ref a5, .str (Str.ofString "5 0 20 100")]) k5)
    have g_a1 := sN _ _ g_a1
    have g_p1 := sN _ _ g_p1
    have g_a2 := sN _ _ g_a2
    have g_p2 := sN _ _ g_p2
    have g_a3 := sN _ _ g_a3
    have g_p3 := sN _ _ g_p3
    have g_a4 := sN _ _ g_a4
    have g_p4 := sN _ _ g_p4
    have g_l0 := sN _ _ g_l0
    have g_a5 := sN _ _ g_a5
    have g_p5 : (upd H10 p5 (.tup [.ref a5, .str (Str.ofString "5 0 20 100")])) p5 = some (.tup [.ref a5, .str (wordsS (([5, 0, 20, 100] : List Int).map intL))]) := by rw [upd_same, show Str.ofString "5 0 20 100" = wordsS (([5, 0, 20, 100] : List Int).map intL) from TL.ext_tl (by decide +kernel)]
    have s0 := s0.trans sN
    generalize upd H10 p5 (.tup [.ref a5, .str (Str.ofString "5 0 20 100")]) = H11 at s0 g_a1 g_p1 g_a2 g_p2 g_a3 g_p3 g_a4 g_p4 g_l0 g_a5 g_p5 ⊢
    clear sN
    refine ⟨(by show 1 ≤ sizeLine; decide), fun l1 hl1 => ?_⟩
    have sN : Same H11 (upd H11 l1 (.lst [.ref p5])) := (new_same (H := H11) (o := .lst [.ref p5]) hl1)
    have g_a1 := sN _ _ g_a1
    have g_p1 := sN _ _ g_p1
    have g_a2 := sN _ _ g_a2
    have g_p2 := sN _ _ g_p2
    have g_a3 := sN _ _ g_a3
    have g_p3 := sN _ _ g_p3
    have g_a4 := sN _ _ g_a4
    have g_p4 := sN _ _ g_p4
    have g_l0 := sN _ _ g_l0
    have g_a5 := sN _ _ g_a5
    have g_p5 := sN _ _ g_p5
    have g_l1 : (upd H11 l1 (.lst [.ref p5])) l1 = some (.lst [.ref p5]) := by rw [upd_same]
    have s0 := s0.trans sN
    generalize upd H11 l1 (.lst [.ref p5]) = H12 at s0 g_a1 g_p1 g_a2 g_p2 g_a3 g_p3 g_a4 g_p4 g_l0 g_a5 g_p5 g_l1 ⊢
    clear sN
    refine ⟨l0, l1, _, _, rfl, rfl, g_l0, g_l1, (by show 4 + 1 ≤ sizeLine; decide), fun lz hlz => ?_⟩
    have sz := new_same (o := .lst [.ref p1, .ref p2, .ref p3, .ref p4, .ref p5]) hlz
    exact q lz [.ref p1, .ref p2, .ref p3, .ref p4, .ref p5] _ (s0.trans sz) upd_same (.cons (sz _ _ g_p1) (sz _ _ g_a1) (.cons (sz _ _ g_p2) (sz _ _ g_a2) (.cons (sz _ _ g_p3) (sz _ _ g_a3) (.cons (sz _ _ g_p4) (sz _ _ g_a4) (.cons (sz _ _ g_p5) (sz _ _ g_a5) .nil)))))
theorem ok_law_lines (T : Txt K mg) : FnOk P w K mg base CX0 1 T.a_law_lines T.d_law_lines [] (spRims lines49) := by
  refine T.F_law_lines.ok sc_law_lines (fun vs H Q E h => ?_) (fun cdv A outer s H vs Q E hr h => ?_)
  · obtain ⟨rfl, _⟩ := h
    rfl
  · obtain ⟨rfl, q⟩ := h
    refine ⟨_, (pss_cons (ps_set (i := 0) sc_law_lines.nd rfl (.inl rfl) (pe_lst (pa_cons (pe_tup (pa_cons (pe_lst (pa_cons pe_int (pa_cons (pe_un un_neg pe_int) (pa_cons pe_int pa_nil)))) (pa_cons pe_str pa_nil))) (pa_cons (pe_tup (pa_cons (pe_lst (pa_cons (pe_un un_neg pe_int) pa_nil)) (pa_cons pe_str pa_nil))) (pa_cons (pe_tup (pa_cons (pe_lst (pa_cons (pe_op op_sub pe_int (pe_op op_pow pe_int pe_int)) (pa_cons pe_int pa_nil))) (pa_cons (pe_op op_add_str (pe_op op_add_str pe_str (pe_op op_mulS pe_str pe_int)) pe_str) pa_nil))) pa_nil)))))
      (pss_one (ps_ret (pe_op op_cat (pv 0) (pe_lst (pa_cons (pe_tup (pa_cons (pe_lst (pa_cons pe_int (pa_cons pe_int pa_nil))) (pa_cons pe_str pa_nil))) (pa_cons (pe_tup (pa_cons (pe_op op_rep (pe_lst (pa_cons (pe_un un_neg pe_int) pa_nil)) pe_int) (pa_cons (pe_op op_add_str (pe_op op_mulS pe_str pe_int) pe_str) pa_nil))) pa_nil))))))), ?_⟩
    have s0 := Same.refl H
    refine ⟨1, rfl, (by show 3 ≤ sizeLine; decide), fun a1 h1 => ?_⟩
    have sN : Same H (upd H a1 (.lst [.int 2, .int (-1), .int 0])) := (new_same (H := H) (o := .lst [.int 2, .int (-1), .int 0]) h1)
    have g_a1 : (upd H a1 (.lst [.int 2, .int (-1), .int 0])) a1 = some (.lst (([2, -1, 0] : List Int).map V.int)) := by exact upd_same
    have s0 := s0.trans sN
    generalize upd H a1 (.lst [.int 2, .int (-1), .int 0]) = H1 at s0 g_a1 ⊢
    clear sN
    refine ⟨(by show 2 ≤ sizeLine; decide), fun p1 k1 => ?_⟩
    have sN : Same H1 (upd H1 p1 (.tup [.ref a1, .str (Str.ofString "2 -1 0")])) := (new_same (H := H1) (o := .tup [.ref a1, .str (Str.ofString "2 -1 0")]) k1)
    have g_a1 := sN _ _ g_a1
    have g_p1 : (upd H1 p1 (.tup [.ref a1, .str (Str.ofString "2 -1 0")])) p1 = some (.tup [.ref a1, .str (wordsS (([2, -1, 0] : List Int).map intL))]) := by rw [upd_same, show Str.ofString "2 -1 0" = wordsS (([2, -1, 0] : List Int).map intL) from TL.ext_tl (by decide +kernel)]
    have s0 := s0.trans sN
    generalize upd H1 p1 (.tup [.ref a1, .str (Str.ofString "2 -1 0")]) = H2 at s0 g_a1 g_p1 ⊢
    clear sN
    refine ⟨10, rfl, (by show 1 ≤ sizeLine; decide), fun a2 h2 => ?_⟩
    have sN : Same H2 (upd H2 a2 (.lst [.int (-10)])) := (new_same (H := H2) (o := .lst [.int (-10)]) h2)
    have g_a1 := sN _ _ g_a1
    have g_p1 := sN _ _ g_p1
    have g_a2 : (upd H2 a2 (.lst [.int (-10)])) a2 = some (.lst (([-10] : List Int).map V.int)) := by exact upd_same
    have s0 := s0.trans sN
    generalize upd H2 a2 (.lst [.int (-10)]) = H3 at s0 g_a1 g_p1 g_a2 ⊢
    clear sN
    refine ⟨(by show 2 ≤ sizeLine; decide), fun p2 k2 => ?_⟩
    have sN : Same H3 (upd H3 p2 (.tup [.ref a2, .str (Str.ofString "-10")])) := (new_same (H := H3) (o := .tup [.ref a2, .str (Str.ofString "-10")]) k2)
    have g_a1 := sN _ _ g_a1
    have g_p1 := sN _ _ g_p1
    have g_a2 := sN _ _ g_a2
    have g_p2 : (upd H3 p2 (.tup [.ref a2, .str (Str.ofString "-10")])) p2 = some (.tup [.ref a2, .str (wordsS (([-10] : List Int).map intL))]) := by rw [upd_same, show Str.ofString "-10" = wordsS (([-10] : List Int).map intL) from TL.ext_tl (by decide +kernel)]
    have s0 := s0.trans sN
    generalize upd H3 p2 (.tup [.ref a2, .str (Str.ofString "-10")]) = H4 at s0 g_a1 g_p1 g_a2 g_p2 ⊢
    clear sN
    refine ⟨10, 39, rfl, rfl, ⟨by decide, by decide, by decide⟩, 0, _, rfl, rfl, (by show 2 ≤ sizeLine; decide), fun a3 h3 => ?_⟩
    have sN : Same H4 (upd H4 a3 (.lst [.int (0 - 10 ^ (39 : Int).toNat), .int 1])) := (new_same (H := H4) (o := .lst [.int (0 - 10 ^ (39 : Int).toNat), .int 1]) h3)
    have g_a1 := sN _ _ g_a1
    have g_p1 := sN _ _ g_p1
    have g_a2 := sN _ _ g_a2
    have g_p2 := sN _ _ g_p2
    have g_a3 : (upd H4 a3 (.lst [.int (0 - 10 ^ (39 : Int).toNat), .int 1])) a3 = some (.lst (([0 - 10 ^ (39 : Int).toNat, 1] : List Int).map V.int)) := by exact upd_same
    have s0 := s0.trans sN
    generalize upd H4 a3 (.lst [.int (0 - 10 ^ (39 : Int).toNat), .int 1]) = H5 at s0 g_a1 g_p1 g_a2 g_p2 g_a3 ⊢
    clear sN
    refine ⟨_, 39, rfl, rfl, (⟨by decide, fun _ _ => by decide +kernel, fun _ _ => by decide +kernel⟩ : MulOk (Str.ofString "0") 39), _, _, rfl, rfl, by decide +kernel, _, _, rfl, rfl, by decide +kernel, ?_⟩
    refine ⟨(by show 2 ≤ sizeLine; decide), fun p3 k3 => ?_⟩
    have sN : Same H5 (upd H5 p3 (.tup [.ref a3, .str (Str.ofString "-1" ++ Txt.mul (Str.ofString "0") 39 ++ Str.ofString " 1")])) := (new_same (H := H5) (o := .tup [.ref a3, .str (Str.ofString "-1" ++ Txt.mul (Str.ofString "0") 39 ++ Str.ofString " 1")]) k3)
    have g_a1 := sN _ _ g_a1
    have g_p1 := sN _ _ g_p1
    have g_a2 := sN _ _ g_a2
    have g_p2 := sN _ _ g_p2
    have g_a3 := sN _ _ g_a3
    have g_p3 : (upd H5 p3 (.tup [.ref a3, .str (Str.ofString "-1" ++ Txt.mul (Str.ofString "0") 39 ++ Str.ofString " 1")])) p3 = some (.tup [.ref a3, .str (wordsS (([0 - 10 ^ (39 : Int).toNat, 1] : List Int).map intL))]) := by rw [upd_same, show Str.ofString "-1" ++ Txt.mul (Str.ofString "0") 39 ++ Str.ofString " 1" = wordsS (([0 - 10 ^ (39 : Int).toNat, 1] : List Int).map intL) from TL.ext_tl (by decide +kernel)]
    have s0 := s0.trans sN
    generalize upd H5 p3 (.tup [.ref a3, .str (Str.ofString "-1" ++ Txt.mul (Str.ofString "0") 39 ++ Str.ofString " 1")]) = H6 at s0 g_a1 g_p1 g_a2 g_p2 g_a3 g_p3 ⊢
    clear sN
    refine ⟨(by show 3 ≤ sizeLine; decide), fun l0 hl0 => ?_⟩
    have sN : Same H6 (upd H6 l0 (.lst [.ref p1, .ref p2, .ref p3])) := (new_same (H := H6) (o := .lst [.ref p1, .ref p2, .ref p3]) hl0)
    have g_a1 := sN _ _ g_a1
    have g_p1 := sN _ _ g_p1
    have g_a2 := sN _ _ g_a2
    have g_p2 := sN _ _ g_p2
    have g_a3 := sN _ _ g_a3
    have g_p3 := sN _ _ g_p3
    have g_l0 : (upd H6 l0 (.lst [.ref p1, .ref p2, .ref p3])) l0 = some (.lst [.ref p1, .ref p2, .ref p3]) := by rw [upd_same]
    have s0 := s0.trans sN
    generalize upd H6 l0 (.lst [.ref p1, .ref p2, .ref p3]) = H7 at s0 g_a1 g_p1 g_a2 g_p2 g_a3 g_p3 g_l0 ⊢
    clear sN
    simp only [List.set_cons_zero, List.set_cons_succ]
    refine ⟨.ref l0, rfl, ?_⟩
    refine ⟨(by show 2 ≤ sizeLine; decide), fun a4 h4 => ?_⟩
    have sN : Same H7 (upd H7 a4 (.lst [.int 0, .int 0])) := (new_same (H := H7) (o := .lst [.int 0, .int 0]) h4)
    have g_a1 := sN _ _ g_a1
    have g_p1 := sN _ _ g_p1
    have g_a2 := sN _ _ g_a2
    have g_p2 := sN _ _ g_p2
    have g_a3 := sN _ _ g_a3
    have g_p3 := sN _ _ g_p3
    have g_l0 := sN _ _ g_l0
    have g_a4 : (upd H7 a4 (.lst [.int 0, .int 0])) a4 = some (.lst (([0, 0] : List Int).map V.int)) := by exact upd_same
    have s0 := s0.trans sN
    generalize upd H7 a4 (.lst [.int 0, .int 0]) = H8 at s0 g_a1 g_p1 g_a2 g_p2 g_a3 g_p3 g_l0 g_a4 ⊢
    clear sN
    refine ⟨(by show 2 ≤ sizeLine; decide), fun p4 k4 => ?_⟩
    have sN : Same H8 (upd H8 p4 (.tup [.ref a4, .str (Str.ofString "0 0")])) := (new_same (H := H8) (o := .tup [.ref a4, .str (Str.ofString "0 0")]) k4)
    have g_a1 := sN _ _ g_a1
    have g_p1 := sN _ _ g_p1
    have g_a2 := sN _ _ g_a2
    have g_p2 := sN _ _ g_p2
    have g_a3 := sN _ _ g_a3
    have g_p3 := sN _ _ g_p3
    have g_l0 := sN _ _ g_l0
    have g_a4 := sN _ _ g_a4
    have g_p4 : (upd H8 p4 (.tup [.ref a4, .str (Str.ofString "0 0")])) p4 = some (.tup [.ref a4, .str (wordsS (([0, 0] : List Int).map intL))]) := by rw [upd_same, show Str.ofString "0 0" = wordsS (([0, 0] : List Int).map intL) from TL.ext_tl (by decide +kernel)]
    have s0 := s0.trans sN
    generalize upd H8 p4 (.tup [.ref a4, .str (Str.ofString "0 0")]) = H9 at s0 g_a1 g_p1 g_a2 g_p2 g_a3 g_p3 g_l0 g_a4 g_p4 ⊢
    clear sN
    refine ⟨1, rfl, (by show 1 ≤ sizeLine; decide), fun b5 i5 => ⟨b5, 40, _, rfl, rfl, upd_same, by decide, by decide, (by show 1 * 40 ≤ sizeLine; decide), fun a5 h5 => ?_⟩⟩
    have sN : Same H9 (upd (upd H9 b5 (.lst [.int (-1)])) a5 (.lst (List.replicate (40 : Int).toNat [V.int (-1)]).flatten)) := ((new_same (H := H9) (o := .lst [.int (-1)]) i5).trans (new_same (H := (upd H9 b5 (.lst [.int (-1)]))) (o := .lst (List.replicate (40 : Int).toNat [V.int (-1)]).flatten) h5))
    have g_a1 := sN _ _ g_a1
    have g_p1 := sN _ _ g_p1
    have g_a2 := sN _ _ g_a2
    have g_p2 := sN _ _ g_p2
    have g_a3 := sN _ _ g_a3
    have g_p3 := sN _ _ g_p3
    have g_l0 := sN _ _ g_l0
    have g_a4 := sN _ _ g_a4
    have g_p4 := sN _ _ g_p4
    have g_a5 : (upd (upd H9 b5 (.lst [.int (-1)])) a5 (.lst (List.replicate (40 : Int).toNat [V.int (-1)]).flatten)) a5 = some (.lst ((List.replicate 40 (-1 : Int)).map V.int)) := by rw [upd_same, rep_one]; rfl
    have s0 := s0.trans sN
    generalize upd (upd H9 b5 (.lst [.int (-1)])) a5 (.lst (List.replicate (40 : Int).toNat [V.int (-1)]).flatten) = H10 at s0 g_a1 g_p1 g_a2 g_p2 g_a3 g_p3 g_l0 g_a4 g_p4 g_a5 ⊢
    clear sN
    refine ⟨_, 39, rfl, rfl, (⟨by decide, fun _ _ => by decide +kernel, fun _ _ => by decide +kernel⟩ : MulOk (Str.ofString "-1 ") 39), _, _, rfl, rfl, by decide +kernel, ?_⟩
    refine ⟨(by show 2 ≤ sizeLine; decide), fun p5 k5 => ?_⟩
    have sN : Same H10 (upd H10 p5 (.tup [.ref a5, .str (Txt.mul (Str.ofString "-1 ") 39 ++ Str.ofString "-1")])) := (new_same (H := H10) (o := .tup [.ref a5, .str (Txt.mul (Str.ofString "-1 ") 39 ++ Str.ofString "-1")]) k5)
    have g_a1 := sN _ _ g_a1
    have g_p1 := sN _ _ g_p1
    have g_a2 := sN _ _ g_a2
    have g_p2 := sN _ _ g_p2
    have g_a3 := sN _ _ g_a3
    have g_p3 := sN _ _ g_p3
    have g_l0 := sN _ _ g_l0
    have g_a4 := sN _ _ g_a4
    have g_p4 := sN _ _ g_p4
    have g_a5 := sN _ _ g_a5
    have g_p5 : (upd H10 p5 (.tup [.ref a5, .str (Txt.mul (Str.ofString "-1 ") 39 ++ Str.ofString "-1")])) p5 = some (.tup [.ref a5, .str (wordsS ((List.replicate 40 (-1 : Int)).map intL))]) := by rw [upd_same, show Txt.mul (Str.ofString "-1 ") 39 ++ Str.ofString "-1" = wordsS ((List.replicate 40 (-1 : Int)).map intL) from TL.ext_tl (by decide +kernel)]
    have s0 := s0.trans sN
    generalize upd H10 p5 (.tup [.ref a5, .str (Txt.mul (Str.ofString "-1 ") 39 ++ Str.ofString "-1")]) = H11 at s0 g_a1 g_p1 g_a2 g_p2 g_a3 g_p3 g_l0 g_a4 g_p4 g_a5 g_p5 ⊢
    clear sN
    refine ⟨(by show 2 ≤ sizeLine; decide), fun l1 hl1 => ?_⟩
    have sN : Same H11 (upd H11 l1 (.lst [.ref p4, .ref p5])) := (new_same (H := H11) (o := .lst [.ref p4, .ref p5]) hl1)
    have g_a1 := sN _ _ g_a1
    have g_p1 := sN _ _ g_p1
    have g_a2 := sN _ _ g_a2
    have g_p2 := sN _ _ g_p2
    have g_a3 := sN _ _ g_a3
    have g_p3 := sN _ _ g_p3
    have g_l0 := sN _ _ g_l0
    have g_a4 := sN _ _ g_a4
    have g_p4 := sN _ _ g_p4
    have g_a5 := sN _ _ g_a5
    have g_p5 := sN _ _ g_p5
    have g_l1 : (upd H11 l1 (.lst [.ref p4, .ref p5])) l1 = some (.lst [.ref p4, .ref p5]) := by rw [upd_same]
    have s0 := s0.trans sN
    generalize upd H11 l1 (.lst [.ref p4, .ref p5]) = H12 at s0 g_a1 g_p1 g_a2 g_p2 g_a3 g_p3 g_l0 g_a4 g_p4 g_a5 g_p5 g_l1 ⊢
    clear sN
    refine ⟨l0, l1, _, _, rfl, rfl, g_l0, g_l1, (by show 3 + 2 ≤ sizeLine; decide), fun lz hlz => ?_⟩
    have sz := new_same (o := .lst [.ref p1, .ref p2, .ref p3, .ref p4, .ref p5]) hlz
    exact q lz [.ref p1, .ref p2, .ref p3, .ref p4, .ref p5] _ (s0.trans sz) upd_same (.cons (sz _ _ g_p1) (sz _ _ g_a1) (.cons (sz _ _ g_p2) (sz _ _ g_a2) (.cons (sz _ _ g_p3) (sz _ _ g_a3) (.cons (sz _ _ g_p4) (sz _ _ g_a4) (.cons (sz _ _ g_p5) (sz _ _ g_a5) .nil)))))
theorem ok_law_notes (T : Txt K mg) : FnOk P w K mg base CX0 1 T.a_law_notes T.d_law_notes [] spNotes := by
  refine T.F_law_notes.ok sc_law_notes (fun vs H Q E h => ?_) (fun cdv A outer s H vs Q E hr h => ?_)
  · obtain ⟨rfl, _⟩ := h
    rfl
  · obtain ⟨rfl, q⟩ := h
    refine ⟨_, (pss_cons (ps_set (i := 0) sc_law_notes.nd rfl (.inl rfl) (pe_lst (pa_cons (pe_tup (pa_cons (pe_lst pa_nil) (pa_cons pe_str pa_nil))) (pa_cons (pe_tup (pa_cons (pe_lst (pa_cons (pe_tup (pa_cons pe_int (pa_cons pe_int pa_nil))) (pa_cons (pe_tup (pa_cons (pe_un un_neg pe_int) (pa_cons pe_int pa_nil))) pa_nil))) (pa_cons pe_str pa_nil))) (pa_cons (pe_tup (pa_cons (pe_lst (pa_cons (pe_tup (pa_cons pe_int (pa_cons pe_int pa_nil))) pa_nil)) (pa_cons pe_str pa_nil))) (pa_cons (pe_tup (pa_cons (pe_op op_rep (pe_lst (pa_cons (pe_tup (pa_cons pe_int (pa_cons pe_int pa_nil))) pa_nil)) pe_int) (pa_cons (pe_op op_add_str (pe_op op_mulS pe_str pe_int) pe_str) pa_nil))) pa_nil))))))
      (pss_one (ps_ret (pe_op op_cat (pv 0) (pe_lst (pa_cons (pe_tup (pa_cons (pe_lst (pa_cons (pe_tup (pa_cons (pe_op op_sub pe_int (pe_op op_pow pe_int pe_int)) (pa_cons (pe_op op_pow pe_int pe_int) pa_nil))) pa_nil)) (pa_cons (pe_op op_add_str (pe_op op_add_str (pe_op op_add_str pe_str (pe_op op_mulS pe_str pe_int)) pe_str) (pe_op op_mulS pe_str pe_int)) pa_nil))) pa_nil)))))), ?_⟩
    have s0 := Same.refl H
    refine ⟨(by show 0 ≤ sizeLine; decide), fun a1 h1 => ?_⟩
    have sN : Same H (upd H a1 (.lst [])) := (new_same (H := H) (o := .lst []) h1)
    have g_a1 : (upd H a1 (.lst [])) a1 = some (.lst []) := by exact upd_same
    have s0 := s0.trans sN
    generalize upd H a1 (.lst []) = H1 at s0 g_a1 ⊢
    clear sN
    refine ⟨(by show 2 ≤ sizeLine; decide), fun p1 k1 => ?_⟩
    have sN : Same H1 (upd H1 p1 (.tup [.ref a1, .str (Str.ofString "")])) := (new_same (H := H1) (o := .tup [.ref a1, .str (Str.ofString "")]) k1)
    have g_a1 := sN _ _ g_a1
    have g_p1 : (upd H1 p1 (.tup [.ref a1, .str (Str.ofString "")])) p1 = some (.tup [.ref a1, .str (wordsS (([] : List (Int × Int)).map lookL))]) := by rw [upd_same, show Str.ofString "" = wordsS (([] : List (Int × Int)).map lookL) from TL.ext_tl (by decide +kernel)]
    have s0 := s0.trans sN
    generalize upd H1 p1 (.tup [.ref a1, .str (Str.ofString "")]) = H2 at s0 g_a1 g_p1 ⊢
    clear sN
    refine ⟨(by show 2 ≤ sizeLine; decide), fun t2_0 u2_0 => ?_⟩
    refine ⟨5, rfl, (by show 2 ≤ sizeLine; decide), fun t2_1 u2_1 => ?_⟩
    refine ⟨(by show 2 ≤ sizeLine; decide), fun a2 h2 => ?_⟩
    have sN : Same H2 (upd (upd (upd H2 t2_0 (.tup [.int 0, .int 3])) t2_1 (.tup [.int (-5), .int 1])) a2 (.lst [.ref t2_0, .ref t2_1])) := (((new_same (H := H2) (o := .tup [.int 0, .int 3]) u2_0).trans (new_same (H := (upd H2 t2_0 (.tup [.int 0, .int 3]))) (o := .tup [.int (-5), .int 1]) u2_1)).trans (new_same (H := (upd (upd H2 t2_0 (.tup [.int 0, .int 3])) t2_1 (.tup [.int (-5), .int 1]))) (o := .lst [.ref t2_0, .ref t2_1]) h2))
    have g_a1 := sN _ _ g_a1
    have g_p1 := sN _ _ g_p1
    have g_t2_0 : (upd (upd (upd H2 t2_0 (.tup [.int 0, .int 3])) t2_1 (.tup [.int (-5), .int 1])) a2 (.lst [.ref t2_0, .ref t2_1])) t2_0 = some (.tup [.int 0, .int 3]) := by exact new_same h2 _ _ (new_same u2_1 _ _ (upd_same))
    have g_t2_1 : (upd (upd (upd H2 t2_0 (.tup [.int 0, .int 3])) t2_1 (.tup [.int (-5), .int 1])) a2 (.lst [.ref t2_0, .ref t2_1])) t2_1 = some (.tup [.int (-5), .int 1]) := by exact new_same h2 _ _ (upd_same)
    have g_a2 : (upd (upd (upd H2 t2_0 (.tup [.int 0, .int 3])) t2_1 (.tup [.int (-5), .int 1])) a2 (.lst [.ref t2_0, .ref t2_1])) a2 = some (.lst [.ref t2_0, .ref t2_1]) := by exact upd_same
    have s0 := s0.trans sN
    generalize upd (upd (upd H2 t2_0 (.tup [.int 0, .int 3])) t2_1 (.tup [.int (-5), .int 1])) a2 (.lst [.ref t2_0, .ref t2_1]) = H3 at s0 g_a1 g_p1 g_t2_0 g_t2_1 g_a2 ⊢
    clear sN
    refine ⟨(by show 2 ≤ sizeLine; decide), fun p2 k2 => ?_⟩
    have sN : Same H3 (upd H3 p2 (.tup [.ref a2, .str (Str.ofString "0=3 -5=1")])) := (new_same (H := H3) (o := .tup [.ref a2, .str (Str.ofString "0=3 -5=1")]) k2)
    have g_a1 := sN _ _ g_a1
    have g_p1 := sN _ _ g_p1
    have g_t2_0 := sN _ _ g_t2_0
    have g_t2_1 := sN _ _ g_t2_1
    have g_a2 := sN _ _ g_a2
    have g_p2 : (upd H3 p2 (.tup [.ref a2, .str (Str.ofString "0=3 -5=1")])) p2 = some (.tup [.ref a2, .str (wordsS (([(0, 3), (-5, 1)] : List (Int × Int)).map lookL))]) := by rw [upd_same, show Str.ofString "0=3 -5=1" = wordsS (([(0, 3), (-5, 1)] : List (Int × Int)).map lookL) from TL.ext_tl (by decide +kernel)]
    have s0 := s0.trans sN
    generalize upd H3 p2 (.tup [.ref a2, .str (Str.ofString "0=3 -5=1")]) = H4 at s0 g_a1 g_p1 g_t2_0 g_t2_1 g_a2 g_p2 ⊢
    clear sN
    refine ⟨(by show 2 ≤ sizeLine; decide), fun t3_0 u3_0 => ?_⟩
    refine ⟨(by show 1 ≤ sizeLine; decide), fun a3 h3 => ?_⟩
    have sN : Same H4 (upd (upd H4 t3_0 (.tup [.int 10, .int 0])) a3 (.lst [.ref t3_0])) := ((new_same (H := H4) (o := .tup [.int 10, .int 0]) u3_0).trans (new_same (H := (upd H4 t3_0 (.tup [.int 10, .int 0]))) (o := .lst [.ref t3_0]) h3))
    have g_a1 := sN _ _ g_a1
    have g_p1 := sN _ _ g_p1
    have g_t2_0 := sN _ _ g_t2_0
    have g_t2_1 := sN _ _ g_t2_1
    have g_a2 := sN _ _ g_a2
    have g_p2 := sN _ _ g_p2
    have g_t3_0 : (upd (upd H4 t3_0 (.tup [.int 10, .int 0])) a3 (.lst [.ref t3_0])) t3_0 = some (.tup [.int 10, .int 0]) := by exact new_same h3 _ _ (upd_same)
    have g_a3 : (upd (upd H4 t3_0 (.tup [.int 10, .int 0])) a3 (.lst [.ref t3_0])) a3 = some (.lst [.ref t3_0]) := by exact upd_same
    have s0 := s0.trans sN
    generalize upd (upd H4 t3_0 (.tup [.int 10, .int 0])) a3 (.lst [.ref t3_0]) = H5 at s0 g_a1 g_p1 g_t2_0 g_t2_1 g_a2 g_p2 g_t3_0 g_a3 ⊢
    clear sN
    refine ⟨(by show 2 ≤ sizeLine; decide), fun p3 k3 => ?_⟩
    have sN : Same H5 (upd H5 p3 (.tup [.ref a3, .str (Str.ofString "10=0")])) := (new_same (H := H5) (o := .tup [.ref a3, .str (Str.ofString "10=0")]) k3)
    have g_a1 := sN _ _ g_a1
    have g_p1 := sN _ _ g_p1
    have g_t2_0 := sN _ _ g_t2_0
    have g_t2_1 := sN _ _ g_t2_1
    have g_a2 := sN _ _ g_a2
    have g_p2 := sN _ _ g_p2
    have g_t3_0 := sN _ _ g_t3_0
    have g_a3 := sN _ _ g_a3
    have g_p3 : (upd H5 p3 (.tup [.ref a3, .str (Str.ofString "10=0")])) p3 = some (.tup [.ref a3, .str (wordsS (([(10, 0)] : List (Int × Int)).map lookL))]) := by rw [upd_same, show Str.ofString "10=0" = wordsS (([(10, 0)] : List (Int × Int)).map lookL) from TL.ext_tl (by decide +kernel)]
    have s0 := s0.trans sN
    generalize upd H5 p3 (.tup [.ref a3, .str (Str.ofString "10=0")]) = H6 at s0 g_a1 g_p1 g_t2_0 g_t2_1 g_a2 g_p2 g_t3_0 g_a3 g_p3 ⊢
    clear sN
    refine ⟨(by show 2 ≤ sizeLine; decide), fun t4_0 u4_0 => ?_⟩
    refine ⟨(by show 1 ≤ sizeLine; decide), fun b4 i4 => ⟨b4, 40, _, rfl, rfl, upd_same, by decide, by decide, (by show 1 * 40 ≤ sizeLine; decide), fun a4 h4 => ?_⟩⟩
    have sN : Same H6 (upd (upd (upd H6 t4_0 (.tup [.int 7, .int 7])) b4 (.lst [.ref t4_0])) a4 (.lst (List.replicate (40 : Int).toNat [V.ref t4_0]).flatten)) := (((new_same (H := H6) (o := .tup [.int 7, .int 7]) u4_0).trans (new_same (H := (upd H6 t4_0 (.tup [.int 7, .int 7]))) (o := .lst [.ref t4_0]) i4)).trans (new_same (H := (upd (upd H6 t4_0 (.tup [.int 7, .int 7])) b4 (.lst [.ref t4_0]))) (o := .lst (List.replicate (40 : Int).toNat [V.ref t4_0]).flatten) h4))
    have g_a1 := sN _ _ g_a1
    have g_p1 := sN _ _ g_p1
    have g_t2_0 := sN _ _ g_t2_0
    have g_t2_1 := sN _ _ g_t2_1
    have g_a2 := sN _ _ g_a2
    have g_p2 := sN _ _ g_p2
    have g_t3_0 := sN _ _ g_t3_0
    have g_a3 := sN _ _ g_a3
    have g_p3 := sN _ _ g_p3
    have g_t4_0 : (upd (upd (upd H6 t4_0 (.tup [.int 7, .int 7])) b4 (.lst [.ref t4_0])) a4 (.lst (List.replicate (40 : Int).toNat [V.ref t4_0]).flatten)) t4_0 = some (.tup [.int 7, .int 7]) := by exact new_same h4 _ _ (new_same i4 _ _ upd_same)
    have g_a4 : (upd (upd (upd H6 t4_0 (.tup [.int 7, .int 7])) b4 (.lst [.ref t4_0])) a4 (.lst (List.replicate (40 : Int).toNat [V.ref t4_0]).flatten)) a4 = some (.lst (List.replicate 40 (V.ref t4_0))) := by rw [upd_same, rep_oneW]; rfl
    have s0 := s0.trans sN
    generalize upd (upd (upd H6 t4_0 (.tup [.int 7, .int 7])) b4 (.lst [.ref t4_0])) a4 (.lst (List.replicate (40 : Int).toNat [V.ref t4_0]).flatten) = H7 at s0 g_a1 g_p1 g_t2_0 g_t2_1 g_a2 g_p2 g_t3_0 g_a3 g_p3 g_t4_0 g_a4 ⊢
    clear sN
    refine ⟨_, 39, rfl, rfl, (⟨by decide, fun _ _ => by decide +kernel, fun _ _ => by decide +kernel⟩ : MulOk (Str.ofString "7=7 ") 39), _, _, rfl, rfl, by decide +kernel, ?_⟩
    refine ⟨(by show 2 ≤ sizeLine; decide), fun p4 k4 => ?_⟩
    have sN : Same H7 (upd H7 p4 (.tup [.ref a4, .str (Txt.mul (Str.ofString "7=7 ") 39 ++ Str.ofString "7=7")])) := (new_same (H := H7) (o := .tup [.ref a4, .str (Txt.mul (Str.ofString "7=7 ") 39 ++ Str.ofString "7=7")]) k4)
    have g_a1 := sN _ _ g_a1
    have g_p1 := sN _ _ g_p1
    have g_t2_0 := sN _ _ g_t2_0
    have g_t2_1 := sN _ _ g_t2_1
    have g_a2 := sN _ _ g_a2
    have g_p2 := sN _ _ g_p2
    have g_t3_0 := sN _ _ g_t3_0
    have g_a3 := sN _ _ g_a3
    have g_p3 := sN _ _ g_p3
    have g_t4_0 := sN _ _ g_t4_0
    have g_a4 := sN _ _ g_a4
    have g_p4 : (upd H7 p4 (.tup [.ref a4, .str (Txt.mul (Str.ofString "7=7 ") 39 ++ Str.ofString "7=7")])) p4 = some (.tup [.ref a4, .str (wordsS ((List.replicate 40 ((7 : Int), (7 : Int))).map lookL))]) := by rw [upd_same, show Txt.mul (Str.ofString "7=7 ") 39 ++ Str.ofString "7=7" = wordsS ((List.replicate 40 ((7 : Int), (7 : Int))).map lookL) from TL.ext_tl (by decide +kernel)]
    have s0 := s0.trans sN
    generalize upd H7 p4 (.tup [.ref a4, .str (Txt.mul (Str.ofString "7=7 ") 39 ++ Str.ofString "7=7")]) = H8 at s0 g_a1 g_p1 g_t2_0 g_t2_1 g_a2 g_p2 g_t3_0 g_a3 g_p3 g_t4_0 g_a4 g_p4 ⊢
    clear sN
    refine ⟨(by show 4 ≤ sizeLine; decide), fun l0 hl0 => ?_⟩
    have sN : Same H8 (upd H8 l0 (.lst [.ref p1, .ref p2, .ref p3, .ref p4])) := (new_same (H := H8) (o := .lst [.ref p1, .ref p2, .ref p3, .ref p4]) hl0)
    have g_a1 := sN _ _ g_a1
    have g_p1 := sN _ _ g_p1
    have g_t2_0 := sN _ _ g_t2_0
    have g_t2_1 := sN _ _ g_t2_1
    have g_a2 := sN _ _ g_a2
    have g_p2 := sN _ _ g_p2
    have g_t3_0 := sN _ _ g_t3_0
    have g_a3 := sN _ _ g_a3
    have g_p3 := sN _ _ g_p3
    have g_t4_0 := sN _ _ g_t4_0
    have g_a4 := sN _ _ g_a4
    have g_p4 := sN _ _ g_p4
    have g_l0 : (upd H8 l0 (.lst [.ref p1, .ref p2, .ref p3, .ref p4])) l0 = some (.lst [.ref p1, .ref p2, .ref p3, .ref p4]) := by rw [upd_same]
    have s0 := s0.trans sN
    generalize upd H8 l0 (.lst [.ref p1, .ref p2, .ref p3, .ref p4]) = H9 at s0 g_a1 g_p1 g_t2_0 g_t2_1 g_a2 g_p2 g_t3_0 g_a3 g_p3 g_t4_0 g_a4 g_p4 g_l0 ⊢
    clear sN
    simp only [List.set_cons_zero, List.set_cons_succ]
    refine ⟨.ref l0, rfl, ?_⟩
    refine ⟨10, 39, rfl, rfl, ⟨by decide, by decide, by decide⟩, 0, _, rfl, rfl, 10, 39, rfl, rfl, ⟨by decide, by decide, by decide⟩, (by show 2 ≤ sizeLine; decide), fun t5_0 u5_0 => ?_⟩
    refine ⟨(by show 1 ≤ sizeLine; decide), fun a5 h5 => ?_⟩
    have sN : Same H9 (upd (upd H9 t5_0 (.tup [.int (0 - 10 ^ (39 : Int).toNat), .int (10 ^ (39 : Int).toNat)])) a5 (.lst [.ref t5_0])) := ((new_same (H := H9) (o := .tup [.int (0 - 10 ^ (39 : Int).toNat), .int (10 ^ (39 : Int).toNat)]) u5_0).trans (new_same (H := (upd H9 t5_0 (.tup [.int (0 - 10 ^ (39 : Int).toNat), .int (10 ^ (39 : Int).toNat)]))) (o := .lst [.ref t5_0]) h5))
    have g_a1 := sN _ _ g_a1
    have g_p1 := sN _ _ g_p1
    have g_t2_0 := sN _ _ g_t2_0
    have g_t2_1 := sN _ _ g_t2_1
    have g_a2 := sN _ _ g_a2
    have g_p2 := sN _ _ g_p2
    have g_t3_0 := sN _ _ g_t3_0
    have g_a3 := sN _ _ g_a3
    have g_p3 := sN _ _ g_p3
    have g_t4_0 := sN _ _ g_t4_0
    have g_a4 := sN _ _ g_a4
    have g_p4 := sN _ _ g_p4
    have g_l0 := sN _ _ g_l0
    have g_t5_0 : (upd (upd H9 t5_0 (.tup [.int (0 - 10 ^ (39 : Int).toNat), .int (10 ^ (39 : Int).toNat)])) a5 (.lst [.ref t5_0])) t5_0 = some (.tup [.int (0 - 10 ^ (39 : Int).toNat), .int (10 ^ (39 : Int).toNat)]) := by exact new_same h5 _ _ (upd_same)
    have g_a5 : (upd (upd H9 t5_0 (.tup [.int (0 - 10 ^ (39 : Int).toNat), .int (10 ^ (39 : Int).toNat)])) a5 (.lst [.ref t5_0])) a5 = some (.lst [.ref t5_0]) := by exact upd_same
    have s0 := s0.trans sN
    generalize upd (upd H9 t5_0 (.tup [.int (0 - 10 ^ (39 : Int).toNat), .int (10 ^ (39 : Int).toNat)])) a5 (.lst [.ref t5_0]) = H10 at s0 g_a1 g_p1 g_t2_0 g_t2_1 g_a2 g_p2 g_t3_0 g_a3 g_p3 g_t4_0 g_a4 g_p4 g_l0 g_t5_0 g_a5 ⊢
    clear sN
    refine ⟨_, 39, rfl, rfl, (⟨by decide, fun _ _ => by decide +kernel, fun _ _ => by decide +kernel⟩ : MulOk (Str.ofString "0") 39), _, _, rfl, rfl, by decide +kernel, _, _, rfl, rfl, by decide +kernel, _, 39, rfl, rfl, (⟨by decide, fun _ _ => by decide +kernel, fun _ _ => by decide +kernel⟩ : MulOk (Str.ofString "0") 39), _, _, rfl, rfl, by decide +kernel, ?_⟩
    refine ⟨(by show 2 ≤ sizeLine; decide), fun p5 k5 => ?_⟩
    have sN : Same H10 (upd H10 p5 (.tup [.ref a5, .str (Str.ofString "-1" ++ Txt.mul (Str.ofString "0") 39 ++ Str.ofString "=1" ++ Txt.mul (Str.ofString "0") 39)])) := (new_same (H := H10) (o := .tup [.ref a5, .str (Str.ofString "-1" ++ Txt.mul (Str.ofString "0") 39 ++ Str.ofString "=1" ++ Txt.mul (Str.ofString "0") 39)]) k5)
    have g_a1 := sN _ _ g_a1
    have g_p1 := sN _ _ g_p1
    have g_t2_0 := sN _ _ g_t2_0
    have g_t2_1 := sN _ _ g_t2_1
    have g_a2 := sN _ _ g_a2
    have g_p2 := sN _ _ g_p2
    have g_t3_0 := sN _ _ g_t3_0
    have g_a3 := sN _ _ g_a3
    have g_p3 := sN _ _ g_p3
    have g_t4_0 := sN _ _ g_t4_0
    have g_a4 := sN _ _ g_a4
    have g_p4 := sN _ _ g_p4
    have g_l0 := sN _ _ g_l0
    have g_t5_0 := sN _ _ g_t5_0
    have g_a5 := sN _ _ g_a5
    have g_p5 : (upd H10 p5 (.tup [.ref a5, .str (Str.ofString "-1" ++ Txt.mul (Str.ofString "0") 39 ++ Str.ofString "=1" ++ Txt.mul (Str.ofString "0") 39)])) p5 = some (.tup [.ref a5, .str (wordsS (([(0 - 10 ^ (39 : Int).toNat, 10 ^ (39 : Int).toNat)] : List (Int × Int)).map lookL))]) := by rw [upd_same, show Str.ofString "-1" ++ Txt.mul (Str.ofString "0") 39 ++ Str.ofString "=1" ++ Txt.mul (Str.ofString "0") 39 = wordsS (([(0 - 10 ^ (39 : Int).toNat, 10 ^ (39 : Int).toNat)] : List (Int × Int)).map lookL) from TL.ext_tl (by decide +kernel)]
    have s0 := s0.trans sN
    generalize upd H10 p5 (.tup [.ref a5, .str (Str.ofString "-1" ++ Txt.mul (Str.ofString "0") 39 ++ Str.ofString "=1" ++ Txt.mul (Str.ofString "0") 39)]) = H11 at s0 g_a1 g_p1 g_t2_0 g_t2_1 g_a2 g_p2 g_t3_0 g_a3 g_p3 g_t4_0 g_a4 g_p4 g_l0 g_t5_0 g_a5 g_p5 ⊢
    clear sN
    refine ⟨(by show 1 ≤ sizeLine; decide), fun l1 hl1 => ?_⟩
    have sN : Same H11 (upd H11 l1 (.lst [.ref p5])) := (new_same (H := H11) (o := .lst [.ref p5]) hl1)
    have g_a1 := sN _ _ g_a1
    have g_p1 := sN _ _ g_p1
    have g_t2_0 := sN _ _ g_t2_0
    have g_t2_1 := sN _ _ g_t2_1
    have g_a2 := sN _ _ g_a2
    have g_p2 := sN _ _ g_p2
    have g_t3_0 := sN _ _ g_t3_0
    have g_a3 := sN _ _ g_a3
    have g_p3 := sN _ _ g_p3
    have g_t4_0 := sN _ _ g_t4_0
    have g_a4 := sN _ _ g_a4
    have g_p4 := sN _ _ g_p4
    have g_l0 := sN _ _ g_l0
    have g_t5_0 := sN _ _ g_t5_0
    have g_a5 := sN _ _ g_a5
    have g_p5 := sN _ _ g_p5
    have g_l1 : (upd H11 l1 (.lst [.ref p5])) l1 = some (.lst [.ref p5]) := by rw [upd_same]
    have s0 := s0.trans sN
    generalize upd H11 l1 (.lst [.ref p5]) = H12 at s0 g_a1 g_p1 g_t2_0 g_t2_1 g_a2 g_p2 g_t3_0 g_a3 g_p3 g_t4_0 g_a4 g_p4 g_l0 g_t5_0 g_a5 g_p5 g_l1 ⊢
    clear sN
    refine ⟨l0, l1, _, _, rfl, rfl, g_l0, g_l1, (by show 4 + 1 ≤ sizeLine; decide), fun lz hlz => ?_⟩
    have sz := new_same (o := .lst [.ref p1, .ref p2, .ref p3, .ref p4, .ref p5]) hlz
    exact q lz [.ref p1, .ref p2, .ref p3, .ref p4, .ref p5] _ (s0.trans sz) upd_same (.cons (sz _ _ g_p1) (sz _ _ g_a1) ((.nil)) (.cons (sz _ _ g_p2) (sz _ _ g_a2) ((.cons (sz _ _ g_t2_0) (.cons (sz _ _ g_t2_1) (.nil)))) (.cons (sz _ _ g_p3) (sz _ _ g_a3) ((.cons (sz _ _ g_t3_0) (.nil))) (.cons (sz _ _ g_p4) (sz _ _ g_a4) (prs_rep (sz _ _ g_t4_0) 40) (.cons (sz _ _ g_p5) (sz _ _ g_a5) ((.cons (sz _ _ g_t5_0) (.nil))) .nil)))))

def spLaw (K : PySem.W.Frag) : Sp := fun vs H Q _ => ∃ (a : Addr) (ns : List Int), vs = [.ref a] ∧ SqL K H a (ns.map V.int) ∧ ns.length ≤ 63 ∧ ∀ H', Q (.bl true) H'

theorem rims_ok : ∀ ns ∈ rims49, Rim ns := fun ns h => by
  unfold rims49 at h
  simp only [List.mem_cons, List.not_mem_nil, or_false] at h
  rcases h with rfl | rfl | rfl | rfl | rfl <;> exact ⟨by decide +kernel, by decide +kernel, by decide +kernel⟩
theorem lines_ok : ∀ ns ∈ lines49, (∀ n ∈ ns, n.natAbs < 10 ^ 40) ∧ 1 ≤ ns.length ∧ ns.length ≤ 40 := fun ns h => by
  unfold lines49 at h
  simp only [List.mem_cons, List.not_mem_nil, or_false] at h
  rcases h with rfl | rfl | rfl | rfl | rfl <;> exact ⟨by decide +kernel, by decide +kernel, by decide +kernel⟩
theorem notes_ok : ∀ ps ∈ notes49, (∀ p ∈ ps, p.1.natAbs < 10 ^ 40 ∧ 0 ≤ p.2 ∧ p.2.natAbs < 10 ^ 40) ∧ ps.length ≤ 40 := fun ns h => by
  unfold notes49 at h
  simp only [List.mem_cons, List.not_mem_nil, or_false] at h
  rcases h with rfl | rfl | rfl | rfl | rfl <;> exact ⟨by decide +kernel, by decide +kernel⟩
theorem two_dat {x y : PyData} {B : Nat} (hx : Dat 2 B x) (hy : Dat 2 B y) : Dat 3 ((B + 2) * 2 + 3) (.list [x, y]) := dat_list (n := 2) (fun d hd => by
  simp only [List.mem_cons, List.not_mem_nil, or_false] at hd
  rcases hd with rfl | rfl
  · exact hx
  · exact hy) (by decide) (Nat.le_refl _)
theorem ok_law (T : Txt K mg) : FnG P w K mg base CX0 7 T.a_law T.d_law ["script"] (spLaw K) := by
  have G_law_rims := ok_law_rims (P := P) (w := w) (base := base) T
  have G_law_lines := ok_law_lines (P := P) (w := w) (base := base) T
  have G_law_notes := ok_law_notes (P := P) (w := w) (base := base) T
  have G_format_disc := ok_format_disc (P := P) (w := w) (base := base) T
  have G_format_row := ok_format_row (P := P) (w := w) (base := base) T
  have G_format_looks := ok_format_looks (P := P) (w := w) (base := base) T
  have G_parse_disc := ok_parse_disc (P := P) (w := w) (base := base) T
  have G_parse_row := ok_parse_row (P := P) (w := w) (base := base) T
  have G_parse_looks := ok_parse_looks (P := P) (w := w) (base := base) T
  refine okG T.F_law sc_law (fun vs H Q E h => ?_) (fun cdv A outer s H vs Q E hg hr h => ?_)
  · obtain ⟨_, _, rfl, _⟩ := h
    rfl
  · obtain ⟨a, ns, rfl, hS, hlen, q⟩ := h
    refine ⟨_, (pss_cons (ps_for PassesOwn.never rfl (pi_listL (K := K) rfl (pe_call0 G_law_rims (hr.mono (by decide)) (by rfl) T.g_law_rims T.F_law_rims.kp T.b_law_rims .nil pass0)) (pg_tupL (K := K) (n := 2) rfl rfl (pgs_cons (pg_name (i := 1) sc_law.nd rfl (.inl rfl)) (pgs_cons (pg_name (i := 2) sc_law.nd rfl (.inl rfl)) pgs_nil))) (pss_cons (ps_if (pt_cmpR op_ne (pe_callB (reprL (K := K) rfl hg hr) (by rfl) T.n_repr (by decide +kernel) (pa_cons (pe_lst (pa_cons (pe_call G_format_disc (hr.mono (by decide)) (by rfl) T.g_format_disc T.F_format_disc.kp T.b_format_disc .nil pass0 (pa_cons (pv 1) pa_nil)) (pa_cons (pe_call G_parse_disc hr (by rfl) T.g_parse_disc T.F_parse_disc.kp T.b_parse_disc .nil pass0 (pa_cons (pv 2) pa_nil)) pa_nil))) pa_nil)) (pe_callB (reprL (K := K) rfl hg hr) (by rfl) T.n_repr (by decide +kernel) (pa_cons (pe_lst (pa_cons (pv 2) (pa_cons (pv 1) pa_nil))) pa_nil)) (nomark _)) (pss_one (ps_ret pe_bl)) pss_nil)
      (pss_one (ps_if (PW.pt (pw_or (pt_cmpR op_ne (pe_callW G_format_disc (hr.mono (by decide)) rfl T.g_format_disc T.F_format_disc.kp (kb_format_disc_disc T) pass0 (pk_cons (pv 1) pk_nil)) (pv 2) (nomark _)) (pw_or1 (pt_cmpR (neD (K := K) rfl hr) (pe_callW G_parse_disc hr rfl T.g_parse_disc T.F_parse_disc.kp (kb_parse_disc_text T) pass0 (pk_cons (pv 2) pk_nil)) (pv 1) (nomark _))))) (pss_one (ps_ret pe_bl)) pss_nil))))
      (pss_cons (ps_for PassesOwn.never rfl (pi_listL (K := K) rfl (pe_call0 G_law_lines (hr.mono (by decide)) (by rfl) T.g_law_lines T.F_law_lines.kp T.b_law_lines .nil pass0)) (pg_tupL (K := K) (n := 2) rfl rfl (pgs_cons (pg_name (i := 3) sc_law.nd rfl (.inl rfl)) (pgs_cons (pg_name (i := 2) sc_law.nd rfl (.inl rfl)) pgs_nil))) (pss_cons (ps_if (pt_cmpR op_ne (pe_callB (reprL (K := K) rfl hg hr) (by rfl) T.n_repr (by decide +kernel) (pa_cons (pe_lst (pa_cons (pe_call G_format_row (hr.mono (by decide)) (by rfl) T.g_format_row T.F_format_row.kp T.b_format_row .nil pass0 (pa_cons (pv 3) pa_nil)) (pa_cons (pe_call G_parse_row hr (by rfl) T.g_parse_row T.F_parse_row.kp T.b_parse_row .nil pass0 (pa_cons (pv 2) pa_nil)) pa_nil))) pa_nil)) (pe_callB (reprL (K := K) rfl hg hr) (by rfl) T.n_repr (by decide +kernel) (pa_cons (pe_lst (pa_cons (pv 2) (pa_cons (pv 3) pa_nil))) pa_nil)) (nomark _)) (pss_one (ps_ret pe_bl)) pss_nil)
      (pss_one (ps_if (PW.pt (pw_or (pt_cmpR op_ne (pe_callW G_format_row (hr.mono (by decide)) rfl T.g_format_row T.F_format_row.kp (kb_format_row_row T) pass0 (pk_cons (pv 3) pk_nil)) (pv 2) (nomark _)) (pw_or1 (pt_cmpR (neD (K := K) rfl hr) (pe_callW G_parse_row hr rfl T.g_parse_row T.F_parse_row.kp (kb_parse_row_text T) pass0 (pk_cons (pv 2) pk_nil)) (pv 3) (nomark _))))) (pss_one (ps_ret pe_bl)) pss_nil))))
      (pss_cons (ps_for PassesOwn.never rfl (pi_listL (K := K) rfl (pe_call0 G_law_notes (hr.mono (by decide)) (by rfl) T.g_law_notes T.F_law_notes.kp T.b_law_notes .nil pass0)) (pg_tupL (K := K) (n := 2) rfl rfl (pgs_cons (pg_name (i := 4) sc_law.nd rfl (.inl rfl)) (pgs_cons (pg_name (i := 2) sc_law.nd rfl (.inl rfl)) pgs_nil))) (pss_cons (ps_if (pt_cmpR op_ne (pe_callB (reprL (K := K) rfl hg hr) (by rfl) T.n_repr (by decide +kernel) (pa_cons (pe_lst (pa_cons (pe_call G_format_looks (hr.mono (by decide)) (by rfl) T.g_format_looks T.F_format_looks.kp T.b_format_looks .nil pass0 (pa_cons (pv 4) pa_nil)) (pa_cons (pe_call G_parse_looks hr (by rfl) T.g_parse_looks T.F_parse_looks.kp T.b_parse_looks .nil pass0 (pa_cons (pv 2) pa_nil)) pa_nil))) pa_nil)) (pe_callB (reprL (K := K) rfl hg hr) (by rfl) T.n_repr (by decide +kernel) (pa_cons (pe_lst (pa_cons (pv 2) (pa_cons (pv 4) pa_nil))) pa_nil)) (nomark _)) (pss_one (ps_ret pe_bl)) pss_nil)
      (pss_one (ps_if (PW.pt (pw_or (pt_cmpR op_ne (pe_callW G_format_looks (hr.mono (by decide)) rfl T.g_format_looks T.F_format_looks.kp (kb_format_looks_looks T) pass0 (pk_cons (pv 4) pk_nil)) (pv 2) (nomark _)) (pw_or1 (pt_cmpR (neD (K := K) rfl hr) (pe_callW G_parse_looks hr rfl T.g_parse_looks T.F_parse_looks.kp (kb_parse_looks_text T) pass0 (pk_cons (pv 2) pk_nil)) (pv 4) (nomark _))))) (pss_one (ps_ret pe_bl)) pss_nil))))
      (pss_one (ps_ret pe_bl))))), ?_⟩
    have dp2 : ∀ {H' : Hp} {p : Addr} {x y : V} {d e : PyData}, H' p = some (.lst [x, y]) → Dp K H' x d → Dp K H' y e → Dp K H' (.ref p) (.list [d, e]) :=
      fun e1 e2 e3 => .lst (SqL.of e1) (.cons e2 (.cons e3 .nil))
    refine ⟨rfl, fun l1 us1 HB1 sB1 e1 hT1 => ?_⟩
    refine ⟨l1, rfl, ⟨_, SqL.of e1⟩, for_list (K := K) (a := l1) (xs := us1) (fun i σ H' => ∃ y1 y2 y3 y4 : Option V, σ = [some (.ref a), y1, y2, y3, y4] ∧ Same HB1 H')
      ⟨_, _, _, _, rfl, Same.refl _⟩ (fun i σ H' _ ⟨_, _, _, _, _, s⟩ => SqL.of (s _ _ e1)) (fun i x σ H2 hx hP => ?_) (fun σ HC1 hP => ?_)⟩
    · obtain ⟨y1, y2, y3, y4, rfl, s2⟩ := hP
      obtain ⟨p, b, ms, rfl, hm, ep, eb⟩ := hT1.at hx
      have hR := rims_ok ms hm
      have l40 := hR.le
      have hb : ∀ n ∈ ms, n.natAbs < 10 ^ 40 := fun n hn => rim_small (hR.all n hn).1 (hR.all n hn).2
      have hD1 := (dat_row (n := 40) (by decide) hb l40).mono (k' := 2) (B' := 200000) (by decide) (by decide)
      have hD2 := (dat_ints (n := 40) hb (by decide) l40).mono (k' := 2) (B' := 200000) (by decide) (by decide)
      have hDA := two_dat hD1 hD2
      have fA := hDA.fits (by decide)
      have eb2 := s2 _ _ eb
      refine ⟨p, _, rfl, SqT.of (s2 _ _ ep), rfl, _, _, rfl, _, _, rfl, rfl, ?_⟩
      have b60 : ∀ n ∈ ms, n.natAbs < 10 ^ 60 := fun n hn => ten_up (hb n hn) (by decide)
      refine ⟨.ref b, rfl, b, ms, rfl, SqL.of eb2, b60, by omega, fun H3 s3 => ?_⟩
      refine ⟨.str _, rfl, ms, rfl, hR, fun l4 H4 s4 f4 e4 => ?_⟩
      refine ⟨(by show 2 ≤ sizeLine; decide), fun q5 h5 => ?_⟩
      have s5 := new_same (o := .lst [.str (wordsS (ms.map intL)), .ref l4]) h5
      refine ⟨q5, _, rfl, dp2 upd_same (.str _) (dp_ints (SqL.of (s5 _ _ e4))), hDA.rp.sh, hDA.rp.nd, hDA.rp.dp, fA, ?_⟩
      have s35 := (s3.trans s4).trans s5
      refine ⟨.str _, rfl, .ref b, rfl, (by show 2 ≤ sizeLine; decide), fun q6 h6 => ?_⟩
      have s6 := new_same (o := .lst [.str (wordsS (ms.map intL)), .ref b]) h6
      have s36 := s35.trans s6
      refine ⟨q6, _, rfl, dp2 upd_same (.str _) (dp_ints (SqL.of (s36 _ _ eb2))), hDA.rp.sh, hDA.rp.nd, hDA.rp.dp, fA, rfl, _, rfl, iteNS rfl ?_⟩
      refine ⟨.ref b, rfl, b, ms, rfl, SqL.of (s36 _ _ eb2), b60, by omega, fun H7 s7 => ?_⟩
      refine ⟨.str _, rfl, rfl, _, rfl, iteNS rfl ?_⟩
      have s37 := s36.trans s7
      refine ⟨.str _, rfl, ms, rfl, hR, fun l8 H8 s8 f8 e8 => ?_⟩
      refine ⟨.ref b, rfl, _, _, dp_ints (SqL.of e8), dp_ints (SqL.of (s8 _ _ (s37 _ _ eb2))), hD2.rp.shaped, hD2.rp.shaped, _, rfl, ?_⟩
      rw [hD2.rp.refl]
      refine iteF ?_
      exact ⟨_, _, _, _, rfl, (s2.trans s37).trans s8⟩
    obtain ⟨y1, y2, y3, y4, rfl, sC1⟩ := hP
    refine ⟨rfl, fun l2 us2 HB2 sB2 e2 hT2 => ?_⟩
    refine ⟨l2, rfl, ⟨_, SqL.of e2⟩, for_list (K := K) (a := l2) (xs := us2) (fun i σ H' => ∃ y1 y2 y3 y4 : Option V, σ = [some (.ref a), y1, y2, y3, y4] ∧ Same HB2 H')
      ⟨_, _, _, _, rfl, Same.refl _⟩ (fun i σ H' _ ⟨_, _, _, _, _, s⟩ => SqL.of (s _ _ e2)) (fun i x σ H2 hx hP => ?_) (fun σ HC2 hP => ?_)⟩
    · obtain ⟨y1, y2, y3, y4, rfl, s2⟩ := hP
      obtain ⟨p, b, ms, rfl, hm, ep, eb⟩ := hT2.at hx
      obtain ⟨hb, lp, l40⟩ := lines_ok ms hm
      have hD1 := (dat_row (n := 40) (by decide) hb l40).mono (k' := 2) (B' := 200000) (by decide) (by decide)
      have hD2 := (dat_ints (n := 40) hb (by decide) l40).mono (k' := 2) (B' := 200000) (by decide) (by decide)
      have hDA := two_dat hD1 hD2
      have fA := hDA.fits (by decide)
      have eb2 := s2 _ _ eb
      refine ⟨p, _, rfl, SqT.of (s2 _ _ ep), rfl, _, _, rfl, _, _, rfl, rfl, ?_⟩
      have b60 : ∀ n ∈ ms, n.natAbs < 10 ^ 60 := fun n hn => ten_up (hb n hn) (by decide)
      refine ⟨.ref b, rfl, b, ms, rfl, SqL.of eb2, b60, by omega, fun H3 s3 => ?_⟩
      refine ⟨.str _, rfl, ms, rfl, hb, lp, l40, fun l4 H4 s4 f4 e4 => ?_⟩
      refine ⟨(by show 2 ≤ sizeLine; decide), fun q5 h5 => ?_⟩
      have s5 := new_same (o := .lst [.str (wordsS (ms.map intL)), .ref l4]) h5
      refine ⟨q5, _, rfl, dp2 upd_same (.str _) (dp_ints (SqL.of (s5 _ _ e4))), hDA.rp.sh, hDA.rp.nd, hDA.rp.dp, fA, ?_⟩
      have s35 := (s3.trans s4).trans s5
      refine ⟨.str _, rfl, .ref b, rfl, (by show 2 ≤ sizeLine; decide), fun q6 h6 => ?_⟩
      have s6 := new_same (o := .lst [.str (wordsS (ms.map intL)), .ref b]) h6
      have s36 := s35.trans s6
      refine ⟨q6, _, rfl, dp2 upd_same (.str _) (dp_ints (SqL.of (s36 _ _ eb2))), hDA.rp.sh, hDA.rp.nd, hDA.rp.dp, fA, rfl, _, rfl, iteNS rfl ?_⟩
      refine ⟨.ref b, rfl, b, ms, rfl, SqL.of (s36 _ _ eb2), b60, by omega, fun H7 s7 => ?_⟩
      refine ⟨.str _, rfl, rfl, _, rfl, iteNS rfl ?_⟩
      have s37 := s36.trans s7
      refine ⟨.str _, rfl, ms, rfl, hb, lp, l40, fun l8 H8 s8 f8 e8 => ?_⟩
      refine ⟨.ref b, rfl, _, _, dp_ints (SqL.of e8), dp_ints (SqL.of (s8 _ _ (s37 _ _ eb2))), hD2.rp.shaped, hD2.rp.shaped, _, rfl, ?_⟩
      rw [hD2.rp.refl]
      refine iteF ?_
      exact ⟨_, _, _, _, rfl, (s2.trans s37).trans s8⟩
    obtain ⟨y1, y2, y3, y4, rfl, sC2⟩ := hP
    refine ⟨rfl, fun l3 us3 HB3 sB3 e3 hT3 => ?_⟩
    refine ⟨l3, rfl, ⟨_, SqL.of e3⟩, for_list (K := K) (a := l3) (xs := us3) (fun i σ H' => ∃ y1 y2 y3 y4 : Option V, σ = [some (.ref a), y1, y2, y3, y4] ∧ Same HB3 H')
      ⟨_, _, _, _, rfl, Same.refl _⟩ (fun i σ H' _ ⟨_, _, _, _, _, s⟩ => SqL.of (s _ _ e3)) (fun i x σ H2 hx hP => ?_) (fun σ HC3 hP => ?_)⟩
    · obtain ⟨y1, y2, y3, y4, rfl, s2⟩ := hP
      obtain ⟨p, b, ps, xs, rfl, hm, ep, eb, hPr⟩ := hT3.at hx
      obtain ⟨hb, l40⟩ := notes_ok ps hm
      have hb2 : ∀ p ∈ ps, p.1.natAbs < 10 ^ 40 ∧ p.2.natAbs < 10 ^ 40 := fun p hp => ⟨(hb p hp).1, (hb p hp).2.2⟩
      have hD1 := (dat_looks (n := 40) (by decide) hb2 l40).mono (k' := 2) (B' := 200000) (by decide) (by decide)
      have hD2 := (dat_pairs (n := 40) hb2 (by decide) l40).mono (k' := 2) (B' := 200000) (by decide) (by decide)
      have hDA := two_dat hD1 hD2
      have fA := hDA.fits (by decide)
      have eb2 := s2 _ _ eb
      have hPr2 := hPr.up s2
      refine ⟨p, _, rfl, SqT.of (s2 _ _ ep), rfl, _, _, rfl, _, _, rfl, rfl, ?_⟩
      have b60 : ∀ p ∈ ps, p.1.natAbs < 10 ^ 60 ∧ p.2.natAbs < 10 ^ 60 := fun p hp => ⟨ten_up (hb p hp).1 (by decide), ten_up (hb p hp).2.2 (by decide)⟩
      refine ⟨.ref b, rfl, b, xs, ps, rfl, SqL.of eb2, hPr2, b60, by omega, fun H3 s3 => ?_⟩
      refine ⟨.str _, rfl, ps, rfl, hb, l40, fun l4 xs4 H4 s4 f4 e4 k4 => ?_⟩
      refine ⟨(by show 2 ≤ sizeLine; decide), fun q5 h5 => ?_⟩
      have s5 := new_same (o := .lst [.str (wordsS (ps.map lookL)), .ref l4]) h5
      refine ⟨q5, _, rfl, dp2 upd_same (.str _) (.lst (SqL.of (s5 _ _ e4)) (k4.up s5).dp), hDA.rp.sh, hDA.rp.nd, hDA.rp.dp, fA, ?_⟩
      have s35 := (s3.trans s4).trans s5
      refine ⟨.str _, rfl, .ref b, rfl, (by show 2 ≤ sizeLine; decide), fun q6 h6 => ?_⟩
      have s6 := new_same (o := .lst [.str (wordsS (ps.map lookL)), .ref b]) h6
      have s36 := s35.trans s6
      refine ⟨q6, _, rfl, dp2 upd_same (.str _) (.lst (SqL.of (s36 _ _ eb2)) (hPr2.up s36).dp), hDA.rp.sh, hDA.rp.nd, hDA.rp.dp, fA, rfl, _, rfl, iteNS rfl ?_⟩
      refine ⟨.ref b, rfl, b, xs, ps, rfl, SqL.of (s36 _ _ eb2), hPr2.up s36, b60, by omega, fun H7 s7 => ?_⟩
      refine ⟨.str _, rfl, rfl, _, rfl, iteNS rfl ?_⟩
      have s37 := s36.trans s7
      refine ⟨.str _, rfl, ps, rfl, hb, l40, fun l8 xs8 H8 s8 f8 e8 k8 => ?_⟩
      refine ⟨.ref b, rfl, _, _, .lst (SqL.of e8) k8.dp, .lst (SqL.of (s8 _ _ (s37 _ _ eb2))) (hPr2.up (s37.trans s8)).dp, hD2.rp.shaped, hD2.rp.shaped, _, rfl, ?_⟩
      rw [hD2.rp.refl]
      refine iteF ?_
      exact ⟨_, _, _, _, rfl, (s2.trans s37).trans s8⟩
    obtain ⟨y1, y2, y3, y4, rfl, sC3⟩ := hP
    exact q _

end
/-! ### what the top has written, and the end -/
theorem all_mk {l : PySem.W.OpenLaw} {w : World} {K : PySem.W.Frag} {h : Heap} {mg : Str → Option Value} {fa : Addr} (X : K.In h) (G : h.Ns mainGlobals mg) (hfa : mg "law" = some (.ref fa))
    {f0 : Addr} {od0 an0 : Option Addr} {sl0 : Array (Option Value)} {oc0 kV0 dc0 pm0 cd0 ct0 : Value}
    (a0 : PySem.W.nsIn K mainGlobals "number_text" = some (some (.ref f0))) (l0 : K.lookup f0 = some ⟨oc0, od0, .func (PySem.W.fnOf "number_text" "number_text" (defArgs s_number_text) (defBody s_number_text) (defScope s_number_text) .none kV0 dc0 pm0 an0 cd0 ct0), sl0⟩) (c0 : PySem.W.codeIn K cd0 "number_text" = true) (k0 : PySem.W.keepIn K (.ref f0) = true)
    {f1 : Addr} {od1 an1 : Option Addr} {sl1 : Array (Option Value)} {oc1 kV1 dc1 pm1 cd1 ct1 : Value}
    (a1 : PySem.W.nsIn K mainGlobals "numbers_text" = some (some (.ref f1))) (l1 : K.lookup f1 = some ⟨oc1, od1, .func (PySem.W.fnOf "numbers_text" "numbers_text" (defArgs s_numbers_text) (defBody s_numbers_text) (defScope s_numbers_text) .none kV1 dc1 pm1 an1 cd1 ct1), sl1⟩) (c1 : PySem.W.codeIn K cd1 "numbers_text" = true) (k1 : PySem.W.keepIn K (.ref f1) = true)
    {f2 : Addr} {od2 an2 : Option Addr} {sl2 : Array (Option Value)} {oc2 kV2 dc2 pm2 cd2 ct2 : Value}
    (a2 : PySem.W.nsIn K mainGlobals "number_in" = some (some (.ref f2))) (l2 : K.lookup f2 = some ⟨oc2, od2, .func (PySem.W.fnOf "number_in" "number_in" (defArgs s_number_in) (defBody s_number_in) (defScope s_number_in) .none kV2 dc2 pm2 an2 cd2 ct2), sl2⟩) (c2 : PySem.W.codeIn K cd2 "number_in" = true) (k2 : PySem.W.keepIn K (.ref f2) = true)
    {f3 : Addr} {od3 an3 : Option Addr} {sl3 : Array (Option Value)} {oc3 kV3 dc3 pm3 cd3 ct3 : Value}
    (a3 : PySem.W.nsIn K mainGlobals "count_in" = some (some (.ref f3))) (l3 : K.lookup f3 = some ⟨oc3, od3, .func (PySem.W.fnOf "count_in" "count_in" (defArgs s_count_in) (defBody s_count_in) (defScope s_count_in) .none kV3 dc3 pm3 an3 cd3 ct3), sl3⟩) (c3 : PySem.W.codeIn K cd3 "count_in" = true) (k3 : PySem.W.keepIn K (.ref f3) = true)
    {f4 : Addr} {od4 an4 : Option Addr} {sl4 : Array (Option Value)} {oc4 kV4 dc4 pm4 cd4 ct4 : Value}
    (a4 : PySem.W.nsIn K mainGlobals "format_disc" = some (some (.ref f4))) (l4 : K.lookup f4 = some ⟨oc4, od4, .func (PySem.W.fnOf "format_disc" "format_disc" (defArgs s_format_disc) (defBody s_format_disc) (defScope s_format_disc) .none kV4 dc4 pm4 an4 cd4 ct4), sl4⟩) (c4 : PySem.W.codeIn K cd4 "format_disc" = true) (k4 : PySem.W.keepIn K (.ref f4) = true)
    {f5 : Addr} {od5 an5 : Option Addr} {sl5 : Array (Option Value)} {oc5 kV5 dc5 pm5 cd5 ct5 : Value}
    (a5 : PySem.W.nsIn K mainGlobals "format_row" = some (some (.ref f5))) (l5 : K.lookup f5 = some ⟨oc5, od5, .func (PySem.W.fnOf "format_row" "format_row" (defArgs s_format_row) (defBody s_format_row) (defScope s_format_row) .none kV5 dc5 pm5 an5 cd5 ct5), sl5⟩) (c5 : PySem.W.codeIn K cd5 "format_row" = true) (k5 : PySem.W.keepIn K (.ref f5) = true)
    {f6 : Addr} {od6 an6 : Option Addr} {sl6 : Array (Option Value)} {oc6 kV6 dc6 pm6 cd6 ct6 : Value}
    (a6 : PySem.W.nsIn K mainGlobals "format_looks" = some (some (.ref f6))) (l6 : K.lookup f6 = some ⟨oc6, od6, .func (PySem.W.fnOf "format_looks" "format_looks" (defArgs s_format_looks) (defBody s_format_looks) (defScope s_format_looks) .none kV6 dc6 pm6 an6 cd6 ct6), sl6⟩) (c6 : PySem.W.codeIn K cd6 "format_looks" = true) (k6 : PySem.W.keepIn K (.ref f6) = true)
    {f7 : Addr} {od7 an7 : Option Addr} {sl7 : Array (Option Value)} {oc7 kV7 dc7 pm7 cd7 ct7 : Value}
    (a7 : PySem.W.nsIn K mainGlobals "parse_disc" = some (some (.ref f7))) (l7 : K.lookup f7 = some ⟨oc7, od7, .func (PySem.W.fnOf "parse_disc" "parse_disc" (defArgs s_parse_disc) (defBody s_parse_disc) (defScope s_parse_disc) .none kV7 dc7 pm7 an7 cd7 ct7), sl7⟩) (c7 : PySem.W.codeIn K cd7 "parse_disc" = true) (k7 : PySem.W.keepIn K (.ref f7) = true)
    {f8 : Addr} {od8 an8 : Option Addr} {sl8 : Array (Option Value)} {oc8 kV8 dc8 pm8 cd8 ct8 : Value}
    (a8 : PySem.W.nsIn K mainGlobals "parse_row" = some (some (.ref f8))) (l8 : K.lookup f8 = some ⟨oc8, od8, .func (PySem.W.fnOf "parse_row" "parse_row" (defArgs s_parse_row) (defBody s_parse_row) (defScope s_parse_row) .none kV8 dc8 pm8 an8 cd8 ct8), sl8⟩) (c8 : PySem.W.codeIn K cd8 "parse_row" = true) (k8 : PySem.W.keepIn K (.ref f8) = true)
    {f9 : Addr} {od9 an9 : Option Addr} {sl9 : Array (Option Value)} {oc9 kV9 dc9 pm9 cd9 ct9 : Value}
    (a9 : PySem.W.nsIn K mainGlobals "parse_looks" = some (some (.ref f9))) (l9 : K.lookup f9 = some ⟨oc9, od9, .func (PySem.W.fnOf "parse_looks" "parse_looks" (defArgs s_parse_looks) (defBody s_parse_looks) (defScope s_parse_looks) .none kV9 dc9 pm9 an9 cd9 ct9), sl9⟩) (c9 : PySem.W.codeIn K cd9 "parse_looks" = true) (k9 : PySem.W.keepIn K (.ref f9) = true)
    {f10 : Addr} {od10 an10 : Option Addr} {sl10 : Array (Option Value)} {oc10 kV10 dc10 pm10 cd10 ct10 : Value}
    (a10 : PySem.W.nsIn K mainGlobals "_check_text" = some (some (.ref f10))) (l10 : K.lookup f10 = some ⟨oc10, od10, .func (PySem.W.fnOf "_check_text" "_check_text" (defArgs s_check_text) (defBody s_check_text) (defScope s_check_text) .none kV10 dc10 pm10 an10 cd10 ct10), sl10⟩) (c10 : PySem.W.codeIn K cd10 "_check_text" = true) (k10 : PySem.W.keepIn K (.ref f10) = true)
    {f11 : Addr} {od11 an11 : Option Addr} {sl11 : Array (Option Value)} {oc11 kV11 dc11 pm11 cd11 ct11 : Value}
    (a11 : PySem.W.nsIn K mainGlobals "_parse_words" = some (some (.ref f11))) (l11 : K.lookup f11 = some ⟨oc11, od11, .func (PySem.W.fnOf "_parse_words" "_parse_words" (defArgs s_parse_words) (defBody s_parse_words) (defScope s_parse_words) .none kV11 dc11 pm11 an11 cd11 ct11), sl11⟩) (c11 : PySem.W.codeIn K cd11 "_parse_words" = true) (k11 : PySem.W.keepIn K (.ref f11) = true)
    {f12 : Addr} {od12 an12 : Option Addr} {sl12 : Array (Option Value)} {oc12 kV12 dc12 pm12 cd12 ct12 : Value}
    (a12 : PySem.W.nsIn K mainGlobals "_slot_in" = some (some (.ref f12))) (l12 : K.lookup f12 = some ⟨oc12, od12, .func (PySem.W.fnOf "_slot_in" "_slot_in" (defArgs s_slot_in) (defBody s_slot_in) (defScope s_slot_in) .none kV12 dc12 pm12 an12 cd12 ct12), sl12⟩) (c12 : PySem.W.codeIn K cd12 "_slot_in" = true) (k12 : PySem.W.keepIn K (.ref f12) = true)
    {f13 : Addr} {od13 an13 : Option Addr} {sl13 : Array (Option Value)} {oc13 kV13 dc13 pm13 cd13 ct13 : Value}
    (a13 : PySem.W.nsIn K mainGlobals "_look_in" = some (some (.ref f13))) (l13 : K.lookup f13 = some ⟨oc13, od13, .func (PySem.W.fnOf "_look_in" "_look_in" (defArgs s_look_in) (defBody s_look_in) (defScope s_look_in) .none kV13 dc13 pm13 an13 cd13 ct13), sl13⟩) (c13 : PySem.W.codeIn K cd13 "_look_in" = true) (k13 : PySem.W.keepIn K (.ref f13) = true)
    {f14 : Addr} {od14 an14 : Option Addr} {sl14 : Array (Option Value)} {oc14 kV14 dc14 pm14 cd14 ct14 : Value}
    (a14 : PySem.W.nsIn K mainGlobals "_law_rims" = some (some (.ref f14))) (l14 : K.lookup f14 = some ⟨oc14, od14, .func (PySem.W.fnOf "_law_rims" "_law_rims" (defArgs s_law_rims) (defBody s_law_rims) (defScope s_law_rims) .none kV14 dc14 pm14 an14 cd14 ct14), sl14⟩) (c14 : PySem.W.codeIn K cd14 "_law_rims" = true) (k14 : PySem.W.keepIn K (.ref f14) = true)
    {f15 : Addr} {od15 an15 : Option Addr} {sl15 : Array (Option Value)} {oc15 kV15 dc15 pm15 cd15 ct15 : Value}
    (a15 : PySem.W.nsIn K mainGlobals "_law_lines" = some (some (.ref f15))) (l15 : K.lookup f15 = some ⟨oc15, od15, .func (PySem.W.fnOf "_law_lines" "_law_lines" (defArgs s_law_lines) (defBody s_law_lines) (defScope s_law_lines) .none kV15 dc15 pm15 an15 cd15 ct15), sl15⟩) (c15 : PySem.W.codeIn K cd15 "_law_lines" = true) (k15 : PySem.W.keepIn K (.ref f15) = true)
    {f16 : Addr} {od16 an16 : Option Addr} {sl16 : Array (Option Value)} {oc16 kV16 dc16 pm16 cd16 ct16 : Value}
    (a16 : PySem.W.nsIn K mainGlobals "_law_notes" = some (some (.ref f16))) (l16 : K.lookup f16 = some ⟨oc16, od16, .func (PySem.W.fnOf "_law_notes" "_law_notes" (defArgs s_law_notes) (defBody s_law_notes) (defScope s_law_notes) .none kV16 dc16 pm16 an16 cd16 ct16), sl16⟩) (c16 : PySem.W.codeIn K cd16 "_law_notes" = true) (k16 : PySem.W.keepIn K (.ref f16) = true)
    {f17 : Addr} {od17 an17 : Option Addr} {sl17 : Array (Option Value)} {oc17 kV17 dc17 pm17 cd17 ct17 : Value}
    (a17 : PySem.W.nsIn K mainGlobals "law" = some (some (.ref f17))) (l17 : K.lookup f17 = some ⟨oc17, od17, .func (PySem.W.fnOf "law" "law" (defArgs s_law) (defBody s_law) (defScope s_law) .none kV17 dc17 pm17 an17 cd17 ct17), sl17⟩) (c17 : PySem.W.codeIn K cd17 "law" = true) (k17 : PySem.W.keepIn K (.ref f17) = true)
    {t_MOST_SLOTS : Tok} (m_MOST_SLOTS : PySem.W.nsIn K mainGlobals "MOST_SLOTS" = some (some (.int (40) t_MOST_SLOTS)))
    {t_MOST_LIGHT : Tok} (m_MOST_LIGHT : PySem.W.nsIn K mainGlobals "MOST_LIGHT" = some (some (.int (1000000000000000000000000000000) t_MOST_LIGHT)))
    {t_MOST_LOOKS : Tok} (m_MOST_LOOKS : PySem.W.nsIn K mainGlobals "MOST_LOOKS" = some (some (.int (40) t_MOST_LOOKS)))
    {t_MOST_DIGITS : Tok} (m_MOST_DIGITS : PySem.W.nsIn K mainGlobals "MOST_DIGITS" = some (some (.int (40) t_MOST_DIGITS)))
    {t_PART_DIGITS : Tok} (m_PART_DIGITS : PySem.W.nsIn K mainGlobals "PART_DIGITS" = some (some (.int (60) t_PART_DIGITS)))
    {t_PART : Tok} (m_PART : PySem.W.nsIn K mainGlobals "PART" = some (some (.int (1000000000000000000000000000000000000000000000000000000000000) t_PART)))
    (z_abs : PySem.W.nsIn K mainGlobals "abs" = some none)
    (z_divmod : PySem.W.nsIn K mainGlobals "divmod" = some none)
    (z_enumerate : PySem.W.nsIn K mainGlobals "enumerate" = some none)
    (z_int : PySem.W.nsIn K mainGlobals "int" = some none)
    (z_isinstance : PySem.W.nsIn K mainGlobals "isinstance" = some none)
    (z_len : PySem.W.nsIn K mainGlobals "len" = some none)
    (z_repr : PySem.W.nsIn K mainGlobals "repr" = some none)
    (z_str : PySem.W.nsIn K mainGlobals "str" = some none)
    : ∃ fd : FuncData, (∀ (s : Shared) (u : Value), BindsTo s fd ⟨[u], []⟩ [("script", u)]) ∧ ∀ base : Heap, K.In base → base.Ns mainGlobals mg → FnG l.prog w K mg base CX0 7 fa fd ["script"] (spLaw K) := by
  have e := hfa.symm.trans (PySem.W.mg_of X G a17)
  cases e
  have F0 := fun_mk (st := s_number_text) l0 c0 k0
  have b0 := F0.binds (ps := ["number"]) fun _ _ _ _ _ _ us hl => match us, hl with | [_], _ => rfl
  have F1 := fun_mk (st := s_numbers_text) l1 c1 k1
  have b1 := F1.binds (ps := ["numbers"]) fun _ _ _ _ _ _ us hl => match us, hl with | [_], _ => rfl
  have F2 := fun_mk (st := s_number_in) l2 c2 k2
  have b2 := F2.binds (ps := ["word"]) fun _ _ _ _ _ _ us hl => match us, hl with | [_], _ => rfl
  have F3 := fun_mk (st := s_count_in) l3 c3 k3
  have b3 := F3.binds (ps := ["word"]) fun _ _ _ _ _ _ us hl => match us, hl with | [_], _ => rfl
  have F4 := fun_mk (st := s_format_disc) l4 c4 k4
  have b4 := F4.binds (ps := ["disc"]) fun _ _ _ _ _ _ us hl => match us, hl with | [_], _ => rfl
  have F5 := fun_mk (st := s_format_row) l5 c5 k5
  have b5 := F5.binds (ps := ["row"]) fun _ _ _ _ _ _ us hl => match us, hl with | [_], _ => rfl
  have F6 := fun_mk (st := s_format_looks) l6 c6 k6
  have b6 := F6.binds (ps := ["looks"]) fun _ _ _ _ _ _ us hl => match us, hl with | [_], _ => rfl
  have F7 := fun_mk (st := s_parse_disc) l7 c7 k7
  have b7 := F7.binds (ps := ["text"]) fun _ _ _ _ _ _ us hl => match us, hl with | [_], _ => rfl
  have F8 := fun_mk (st := s_parse_row) l8 c8 k8
  have b8 := F8.binds (ps := ["text"]) fun _ _ _ _ _ _ us hl => match us, hl with | [_], _ => rfl
  have F9 := fun_mk (st := s_parse_looks) l9 c9 k9
  have b9 := F9.binds (ps := ["text"]) fun _ _ _ _ _ _ us hl => match us, hl with | [_], _ => rfl
  have F10 := fun_mk (st := s_check_text) l10 c10 k10
  have b10 := F10.binds (ps := ["text"]) fun _ _ _ _ _ _ us hl => match us, hl with | [_], _ => rfl
  have F11 := fun_mk (st := s_parse_words) l11 c11 k11
  have b11 := F11.binds (ps := ["text", "value_in", "most"]) fun _ _ _ _ _ _ us hl => match us, hl with | [_, _, _], _ => rfl
  have F12 := fun_mk (st := s_slot_in) l12 c12 k12
  have b12 := F12.binds (ps := ["word"]) fun _ _ _ _ _ _ us hl => match us, hl with | [_], _ => rfl
  have F13 := fun_mk (st := s_look_in) l13 c13 k13
  have b13 := F13.binds (ps := ["word"]) fun _ _ _ _ _ _ us hl => match us, hl with | [_], _ => rfl
  have F14 := fun_mk (st := s_law_rims) l14 c14 k14
  have b14 := F14.binds (ps := []) fun _ _ _ _ _ _ us hl => match us, hl with | [], _ => rfl
  have F15 := fun_mk (st := s_law_lines) l15 c15 k15
  have b15 := F15.binds (ps := []) fun _ _ _ _ _ _ us hl => match us, hl with | [], _ => rfl
  have F16 := fun_mk (st := s_law_notes) l16 c16 k16
  have b16 := F16.binds (ps := []) fun _ _ _ _ _ _ us hl => match us, hl with | [], _ => rfl
  have F17 := fun_mk (st := s_law) l17 c17 k17
  exact ⟨_, fun s v => .of_eq rfl, fun base _ _ => ok_law ⟨f0, _, F0, b0, PySem.W.mg_of X G a0, f1, _, F1, b1, PySem.W.mg_of X G a1, f2, _, F2, b2, PySem.W.mg_of X G a2, f3, _, F3, b3, PySem.W.mg_of X G a3, f4, _, F4, b4, PySem.W.mg_of X G a4, f5, _, F5, b5, PySem.W.mg_of X G a5, f6, _, F6, b6, PySem.W.mg_of X G a6, f7, _, F7, b7, PySem.W.mg_of X G a7, f8, _, F8, b8, PySem.W.mg_of X G a8, f9, _, F9, b9, PySem.W.mg_of X G a9, f10, _, F10, b10, PySem.W.mg_of X G a10, f11, _, F11, b11, PySem.W.mg_of X G a11, f12, _, F12, b12, PySem.W.mg_of X G a12, f13, _, F13, b13, PySem.W.mg_of X G a13, f14, _, F14, b14, PySem.W.mg_of X G a14, f15, _, F15, b15, PySem.W.mg_of X G a15, f16, _, F16, b16, PySem.W.mg_of X G a16, fa, _, F17, PySem.W.mg_of X G a17, t_MOST_SLOTS, PySem.W.mg_of X G m_MOST_SLOTS, t_MOST_LIGHT, PySem.W.mg_of X G m_MOST_LIGHT, t_MOST_LOOKS, PySem.W.mg_of X G m_MOST_LOOKS, t_MOST_DIGITS, PySem.W.mg_of X G m_MOST_DIGITS, t_PART_DIGITS, PySem.W.mg_of X G m_PART_DIGITS, t_PART, PySem.W.mg_of X G m_PART, PySem.W.mg_none_of X G z_abs, PySem.W.mg_none_of X G z_divmod, PySem.W.mg_none_of X G z_enumerate, PySem.W.mg_none_of X G z_int, PySem.W.mg_none_of X G z_isinstance, PySem.W.mg_none_of X G z_len, PySem.W.mg_none_of X G z_repr, PySem.W.mg_none_of X G z_str⟩⟩
end Sd
open PySem PySem.W PyProof.Rows
set_option maxRecDepth 100000 in
set_option maxHeartbeats 0 in
theorem PySem.Challenge.cw_slitdiscs_k49_written_texts_holds : PySem.Challenge.rw_slitdiscs_k49_written_texts.Holds := by
  w_on; o_law; k_head; (case hw => w_witness2)
  k_fill
  refine Sd.gwalk (l := PySem.Challenge.rw_slitdiscs_k49_written_texts) (n := 63) (k := 7) (x := "script") (sp := Sd.spLaw) rfl (by decide) rfl ⟨rfl, by decide, by decide⟩ (fun w h Y => PySem.W.kIn_of Y) ?F (fun _ _ a ns hl hS => ⟨a, ns, rfl, hS, hl, fun _ => rfl⟩)
  case F =>
    intro w mg fa h KX G hmg
    refine' Sd.all_mk KX G hmg ?a0 ?l0 ?c0 ?k0 ?a1 ?l1 ?c1 ?k1 ?a2 ?l2 ?c2 ?k2 ?a3 ?l3 ?c3 ?k3 ?a4 ?l4 ?c4 ?k4 ?a5 ?l5 ?c5 ?k5 ?a6 ?l6 ?c6 ?k6 ?a7 ?l7 ?c7 ?k7 ?a8 ?l8 ?c8 ?k8 ?a9 ?l9 ?c9 ?k9 ?a10 ?l10 ?c10 ?k10 ?a11 ?l11 ?c11 ?k11 ?a12 ?l12 ?c12 ?k12 ?a13 ?l13 ?c13 ?k13 ?a14 ?l14 ?c14 ?k14 ?a15 ?l15 ?c15 ?k15 ?a16 ?l16 ?c16 ?k16 ?a17 ?l17 ?c17 ?k17 ?m_MOST_SLOTS ?m_MOST_LIGHT ?m_MOST_LOOKS ?m_MOST_DIGITS ?m_PART_DIGITS ?m_PART ?z_abs ?z_divmod ?z_enumerate ?z_int ?z_isinstance ?z_len ?z_repr ?z_str
    (case a0 => k_is)
    (case l0 => k_is)
    (case c0 => k_is)
    (case k0 => k_is)
    (case a1 => k_is)
    (case l1 => k_is)
    (case c1 => k_is)
    (case k1 => k_is)
    (case a2 => k_is)
    (case l2 => k_is)
    (case c2 => k_is)
    (case k2 => k_is)
    (case a3 => k_is)
    (case l3 => k_is)
    (case c3 => k_is)
    (case k3 => k_is)
    (case a4 => k_is)
    (case l4 => k_is)
    (case c4 => k_is)
    (case k4 => k_is)
    (case a5 => k_is)
    (case l5 => k_is)
    (case c5 => k_is)
    (case k5 => k_is)
    (case a6 => k_is)
    (case l6 => k_is)
    (case c6 => k_is)
    (case k6 => k_is)
    (case a7 => k_is)
    (case l7 => k_is)
    (case c7 => k_is)
    (case k7 => k_is)
    (case a8 => k_is)
    (case l8 => k_is)
    (case c8 => k_is)
    (case k8 => k_is)
    (case a9 => k_is)
    (case l9 => k_is)
    (case c9 => k_is)
    (case k9 => k_is)
    (case a10 => k_is)
    (case l10 => k_is)
    (case c10 => k_is)
    (case k10 => k_is)
    (case a11 => k_is)
    (case l11 => k_is)
    (case c11 => k_is)
    (case k11 => k_is)
    (case a12 => k_is)
    (case l12 => k_is)
    (case c12 => k_is)
    (case k12 => k_is)
    (case a13 => k_is)
    (case l13 => k_is)
    (case c13 => k_is)
    (case k13 => k_is)
    (case a14 => k_is)
    (case l14 => k_is)
    (case c14 => k_is)
    (case k14 => k_is)
    (case a15 => k_is)
    (case l15 => k_is)
    (case c15 => k_is)
    (case k15 => k_is)
    (case a16 => k_is)
    (case l16 => k_is)
    (case c16 => k_is)
    (case k16 => k_is)
    (case a17 => k_is)
    (case l17 => k_is)
    (case c17 => k_is)
    (case k17 => k_is)
    (case m_MOST_SLOTS => k_is)
    (case m_MOST_LIGHT => k_is)
    (case m_MOST_LOOKS => k_is)
    (case m_MOST_DIGITS => k_is)
    (case m_PART_DIGITS => k_is)
    (case m_PART => k_is)
    (case z_abs => k_is)
    (case z_divmod => k_is)
    (case z_enumerate => k_is)
    (case z_int => k_is)
    (case z_isinstance => k_is)
    (case z_len => k_is)
    (case z_repr => k_is)
    (case z_str => k_is)
