import PyProof.Rows.All
import Wide.All
import OpenK.AllK
import Wide.FinOn
import HandS.ForExc
import HandS.ExcInit
import HandS.TryMany
import KE.GoesEnum
import HandS.ForMost
import HandS.Walk
import HandS.Lambda
import HandS.SortKw
import KE.KSortKey
import PyProof.Rows.SortStr
import PyProof.Rows.SortKeyStr
import HandS.Text
import KE.LtSeq
import KE.KRevSl
import PyProof.ListStr
import PyProof.StrOps2
import PyProof.SliceStr2
import PyProof.Rows.StrJoinStr
import HandS.Strs
import PyProof.StrWalks
import PyProof.CollectStr
import PyProof.Rows.StrOver
import KE.GoesMore
import HandS.DictComp
import HandS.NoneIn
import HandS.IsInst
import HandS.Conv
import HandS.Flow
import HandS.Deep
import HandS.Codes
import HandS.Wide
import HandS.TupAny
import HandS.EndTab
import HandS.ExcField
import HandS.Replace
import PyProof.StrLawsFirst
import HandS.WideBits
import HandS.HeadHook4
import KE.KNestM
import PySem.Challenge.RW_wordvault_k02_dictionaries_refused
set_option Elab.async false
set_option maxRecDepth 100001
set_option maxHeartbeats 3999999
/-! raise C(), C an own class whose own __init__ stores nothing. -/
namespace L2
open PySem.Spec PySem PyProof.Rows
section
variable {X : Cx}
theorem mk_bare {pins : List (Addr × Obj)} {σ : St} {H1 H2 : Hp} {Q : XK} {hp hp2 h2 : Heap} {g1 g2 : Array GenState} {d1 d2 : Drawn} {t1 t2 : Nat} {o1 o2 : OsState} {a C : Addr} (T : Raises X (.ref C))
    (I1 : Inv X pins σ H1 ⟨hp, g1, d1, t1, o1⟩) (big : hp.objs.size ≤ a) (k : ∀ b o, hp.get? b = some o → hp2.get? b = some o) (un : Un (frs X.stack) [] (upd H1 a (exo a C none)) H2 hp2 h2)
    (hok : HOk X.prog X.w H2 h2) (ho : o2 = o1) (hb : AllBare g2) (ea : H2 a = some (exo a C none)) (q : Q (.ref C) none (del H2 a)) : MkP X pins σ Q (.ref a) ⟨h2, g2, d2, t2, o2⟩ := by
  obtain ⟨t0, he⟩ := exo_at hok ea
  have na : H1 a = none := I1.hok.fresh big
  obtain ⟨G, gyes, gno⟩ := restrict h2 fun b => decide (b ≠ a)
  have gk : ∀ b, b ≠ a → G.get? b = h2.get? b := fun b z => gyes b (decide_eq_true z)
  have ga : G.get? a = none := gno a (by simp)
  have ne : ∀ {b : Addr} {o : Obj}, hp.get? b = some o → b ≠ a := fun z => Nat.ne_of_lt (Nat.lt_of_lt_of_le (Heap.lt_size z) big)
  have free : ∀ {b : Addr}, b ≠ a → H1 b = none → upd H1 a (exo a C none) b = none := fun z n => (upd_ne z).trans n
  have U : Un (frs X.stack) [] H1 (del H2 a) hp G := {
    keep := fun b o z n hf hx => (gk b (ne z)).trans (un.keep b o (k b o z) (free (ne z) n) hf hx)
    slot := fun b o z n hf hx => let ⟨sl, e⟩ := un.slot b o (k b o z) (free (ne z) n) hf hx; ⟨sl, (gk b (ne z)).trans e⟩
    free := fun b o z n hx => (del_ne (ne z)).trans (un.free b o (k b o z) (free (ne z) n) hx)
    there := fun b o z hx => let ⟨o', e⟩ := un.there b o (k b o z) hx; ⟨o', (gk b (ne z)).trans e⟩
    tups := fun b xs z => (del_ne (ne_of_none z na)).trans (un.tups b xs ((upd_ne (ne_of_none z na)).trans z))
    frzs := fun b o v z => (del_ne (ne_of_none z na)).trans (un.frzs b o v ((upd_ne (ne_of_none z na)).trans z))
    tbls := fun b ps z => let ⟨m, e⟩ := un.tbls b ps ((upd_ne (ne_of_none z na)).trans z); ⟨m, (del_ne (ne_of_none z na)).trans e⟩ }
  have hG : HOk X.prog X.w (del H2 a) G := fun b o z => by
    have hba : b ≠ a := fun e => by
      rw [e, del_same] at z
      cases z
    rw [del_ne hba] at z
    have own : ∀ {c : Addr}, H2 c = some (.own b) → c ≠ a := fun hc => at_ne ea hc exo_own
    refine (hok b o z).stay (fun c v hc y => ?_) (fun c hc => (del_ne (own hc)).trans hc) fun c xs hc => (del_ne (at_ne ea hc exo_tup)).trans hc
    refine (gk c ?_).trans y
    rcases hc with rfl | hc
    · exact hba
    · exact own hc
  have J : Inv X pins σ (del H2 a) ⟨G, g2, d2, t2, o2⟩ := I1.call' (ch := []) ho U hG hb fun b z => absurd z (by simp)
  refine ⟨a, _, _, ⟨G, g2, d2, t2, o2⟩, _, .ref C, none, rfl, J, fun b o z => ?_, ga, he, ⟨rfl, rfl⟩, rfl, rfl, del_same, rfl, hb, T, q⟩
  have hba : b ≠ a := fun e => by
    rw [e] at z
    have z' : G.get? a = some o := z
    rw [ga] at z'
    cases z'
  exact (gk b hba).symm.trans z
/-- C(): what its __init__ keeps, at the fresh exception -/
def tMkO0 (C : Addr) (sp : Sp) : St → Hp → XK → Prop := fun _ H Q => ∀ a, H a = none → sp [.ref a] (upd H a (exo a C none)) (fun v H2 => v = .non ∧ H2 a = some (exo a C none) ∧ Q (.ref C) none (del H2 a)) (fun _ _ _ => False)
theorem pmk_oex0 {CX : CXT} {x : Str} {p pos : Pos} {C fI : Addr} {k : Nat} {fd : FuncData} {ps : List Str} {sp : Sp} (T : OexC X.K C) (iC : PySem.W.findIn X.K (.ref C) "__init__" = some (some (.ref fI))) (tI : PySem.W.typeIn X.K (.ref fI) = some (.type "function"))
    (F1 : FnOk X.prog X.w X.K X.mg X.base CX k fI fd ps sp) (hr : Room (k + 1) X.A) (hb : Binds X.K fd ps []) (hx : Passes CX X (fun _ _ _ => False)) (hg : Gl X x) (hm : X.mg x = some (.ref C)) (hdb : (x == ("__debug__" : Str)) = false := by decide) :
    PMk X (.Call (.Name x p) [] [] pos) (tMkO0 C sp) := by
  intro pins s σ H Q I h
  obtain ⟨nm, qn, N, bs, bm, sn, sb, ab, col, dd, j0, j1, j2, j3, j5, hC, hbm⟩ := T.cls
  refine wpAny_Call_Name_kw (ld_glob I hg hm ?_ hdb)
  refine PySem.W.callWith_K0 I.kIn T.kC ?_
  show wpAny _ _ (call (.ref C) []) _ _ _
  obtain ⟨hp, g, dr, tk, os⟩ := s
  have big : hp.objs.size ≤ hp.objs.size + 1 := Nat.le_succ _
  have hn : H (hp.objs.size + 1) = none := I.hok.fresh big
  have hq := h (hp.objs.size + 1) hn
  have kk : ∀ b o, hp.get? b = some o → ((hp.push (PySem.W.kdv_tup [])).push (PySem.HandSPX.excO C hp.objs.size)).get? b = some o := fun b o e => Heap.get?_push_of_some _ (Heap.get?_push_of_some _ e)
  have hget : ((hp.push (PySem.W.kdv_tup [])).push (PySem.HandSPX.excO C hp.objs.size)).get? (hp.objs.size + 1) = some (PySem.HandSPX.excO C hp.objs.size) := by heap_get
  have I2 : Inv X pins σ (upd H (hp.objs.size + 1) (exo (hp.objs.size + 1) C none)) ⟨(hp.push (PySem.W.kdv_tup [])).push (PySem.HandSPX.excO C hp.objs.size), g, dr, tk, os⟩ := I.laid (t' := tk) kk big (exo_ok hget)
  have r2 : Vals [V.ref (hp.objs.size + 1)] [Value.ref (hp.objs.size + 1)] := .cons rfl .nil
  have hl : ([Value.ref (hp.objs.size + 1)] ++ ([] : List Value)).length = ps.length := (F1.len _ _ _ _ hq)
  refine wpAny_call (PySem.HandSPX.call_own F.excBase_ValueError (fun Y => PySem.HandSPX.refsVE_contains Y bm hbm) (I.kIn _ _ hC) (PySem.W.looks_findIn I.kIn iC) (fun self => PySem.W.bind_fn I.kIn self tI) (by show 0 ≤ sizeLine; exact Nat.zero_le _)
    (codeAny_mono (F1.run _ X.stack _ _ ⟨[Value.ref (hp.objs.size + 1)], []⟩ [Value.ref (hp.objs.size + 1)] _ _ (fun _ _ _ => False) (hr.make C [] []) (I2.env0.make C [] []) (hb _ [Value.ref (hp.objs.size + 1)] I2.kIn hl) r2 hq) fun r s2 hq2 => ?_))
  cases r with
  | error er => exact hx pins σ _ _ er s2 I2 hq2
  | ok fl =>
    cases fl with
    | ret u =>
      obtain ⟨v, H2, os2, bare2, un2, hok2, rv, ev, ea, q2⟩ := hq2
      subst ev
      obtain ⟨h2, g2, d2, t2, o2⟩ := s2
      exact ⟨rv, mk_bare (raises_own T.exC T.tyC) I big kk un2 hok2 os2 bare2 ea q2⟩
    | next => exact hq2.elim
    | brk => exact hq2.elim
    | cont => exact hq2.elim
end
end L2
set_option Elab.async false
set_option maxRecDepth 100001
set_option maxHeartbeats 3999999
/-! try with several clauses, some of which name the exception. -/
namespace L2
open PySem.Spec PySem PyProof.Rows
/-- a clause: its class, the slot of its name, its suite's reading -/
abbrev Clause := Value × Option Nat × (Addr → Value → Option Addr → TS)
def endsOf : Option Nat → Ends → Ends
  | none, D => D
  | some i, D => ⟨fun σ H => D.nx (σ.set i none) H, D.rt, fun σ H => D.bk (σ.set i none) H, fun σ H => D.ct (σ.set i none) H⟩
def slotOf : Option Nat → Addr → St → St
  | none, _, σ => σ
  | some i, a, σ => σ.set i (some (.ref a))
def wClauses (K : PySem.W.Frag) (Wout : WX) (D : Ends) : List Clause → WX
  | [], cls, d, σ, H => Wout cls d σ H
  | (c, i, ts) :: r, cls, d, σ, H => ∃ b, PySem.W.exmOne K cls c = some b ∧ (b = true → ∀ a, H a = none → ts a cls d (endsOf i D) (slotOf i a σ) H) ∧ (b = false → wClauses K Wout D r cls d σ H)
def SuiteOk (X : Cx) (sts : List Stmt) (ts : Addr → Value → Option Addr → TS) : Prop :=
  ∀ (a : Addr) (oe : Obj) (cls : Value) (d : Option Addr) (pn : List (Addr × Obj)), Zc cls d oe → (∃ vs, oe.data = .fields vs) → PSs (X.suite a ((a, oe) :: pn)) sts (ts a cls d)
inductive ClausesOk (X : Cx) : List ExceptHandler → List Clause → Prop
  | nil : ClausesOk X [] []
  | plain {x c ts b₀ su np p2 hds l} (hc : Names X x c) (ok : SuiteOk X (b₀ :: su) ts) (r : ClausesOk X hds l) : ClausesOk X (.ExceptHandler (some (.Name x np)) none (b₀ :: su) p2 :: hds) ((c, none, ts) :: l)
  | named {x c ts b₀ su np p2 hds l n i} (hc : Names X x c) (hi : X.N[i]? = some n) (hn : X.env.kindOf n = some .local) (ok : SuiteOk X (b₀ :: su) ts) (r : ClausesOk X hds l) :
      ClausesOk X (.ExceptHandler (some (.Name x np)) (some n) (b₀ :: su) p2 :: hds) ((c, some i, ts) :: l)
section
variable {X : Cx} {pins : List (Addr × Obj)} {σ : St} {H : Hp} {z sI : Shared} {a : Addr} {cls : Value} {d : Option Addr} {B h : Heap} {D : Ends}
/-- an exception that has come to its try: what is known there -/
structure Come (X : Cx) (pins : List (Addr × Obj)) (σ : St) (H : Hp) (sI z : Shared) (a : Addr) (cls : Value) (d : Option Addr) (B h : Heap) : Prop where
  hs : X.stack = X.env :: X.outer
  hf : X.env.frame = some X.env.locals
  J : Inv X pins σ H sI
  nb : ∀ b o, sI.heap.get? b = some o → b ∉ frs X.stack → B.get? b = some o
  fl : HandSPX.FlyingZ B (X.env :: X.outer) a (Zc cls d) h
  up : sI.heap.UpToSlots h
  na : H a = none
  os : z.os = sI.os
  ag : AllBare z.gens
theorem Come.inv (C : Come X pins σ H sI z a cls d B h) : Inv X pins σ H { z with heap := h } := C.J.landed C.nb C.fl.1 C.up C.os C.ag
theorem Come.apart (C : Come X pins σ H sI z a cls d B h) : a ≠ X.env.locals ∧ a ∉ X.fs := by
  obtain ⟨oe, vs, he, _, hd⟩ := C.fl.there
  have no : a ∉ frs (X.env :: X.outer) := fun m => by
    obtain ⟨_, o, e, q⟩ := C.fl.2.2.1.mem m
    rw [he] at e
    cases e
    exact q _ hd
  refine ⟨fun e => no (List.mem_filterMap.mpr ⟨X.env, List.mem_cons_self, by rw [C.hf, e]⟩), fun m => ?_⟩
  obtain ⟨e, he, q⟩ := List.mem_filterMap.mp m
  exact no (List.mem_filterMap.mpr ⟨e, List.mem_cons_of_mem _ he, q⟩)
theorem Come.suite (C : Come X pins σ H sI z a cls d B h) : ∃ oe, Zc cls d oe ∧ (∃ vs, oe.data = .fields vs) ∧ h.get? a = some oe ∧ Inv (X.suite a ((a, oe) :: (X.pn ++ pins))) [] σ H { z with heap := h } := by
  obtain ⟨oe, vs, he, hz, hd⟩ := C.fl.there
  exact ⟨oe, hz, ⟨vs, hd⟩, he, C.inv.suite he hd C.na C.apart.1 C.apart.2⟩
theorem Come.step (C : Come X pins σ H sI z a cls d B h) {h2 : Heap} (fl : HandSPX.FlyingZ B (X.env :: X.outer) a (Zc cls d) h2) (up : h.UpToSlots h2) : Come X pins σ H sI z a cls d B h2 :=
  ⟨C.hs, C.hf, C.J, C.nb, fl, C.up.trans up, C.na, C.os, C.ag⟩
/-- the class of a clause is looked at -/
theorem Come.test (C : Come X pins σ H sI z a cls d B h) {x : Str} {c : Value} {np : Pos} {b : Bool} (hc : Names X x c) (hb : PySem.W.exmOne X.K cls c = some b) {Q : Bool → Shared → Prop} {E E2 : Value → Shared → Prop} (q : Q b { z with heap := h }) :
    wpAny (model X.prog X.w) (X.A.mark (some (.ref a))) (eval (.Name x np) X.env) (fun u s1 => wpAny (model X.prog X.w) (X.A.mark (some (.ref a))) (excMatches (.ref a) u) Q E2 s1) E { z with heap := h } := by
  obtain ⟨oe, hz, _, he, S⟩ := C.suite
  have LT : PySem.W.Looks (model X.prog X.w) h (typeOf (.ref a)) cls := fun _ _ _ _ k q2 => wpAny_typeOf_ref (k _ _ he) (by rw [hz.1]; exact q2)
  have LM := (PySem.W.exm_one (M := model X.prog X.w) C.inv.kIn LT hb).here (A := X.A.mark (some (.ref a))) (Q := Q) (E := E2) (s := { z with heap := h }) q
  obtain ⟨hg, hdb, hm | ⟨hm, hv, hnn⟩⟩ := hc
  · exact ld_glob (X := X.suite a ((a, oe) :: (X.pn ++ pins))) S hg hm LM hdb
  · exact ld_blt (X := X.suite a ((a, oe) :: (X.pn ++ pins))) S hg hm hv LM hnn hdb
/-- no clause is left: it goes on -/
theorem Come.on {Wout : WX} (C : Come X pins σ H sI z a cls d B h) (tk : Takes X Wout) (wo : Wout cls d σ H) :
    wpAny (model X.prog X.w) X.A (handleBy (.ref a) X.env []) (SP X pins D) X.xe { z with heap := h } := by
  refine wpAny_handleBy_nil ?_
  obtain ⟨_, _, _, oe, vs, T, oT, ts, he, _, hd, h1, _⟩ := id C.fl
  unfold PySem.passOn
  refine wpAny_bind (wpAny_field he hd h1 ?_)
  rw [if_neg (show ¬ ((Value.ref T == Value.none) = true) from by simp)]
  have fin : wpAny (model X.prog X.w) X.A (setFlight (.ref a) X.env.frame) (fun _ s4 => wpAny (model X.prog X.w) X.A (throw (.ref a) : Sem Flow) (SP X pins D) X.xe s4) X.xe { z with heap := h } := by
    rw [C.hf]
    refine HandSPX.setFlight_upZ C.fl fun h4 hh4 up4 => wpAny_throw (tk _ _ ?_)
    exact ⟨a, B, sI, pins, σ, H, cls, d, rfl, C.J, C.nb, C.up.trans up4, .inr (.inr (by rw [C.hs]; exact hh4)), C.na, C.os, C.ag, wo⟩
  first | exact wpAny_bind (wpAny_pure (wpAny_bind fin)) | exact wpAny_bind fin
theorem Come.run {Wout : WX} {hds : List ExceptHandler} {l : List Clause} (hN : X.N.Nodup) (tk : Takes X Wout) (ok : ClausesOk X hds l) : ∀ {h : Heap}, Come X pins σ H sI z a cls d B h → wClauses X.K Wout D l cls d σ H →
    wpAny (model X.prog X.w) X.A (handleBy (.ref a) X.env hds) (SP X pins D) X.xe { z with heap := h } := by
  induction ok with
  | nil => exact fun C w => C.on tk w
  | plain hc su r ih =>
    intro h C w
    obtain ⟨b, hb, yes, no⟩ := w
    refine wpAny_handleBy_cons (codeAny_handlers_test (C.test hc hb ?_)) (by intro q; cases q)
    cases b with
    | false => exact ih C (no rfl)
    | true =>
      refine codeAny_handlers_suite ?_
      refine HandSPX.lands_againZ C.fl fun h4 fl4 up4 => ?_
      have C4 := C.step fl4 up4
      obtain ⟨oe, hz, hd, he, S⟩ := C4.suite
      refine wpAny_mono ((su a oe cls d (X.pn ++ pins) hz hd).run [] _ _ H _ S (yes rfl a C.na)) (fun f s6 hsp => ?_) (fun _ _ q => False.elim q)
      cases f with
      | next => exact let ⟨_, _, S6, q6⟩ := hsp; ⟨_, _, S6.unsuite C.J.ok, q6⟩
      | brk => exact let ⟨_, _, S6, q6⟩ := hsp; ⟨_, _, S6.unsuite C.J.ok, q6⟩
      | cont => exact let ⟨_, _, S6, q6⟩ := hsp; ⟨_, _, S6.unsuite C.J.ok, q6⟩
      | ret u => exact let ⟨_, _, _, S6, r6, q6⟩ := hsp; ⟨_, _, _, S6.unsuite C.J.ok, r6, q6⟩
  | @named x c ts b₀ suite np p2 hds l n i hc hi hn su r ih =>
    intro h C w
    obtain ⟨b, hb, yes, no⟩ := w
    refine wpAny_handleBy_cons (codeAny_handlers_test (C.test hc hb ?_)) (by intro q; cases q)
    cases b with
    | false => exact ih C (no rfl)
    | true =>
      refine codeAny_handlers_suite_as ?_
      refine HandSPX.lands_againZ C.fl fun h4 fl4 up4 => ?_
      have C4 := C.step fl4 up4
      obtain ⟨oe, hz, hd, he, S⟩ := C4.suite
      refine store_ok (X := X.suite a ((a, oe) :: (X.pn ++ pins))) (v := .ref a) S hN hi (.inl hn) rfl (fun s5 S5 => ?_) (.inr hn)
      refine wpAny_mono ((su a oe cls d (X.pn ++ pins) hz hd).run [] s5 _ H _ S5 (yes rfl a C.na)) (fun f s6 hsp => ?_) (fun _ _ q => False.elim q)
      have away : ∀ {σ6 : St} {H6 : Hp} {Q : Shared → Prop}, Inv (X.suite a ((a, oe) :: (X.pn ++ pins))) [] σ6 H6 s6 → (∀ s7, Inv X pins (σ6.set i none) H6 s7 → Q s7) →
          wpAny (model X.prog X.w) X.A (do bindName X.env n .none; unbindBehindTheSuite X.env n p2) (fun _ s7 => Q s7) X.xe s6 := fun S6 hq => gone_ok (S6.unsuite C.J.ok) hN hi hn hq
      cases f with
      | next => exact let ⟨_, _, S6, q6⟩ := hsp; away S6 fun s7 J7 => ⟨_, _, J7, q6⟩
      | brk => exact let ⟨_, _, S6, q6⟩ := hsp; away S6 fun s7 J7 => ⟨_, _, J7, q6⟩
      | cont => exact let ⟨_, _, S6, q6⟩ := hsp; away S6 fun s7 J7 => ⟨_, _, J7, q6⟩
      | ret u => exact let ⟨_, _, _, S6, r6, q6⟩ := hsp; away S6 fun s7 J7 => ⟨_, _, _, J7, r6, q6⟩
end
/-- try: body / except C1 as n: .. / except C2: .. -/
theorem ps_try_clauses {X : Cx} {body : List Stmt} {hd₀ : ExceptHandler} {hds : List ExceptHandler} {l : List Clause} {pos : Pos} {tb : WX → TS} {Wout : WX} (hs : X.stack = X.env :: X.outer) (hf : X.env.frame = some X.env.locals) (hN : X.N.Nodup) (tk : Takes X Wout)
    (hb : ∀ (W : WX) (pn : List (Addr × Obj)) (xe : Value → Shared → Prop), Takes (X.tr pn xe) W → PassesOwn (model X.prog X.w) X.A X.env xe → PSs (X.tr pn xe) body (tb W)) (ok : ClausesOk X (hd₀ :: hds) l) :
    PS X (.Try body (hd₀ :: hds) [] [] pos) (fun D σ H => tb (wClauses X.K Wout D l) D σ H) := by
  constructor
  intro pins s σ H D I h
  have oX := I.ok
  have fr : X.A.frames = some (X.env :: X.outer) := by rw [oX.frames, hs]
  refine wpAny_Try_except ?_
  refine wpAny_mono ((hb (wClauses X.K Wout D l) (X.pn ++ pins) (fun e s₁ => wpAny (model X.prog X.w) X.A (noteFrame e X.env) (fun _ s₂ => wpAny (model X.prog X.w) X.A (setFlight e none) (fun _ s₃ =>
    wpAny (model X.prog X.w) X.A (handleBy e X.env (hd₀ :: hds)) (SP X pins D) X.xe s₃) X.xe s₂) X.xe s₁) (fun u s1 xx => ?_) PassesOwn.looking).run [] s σ H D (I.toTry _) h) (fun f s1 hsp => ?_) fun _ _ he => he
  · obtain ⟨a, B, sI, pins', σ', H', cls, d, rfl, J', nb, up, sky, na, os, ag, w⟩ := xx
    have sky' : Sky B (X.env :: X.outer) a (Zc cls d) X.env.locals s1.heap := by rw [← hs]; exact sky
    show wpAny (model X.prog X.w) X.A (noteFrame (.ref a) X.env) _ _ _
    refine Sky.land Zc.steady fr hf sky' fun h3 fl3 up3 => ?_
    exact Come.run (z := s1) hN tk ok ⟨hs, hf, J'.ofTry oX, nb, fl3, up.trans up3, na, os, ag⟩ w
  · cases f with
    | next => exact let ⟨σ', H', J', q⟩ := hsp; wpAny_execs_nil ⟨σ', H', J'.ofTry oX, q⟩
    | brk => exact let ⟨σ', H', J', q⟩ := hsp; ⟨σ', H', J'.ofTry oX, q⟩
    | cont => exact let ⟨σ', H', J', q⟩ := hsp; ⟨σ', H', J'.ofTry oX, q⟩
    | ret u => exact let ⟨v, σ', H', J', r, q⟩ := hsp; ⟨v, σ', H', J'.ofTry oX, r, q⟩
end L2
set_option Elab.async false
set_option maxRecDepth 100001
set_option maxHeartbeats 1999999
/-! enumerate over a tuple. -/
namespace PySem
theorem enumT_new {v : Value} {o : Obj} {G : Heap → Prop} (B : Begins v o G) : Meets (Builtin.«enumerate.__new__» ⟨[.type "enumerate", v], []⟩)
    (fun _ R z => G z.heap ∧ R (.ok (.ret (.ref (z.heap.push o).objs.size)))
      { z with heap := (z.heap.push o).push { cls := .type "enumerate", data := .fields #[.none, .bool false, .ref z.heap.objs.size, rawInt 0, .none, .none] } }) :=
  .of_wp fun P W A R z hz => by
    obtain ⟨hp, gs, dr, tk, os⟩ := z
    obtain ⟨g0, r0⟩ := hz
    have su := sub_enumerate
    have it0 : ∀ {A' : Around} {E : Value → Shared → Prop} {Q : Value → Shared → Prop}, Q (.ref hp.objs.size) ⟨hp.push o, gs, dr, tk, os⟩ → wpAny (model P W) A' (pyIter v) Q E ⟨hp, gs, dr, tk, os⟩ :=
      fun q => B.iter P W _ _ ⟨hp, gs, dr, tk, os⟩ _ g0 q
    wp_walk using it0
    refine wpAny_stack_any fun sk => wpAny_pure ?_
    split
    next c _ _ _ _ _ =>
      cases (c == Value.type "enumerate") <;> (wp_walk using it0; exact ⟨_, rfl, r0⟩)
    next => wp_walk using it0; exact ⟨_, rfl, r0⟩
theorem enumT_call {P : Program} {W : World} {A : Around} {E : Value → Shared → Prop} {z : Shared} {v : Value} {o : Obj} {G : Heap → Prop} {Q : Value → Shared → Prop} (B : Begins v o G) (g0 : G z.heap)
    (k : ∀ h2, IsEnum h2 (z.heap.objs.size + 1) z.heap.objs.size 0 .none → h2.get? z.heap.objs.size = some o → (∀ b u, z.heap.get? b = some u → h2.get? b = some u) → Q (.ref (z.heap.objs.size + 1)) { z with heap := h2 }) :
    wpAny (model P W) A (call (.type "enumerate") [v]) Q E z := by
  refine callType_new F.called_enumerate (by decide) (F.typeCall_enumerate_1 _) (F.newCall_enumerate_1 _) (fun ob => F.args_object_init_2 ob _) F.entry_enumerate_new (enumT_new B) ⟨g0, ?_⟩
  have sz : (z.heap.push o).objs.size = z.heap.objs.size + 1 := Heap.size_push ..
  show _ ∧ _
  rw [sz]
  have en : IsEnum ((z.heap.push o).push { cls := .type "enumerate", data := .fields #[.none, .bool false, .ref z.heap.objs.size, rawInt 0, .none, .none] }) (z.heap.objs.size + 1) z.heap.objs.size 0 .none := by
    have q := Heap.get?_push_size (z.heap.push o) (o := { cls := .type "enumerate", data := .fields #[.none, .bool false, .ref z.heap.objs.size, rawInt 0, .none, .none] }) rfl
    rw [sz] at q
    exact q
  exact ⟨⟨_, en, rfl⟩, k _ en (Heap.get?_push_of_some _ (Heap.get?_push_size _ B.free)) fun b u e => Heap.get?_push_of_some _ (Heap.get?_push_of_some _ e)⟩
end PySem
namespace L2
open PySem.Spec PySem PyProof.Rows
/-- the tuple at a, each item in a new pair behind its number -/
def ItEnT (K : PySem.W.Frag) (a : Addr) : It where
  go := fun i H => ∃ (xs : List V) (x : V), SqT K H a xs ∧ xs[i]? = some x
  yld := fun i H v H2 => ∃ p x, v = .ref p ∧ H p = none ∧ H2 = upd H p (.tup [.int (i : Nat), x]) ∧ ∀ xs, SqT K H a xs → xs[i]? = some x
  stop := fun i H => ∃ xs : List V, SqT K H a xs ∧ xs.length ≤ i
theorem two_of {b e d : Addr} (h : b ∈ [e, d]) : b = e ∨ b = d := by simpa using h
theorem turn_enT {P : Program} {W : World} {K : PySem.W.Frag} {es : List Expr} {kk : Nat} {tp : Pos} (a e d : Addr) :
    Turn P W K (.Tuple es kk tp) (ItEnT K a) [e, d] e (fun i h => (∃ was, IsEnum h e d ((i : Nat) : Int) was) ∧ h.IsTupleIter d a i ∧ e ≠ d) where
  mem := List.mem_cons_self
  obj := fun i h st b hb => by
    obtain ⟨⟨was, he⟩, ⟨o, ho, hc, hd⟩, _⟩ := st
    rcases two_of hb with rfl | rfl
    · exact ⟨_, he, fun _ q => nomatch q⟩
    · exact ⟨o, ho, fun _ q => by rw [hd] at q; cases q⟩
  keep := fun i h h2 st k => ⟨let ⟨was, he⟩ := st.1; ⟨was, k e (by simp) _ he⟩, st.2.1.at fun o q => k d (by simp) o q, st.2.2⟩
  item := by
    intro X hP hW hK hc i pins s σ H E I hf st hg
    subst hP hW hK
    obtain ⟨⟨was, he⟩, hit, hne⟩ := st
    obtain ⟨xs, x, hq, hx⟩ := hg
    obtain ⟨its, rv, p, hz⟩ := I.tuple hq
    obtain ⟨u, hu, ru⟩ := rv.get hx
    have le : e < s.heap.objs.size := Heap.lt_size he
    have ld : d < s.heap.objs.size := let ⟨_, q, _⟩ := hit; Heap.lt_size q
    have la : a < s.heap.objs.size := p.lt
    have had : a ≠ d := fun z => by
      obtain ⟨o1, h1, c1, _⟩ := hit
      obtain ⟨o2, h2, c2, _⟩ := p
      rw [z, h1] at h2
      have := Option.some.inj h2
      subst this
      rw [c1] at c2
      exact absurd c2 (by decide)
    have hae : a ≠ e := fun z => by
      obtain ⟨o2, h2, c2, _⟩ := p
      have h1 : s.heap.get? e = some _ := he
      rw [z, h1] at h2
      have := Option.some.inj h2
      subst this
      exact absurd (show Value.type "enumerate" = Value.type "tuple" from c2) (by decide)
    have hi : i < its.toArray.size := by
      have := (List.getElem?_eq_some_iff.mp hu).1
      simpa using this
    have D := Draws.tuple (prog := X.prog) (w := X.w) (A := X.A.in1) (I.ok.hd hc) d a had its.toArray
    refine wpAny_pyNext_enum_itemD (n := its.toArray.size) (i := i) D he ⟨hit, p⟩ hi hne (fun m => ?_) fun y h2 tk hy ho hs2 hT hsz hk => ?_
    · rcases two_of m with z | z
      · exact hne z
      · exact hae z.symm
    have ey : y = u := by
      have q : its.toArray[i]? = some u := by simpa using hu
      rw [hy] at q
      exact Option.some.inj q
    subst ey
    refine ⟨_, rfl, wpAny_letOwnedTupleGo_enum (s := { s with heap := h2, toks := tk + 1 }) ho fun h3 he3 sb => ?_⟩
    have hT3 : h3.get? s.heap.objs.size = some { cls := .type "tuple", data := .seq #[.int i tk, y] } := (sb.2 _ (Nat.ne_of_gt le)).trans hT
    have new : ObjOk X.prog X.w (upd H s.heap.objs.size (.tup [.int (i : Nat), x])) h3 s.heap.objs.size (.tup [.int (i : Nat), x]) :=
      ⟨by show 2 ≤ sizeLine; decide, [.int i tk, y], .cons ⟨_, rfl⟩ (.cons ru .nil), ⟨_, hT3, rfl, _, rfl⟩⟩
    have J : Inv X pins σ (upd H s.heap.objs.size (.tup [.int (i : Nat), x])) { s with heap := h3, toks := tk + 1 } :=
      I.turnedNew (ch := [e, d]) (fun b o hb q => (sb.2 b fun z => hb (by simp [z])).trans (hk b o (fun z => hb (by simp [z])) (fun z => hb (by simp [z])) q)) hf (Nat.le_refl _) new
    refine ⟨.ref s.heap.objs.size, _, J, rfl, ⟨_, x, rfl, I.hok.fresh (Nat.le_refl _), rfl, fun ys hy2 => by rw [I.tuple_inj hy2 hq]; exact hx⟩, ⟨⟨y, ?_⟩, hs2.1.at fun o q => (sb.2 d (Ne.symm hne)).trans q, hne⟩, fun b hb => ?_⟩
    · have e1 : ((i + 1 : Nat) : Int) = (i : Int) + 1 := by omega
      rw [e1]
      exact he3
    · have lb : b < s.heap.objs.size := by
        rcases two_of hb with z | z
        · rw [z]; exact le
        · rw [z]; exact ld
      rw [upd_ne (Nat.ne_of_lt lb)]
      exact (hf b hb).1
  done := by
    intro X hP hW hK hc i pins s σ H E I hf st hg
    subst hP hW hK
    obtain ⟨⟨was, he⟩, hit, hne⟩ := st
    obtain ⟨xs, hq, hx⟩ := hg
    obtain ⟨its, rv, p, hz⟩ := I.tuple hq
    obtain ⟨f0, f1, f2, f3, f4, f5⟩ := hf d (by simp)
    have hl := rv.length
    unfold pyNext
    refine wpAny_bind (wpAny_attempt (wpAny_callSpecial?_slot (name := Str.ofString "__next__") ⟨_, he, rfl⟩ F.slot_enumerate_next
      (wpAny_call_entry F.slot_enumerate_next ⟨_, he, rfl⟩ F.entry_enumerate_next ?_ (F.args_enumerate_next_1 _))))
    show wpAny _ _ (field (.ref e) 2 >>= _) _ _ _
    refine wpAny_bind (wpAny_field he rfl (x := .ref d) rfl ?_)
    refine wpAny_bind (wpAny_nextOf_tuple_end (I.ok.hd hc) hit p (by simp; omega) fun h2 x eb hx2 => ?_)
    obtain ⟨o, ho, hcl⟩ := hx2
    refine wpAny_bind (wpAny_isInstance (T := "StopIteration") (b := true) ⟨o, ho, hcl⟩ isSubtype_stop ?_)
    exact wpAny_pure ⟨rfl, I.turned (t' := s.toks) (fun b o hb q => eb b o hb q) f0 f1 f3 f4 f5⟩
  self := fun A i s Q E st h => let ⟨⟨_, he⟩, _⟩ := st; wpAny_pyIter_enum he h
def iEnT (K : PySem.W.Frag) (ta : TA) : TI := fun σ H R => ta σ H fun vs H1 => ∃ a xs, vs = [.ref a] ∧ SqT K H1 a xs ∧ R (ItEnT K a) H1
theorem pi_enT {X : Cx} {e : Expr} {ta : TA} {p pos tp : Pos} {es : List Expr} {kk : Nat} (hg : Gl X "enumerate") (hm : X.mg "enumerate" = none) (ha : PA X [e] ta) (hs : starEach [e] X.env = [(false, eval e X.env)] := by rfl) :
    PI X (.Tuple es kk tp) (.Call (.Name "enumerate" p) [e] [] pos) (iEnT X.K ta) := by
  constructor
  intro pins s σ H R I h
  refine Call_ (ld_blt I hg hm boot_enumerate (PyProof.Rows.callWith_type1 (thn (ha.run pos pins s σ H _ I h) fun us s1 hh => ?_) hs rfl))
  obtain ⟨vs, H1, I1, r1, a, xs, ex, hq, q⟩ := hh
  subst ex
  cases r1 with
  | cons r rr =>
    cases rr
    cases r
    obtain ⟨its, rv, p2, hz⟩ := I1.tuple hq
    refine enumT_call (begins_tuple a its.toArray) p2 fun h2 he hd hk => wpAny_pyIter_enum he ?_
    have I2 : Inv X pins σ H1 { s1 with heap := h2 } := I1.kept (t' := s1.toks) hk
    refine ⟨s1.heap.objs.size + 1, [s1.heap.objs.size + 1, s1.heap.objs.size], _, _, H1, rfl, I2, turn_enT a (s1.heap.objs.size + 1) s1.heap.objs.size, ⟨⟨.none, he⟩, ⟨_, hd, rfl, rfl⟩, Nat.succ_ne_self _⟩, fun b hb => ?_, q⟩
    have ge : s1.heap.objs.size ≤ b := by
      rcases two_of hb with z | z
      · rw [z]; exact Nat.le_add_right _ _
      · rw [z]; exact Nat.le_refl _
    exact I1.fpOk ge (I1.hok.fresh ge)
theorem walk_enT {K : PySem.W.Frag} {a : Addr} {xs : List V} : Walk (ItEnT K a) xs.length (fun H => SqT K H a xs) (YPair (fun i => some (.int (i : Nat))) (fun i => xs[i]?)) where
  goes := fun i _ hi q => ⟨xs, xs[i], q, by simp [hi]⟩
  stops := fun _ q => ⟨xs, q, Nat.le_refl _⟩
  yields := fun i H v H2 _ q y => let ⟨p, x, h1, h2, h3, h4⟩ := y; ⟨p, .int (i : Nat), x, h1, h2, h3, rfl, h4 xs q⟩
end L2
set_option Elab.async false
set_option linter.all false
set_option maxRecDepth 100001
set_option maxHeartbeats 1999999
/-! enumerate over a text. -/
namespace L2
open PySem.Spec PySem PyProof.Rows
def ItEnS (x : Str) : It where
  go := fun i _ => i < x.cps.size
  yld := fun i H v H2 => ∃ p c, v = .ref p ∧ H p = none ∧ H2 = upd H p (.tup [.int (i : Nat), .str ⟨#[c]⟩]) ∧ x.cps[i]? = some c
  stop := fun i _ => x.cps.size ≤ i
theorem strIter_at {h h' : Heap} {a : Addr} {ty : String} {x : Str} {t : Tok} {i : Nat} (y : h.IsStrIter a ty x t i) (k : ∀ o, h.get? a = some o → h'.get? a = some o) : h'.IsStrIter a ty x t i := let ⟨o, ho, r⟩ := y; ⟨o, k o ho, r⟩
theorem text_end {prog : Program} {w : World} {A : Around} {E : Value → Shared → Prop} {s : Shared} {it : Addr} {x : Str} {t : Tok} {i : Nat} {Q : Value → Shared → Prop} (hh : A.handled = none) (hit : s.heap.IsStrIter it (strIterType x) x t i) (hx : x.cps[i]? = none)
    (hE : ∀ h' e, Heap.ExtBut it s.heap h' → (∃ o, h'.get? e = some o ∧ o.cls = .type "StopIteration") → E (.ref e) { s with heap := h' }) : wpAny (model prog w) A (Builtin.SmallTypes.nextOf (.ref it)) Q E s := by
  cases ha : x.cps.all (· < 128)
  · simp only [strIterType, ha, Bool.false_eq_true, if_false] at hit
    exact wpAny_nextOf_wide_end hh hit hx hE
  · simp only [strIterType, ha, if_true] at hit
    exact wpAny_nextOf_ascii_end hh hit hx hE
theorem turn_enS {P : Program} {W : World} {K : PySem.W.Frag} {es : List Expr} {kk : Nat} {tp : Pos} (x : Str) (t : Tok) (e d : Addr) :
    Turn P W K (.Tuple es kk tp) (ItEnS x) [e, d] e (fun i h => (∃ was, IsEnum h e d ((i : Nat) : Int) was) ∧ h.IsStrIter d (strIterType x) x t i ∧ e ≠ d) where
  mem := List.mem_cons_self
  obj := fun i h st b hb => by
    obtain ⟨⟨was, he⟩, ⟨o, ho, hc, hd⟩, _⟩ := st
    rcases two_of hb with rfl | rfl
    · exact ⟨_, he, fun _ q => nomatch q⟩
    · exact ⟨o, ho, fun _ q => by rw [hd] at q; cases q⟩
  keep := fun i h h2 st k => ⟨let ⟨was, he⟩ := st.1; ⟨was, k e (by simp) _ he⟩, strIter_at st.2.1 fun o q => k d (by simp) o q, st.2.2⟩
  item := by
    intro X hP hW hK hc i pins s σ H E I hf st hg
    subst hP hW hK
    obtain ⟨⟨was, he⟩, hit, hne⟩ := st
    have hi : i < x.cps.size := hg
    have le : e < s.heap.objs.size := Heap.lt_size he
    have ld : d < s.heap.objs.size := let ⟨_, q, _⟩ := hit; Heap.lt_size q
    have D := Draws.text (prog := X.prog) (w := X.w) (A := X.A.in1) (I.ok.hd hc) d x t
    refine wpAny_pyNext_enum_itemD (n := x.cps.size) (i := i) D he hit hi hne (fun m => ?_) fun y h2 tk hy ho hs2 hT hsz hk => ?_
    · exact hne (by simpa using m)
    obtain ⟨c, u, hcx, rfl⟩ := hy
    refine ⟨_, rfl, wpAny_letOwnedTupleGo_enum (s := { s with heap := h2, toks := tk + 1 }) ho fun h3 he3 sb => ?_⟩
    have hT3 : h3.get? s.heap.objs.size = some { cls := .type "tuple", data := .seq #[.int i tk, .str ⟨#[c]⟩ u] } := (sb.2 _ (Nat.ne_of_gt le)).trans hT
    have new : ObjOk X.prog X.w (upd H s.heap.objs.size (.tup [.int (i : Nat), .str ⟨#[c]⟩])) h3 s.heap.objs.size (.tup [.int (i : Nat), .str ⟨#[c]⟩]) :=
      ⟨by show 2 ≤ sizeLine; decide, [.int i tk, .str ⟨#[c]⟩ u], .cons ⟨_, rfl⟩ (.cons ⟨_, rfl⟩ .nil), ⟨_, hT3, rfl, _, rfl⟩⟩
    have J : Inv X pins σ (upd H s.heap.objs.size (.tup [.int (i : Nat), .str ⟨#[c]⟩])) { s with heap := h3, toks := tk + 1 } :=
      I.turnedNew (ch := [e, d]) (fun b o hb q => (sb.2 b fun z => hb (by simp [z])).trans (hk b o (fun z => hb (by simp [z])) (fun z => hb (by simp [z])) q)) hf (Nat.le_refl _) new
    refine ⟨.ref s.heap.objs.size, _, J, rfl, ⟨_, c, rfl, I.hok.fresh (Nat.le_refl _), rfl, hcx⟩, ⟨⟨.str ⟨#[c]⟩ u, ?_⟩, strIter_at hs2 fun o q => (sb.2 d (Ne.symm hne)).trans q, hne⟩, fun b hb => ?_⟩
    · have e1 : ((i + 1 : Nat) : Int) = (i : Int) + 1 := by omega
      rw [e1]
      exact he3
    · have lb : b < s.heap.objs.size := by
        rcases two_of hb with z | z
        · rw [z]; exact le
        · rw [z]; exact ld
      rw [upd_ne (Nat.ne_of_lt lb)]
      exact (hf b hb).1
  done := by
    intro X hP hW hK hc i pins s σ H E I hf st hg
    subst hP hW hK
    obtain ⟨⟨was, he⟩, hit, hne⟩ := st
    have hx : x.cps.size ≤ i := hg
    obtain ⟨f0, f1, f2, f3, f4, f5⟩ := hf d (by simp)
    unfold pyNext
    refine wpAny_bind (wpAny_attempt (wpAny_callSpecial?_slot (name := Str.ofString "__next__") ⟨_, he, rfl⟩ F.slot_enumerate_next
      (wpAny_call_entry F.slot_enumerate_next ⟨_, he, rfl⟩ F.entry_enumerate_next ?_ (F.args_enumerate_next_1 _))))
    show wpAny _ _ (field (.ref e) 2 >>= _) _ _ _
    refine wpAny_bind (wpAny_field he rfl (x := .ref d) rfl ?_)
    have none : x.cps[i]? = none := by simp [hx]
    refine wpAny_bind (text_end (I.ok.hd hc) hit none fun h2 ex eb hx2 => ?_)
    obtain ⟨o, ho, hcl⟩ := hx2
    refine wpAny_bind (wpAny_isInstance (T := "StopIteration") (b := true) ⟨o, ho, hcl⟩ isSubtype_stop ?_)
    exact wpAny_pure ⟨rfl, I.turned (t' := s.toks) (fun b o hb q => eb b o hb q) f0 f1 f3 f4 f5⟩
  self := fun A i s Q E st h => let ⟨⟨_, he⟩, _⟩ := st; wpAny_pyIter_enum he h
def iEnS (ta : TA) : TI := fun σ H R => ta σ H fun vs H1 => ∃ x, vs = [.str x] ∧ R (ItEnS x) H1
theorem pi_enS {X : Cx} {e : Expr} {ta : TA} {p pos tp : Pos} {es : List Expr} {kk : Nat} (hg : Gl X "enumerate") (hm : X.mg "enumerate" = none) (ha : PA X [e] ta) (hs : starEach [e] X.env = [(false, eval e X.env)] := by rfl) :
    PI X (.Tuple es kk tp) (.Call (.Name "enumerate" p) [e] [] pos) (iEnS ta) := by
  constructor
  intro pins s σ H R I h
  refine Call_ (ld_blt I hg hm boot_enumerate (PyProof.Rows.callWith_type1 (thn (ha.run pos pins s σ H _ I h) fun us s1 hh => ?_) hs rfl))
  obtain ⟨vs, H1, I1, r1, x, ex, q⟩ := hh
  subst ex
  cases r1 with
  | cons r rr =>
    cases rr
    obtain ⟨t, rfl⟩ := r
    refine enumT_call (begins_text x t) trivial fun h2 he hd hk => wpAny_pyIter_enum he ?_
    have I2 : Inv X pins σ H1 { s1 with heap := h2 } := I1.kept (t' := s1.toks) hk
    refine ⟨s1.heap.objs.size + 1, [s1.heap.objs.size + 1, s1.heap.objs.size], _, _, H1, rfl, I2, turn_enS x t (s1.heap.objs.size + 1) s1.heap.objs.size, ⟨⟨.none, he⟩, ⟨_, hd, rfl, rfl⟩, Nat.succ_ne_self _⟩, fun b hb => ?_, q⟩
    have ge : s1.heap.objs.size ≤ b := by
      rcases two_of hb with z | z
      · rw [z]; exact Nat.le_add_right _ _
      · rw [z]; exact Nat.le_refl _
    exact I1.fpOk ge (I1.hok.fresh ge)
theorem walk_enS {x : Str} : Walk (ItEnS x) x.cps.size (fun _ => True) (YPair (fun i => some (.int (i : Nat))) (fun i => (x.cps[i]?).map fun c => V.str ⟨#[c]⟩)) where
  goes := fun i _ hi _ => hi
  stops := fun _ _ => Nat.le_refl _
  yields := fun i H v H2 _ _ y => let ⟨p, c, h1, h2, h3, h4⟩ := y; ⟨p, .int (i : Nat), .str ⟨#[c]⟩, h1, h2, h3, rfl, by show Option.map _ _ = _; rw [h4]; rfl⟩
end L2
set_option Elab.async false
set_option linter.all false
set_option maxRecDepth 100001
set_option maxHeartbeats 3999999
/-! sorted(xs, key=lambda x: ..): any order of the keys that the sort can tell. -/
namespace SrtL
open PySem PyProof.Rows Srt SrtO
theorem zip_list (ks vs : List Value) : (ks.toArray.zip vs.toArray).toList = ks.zip vs := by
  rw [ksk_zip]
section
variable {prog : Program} {w : World} {A : Around} {E : Value → Shared → Prop} {s : Shared} {a kS : Addr} {e1 ek : Nat} {vs ks : List Value} {ltv : Value → Value → Bool} {R : PySem.Fin → Shared → Prop}
/-- what is left when the list is sorted -/
def doneHeap (h : Heap) (kS a : Addr) (out : Array Value) : Heap := (h.update kS (Obj.mapSeq fun _ => (#[] : Array Value))).update a (Obj.mapSeq fun _ => out)
theorem tail_ord {st : SortSt} (hk : s.heap.get? kS = some (seqObj "list" ks.toArray ek)) (ha : s.heap.get? a = some (seqObj "list" #[] e1)) (ne : kS ≠ a) (hz : vs.length ≤ sizeLine) (hl : ks.length = vs.length) (hsz : (arrOf st).size = vs.length) (hfl : failedOf st = none)
    (h : R (.done (.ret .none)) { s with heap := doneHeap s.heap kS a ((arrOf st).map (·.2)) }) : wpAny (model prog w) A (ksk_tail a false e1 (.ref kS) st) R E s := by
  have s1 := Heap.SameBut.update s.heap kS (Obj.mapSeq fun _ => (#[] : Array Value))
  have na1 : (s.heap.update kS (Obj.mapSeq fun _ => (#[] : Array Value))).get? a = some (seqObj "list" #[] e1) := (s1.2 a ne.symm).trans ha
  unfold ksk_tail
  try dsimp only
  refine wpAny_bind (listUpdate_at hk rfl ?_ (by rw [List.size_toArray]; omega) (Nat.zero_le _))
  refine wpAny_bind (wpAny_letGo ?_)
  refine wpAny_bind (seqEpoch_at na1 rfl ?_)
  refine wpAny_bind (listUpdate_at na1 rfl ?_ (Nat.zero_le _) (by simp only [Bool.false_eq_true, if_false, Array.size_map]; omega))
  rw [hfl]
  simp only [bne_self_eq_false, Bool.false_eq_true, if_false]
  exact wpAny_pure h
theorem end_ord (O : Swo ltv) (hk : s.heap.get? kS = some (seqObj "list" ks.toArray ek)) (ha : s.heap.get? a = some (seqObj "list" #[] e1)) (ne : kS ≠ a) (hz : vs.length ≤ sizeLine) (hl : ks.length = vs.length)
    (hS : 2 ≤ vs.length → ∃ κ, (∀ (Q : SortKind → Shared → Prop) (E : Value → Shared → Prop), Q κ s → wpAny (model prog w) A (keyKind' ks.toArray) Q E s) ∧ Cmp prog w A s κ (fun p => p.1 ∈ ks) (lt2 ltv))
    (h : ∀ ps : List Keyed, Srtd (lt2 ltv) ps → Stb (lt2 ltv) ps (ks.zip vs) → R (.done (.ret .none)) { s with heap := doneHeap s.heap kS a (ps.map (·.2)).toArray }) :
    wpAny (model prog w) A (ksk_end a false vs.toArray e1 (.ref kS) ks.toArray) R E s := by
  have hzs : (ks.toArray.zip vs.toArray).size = vs.length := by rw [Array.size_zip, List.size_toArray, List.size_toArray, hl, Nat.min_self]
  have fin : ∀ st : SortSt, Srtd (lt2 ltv) (arrOf st).toList → Stb (lt2 ltv) (arrOf st).toList (ks.toArray.zip vs.toArray).toList → R (.done (.ret .none)) { s with heap := doneHeap s.heap kS a ((arrOf st).map (·.2)) } := by
    intro st h1 h2
    rw [zip_list] at h2
    have h3 := h _ h1 h2
    have e : ((arrOf st).toList.map (·.2)).toArray = (arrOf st).map (·.2) := by
      rw [← Array.toList_map, Array.toArray_toList]
    rw [e] at h3
    exact h3
  have size : ∀ st : SortSt, Stb (lt2 ltv) (arrOf st).toList (ks.toArray.zip vs.toArray).toList → (arrOf st).size = vs.length := by
    intro st h2
    have := h2.perm.length_eq
    rw [Array.length_toList, Array.length_toList, hzs] at this
    exact this
  unfold ksk_end
  try dsimp only
  simp only [Bool.false_eq_true, if_false]
  by_cases h2 : vs.toArray.size < 2
  · rw [if_pos h2, if_pos h2]
    refine wpAny_bind (wpAny_pure ?_)
    rw [StateT.run_pure]
    refine wpAny_bind (wpAny_pure ?_)
    try dsimp only
    rw [List.size_toArray] at h2
    refine tail_ord (st := SortSt.mk' general' (ks.toArray.zip vs.toArray) #[] 7 none) hk ha ne hz hl hzs rfl (fin (SortSt.mk' general' (ks.toArray.zip vs.toArray) #[] 7 none) ?_ (Stb.refl _))
    show Srtd (lt2 ltv) (ks.toArray.zip vs.toArray).toList
    have hlz : (ks.toArray.zip vs.toArray).toList.length < 2 := by rw [Array.length_toList, hzs]; exact h2
    revert hlz
    generalize (ks.toArray.zip vs.toArray).toList = l
    intro hlz
    match l, hlz with
    | [], _ => exact List.Pairwise.nil
    | [v], _ => exact List.pairwise_singleton _ _
    | _ :: _ :: l, h => exact absurd h (by rw [List.length_cons, List.length_cons]; omega)
  · rw [if_neg h2, if_neg h2]
    rw [List.size_toArray] at h2
    obtain ⟨κ, hkind, hT⟩ := hS (by omega)
    refine wpAny_bind (hkind _ _ ?_)
    have hall : AllL (fun p : Keyed => p.1 ∈ ks) (ks.toArray.zip vs.toArray).toList := fun p hm => by
      rw [zip_list] at hm
      obtain ⟨x, y⟩ := p
      exact (List.of_mem_zip hm).1
    refine wpAny_bind (wpAny_mono (wpS_sortO (st0 := SortSt.mk' κ (ks.toArray.zip vs.toArray) #[] 7 none)
      (Q := fun _ st' => Srtd (lt2 ltv) (arrOf st').toList ∧ Stb (lt2 ltv) (arrOf st').toList (ks.toArray.zip vs.toArray).toList ∧ failedOf st' = none) (swo2 O) hT rfl hall rfl rfl fun st' a1 a2 a3 => ⟨a1, a2, a3⟩) ?_ fun _ _ e => e)
    rintro ⟨⟨⟩, st'⟩ s' ⟨rfl, hp1, hp2, hf⟩
    try dsimp only
    exact tail_ord hk ha ne hz hl (size st' hp2) hf (fin st' hp1 hp2)
/-- what is asked of the keys' making: J of the keys so far -/
structure Keys (prog : Program) (w : World) (A : Around) (f : Value) (vs : List Value) (ltv : Value → Value → Bool) (R : PySem.Fin → Shared → Prop) (a kS : Addr) (e1 : Nat) (J : List Value → Shared → Prop) : Prop where
  obj : ∀ ks s, J ks s → (∃ ek, s.heap.get? kS = some (seqObj "list" ks.toArray ek)) ∧ s.heap.get? a = some (seqObj "list" #[] e1)
  turn : ∀ (ks : List Value) (v : Value) (s : Shared), J ks s → vs[ks.length]? = some v → wpAny (model prog w) A (call f [v]) (fun k s' => (∃ ek, s'.heap.get? kS = some (seqObj "list" ks.toArray ek)) ∧ J (ks ++ [k]) { s' with heap := s'.heap.update kS (Obj.mapSeq (·.push k)) }) (fun _ _ => False) s
  kind : ∀ ks s, J ks s → ks.length = vs.length → 2 ≤ vs.length → ∃ κ, (∀ (Q : SortKind → Shared → Prop) (E : Value → Shared → Prop), Q κ s → wpAny (model prog w) A (keyKind' ks.toArray) Q E s) ∧ Cmp prog w A s κ (fun p => p.1 ∈ ks) (lt2 ltv)
  fin : ∀ ks s, J ks s → ks.length = vs.length → ∀ ps : List Keyed, Srtd (lt2 ltv) ps → Stb (lt2 ltv) ps (ks.zip vs) → R (.done (.ret .none)) { s with heap := doneHeap s.heap kS a (ps.map (·.2)).toArray }
theorem rest_ord {f : Value} {J : List Value → Shared → Prop} (O : Swo ltv) (ne : kS ≠ a) (hz : vs.length ≤ sizeLine) (h0 : J [] s) (Y : Keys prog w A f vs ltv R a kS e1 J) : wpAny (model prog w) A (ksk_rest a f false vs.toArray e1 (.ref kS)) R E s := by
  unfold ksk_rest
  refine wpAny_bind (wpAny_rule ?_)
  first
    | rw [List.forIn_toArray]
    | (rw [← Array.forIn_toList]; simp only [List.toList_toArray])
    | rw [← Array.forIn_toList]
  refine wpAny_bind (ksk_fold (fun i s' => ∃ ks, J ks s' ∧ ks.length = i) vs 0 s ⟨[], h0, rfl⟩ ?step ?done)
  case step =>
    rintro j x s' hx ⟨ks, hJ, lk⟩
    simp only [Nat.zero_add] at lk ⊢
    have hj : j < vs.length := (List.getElem?_eq_some_iff.mp hx).1
    refine wpAny_bind (wpAny_attempt (wpAny_mono (Y.turn ks x s' hJ (by rw [lk]; exact hx)) (fun k s'' he => ?_) fun _ _ hF => hF.elim))
    obtain ⟨⟨ek, hk⟩, hJ2⟩ := he
    try dsimp only
    refine wpAny_bind (listUpdate_at hk rfl ?_ (by rw [List.size_toArray]; omega) (Nat.le_trans (Nat.le_of_eq (Array.size_push ..)) (by rw [List.size_toArray]; omega)))
    exact wpAny_pure ⟨rfl, _, hJ2, by rw [List.length_append, lk]; rfl⟩
  case done =>
    rintro s' ⟨ks, hJ, lk⟩
    rw [Nat.zero_add] at lk
    obtain ⟨⟨ek, hk⟩, ha⟩ := Y.obj ks s' hJ
    try dsimp only
    refine wpAny_bind (listItems_at hk rfl ?_)
    exact end_ord O hk ha ne hz lk (Y.kind ks s' hJ lk) (Y.fin ks s' hJ lk)
theorem tree_ord {f : Value} {n : Nat} (O : Swo ltv) (ho : s.heap.get? a = some (seqObj "list" vs.toArray n)) (hz : vs.length ≤ sizeLine)
    (h : ∀ (h1 : Heap) (kS : Addr) (e1 : Nat), (∀ b o, b ≠ a → s.heap.get? b = some o → h1.get? b = some o) → h1.get? a = some (seqObj "list" #[] e1) → h1.get? kS = some (seqObj "list" #[] 0) → s.heap.objs.size ≤ kS →
      ∃ J, J [] { s with heap := h1 } ∧ Keys prog w A f vs ltv R a kS e1 J) : wpAny (model prog w) A (ksk_tree a f false) R E s := by
  have ha : a < s.heap.objs.size := Heap.lt_size ho
  have s1 := Heap.SameBut.update s.heap a (Obj.mapSeq fun _ => (#[] : Array Value))
  obtain ⟨e1, ho1⟩ : ∃ e1, (s.heap.update a (Obj.mapSeq fun _ => (#[] : Array Value))).get? a = some (seqObj "list" #[] e1) := ⟨_, get?_update_seq ho fun _ => #[]⟩
  have hkS : ((s.heap.update a (Obj.mapSeq fun _ => (#[] : Array Value))).push (seqObj "tuple" vs.toArray 0)).objs.size = s.heap.objs.size + 1 := by rw [size_push', Heap.size_update]
  unfold ksk_tree
  refine wpAny_bind (listItems_at ho rfl ?_)
  refine wpAny_bind (listUpdate_at ho rfl ?_ (by rw [List.size_toArray]; omega) (Nat.zero_le _))
  refine wpAny_bind (seqEpoch_at ho1 rfl ?_)
  refine wpAny_bind (wpAny_newTuple ?_ (by show vs.length ≤ _; exact hz))
  refine wpAny_bind (wpAny_newList ?_ (Nat.zero_le _))
  refine wpAny_holding ?_
  obtain ⟨J, j0, Y⟩ := h (((s.heap.update a (Obj.mapSeq fun _ => (#[] : Array Value))).push (seqObj "tuple" vs.toArray 0)).push (seqObj "list" #[] 0)) ((s.heap.update a (Obj.mapSeq fun _ => (#[] : Array Value))).push (seqObj "tuple" vs.toArray 0)).objs.size e1
    (fun b o hb e => Heap.get?_push_of_some _ (Heap.get?_push_of_some _ ((Heap.get?_update_ne _ _ _ _ hb).trans e))) (Heap.get?_push_of_some _ (Heap.get?_push_of_some _ ho1)) (Heap.get?_push_size _ rfl) (by rw [hkS]; exact Nat.le_succ _)
  exact rest_ord (s := { s with heap := ((s.heap.update a (Obj.mapSeq fun _ => (#[] : Array Value))).push (seqObj "tuple" vs.toArray 0)).push (seqObj "list" #[] 0) }) O (by rw [hkS]; exact Nat.ne_of_gt (Nat.lt_succ_of_lt ha)) hz j0 Y
/-- sorted(l, key=q) -/
theorem sorted_ord {l q : Addr} {Q : Value → Shared → Prop} (O : Swo ltv) (hl : s.heap.IsList l vs.toArray) (hz : vs.length ≤ sizeLine)
    (h : ∀ (h1 : Heap) (d kS : Addr) (e1 : Nat), (∀ b o, s.heap.get? b = some o → h1.get? b = some o) → h1.get? d = some (seqObj "list" #[] e1) → h1.get? kS = some (seqObj "list" #[] 0) → s.heap.objs.size ≤ d → s.heap.objs.size ≤ kS → kS ≠ d →
      ∃ J, J [] { s with heap := h1 } ∧ Keys prog w A.in1.in1 (.ref q) vs ltv (fun r s' => r = .done (.ret .none) ∧ Q (.ref d) s') d kS e1 J) :
    wpAny (model prog w) A (call (.builtin "sorted") [.ref l] [(Str.ofString "key", .ref q)]) Q E s := by
  refine call_function_entry_kw kind_sorted plain_sorted entry_sorted (ksk_s1 _ _) ?_
  unfold Builtin.«sorted»
  refine wpAny_bind (m := checkCount "sorted" 1 1 _) (wpAny_pure ?_)
  refine wpAny_bind (collect_list hl ?_ hz)
  refine wpAny_bind (wpAny_newList ?_ hz)
  have hsz : ((s.heap.push (seqObj "list" #[] 0)).update s.heap.objs.size (Obj.mapSeq (· ++ vs.toArray))).objs.size = s.heap.objs.size + 1 := by
    rw [Heap.size_update, size_push']
  have hoL : (((s.heap.push (seqObj "list" #[] 0)).update s.heap.objs.size (Obj.mapSeq (· ++ vs.toArray))).push (seqObj "list" vs.toArray 0)).get? (s.heap.objs.size + 1) = some (seqObj "list" vs.toArray 0) := by
    rw [← hsz]; exact Heap.get?_push_size _ rfl
  have keep : ∀ b o, s.heap.get? b = some o → b ≠ s.heap.objs.size + 1 ∧ (((s.heap.push (seqObj "list" #[] 0)).update s.heap.objs.size (Obj.mapSeq (· ++ vs.toArray))).push (seqObj "list" vs.toArray 0)).get? b = some o := fun b o q => by
    have hlt : b < s.heap.objs.size := Heap.lt_size q
    refine ⟨Nat.ne_of_lt (Nat.lt_succ_of_lt hlt), Heap.get?_push_of_some _ ?_⟩
    rw [Heap.get?_update_ne _ _ _ _ (Nat.ne_of_lt hlt)]
    exact Heap.get?_push_of_some _ q
  have size2 : (((s.heap.push (seqObj "list" #[] 0)).update s.heap.objs.size (Obj.mapSeq (· ++ vs.toArray))).push (seqObj "list" vs.toArray 0)).objs.size = s.heap.objs.size + 2 := by rw [size_push', hsz]
  show wpAny _ _ _ _ _ { s with heap := ((s.heap.push (seqObj "list" #[] 0)).update s.heap.objs.size (Obj.mapSeq (· ++ vs.toArray))).push (seqObj "list" vs.toArray 0) }
  rw [hsz]
  refine wpAny_bind (wpAny_holding (wpAny_call_entry_kw slot_list_sort ⟨_, hoL, rfl⟩ entry_list_sort ?_ (ksk_l1 _ _)))
  rw [ksk_t1]
  refine tree_ord O hoL hz fun h1 kS e1 hk ha hkS hge => ?_
  dsimp only at hge hk
  rw [size2] at hge
  obtain ⟨J, j0, Y⟩ := h h1 (s.heap.objs.size + 1) kS e1 (fun b o q => hk b o (keep b o q).1 (keep b o q).2) ha hkS (Nat.le_succ _) (Nat.le_trans (Nat.le_add_right _ 2) hge) (Nat.ne_of_gt (Nat.lt_of_lt_of_le (Nat.lt_succ_self _) hge))
  refine ⟨J, j0, ⟨Y.obj, Y.turn, Y.kind, fun ks s' hJ hl ps h1 h2 => ?_⟩⟩
  obtain ⟨_, z⟩ := Y.fin ks s' hJ hl ps h1 h2
  exact ⟨_, rfl, wpAny_pure ⟨_, rfl, z⟩⟩
end
end SrtL
set_option Elab.async false
set_option linter.all false
set_option maxRecDepth 100001
set_option maxHeartbeats 3999999
namespace LamX
open PySem PySem.Spec PyProof.Rows L2
/-! ### a lambda of one parameter -/
structure LamP (sc scope : Scope) (a : Str) : Prop where
  kind : scope.kind = .function
  co : scope.isCoroutine = false
  gen : scope.isGenerator = false
  par : scope.names.lookup a = some .local
  own : ∀ y ∈ scope.names, y.2 ≠ .cell ∧ (y.2 = .local → y.1 = a)
  free : ∀ y ∈ scope.names, y.2 = .free → sc.names.lookup y.1 = some .cell ∨ sc.names.lookup y.1 = some .free
def lamPB (sc scope : Scope) (a : Str) : Bool :=
  decide (scope.kind = .function) && !scope.isCoroutine && !scope.isGenerator && decide (scope.names.lookup a = some .local) && scope.names.all fun y => !decide (y.2 = .cell) && (!decide (y.2 = .local) || decide (y.1 = a)) && (!decide (y.2 = .free) || decide (sc.names.lookup y.1 = some .cell) || decide (sc.names.lookup y.1 = some .free))
theorem lamP_by {sc scope : Scope} {a : Str} (h : lamPB sc scope a = true) : LamP sc scope a := by
  unfold lamPB at h
  simp only [Bool.and_eq_true, Bool.or_eq_true, Bool.not_eq_true', decide_eq_true_eq, decide_eq_false_iff_not, List.all_eq_true] at h
  obtain ⟨⟨⟨⟨h1, h2⟩, h3⟩, h0⟩, h4⟩ := h
  refine ⟨h1, h2, h3, h0, fun y hy => ⟨(h4 y hy).1.1, fun e => ?_⟩, fun y hy e => ?_⟩
  · rcases (h4 y hy).1.2 with z | z
    · exact absurd e z
    · exact z
  · rcases (h4 y hy).2 with (z | z) | z
    · exact absurd e z
    · exact .inl z
    · exact .inr z
theorem LamP.has {X : Cx} {scope : Scope} {a : Str} (L : LamP X.env.scope scope a) (ok : X.Ok) : ∀ y ∈ scope.names, y.2 = .free → ∃ c, X.env.cells.lookup y.1 = some c := fun y hy e => by
  rcases L.free y hy e with k | k
  · exact ok.has _ (.inl k)
  · exact ok.has _ (.inr k)
section
variable {X : Cx} {pins : List (Addr × Obj)} {σ : L2.St} {H : Hp} {s : Shared}
theorem lam_start1 {A : Around} {E : XK} {scope : Scope} {a : Str} {i : Nat} {v : V} {u : Value} {f c' : Addr} {h₁ : Heap} {tk : Nat} (I : Inv X pins σ H s) (L : LamP X.env.scope scope a) (hA : A.frames = some X.stack) (hd : A.handled = none) (nd : X.N.Nodup) (hN : X.N[i]? = some a) (rv : RelV v u)
    (hns : h₁.Ns s.heap.objs.size fun y => ([(a, u)] : List (Str × Value)).reverse.lookup y) (kp : ∀ b o, s.heap.get? b = some o → h₁.get? b = some o) :
    Inv (lamCx X A X.stack s H E scope f c') [] (σ.set i (some v)) H { s with heap := h₁, toks := tk } := by
  have e0 := I.env0
  have hfree := L.has I.ok
  have cm : ∀ {y c}, (cloFrom X.env.cells scope.names []).lookup y = some c → X.env.cells.lookup y = some c := fun {y c} e => by
    rcases cloFrom_mem (PySem.mem_of_lookup e) with hm | ⟨h1, h2⟩
    · cases hm
    · obtain ⟨c1, hc⟩ := hfree _ h1 rfl
      have hc : X.env.cells.lookup y = some c1 := hc
      have e2 : c = c1 := by
        rw [h2, hc] <;> rfl
      rw [e2]
      exact hc
  have look : ∀ {y}, scope.names.lookup y = some .free → ∃ c, (cloFrom X.env.cells scope.names []).lookup y = some c := fun {y} hl => by
    have hy : (y, NameKind.free) ∈ scope.names := PySem.mem_of_lookup hl
    exact mem_lookup (cloFrom_has (cells := X.env.cells) (acc := []) hy)
  have cellK : ∀ {c : Addr} {v : Option Value}, s.heap.IsCell c v → h₁.IsCell c v := fun {c v} ⟨o, ho, hd⟩ => ⟨o, kp _ _ ho, hd⟩
  have noA : ∀ b : Addr, b ∉ (lamCx X A X.stack s H E scope f c').ex := fun b z => absurd (show b ∈ ([] : List Addr) from z) (by simp)
  refine ⟨⟨e0.mod, L.kind, rfl, rfl, Nat.le_refl _, fun y z c e1 e2 => I.ok.inj y z c (cm e1) (cm e2), fun y hy => ?_, fun y c z _ => ?_, fun _ => hd, Around.frames_deeper hA, .inr ⟨rfl, rfl⟩, fun b z => absurd z (noA b), e0.bs, e0.bsz, fun b _ _ => noA b,
      fun b z => absurd z (noA b), e0.funs, e0.frf⟩,
    rfl, e0.bare, Un.kept kp, ⟨_, hns, fun j y w e1 e2 e3 => ?_⟩, fun y c e => ?_, e0.hok.fresh (Nat.le_refl _), fun y c e => I.freeC y c (cm e), fun q hq => absurd (show q ∈ ([] : List (Addr × Obj)) ++ [] from hq) (by simp), e0.hok.kept kp, by rw [List.length_set]; exact I.len⟩
  · have hy : scope.names.lookup y = some .cell ∨ scope.names.lookup y = some .free := hy
    rcases hy with hy | hy
    · exact absurd rfl (L.own _ (PySem.mem_of_lookup hy)).1
    · exact look hy
  · have z : false = true := z
    cases z
  · have e1 : X.N[j]? = some y := e1
    by_cases ej : j = i
    · rw [ej] at e1 e2
      rw [hN] at e1
      cases e1
      have lt : i < σ.length := by rw [I.len]; exact (List.getElem?_eq_some_iff.mp hN).1
      rw [List.getElem?_set_self lt] at e2
      cases e2
      refine ⟨u, rv, .inl ⟨L.par, ?_⟩⟩
      simp [List.lookup]
    · rw [List.getElem?_set_ne (fun z => ej z.symm)] at e2
      have ya : y ≠ a := fun z => ej (nodup_ix nd (z ▸ e1) hN)
      have e3 : Vis scope y := e3
      rcases e3 with k | k | k
      · exact absurd ((L.own _ (PySem.mem_of_lookup k)).2 rfl) ya
      · exact absurd rfl (L.own _ (PySem.mem_of_lookup k)).1
      · obtain ⟨m, hn, hl⟩ := I.loc
        have hvis : Vis X.env.scope y := (L.free _ (PySem.mem_of_lookup k) rfl).elim (fun k => .inr (.inl k)) (fun k => .inr (.inr k))
        obtain ⟨w', r, q⟩ := hl j y w e1 e2 hvis
        obtain ⟨c2, h2⟩ := look k
        refine ⟨w', r, .inr ⟨.inr k, c2, h2, ?_⟩⟩
        have c1 := cm h2
        rcases q with ⟨k', _⟩ | ⟨_, c3, e', z⟩
        · have k' : X.env.scope.names.lookup y = some .local := k'
          rcases L.free _ (PySem.mem_of_lookup k) rfl with k2 | k2 <;> rw [show X.env.scope.names.lookup y = _ from k2] at k' <;> cases k'
        · rw [c1] at e'
          cases e'
          exact cellK z
  · obtain ⟨w', z⟩ := I.cell y c (cm e)
    exact ⟨w', cellK z⟩
/-- the lambda called with one value, in the def that made it -/
theorem lam_call1 {A : Around} {scope : Scope} {a : Str} {i k : Nat} {v : V} {u pm ctv : Value} {f c' : Addr} {params : Arguments} {body : Expr} {tb : TE} {Q : VK} (I : Inv X pins σ H s) (L : LamP X.env.scope scope a) (hA : A.frames = some X.stack) (hr : Room (k + 1) A) (nd : X.N.Nodup) (hN : X.N[i]? = some a) (rv : RelV v u)
    (hf : s.heap.get? f = some (PySem.W.kla_obj "<lambda>" (X.env.qual ++ "<lambda>") params body scope (cloFrom X.env.cells scope.names []) pm c' ctv)) (hc : H c' = some (CodeO c' (X.env.qual ++ "<lambda>")))
    (hbind : bindArgs (PySem.W.kla_fn "<lambda>" (X.env.qual ++ "<lambda>") params body scope (cloFrom X.env.cells scope.names []) pm (.ref c') ctv) ⟨[u], []⟩ = pure [(a, u)])
    (hbody : Room k (A.deeper (lamEnv X scope s.heap.objs.size f c')) → PE (lamCx X A X.stack s H C8.E0 scope f c') body tb) (ht : tb (σ.set i (some v)) H Q) :
    codeAny (model X.prog X.w) A (.call (.ref f) ⟨[u], []⟩) (CR (L2.CX X.prog X.w) X.stack X.prog X.w H s Q C8.E0) s := by
  obtain ⟨⟨oc, vs, t, hoc, hdc, hvc⟩, _, _⟩ := I.hok c' _ hc
  refine PySem.W.kla_callFunE hr.depth hf rfl L.co L.gen rfl ⟨c', oc, vs, t, rfl, hoc, hdc, hvc⟩ ?_
  rw [hbind]
  refine wpAny_pure (wpAny_newFunctionEnv (fun y hy => (L.own y hy).1) (fun y hy => ?_) (fun h₁ hns hsb => ⟨I.nolimit.fresh _ hsb, ?_⟩) L.kind)
  · rw [List.mem_singleton.mp hy]
    exact L.par
  show codeAny _ _ (.expr body (lamEnv X scope s.heap.objs.size f c')) _ _
  have kp : ∀ b o, s.heap.get? b = some o → h₁.get? b = some o := fun b o e => hsb.extBut b o (Nat.ne_of_lt (Heap.lt_size e)) (Heap.get?_push_of_some _ e)
  have J : Inv (lamCx X A X.stack s H C8.E0 scope f c') [] (σ.set i (some v)) H { s with heap := h₁, toks := s.toks + ([(a, u)] : List (Str × Value)).length } := lam_start1 I L hA hr.hd nd hN rv hns kp
  refine PySem.W.kla_codeExpr (wpAny_mono ((hbody (hr.deeper _)).run [] _ _ H Q J ht) (fun v s' hq => ?_) fun e s' hq => hq)
  obtain ⟨w', H', J', rv, q⟩ := hq
  exact ⟨w', H', J'.os, J'.bare, J'.base, J'.hok, rv, q⟩
end
end LamX
set_option Elab.async false
set_option linter.all false
set_option maxRecDepth 100001
set_option maxHeartbeats 3999999
namespace SrtL
open PySem PyProof.Rows Srt SrtO L2 LamX
/-! ### orders of keys -/
structure KeyOrd (α : Type) where
  lt : α → α → Bool
  enc : α → V
  dec : Value → α
  val : α → Value
  swo : Swo lt
  rel : ∀ k u, RelV (enc k) u → dec u = k
  back : ∀ k, dec (val k) = k
  sortable : ∀ {prog : Program} {w : World} {A : Around} {s : Shared} (us : List Value), (∀ u ∈ us, ∃ k, RelV (enc k) u) → 2 ≤ us.length →
    ∃ κ, (∀ (Q : SortKind → Shared → Prop) (E : Value → Shared → Prop), Q κ s → wpAny (model prog w) A (keyKind' us.toArray) Q E s) ∧ Cmp prog w A s κ (fun p => p.1 ∈ us) (lt2 fun x y => lt (dec x) (dec y))
theorem swo_dec {α β : Type} {lt : α → α → Bool} (O : Swo lt) (f : β → α) : Swo fun x y => lt (f x) (f y) := ⟨fun x y h => O.asym _ _ h, fun x y z h1 h2 => O.tr _ _ _ h1 h2⟩
def decI : Value → Int
  | .int i _ => i
  | _ => 0
def decS : Value → Str
  | .str z _ => z
  | _ => Str.empty
theorem ints_dec : ∀ {us : List Value}, (∀ u ∈ us, ∃ k, RelV (.int k) u) → IntsAre us (us.map decI)
  | [], _ => .nil
  | u :: us, h => by
    obtain ⟨k, t, e⟩ := h u List.mem_cons_self
    subst e
    exact .cons k t (ints_dec fun v hv => h v (List.mem_cons_of_mem _ hv))
def ordInt : KeyOrd Int where
  lt i j := decide (i < j)
  enc := .int
  dec := decI
  val i := .int i 0
  swo := ⟨fun x y h => by have := of_decide_eq_true h; exact decide_eq_false (by omega), fun x y z h1 h2 => by have := of_decide_eq_false h1; have := of_decide_eq_false h2; exact decide_eq_false (by omega)⟩
  rel k u h := by obtain ⟨t, rfl⟩ := h; rfl
  back k := rfl
  sortable us h h2 := by
    have hI := ints_dec h
    refine ⟨oneType', fun Q E hq => ?_, fun p q hm hm' => ?_⟩
    · match us, hI, h2 with
      | v1 :: v2 :: rest, hI, _ =>
        rw [keyKind_ints hI]
        exact wpAny_pure hq
      | [], _, h => exact absurd h (by decide)
      | [v], _, h => exact absurd h (by simp)
    · obtain ⟨a, t, e⟩ := h _ hm
      obtain ⟨b, u, e'⟩ := h _ hm'
      show wpAny _ _ (keyLt' oneType' p.1 q.1) (fun r s' => s' = _ ∧ r = decide (decI p.1 < decI q.1)) (fun _ _ => False) _
      rw [e, e', keyLt'_oneType]
      exact oneLt_int ⟨rfl, rfl⟩
theorem strs_dec : ∀ {us : List Value}, (∀ u ∈ us, ∃ k, RelV (.str k) u) → StrsAre us (us.map decS)
  | [], _ => .nil
  | u :: us, h => by
    obtain ⟨k, t, e⟩ := h u List.mem_cons_self
    subst e
    exact .cons k t (strs_dec fun v hv => h v (List.mem_cons_of_mem _ hv))
theorem swo_nats : Swo fun (a b : List Nat) => decide (a < b) := by
  refine ⟨fun x y h => ?_, fun x y z h1 h2 => ?_⟩
  · have h := of_decide_eq_true h
    exact decide_eq_false fun z => List.lt_irrefl x (List.lt_trans h z)
  · have h1 := List.not_lt.mp (of_decide_eq_false h1)
    have h2 := List.not_lt.mp (of_decide_eq_false h2)
    exact decide_eq_false (List.not_lt.mpr (List.le_trans h1 h2))
def ordStr : KeyOrd Str where
  lt a b := decide (a.cps.toList < b.cps.toList)
  enc := .str
  dec := decS
  val z := .str z 0
  swo := swo_dec swo_nats fun a : Str => a.cps.toList
  rel k u h := by obtain ⟨t, rfl⟩ := h; rfl
  back k := rfl
  sortable us h h2 := by
    have hI := strs_dec h
    refine ⟨oneType', fun Q E hq => ?_, fun p q hm hm' => ?_⟩
    · match us, hI, h2 with
      | v1 :: v2 :: rest, hI, _ =>
        rw [keyKind_strs hI]
        exact wpAny_pure hq
      | [], _, h => exact absurd h (by decide)
      | [v], _, h => exact absurd h (by simp)
    · obtain ⟨a, t, e⟩ := h _ hm
      obtain ⟨b, u, e'⟩ := h _ hm'
      show wpAny _ _ (keyLt' oneType' p.1 q.1) (fun r s' => s' = _ ∧ r = decide ((decS p.1).cps.toList < (decS q.1).cps.toList)) (fun _ _ => False) _
      rw [e, e', keyLt'_oneType]
      exact oneLt_str ⟨rfl, rfl⟩
end SrtL
set_option Elab.async false
set_option linter.all false
set_option maxRecDepth 100001
set_option maxHeartbeats 3999999
namespace SrtL
open PySem PyProof.Rows Srt SrtO L2 LamX
def bk (u : Value) : V := (absV u).getD .non
theorem bk_rel {x : V} {u : Value} (r : RelV x u) : bk u = x := by
  unfold bk
  rw [r.abs]
  rfl
section
variable {α : Type} (O : KeyOrd α) (g : V → α)
theorem zip_fact : ∀ {xs : List V} {vs ks : List Value}, Vals xs vs → Vals (xs.map fun x => O.enc (g x)) ks → (∀ p ∈ ks.zip vs, O.dec p.1 = g (bk p.2) ∧ RelV (bk p.2) p.2) ∧ (ks.zip vs).map (fun p => bk p.2) = xs
  | [], _, _, .nil, .nil => ⟨fun _ h => (by simp at h), rfl⟩
  | x :: xs, _, _, .cons r t, .cons r2 t2 => by
    obtain ⟨h1, h2⟩ := zip_fact t t2
    refine ⟨fun p hp => ?_, ?_⟩
    · rw [List.zip_cons_cons] at hp
      rcases List.mem_cons.mp hp with rfl | hp
      · rw [bk_rel r]
        exact ⟨O.rel _ _ r2, r⟩
      · exact h1 p hp
    · rw [List.zip_cons_cons, List.map_cons, h2]
      show bk _ :: xs = x :: xs
      rw [bk_rel r]
abbrev ltG (x y : V) : Bool := O.lt (g x) (g y)
abbrev ltD (x y : Value) : Bool := O.lt (O.dec x) (O.dec y)
theorem conv {xs : List V} {vs ks : List Value} {ps : List Keyed} (hv : Vals xs vs) (hk : Vals (xs.map fun x => O.enc (g x)) ks) (h1 : Srtd (lt2 (ltD O)) ps) (h2 : Stb (lt2 (ltD O)) ps (ks.zip vs)) :
    Vals (ps.map fun p => bk p.2) (ps.map (·.2)) ∧ Srtd (ltG O g) (ps.map fun p => bk p.2) ∧ Stb (ltG O g) (ps.map fun p => bk p.2) xs := by
  obtain ⟨f1, f2⟩ := zip_fact O g hv hk
  have mem : ∀ p ∈ ps, O.dec p.1 = g (bk p.2) ∧ RelV (bk p.2) p.2 := fun p hp => f1 p (h2.perm.mem_iff.mp hp)
  refine ⟨?_, ?_, ?_⟩
  · clear h1 h2
    induction ps with
    | nil => exact .nil
    | cons p ps ih => exact .cons (mem p List.mem_cons_self).2 (ih fun q hq => mem q (List.mem_cons_of_mem _ hq))
  · refine srtd_map (f := fun p : Keyed => bk p.2) (lt := ltG O g) ?_
    refine List.Pairwise.imp_of_mem (fun {p q} hp hq hr => ?_) h1
    show O.lt (g (bk q.2)) (g (bk p.2)) = false
    rw [← (mem p hp).1, ← (mem q hq).1]
    exact hr
  · have h3 : Stb (fun p q : Keyed => ltG O g (bk p.2) (bk q.2)) ps (ks.zip vs) := by
      refine ⟨h2.perm, fun x => ?_⟩
      have e : ∀ p : Keyed, O.dec p.1 = g (bk p.2) → eqv (fun p q : Keyed => ltG O g (bk p.2) (bk q.2)) x p = eqv (lt2 (ltD O)) (O.val (g (bk x.2)), x.2) p := by
        intro p hp
        show (!O.lt (g (bk x.2)) (g (bk p.2)) && !O.lt (g (bk p.2)) (g (bk x.2))) = (!O.lt (O.dec (O.val (g (bk x.2)))) (O.dec p.1) && !O.lt (O.dec p.1) (O.dec (O.val (g (bk x.2)))))
        rw [O.back, hp]
      rw [List.filter_congr fun p hp => e p (mem p hp).1, List.filter_congr fun p hp => e p (f1 p hp).1]
      exact h2.cls _
    have h4 := Stb.map (swo_dec O.swo g) (fun p : Keyed => bk p.2) h3
    rw [f2] at h4
    exact h4
end
/-- sorted(e, key=lambda x: tb): the keys are read at one and the same heap -/
def tSortLam {α : Type} (Tb : List (Addr × Str)) (K : PySem.W.Frag) (O : KeyOrd α) (i : Nat) (te tb : TE) : TE := fun σ H Q => te σ H fun x H1 => ∃ (a : Addr) (xs : List V) (g : V → α), x = .ref a ∧ SqL K H1 a xs ∧ Tabs Tb H1 ∧
  ∀ H2, ExtN H1 H2 → Tabs Tb H2 → SqL K H2 a xs ∧ (∀ v ∈ xs, tb (σ.set i (some v)) H2 fun kv H4 => kv = O.enc (g v) ∧ H4 = H2) ∧
    ∀ ys p, Srtd (ltG O g) ys → Stb (ltG O g) ys xs → H2 p = none → Q (.ref p) (upd H2 p (.lst ys))
section
variable {X : Cx} {pins : List (Addr × Obj)} {σ : L2.St} {H : Hp} {s : Shared}
theorem fp_keep {b : Addr} {o : Obj} {H' : Hp} {h' : Heap} (I : Inv X pins σ H s) (un : Un (frs X.stack) [] H H' s.heap h') (hn : H b = none) (hf : b ∉ frs X.stack) (hb : s.heap.get? b = some o) : h'.get? b = some o := un.keep b o hb hn hf (by simp)
theorem fp_nofr {b : Addr} (I : Inv X pins σ H s) (hf : FpOk X pins H b) : b ∉ frs X.stack := fun z => by
  rcases List.mem_cons.mp (I.stkSub _ z) with e | e
  · exact hf.2.1 e
  · exact hf.2.2.1 e
/-- the sorted list is known from now on -/
theorem inv_done {kS d : Addr} {ks out : List Value} {ys : List V} {ek e1 : Nat} (I : Inv X pins σ H s) (fk : FpOk X pins H kS) (fd : FpOk X pins H d) (ne : kS ≠ d) (hk : s.heap.get? kS = some (seqObj "list" ks.toArray ek)) (hd : s.heap.get? d = some (seqObj "list" #[] e1))
    (hl : ys.length ≤ sizeLine) (hv : Vals ys out) : Inv X pins σ (upd H d (.lst ys)) { s with heap := doneHeap s.heap kS d out.toArray } := by
  have s1 := Heap.SameBut.update s.heap kS (Obj.mapSeq fun _ => (#[] : Array Value))
  have nd1 : (s.heap.update kS (Obj.mapSeq fun _ => (#[] : Array Value))).get? d = some (seqObj "list" #[] e1) := (s1.2 d ne.symm).trans hd
  obtain ⟨e2, hd2⟩ : ∃ e2, (doneHeap s.heap kS d out.toArray).get? d = some (seqObj "list" out.toArray e2) := ⟨_, get?_update_seq nd1 fun _ => out.toArray⟩
  obtain ⟨e3, hk3⟩ : ∃ e3, (s.heap.update kS (Obj.mapSeq fun _ => (#[] : Array Value))).get? kS = some (seqObj "list" #[] e3) := ⟨_, get?_update_seq hk fun _ => #[]⟩
  have kp : ∀ b o, b ≠ kS → b ≠ d → s.heap.get? b = some o → (doneHeap s.heap kS d out.toArray).get? b = some o := fun b o h1 h2 e => by
    show ((s.heap.update kS (Obj.mapSeq fun _ => (#[] : Array Value))).update d _).get? b = _
    rw [Heap.get?_update_ne _ _ _ _ h2, Heap.get?_update_ne _ _ _ _ h1]
    exact e
  have nK : ∀ b u, H b = some u → b ≠ kS := fun b u e z => by rw [z, fk.1] at e; cases e
  have nD : ∀ b u, H b = some u → b ≠ d := fun b u e z => by rw [z, fd.1] at e; cases e
  have stay : ∀ b u, H b = some u → upd H d (.lst ys) b = some u := fun b u e => (upd_ne (nD b u e)).trans e
  refine I.step (g' := s.gens) (t' := s.toks) (d' := s.drawn) (ch := [kS, d]) (fun b hb => ?_) (fun b o _ _ hc e _ => kp b o (fun z => hc (by simp [z])) (fun z => hc (by simp [z])) e) (fun b o _ _ hc e _ => ⟨o.slots, kp b o (fun z => hc (by simp [z])) (fun z => hc (by simp [z])) e⟩)
    (fun b o hc _ n => (upd_ne (fun z => hc (by simp [z]))).trans n) (fun b o hc e => ⟨o, kp b o (fun z => hc (by simp [z])) (fun z => hc (by simp [z])) e⟩) (fun b xs e => stay _ _ e) (fun b o u e => stay _ _ e) (fun b ps e => ⟨#[], by rw [stay _ _ e]; simp⟩) (fun m hm => ?_) (fun b u e => ?_) I.bare
  · rcases List.mem_cons.mp hb with rfl | hb
    · exact ⟨fk.2.2.2.1, fk.2.1, fk.2.2.2.2.1, fk.2.2.2.2.2⟩
    · rw [List.mem_singleton.mp hb]
      exact ⟨fd.2.2.2.1, fd.2.1, fd.2.2.2.2.1, fd.2.2.2.2.2⟩
  · obtain ⟨o, es, ep, ho, r⟩ := hm
    exact ⟨o, es, ep, kp _ o (Ne.symm fk.2.1) (Ne.symm fd.2.1) ho, r⟩
  · by_cases hb : b = d
    · rw [hb, upd_same] at e
      cases e
      rw [hb]
      exact ⟨hl, out, e2, hv, hd2⟩
    · rw [upd_ne hb] at e
      refine (I.hok b u e).stay (fun c v hc q => ?_) (fun _ q => stay _ _ q) fun _ _ q => stay _ _ q
      rcases hc with z | z
      · rw [z] at q ⊢
        exact kp _ _ (nK b u e) hb q
      · exact kp _ _ (nK c _ z) (nD c _ z) q
end
end SrtL
set_option Elab.async false
set_option linter.all false
set_option maxRecDepth 100001
set_option maxHeartbeats 3999999
namespace SrtL
open PySem PyProof.Rows Srt SrtO L2 LamX
section
variable {X : Cx} {p lpos kpos pos : Pos} {e : Expr} {te tb : TE} {α : Type}
theorem frames2 (I : X.Ok) : X.A.in1.in1.frames = some X.stack := I.frames
theorem pe_sortLam (O : KeyOrd α) {Tb : List (Addr × Str)} {c T : Addr} {k i : Nat} {a : Str} {params : Arguments} {body : Expr} {scope : Scope} (hg : Gl X "sorted") (hm : X.mg "sorted" = none) (he : PE X e te) (TB : TabB X.base X.mg c T) (hmT : (T, X.env.qual ++ "<lambda>") ∈ Tb) (hu : ∀ p ∈ Tb, p.1 = T → p.2 = X.env.qual ++ "<lambda>")
    (hr : Room (k + 3) X.A) (L : LamP X.env.scope scope a) (nd : X.N.Nodup) (hN : X.N[i]? = some a)
    (hbody : ∀ (s : Shared) (H : Hp) (f c' : Addr), Room k (X.A.in1.in1.deeper (lamEnv X scope s.heap.objs.size f c')) → PE (lamCx X X.A.in1.in1 X.stack s H C8.E0 scope f c') body tb)
    (hcode : X.env.code = .ref c := by rfl) (hdef : defaultsOf params X.env = ([], []) := by rfl)
    (hbind : ∀ (q : Str) (cl : List (Str × Addr)) (pm cv ctv u : Value), bindArgs (PySem.W.kla_fn "<lambda>" q params body scope cl pm cv ctv) ⟨[u], []⟩ = pure [(a, u)] := by intros; rfl)
    (hs0 : starEach [e] X.env = (false, eval e X.env) :: starEach [] X.env := by rfl) (hs : backTo pos (starEach [e] X.env) = (false, eval e X.env) :: backTo pos (starEach [] X.env) := by rfl) (hpl : (backTo pos (starEach [e] X.env)).any (·.1) = false := by rfl) :
    PE X (.Call (.Name "sorted" p) [e] [⟨some "key", .Lambda params body scope lpos, kpos⟩] pos) (tSortLam Tb X.K O i te tb) := by
  refine ⟨fun pins s σ H Q I h => ?_⟩
  refine wpAny_Call_Name_kw (ld_blt (u := Value.builtin "sorted") I hg hm (by decide +kernel) ?_ (by decide) (by decide))
  refine PyProof.Rows.callWith_kw (thn ((pa_cons he pa_nil hs0).run pos pins s σ H (fun vs H1 => match vs with
    | [x] => ∃ (a : Addr) (xs : List V) (g : V → α), x = .ref a ∧ SqL X.K H1 a xs ∧ Tabs Tb H1 ∧
  ∀ H2, ExtN H1 H2 → Tabs Tb H2 → SqL X.K H2 a xs ∧ (∀ v ∈ xs, tb (σ.set i (some v)) H2 fun kv H4 => kv = O.enc (g v) ∧ H4 = H2) ∧
    ∀ ys p, Srtd (ltG O g) ys → Stb (ltG O g) ys xs → H2 p = none → Q (.ref p) (upd H2 p (.lst ys))
    | _ => False) I h) fun us s1 ⟨vs, H1, I1, r1, q1⟩ => ?_) hs hpl (by rfl) (by rfl)
  obtain ⟨x, rfl, u, rfl, rx, q1⟩ : ∃ x, vs = [x] ∧ ∃ u, us = [u] ∧ RelV x u ∧ ∃ (a : Addr) (xs : List V) (g : V → α), x = .ref a ∧ SqL X.K H1 a xs ∧ Tabs Tb H1 ∧
      ∀ H2, ExtN H1 H2 → Tabs Tb H2 → SqL X.K H2 a xs ∧ (∀ v ∈ xs, tb (σ.set i (some v)) H2 fun kv H4 => kv = O.enc (g v) ∧ H4 = H2) ∧
        ∀ ys p, Srtd (ltG O g) ys → Stb (ltG O g) ys xs → H2 p = none → Q (.ref p) (upd H2 p (.lst ys)) := by
    cases vs with
    | nil => exact q1.elim
    | cons x r =>
      cases r with
      | nil =>
        cases r1 with
        | cons rx t =>
          cases t
          exact ⟨x, rfl, _, rfl, rx, q1⟩
      | cons y r => exact q1.elim
  obtain ⟨l, xs, g, rfl, hl1, hT1, q1⟩ := q1
  obtain rfl : u = Value.ref l := rx
  show wpAny _ _ (evalAll ((do let v ← eval (.Lambda params body scope lpos) X.env; standAt pos; pure v) :: (backToKw pos (keywordEach [] X.env)).map (·.2))) _ _ s1
  refine wpAny_evalAll_cons (wpAny_bind (lam_make2 I1 TB hcode hmT hu hT1 hdef (L.has I1.ok) fun f c' pm ctv H2 s2 I2 e12 hT2 hf hfn hfr hc => wpAny_bind (wpAny_standAt (wpAny_pure ?_))))
  refine wpAny_evalAll_nil ?_
  show wpAny _ _ (call (.builtin "sorted") [.ref l] [(Str.ofString "key", .ref f)]) _ _ s2
  obtain ⟨hl2, hkey, hend⟩ := q1 H2 e12 hT2
  obtain ⟨its, rv, hil, hz⟩ := I2.list hl2
  refine sorted_ord (vs := its) (ltv := ltD O) (swo_dec O.swo O.dec) hil.isList (by rw [← rv.length]; exact hz) fun h1 d kS e1 hkp hd hkS gd gk nkd => ?_
  have fk : FpOk X pins H2 kS := I2.fpOk gk (I2.hok.fresh gk)
  have fd : FpOk X pins H2 d := I2.fpOk gd (I2.hok.fresh gd)
  have hroom : Room (k + 1) X.A.in1.in1 := (Room.in1 (Room.in1 hr))
  refine ⟨fun ks s' => Inv X pins σ H2 s' ∧ (∃ ek, s'.heap.get? kS = some (seqObj "list" ks.toArray ek)) ∧ s'.heap.get? d = some (seqObj "list" #[] e1) ∧ s'.heap.get? f = some (PySem.W.kla_obj "<lambda>" (X.env.qual ++ "<lambda>") params body scope (cloFrom X.env.cells scope.names []) pm c' ctv) ∧ Vals ((xs.take ks.length).map fun x => O.enc (g x)) ks,
    ⟨I2.kept (t' := s2.toks) hkp, ⟨0, hkS⟩, hd, hkp _ _ hf, by rw [List.length_nil, List.take_zero]; exact .nil⟩, ⟨fun ks s' h => ⟨h.2.1, h.2.2.1⟩, ?_, ?_, ?_⟩⟩
  · rintro ks u s' ⟨J, ⟨ek, jk⟩, jd, jf, jv⟩ hu2
    obtain ⟨x, hx, rx⟩ : ∃ x, xs[ks.length]? = some x ∧ RelV x u := by
      have lt : ks.length < xs.length := by rw [rv.length]; exact (List.getElem?_eq_some_iff.mp hu2).1
      obtain ⟨u', h1, h2⟩ := rv.get (List.getElem?_eq_getElem lt)
      rw [hu2] at h1
      cases h1
      exact ⟨_, List.getElem?_eq_getElem lt, h2⟩
    refine wpAny_call (codeAny_mono (lam_call1 (A := X.A.in1.in1) (i := i) (Q := fun kv H4 => kv = O.enc (g x) ∧ H4 = H2) J L J.ok.frames hroom nd hN rx jf hc (hbind _ _ _ _ _ _) (fun _ => hbody s' H2 f c' ‹_›) (hkey x (List.mem_of_getElem? hx))) fun r s'' hq => ?_)
    cases r with
    | error e =>
      obtain ⟨_, _, _, _, _, _, _, _, _, _, _, _, z⟩ := hq
      exact z
    | ok fl =>
      cases fl with
      | ret kv =>
        obtain ⟨v, H', os, bare, un, hok, rk, rfl, rfl⟩ := id hq
        obtain ⟨v2, H3, J2, _, _, rfl⟩ := J.after hq
        have kept : ∀ b o, H3 b = none → b ∉ frs X.stack → s'.heap.get? b = some o → s''.heap.get? b = some o := fun b o h1 h2 h3 => un.keep b o h3 h1 h2 (by simp)
        have jk2 := kept _ _ fk.1 (fp_nofr J fk) jk
        have jd2 := kept _ _ fd.1 (fp_nofr J fd) jd
        have jf2 := kept _ _ hfn hfr jf
        have sb := Heap.SameBut.update s''.heap kS (Obj.mapSeq (·.push kv))
        have kb : ∀ b o, b ≠ kS → s''.heap.get? b = some o → (s''.heap.update kS (Obj.mapSeq (·.push kv))).get? b = some o := fun b o hb e => (sb.2 b hb).trans e
        obtain ⟨c2, hc2⟩ : ∃ c2, (s''.heap.update kS (Obj.mapSeq (·.push kv))).get? kS = some (seqObj "list" (ks.toArray.push kv) c2) := ⟨_, get?_update_seq jk2 (·.push kv)⟩
        have nf : f ≠ kS := fun z => Nat.lt_irrefl _ (Nat.lt_of_lt_of_le (z ▸ Heap.lt_size hf) gk)
        refine ⟨⟨ek, jk2⟩, J2.turned (t' := s''.toks) kb fk.1 fk.2.1 fk.2.2.2.1 fk.2.2.2.2.1 fk.2.2.2.2.2, ⟨c2, by rw [hc2, List.push_toArray]⟩, kb _ _ nkd.symm jd2, kb _ _ nf jf2, ?_⟩
        have e1 : xs.take (ks ++ [kv]).length = xs.take ks.length ++ [x] := by
          rw [List.length_append, List.length_singleton, List.take_add_one, hx]
          rfl
        rw [e1, List.map_append]
        exact Paired.snoc jv rk
      | next => exact False.elim hq
      | brk => exact False.elim hq
      | cont => exact False.elim hq
  · rintro ks s' ⟨J, _, _, _, jv⟩ lk h2
    refine O.sortable ks (fun u hu => ?_) (by omega)
    obtain ⟨j, hj⟩ := List.mem_iff_getElem?.mp hu
    obtain ⟨lt, _⟩ := List.getElem?_eq_some_iff.mp hj
    have lt2 : j < ((xs.take ks.length).map fun x => O.enc (g x)).length := by rw [jv.length]; exact lt
    obtain ⟨u', h3, h4⟩ := jv.get (List.getElem?_eq_getElem lt2)
    rw [hj] at h3
    cases h3
    rw [List.getElem_map] at h4
    exact ⟨_, h4⟩
  · rintro ks s' ⟨J, ⟨ek, jk⟩, jd, _, jv⟩ lk ps h1 h2
    have lx : xs.length = ks.length := by rw [rv.length, lk]
    rw [← lx, List.take_length] at jv
    obtain ⟨y1, y2, y3⟩ := conv O g rv jv h1 h2
    refine ⟨rfl, .ref d, _, inv_done (ys := ps.map fun p => bk p.2) J fk fd nkd jk jd (by rw [y3.len]; exact hz) y1, rfl, hend _ d y2 y3 fd.1⟩
end
end SrtL
set_option Elab.async false
set_option linter.all false
set_option maxRecDepth 100001
set_option maxHeartbeats 1999999
/-! rules for texts: list(s), s * n, s[::-1], and for lists of ints: xs < ys. -/
namespace L2
open PySem.Spec PySem PyProof.Rows
def sgn (c : Nat) : V := .str ⟨#[c]⟩
def sgns (z : Str) : List V := z.cps.toList.map sgn
theorem vals_get : ∀ {xs : List V} {us : List Value}, xs.length = us.length → (∀ (j : Nat) x u, xs[j]? = some x → us[j]? = some u → RelV x u) → Vals xs us
  | [], [], _, _ => .nil
  | [], _ :: _, h, _ => by simp at h
  | _ :: _, [], h, _ => by simp at h
  | x :: xs, u :: us, h, k => .cons (k 0 x u rfl rfl) (vals_get (by simpa using h) fun j a b h1 h2 => k (j + 1) a b (by simpa using h1) (by simpa using h2))
section
variable {X : Cx}
/-- list(s) -/
theorem call_listS (hc : X.calm = true) : CallR X (.type "list") (fun xs H Q => ∃ z : Str, xs = [.str z] ∧ z.length ≤ sizeLine ∧ ∀ p, H p = none → Q (.ref p) (upd H p (.lst (sgns z)))) := by
  intro pins s σ H xs us Q I r h
  obtain ⟨z, rfl, hz, q⟩ := h
  obtain ⟨u, rfl, rx⟩ := vals1 r
  obtain ⟨t, rfl⟩ := rx
  refine PySem.call_list_str (I.ok.hd hc) z t (fun h' tk acc' c' hk hS hacc => ?_) hz
  refine ⟨.ref _, upd H s.heap.objs.size (.lst (sgns z)), I.laid (t' := tk) hk (Nat.le_refl _) ⟨?_, acc'.toList, c', ?_, by rw [hS]⟩, rfl, q _ (I.hok.fresh (Nat.le_refl _))⟩
  · unfold sgns
    rw [List.length_map, Array.length_toList]
    exact hz
  · refine vals_get ?_ fun j x u h1 h2 => ?_
    · unfold sgns
      rw [List.length_map, Array.length_toList, Array.length_toList, hacc.1]
    · unfold sgns at h1
      rw [List.getElem?_map] at h1
      rw [Array.getElem?_toList] at h2
      obtain ⟨c, t', hc', rfl⟩ := hacc.2 j u h2
      rw [Array.getElem?_toList, hc'] at h1
      cases h1
      exact ⟨t', rfl⟩
/-! ### xs < ys -/
theorem firstLt_map (e r : Nat → Bool) (fin : Bool) : ∀ l : List Nat, SeqAt.firstLt e r fin (l.map (· + 1)) = SeqAt.firstLt (fun j => e (j + 1)) (fun j => r (j + 1)) fin l
  | [] => rfl
  | j :: l => by
    rw [List.map_cons]
    unfold SeqAt.firstLt
    rw [firstLt_map e r fin l]
theorem firstLt_lex : ∀ ns ms : List Int, SeqAt.firstLt (fun j => ns.getD j 0 == ms.getD j 0) (fun j => decide (ns.getD j 0 < ms.getD j 0)) (decide (ns.length < ms.length)) (List.range (min ns.length ms.length)) = HT.lexLt ns ms
  | [], [] => rfl
  | [], y :: ys => by simp [SeqAt.firstLt, HT.lexLt]
  | x :: xs, [] => by simp [SeqAt.firstLt, HT.lexLt]
  | x :: xs, y :: ys => by
    have ih := firstLt_lex xs ys
    have e : List.range (min (x :: xs).length (y :: ys).length) = 0 :: (List.range (min xs.length ys.length)).map (· + 1) := by
      rw [List.length_cons, List.length_cons, Nat.succ_min_succ, List.range_succ_eq_map]
    rw [e, HT.lexLt_cons]
    show (if (x == y) = true then _ else decide (x < y)) = _
    by_cases c : x = y
    · rw [if_pos (by simpa using c), if_pos c, firstLt_map, ← ih]
      simp
    · rw [if_neg (by simpa using c), if_neg c]
theorem ints_get : ∀ {ns : List Int} {us : List Value}, Vals (ns.map V.int) us → ∀ (j : Nat) u, us[j]? = some u → ∃ t, u = .int (ns.getD j 0) t
  | [], _, .nil, j, u, h => by simp at h
  | n :: ns, _, .cons ⟨t, e⟩ r, 0, u, h => by
    simp at h
    subst h e
    exact ⟨t, rfl⟩
  | n :: ns, _, .cons _ r, j + 1, u, h => by
    obtain ⟨t, e⟩ := ints_get r j u (by simpa using h)
    exact ⟨t, by simpa using e⟩
def rLtLI (K : PySem.W.Frag) : R2 := fun x y H Q => ∃ a b ns ms, x = .ref a ∧ y = .ref b ∧ SqL K H a (ns.map V.int) ∧ SqL K H b (ms.map V.int) ∧ Q (.bl (HT.lexLt ns ms)) H
theorem op_ltLI (hu : X.A.units < cLine) : OpR X (compareOp .Lt) (rLtLI X.K) := by
  intro pins s σ H x y v u Q I rx ry h
  obtain ⟨a, b, ns, ms, rfl, rfl, ha, hb, q⟩ := h
  cases rx
  cases ry
  obtain ⟨its, r1, p1, _⟩ := I.list ha
  obtain ⟨its2, r2, p2, _⟩ := I.list hb
  have l1 : its.toArray.size = ns.length := by have := r1.length; simp at this ⊢; omega
  have l2 : its2.toArray.size = ms.length := by have := r2.length; simp at this ⊢; omega
  have g1 : ∀ j (h : j < its.toArray.size), ∃ t, its.toArray[j] = .int (ns.getD j 0) t := fun j h => ints_get r1 j _ (by simpa using (List.getElem?_eq_getElem (by simpa using h)))
  have g2 : ∀ j (h : j < its2.toArray.size), ∃ t, its2.toArray[j] = .int (ms.getD j 0) t := fun j h => ints_get r2 j _ (by simpa using (List.getElem?_eq_getElem (by simpa using h)))
  refine SeqAt.RcLt.lists (e := fun j => ns.getD j 0 == ms.getD j 0) (r := fun j => decide (ns.getD j 0 < ms.getD j 0)) p1.isList p2.isList hu (fun j h1 h2 => ?_) (fun j h1 h2 _ => ?_) X.prog X.w _ _ ?_
  · obtain ⟨t, e1⟩ := g1 j h1
    obtain ⟨t', e2⟩ := g2 j h2
    rw [e1, e2]
    exact SeqAt.EqAt.int_int _ _ _ _
  · obtain ⟨t, e1⟩ := g1 j h1
    obtain ⟨t', e2⟩ := g2 j h2
    rw [e1, e2]
    exact fun prog w E Q h => HT.rcLt_int _ _ _ _ _ _ prog w E Q h
  · rw [l1, l2, firstLt_lex]
    exact ⟨.bl _, H, I, rfl, q⟩
/-! ### s * n -/
def repS (z : Str) (k : Nat) : Str := ⟨((List.replicate k z.cps.toList).flatten).toArray⟩
theorem fold_rep (z : Array Nat) : ∀ (k : Nat) (a : Array Nat), ((List.replicate k z).foldl (· ++ ·) a) = a ++ ((List.replicate k z.toList).flatten).toArray
  | 0, a => by simp
  | k + 1, a => by
    rw [List.replicate_succ, List.foldl_cons, fold_rep z k, List.replicate_succ, List.flatten_cons]
    refine Array.ext' ?_
    simp
def rMulS : R2 := fun x y H Q => ∃ (z : Str) (k : Nat), x = .str z ∧ y = .int (k : Nat) ∧ 2 ≤ k ∧ k ≤ 1000 ∧ 1 ≤ z.length ∧ z.length ≤ 1000 ∧ Q (.str (repS z k)) H
theorem op_mulS : OpR X (binaryOp .Mult) rMulS := by
  intro pins s σ H x y v u Q I rx ry h
  obtain ⟨z, k, rfl, rfl, k2, k1, z1, z2, q⟩ := h
  obtain ⟨t, rfl⟩ := rx
  obtain ⟨t', rfl⟩ := ry
  have n1 : ¬ ((k : Nat) : Int) < 1 := by omega
  have n2 : (((k : Nat) : Int) == 1 || z.length == 0) = false := by
    simp
    omega
  refine P.mul_str (by simp; omega) (fun _ _ => ?_) (fun _ _ => ?_) ?_
  · have hk : (9007199254740 : Int) ≤ (2 ^ 63 - 1) / ((k : Nat) : Int) := by
      refine (Int.le_ediv_iff_mul_le (by omega)).mpr ?_
      have : (9007199254740 : Int) * ((k : Nat) : Int) ≤ 9007199254740 * 1000 := Int.mul_le_mul_of_nonneg_left (by omega) (by decide)
      have e : (9007199254740 : Int) * 1000 ≤ 2 ^ 63 - 1 := by decide
      omega
    omega
  · rw [Int.toNat_natCast]
    have : z.length * k ≤ 1000 * 1000 := Nat.mul_le_mul z2 k1
    exact decide_eq_false (Nat.not_lt.mpr (Nat.le_trans this (by decide)))
  · rw [if_neg n1, if_neg (by rw [n2]; decide), Int.toNat_natCast, fold_rep]
    have e : (#[] ++ ((List.replicate k z.cps.toList).flatten).toArray : Array Nat) = ((List.replicate k z.cps.toList).flatten).toArray := by simp
    rw [e]
    refine ⟨?_, .str (repS z k), H, I.tok _, ⟨_, rfl⟩, q⟩
    show (((List.replicate k z.cps.toList).flatten).toArray).size ≤ sizeLine
    rw [List.size_toArray, List.length_flatten, List.map_replicate, List.sum_replicate_nat, Array.length_toList]
    have : k * z.length ≤ 1000 * 1000 := Nat.mul_le_mul k1 z2
    exact Nat.le_trans this (by decide)
/-! ### s[::-1] -/
def revS (z : Str) : Str := ⟨z.cps.toList.reverse.toArray⟩
def tRevS (te : TE) : TE := fun σ H Q => te σ H fun x H1 => ∃ z : Str, x = .str z ∧ z.length ≤ sizeLine ∧ Q (.str (revS z)) H1
theorem pick_rev (z : Str) : (Builtin.Str.strSliceIndices none none (-1) z.length).filterMap (z.cps[·]?) = z.cps.toList.reverse := by
  show (sliceRange ((z.cps.size : Int) - 1) (-1) (-1)).filterMap (z.cps[·]?) = _
  rw [PySem.W.krv_sliceRange, PySem.W.krv_range, List.filterMap_reverse, PySem.W.krv_all]
theorem pe_revS {e : Expr} {te : TE} {k : Nat} {p1 p2 p3 pos : Pos} (he : PE X e te) : PE X (.Subscript e (.Slice none none (some (.UnaryOp .USub (.Constant (.int 1) k p1) p2)) p3) pos) (tRevS te) := by
  refine ⟨fun pins s σ H Q I h => ?_⟩
  refine Subscript_ (thn (he.run pins s σ H _ I h) fun v s1 ⟨x, H1, I1, r1, q1⟩ => ?_)
  obtain ⟨z, ex, hz, q⟩ := q1
  subst ex
  obtain ⟨t, rfl⟩ := r1
  have hst : PO X (some (.UnaryOp .USub (.Constant (.int 1) k p1) p2)) (tPart (tUn (rU fun i => .int (-i)) (tC (.int 1)))) := po_some (pe_un un_neg pe_int)
  refine wpAny_Slice (thn (po_none.run pins s1 σ H1 (fun o H2 => o = none ∧ H2 = H1) I1 ⟨rfl, rfl⟩) fun vl s2 ⟨l, H2, I2, pl, el, e2⟩ => ?_)
  subst el e2
  refine thn (po_none.run pins s2 σ H2 (fun o H3 => o = none ∧ H3 = H2) I2 ⟨rfl, rfl⟩) fun vu s3 ⟨u, H3, I3, pu, eu, e3⟩ => ?_
  subst eu e3
  refine thn (hst.run pins s3 σ H3 (fun o H4 => o = some (-1) ∧ H4 = H3) I3 ⟨1, rfl, -1, rfl, rfl, rfl⟩) fun vs s4 ⟨o, H4, I4, ps, eo, e4⟩ => ?_
  subst eo e4
  have I5 : Inv X pins σ H4 { s4 with heap := s4.heap.push { cls := .type "slice", data := .fields #[vl, vu, vs] } } := I4.kept (t' := s4.toks) fun b ob q => Heap.get?_push_of_some _ q
  obtain ⟨l0, rfl, e0⟩ := IsPart.raw pl
  obtain ⟨u0, rfl, e1⟩ := IsPart.raw pu
  obtain ⟨v0, rfl, e2⟩ := IsPart.raw ps
  have l0n : l0 = none := by cases l0 with | none => rfl | some _ => cases e0
  have u0n : u0 = none := by cases u0 with | none => rfl | some _ => cases e1
  subst l0n u0n
  obtain ⟨tk, rfl⟩ : ∃ tk, v0 = some (-1, tk) := by
    cases v0 with
    | none => cases e2
    | some p =>
      obtain ⟨a, b⟩ := p
      have : a = -1 := Option.some.inj e2
      exact ⟨b, by rw [this]⟩
  show wpAny (model X.prog X.w) X.A (subscriptTail e (.Slice none none (some (.UnaryOp .USub (.Constant (.int 1) k p1) p2)) p3) (.str z t) (.ref s4.heap.objs.size)) (EP X pins σ Q) X.xe _
  refine tail_any (ops := [.str z t, .ref s4.heap.objs.size]) (typeIs_str _ z t) F.slot_str_getitem.lookup ?_ (by with_unfolding_all rfl)
  refine wpAny_getItem_str_slice (l := none) (u := none) (st := some (-1, tk)) ⟨_, Heap.get?_push_size _ rfl, rfl, rfl⟩ rfl ?_
  show Made.post (if ((-1 : Int) == 1 && (Builtin.Str.strSliceIndices none none (-1) z.length).length == z.length) = true then Made.val (.str z t) else Made.str ⟨((Builtin.Str.strSliceIndices none none (-1) z.length).filterMap (z.cps[·]?)).toArray⟩) _ _
  rw [if_neg (by simp), pick_rev]
  refine ⟨?_, .str (revS z), H4, I5.tok _, ⟨_, rfl⟩, q⟩
  show (z.cps.toList.reverse.toArray).size ≤ sizeLine
  rw [List.size_toArray, List.length_reverse, Array.length_toList]
  exact hz
/-! ### sep.join(s), s a text -/
theorem mt_joinS (hc : X.calm = true) : MtR X "str.join" (fun x xs H Q => ∃ a z : Str, x = .str a ∧ xs = [.str z] ∧ JoinOk a (PyProof.Rows.signs z) = true ∧ Q (.str (Txt.join a (PyProof.Rows.signs z))) H) := by
  intro pins s σ H x xs v us Q I rx rs h
  obtain ⟨a, z, rfl, rfl, ok, q⟩ := h
  obtain ⟨t, rfl⟩ := rx
  obtain ⟨u, rfl, ru⟩ := vals1 rs
  obtain ⟨t', rfl⟩ := ru
  exact SC.joinStr (I.ok.hd hc) ok fun h' k t2 hk => ⟨.str _, H, I.kept (t' := k) hk, ⟨t2, rfl⟩, q⟩
end
end L2
set_option Elab.async false
set_option linter.all false
set_option maxRecDepth 100001
set_option maxHeartbeats 3200000
/-! len(set(s)), s a text whose signs are all unlike. -/
namespace SetStr
open PySem.Spec PySem PyProof.Rows
def sgl (c : Nat) : Str := ⟨#[c]⟩
def firsts (z : Str) (i : Nat) : List Nat := z.cps.toList.take i
def has (z : Str) (i : Nat) (k : Str) : Bool := (firsts z i).any fun c => sgl c == k
theorem firsts_succ {z : Str} {i c : Nat} (h : z.cps[i]? = some c) : firsts z (i + 1) = firsts z i ++ [c] := by
  unfold firsts
  rw [List.take_add_one, Array.getElem?_toList, h]
  rfl
theorem sgl_inj {a b : Nat} (h : sgl a = sgl b) : a = b := by
  have h2 : (#[a] : Array Nat) = #[b] := congrArg Str.cps h
  have h3 := congrArg Array.toList h2
  simpa using h3
theorem has_new {z : Str} {i c : Nat} (nd : z.cps.toList.Nodup) (h : z.cps[i]? = some c) : has z i (sgl c) = false := by
  unfold has
  rw [List.any_eq_false]
  intro x hx e
  have e : x = c := sgl_inj (by simpa using e)
  subst e
  have h1 : firsts z (i + 1) = firsts z i ++ [x] := firsts_succ h
  have h2 : (firsts z (i + 1)).Nodup := List.Sublist.nodup (List.take_sublist _ _) nd
  rw [h1] at h2
  exact (List.nodup_append.mp h2).2.2 x hx x List.mem_cons_self rfl
section
variable {prog : Program} {w : World} {A : Around} {R : Result → Shared → Prop} {I : Addr} {fp wr : List Addr} {G : Array GenState → Array GenState → Prop} {n : Nat} {St : Nat → Shared → Prop}
theorem loop (z : Str) (nd : z.cps.toList.Nodup) (hb : z.cps.size + 1 < scanBound) (W : WalksS prog w A.in1 I fp wr G z.cps.size (SignAt z) St) (S : Addr) (hSf : S ∉ fp) :
    ∀ (k i : Nat) (s : Shared), z.cps.size - i = k → i ≤ z.cps.size → St i s →
      s.heap.SetOf (PySem.strKind prog w) S (has z i) i →
      (∀ s', Moved (S :: wr) G s s' → s'.heap.SetOf (PySem.strKind prog w) S (has z z.cps.size) z.cps.size → R (.ok (.ret .none)) s') →
      codeAny (model prog w) A (.builtin "set.update.loop" ⟨[.ref S, .ref I], []⟩) R s := by
  have hSw : S ∉ wr := fun h => hSf (W.sub _ h)
  have hsub : ∀ b ∈ wr, b ∈ S :: wr := fun b hb => List.mem_cons_of_mem _ hb
  intro k
  induction k with
  | zero =>
    intro i s hk hi hst hS hR
    have hin : i = z.cps.size := by omega
    subst hin
    refine codeAny_builtin PyProof.Rows.F.entry_set_update_loop ?_
    rw [Around.under_plainId PyProof.Rows.F.plain_set_update_loop _]
    show wpAny _ A.in1 (pyNext (.ref I) >>= _) _ _ s
    refine wpAny_bind (W.done s _ _ hst fun s' hm => ?_)
    show wpAny _ A.in1 (ret Value.none) _ _ s'
    exact wpAny_pure (hR s' (hm.mono hsub) (by
      obtain ⟨o, es, ep, t, ho, rest⟩ := hS
      exact ⟨o, es, ep, t, hm.heap S _ hSw ho, rest⟩))
  | succ k ih =>
    intro i s hk hi hst hS hR
    have hlt : i < z.cps.size := by omega
    refine codeAny_builtin PyProof.Rows.F.entry_set_update_loop ?_
    rw [Around.under_plainId PyProof.Rows.F.plain_set_update_loop _]
    show wpAny _ A.in1 (pyNext (.ref I) >>= _) _ _ s
    refine wpAny_bind (W.item i s _ _ hlt hst fun v s' hP hst' hm => ?_)
    obtain ⟨c, t, hc, rfl⟩ := hP
    have hS' : s'.heap.SetOf (PySem.strKind prog w) S (has z i) i := by
      obtain ⟨o, es, ep, tb, ho, rest⟩ := hS
      exact ⟨o, es, ep, tb, hm.heap S _ hSw ho, rest⟩
    show wpAny _ A.in1 (holding [Value.str (sgl c) t] (setAdd S (.str (sgl c) t)) >>= _) _ _ s'
    refine wpAny_bind (wpAny_holding ?_)
    unfold setAdd
    refine wpAny_holding ?_
    refine wpAny_bind ((PySem.strKind prog w).pyHash (k := sgl c) (strKind_is _ _ _ _) ?_)
    refine wpAny_setAddHashed_of (knd := PySem.strKind prog w) (s := { s' with toks := s'.toks + 1 }) (strKind_is _ _ _ _) rfl hS' (by omega) fun h' hsb hS2 => ?_
    have hSi : h'.SetOf (PySem.strKind prog w) S (has z (i + 1)) (i + 1) := by
      refine SetOf_congr hS2 (fun k' => ?_) (by rw [has_new nd hc]; rfl)
      unfold has
      rw [firsts_succ hc, List.any_append]
      congr 1
      by_cases e : k' = sgl c
      · subst e; simp
      · have hb : (sgl c == k') = false := by simpa [beq_iff_eq] using (fun h' : sgl c = k' => e h'.symm)
        simp [hb, e]
    refine wpAny_pure ⟨plainId_quiet PyProof.Rows.F.plain_set_update_loop _, ih (i + 1) _ (by omega) hlt (W.frame _ s' _ _ hst' (Nat.le_succ _) fun b hb o e => ?_) hSi fun s'' hm'' hS'' => ?_⟩
    · rw [hsb.2 b (fun h : b = S => hSf (by rw [← h]; exact hb))]; exact e
    · refine hR s'' (Moved.trans W.gtrans ((hm.mono hsub).then_heap (Nat.le_succ _) fun b o hb e => ?_) hm'') hS''
      rw [hsb.2 b (fun h : b = S => hb (by rw [h]; exact List.mem_cons_self))]; exact e
end
section
variable {prog : Program} {w : World} {A : Around} {E : Value → Shared → Prop} {s : Shared}
theorem call_set (z : Str) (t : Tok) {Q : Value → Shared → Prop} (hh : A.handled = none) (nd : z.cps.toList.Nodup) (hb : z.cps.size + 1 < scanBound)
    (h : ∀ (h' : Heap) (tk : Nat), h'.SetOf (PySem.strKind prog w) s.heap.objs.size (has z z.cps.size) z.cps.size → (∀ b o, b < s.heap.objs.size → s.heap.get? b = some o → h'.get? b = some o) → Q (.ref s.heap.objs.size) { s with heap := h', toks := tk }) :
    wpAny (model prog w) A (call (.type "set") [.str z t]) Q E s := by
  obtain ⟨c, tl, hmro⟩ := PySem.F.called_set.mro
  have hmade := PySem.F.called_set.made
  have hsub := PySem.F.called_set.sub
  refine wpAny_call (codeAny_of_tree ?_)
  show wpAny _ _ (callAny (.type "set") _) _ _ _
  refine wpAny_pure ⟨Code.quiet_builtin _ (by decide +kernel), codeAny_builtin PySem.F.entry_type_call ?_⟩
  rw [Around.under_plain (weight_type_call_type "set" [.str z t] []) rfl]
  have h1 := PySem.F.called_set.notType
  have h2 := PySem.F.called_set.canCreate
  have hct := PySem.F.typeCall_set_1 (.str z t)
  repeat (any_goals (first | assumption | wp_step))

  refine codeAny_mono (code_set_new_1 (.str z t) (E := E) (Q₁ := fun obj s₁ => ∃ led : Bool, obj = .ref s.heap.objs.size ∧ s₁ = { s with heap := s.heap.push { cls := .type "set", dict := none, data := .set #[] 0 (.fresh 0 0 led) } }) fun led => ⟨led, rfl, rfl⟩) fun r s₁ hr => ?_
  cases r with
  | error e => exact hr
  | ok fl =>
    cases fl with
    | ret obj =>
      obtain ⟨led, rfl, rfl⟩ := hr
      have hS : (s.heap.push { cls := .type "set", dict := none, data := .set #[] 0 (.fresh 0 0 led) }).get? s.heap.objs.size = some { cls := .type "set", dict := none, data := .set #[] 0 (.fresh 0 0 led) } := Heap.get?_push_size _ rfl
      have hT : Shared.TypeIs { s with heap := s.heap.push { cls := .type "set", dict := none, data := .set #[] 0 (.fresh 0 0 led) } } (.ref s.heap.objs.size) "set" := ⟨_, hS, rfl⟩
      have hli := PySem.F.called_set.init.lookup
      have hbi := PySem.F.called_set.init.bind (.ref s.heap.objs.size)
      repeat (any_goals (first | assumption | wp_step))

      refine codeAny_mono (codeAny_call_builtin (R := wants (fun r s₂ => r = .none ∧ ∃ h' tk, s₂ = { s with heap := h', toks := tk } ∧
          h'.SetOf (PySem.strKind prog w) s.heap.objs.size (has z z.cps.size) z.cps.size ∧
          (∀ b o, b < s.heap.objs.size → s.heap.get? b = some o → h'.get? b = some o)) E) PySem.F.called_set.init.plain PySem.F.entry_set_init (check_set_init_1 hT ?_)) fun r₂ s₂ hr₂ => ?_
      · have hsls := PySem.F.sub_str_set
        have hslf := PySem.F.sub_str_frozenset
        have hne : (Value.type "str" == Value.type "dict") = false := by decide
        unfold Builtin.«set.__init__» noKeywords Builtin.Frozenset.updateFrom
        generalize hPI : pyIter = PI
        wp_walk
        subst hPI

        have hh3 : A.in1.in1.in1.handled = none := by simp [hh]
        have hSf : s.heap.objs.size ∉ [(s.heap.push { cls := .type "set", dict := none, data := .set #[] 0 (.fresh 0 0 led) }).objs.size] := by
          rw [Heap.size_push]; simp only [List.mem_singleton]
          exact Nat.ne_of_lt (Nat.lt_succ_self _)
        refine wpAny_pyIter_str fun o St W hst => ?_
        refine wpAny_bind (wpAny_runValue ?_)
        refine loop z nd hb (W _ hh3).toS s.heap.objs.size hSf (z.cps.size - 0) 0 _ (by omega) (Nat.zero_le _) hst ?hS0 ?hR
        case hS0 =>
          have hget : ((s.heap.push { cls := .type "set", dict := none, data := .set #[] 0 (.fresh 0 0 led) }).push o).get? s.heap.objs.size
              = some { cls := .type "set", dict := none, data := .set #[] 0 (.fresh 0 0 led) } := Heap.get?_push_of_some _ hS
          exact PyProof.Rows.SetOf_congr ((PyProof.Rows.setObjOf_fresh (knd := PySem.strKind prog w) led).setOf hget (by unfold scanBound; omega)) (fun _ => rfl) rfl
        case hR =>
          intro s' hm hS'
          obtain ⟨h', g', d', tk', os'⟩ := s'
          have eg : g' = s.gens := hm.gens
          have ed : d' = s.drawn := hm.drawn
          have eo : os' = s.os := hm.os
          subst eg; subst ed; subst eo
          show wpAny _ _ _ _ _ _
          refine wpAny_pure ?_
          show wpAny _ _ (ret Value.none) _ _ _
          refine wpAny_pure ⟨rfl, h', tk', rfl, hS', fun b o hb e => ?_⟩
          have hb1 : b ≠ s.heap.objs.size := Nat.ne_of_lt hb
          have hb2 : b ≠ (s.heap.push { cls := .type "set", dict := none, data := .set #[] 0 (.fresh 0 0 led) }).objs.size := by
            rw [Heap.size_push]; exact Nat.ne_of_lt (Nat.lt_succ_of_lt hb)
          exact hm.heap b o (by simp only [List.mem_cons, List.mem_singleton, List.not_mem_nil, or_false, not_or]; exact ⟨hb1, hb2⟩) (Heap.get?_push_of_some _ (Heap.get?_push_of_some _ e))

      · cases r₂ with
        | error e => exact hr₂
        | ok fl₂ =>
          cases fl₂ with
          | ret r =>
            obtain ⟨rfl, h', tk, rfl, hS', hk'⟩ := hr₂
            repeat (any_goals (first | assumption | wp_step))
            exact h _ _ hS' hk'
          | _ => exact hr₂.elim
    | _ => exact hr.elim
end
end SetStr
namespace L2
open PySem.Spec PySem PyProof.Rows
section
variable {X : Cx}
/-- len(set(s)), the signs of s all unlike -/
def tLenSetS (ta : TE) : TE := fun σ H Q => ta σ H fun x H1 => ∃ z : Str, x = .str z ∧ z.cps.toList.Nodup ∧ z.cps.size ≤ 200 ∧ Q (.int z.cps.size) H1
theorem pe_lenSetS {a : Expr} {ta : TE} {p p2 q pos : Pos} (hc : X.calm = true) (hg : Gl X "len") (hm : X.mg "len" = none) (hg2 : Gl X "set") (hm2 : X.mg "set" = none) (ha : PE X a ta)
    (na : starEach [a] X.env = (false, eval a X.env) :: starEach [] X.env := by rfl) : PE X (.Call (.Name "len" p) [.Call (.Name "set" p2) [a] [] q] [] pos) (tLenSetS ta) := by
  refine ⟨fun pins s σ H Q I h => ?_⟩
  refine Call_ (ld_blt I hg hm boot_len ?_)
  refine PyProof.Rows.callWith_builtin1 (PyProof.Rows.args_cons ?_ rfl) rfl rfl
  refine Call_ (ld_blt I hg2 hm2 boot_set ?_)
  refine PyProof.Rows.callWith_type1 (PyProof.Rows.args_cons (thn (ha.run pins s σ H _ I h) fun v s1 ⟨x, H1, I1, r1, q1⟩ => PyProof.Rows.args_nil ?_) na) na rfl
  obtain ⟨z, rfl, nd, hz, q1⟩ := q1
  obtain ⟨t, rfl⟩ := r1
  refine SetStr.call_set z t (I1.ok.hd hc) nd (by unfold scanBound; omega) fun h' tk hS hk => ?_
  refine PyProof.Rows.args_nil ?_
  obtain ⟨o, es, ep, tt, ho, hex, hd, _, _, _, hf, hn⟩ := hS
  have I2 : Inv X pins σ H1 { s1 with heap := h', toks := tk } := I1.kept fun b o e => hk b o (Heap.lt_size e) e
  exact call_len_set ho hex hd hf (by rw [hn] <;> omega) ⟨.int z.cps.size, H1, I2.tok _, ⟨_, by rw [hn]⟩, q1⟩
end
end L2
set_option Elab.async false
set_option linter.all false
set_option maxRecDepth 100001
set_option maxHeartbeats 3999999
namespace K02
open PySem L2
def topS (i : Nat) : Stmt := PySem.Challenge.pw_wordvault_k02_dictionaries_refused.main.body.getD i (.Pass ⟨0, 0, 0, 0⟩)
abbrev sWhole : Stmt := topS 2
abbrev sBetween : Stmt := topS 3
abbrev sPen : Stmt := topS 26
abbrev sDraw : Stmt := topS 27
abbrev sPick : Stmt := topS 28
/-! what kinds of values are met -/
inductive Kn (H : Hp) : V → Prop where
  | non : Kn H .non
  | bl (b : Bool) : Kn H (.bl b)
  | int (i : Int) : Kn H (.int i)
  | str (x : Str) : Kn H (.str x)
  | lst {a : Addr} {xs : List V} (e : H a = some (.lst xs)) : Kn H (.ref a)
  | tup {a : Addr} {xs : List V} (e : H a = some (.tup xs)) : Kn H (.ref a)
theorem Kn.same {H H2 : Hp} {v : V} (k : Kn H v) (s : Same H H2) : Kn H2 v := by
  cases k with
  | non => exact .non
  | bl b => exact .bl b
  | int i => exact .int i
  | str x => exact .str x
  | lst e => exact .lst (s _ _ e)
  | tup e => exact .tup (s _ _ e)
def isI : V → Bool
  | .int _ => true
  | _ => false
def isB : V → Bool
  | .bl _ => true
  | _ => false
def isT (H : Hp) : V → Bool
  | .ref a => match H a with
    | some (.tup _) => true
    | _ => false
  | _ => false
def isL (H : Hp) : V → Bool
  | .ref a => match H a with
    | some (.lst _) => true
    | _ => false
  | _ => false
theorem isT_lst {H : Hp} {a : Addr} {xs : List V} (e : H a = some (.lst xs)) : isT H (.ref a) = false := by simp only [isT, e]
theorem isT_tup {H : Hp} {a : Addr} {xs : List V} (e : H a = some (.tup xs)) : isT H (.ref a) = true := by simp only [isT, e]
theorem isL_lst {H : Hp} {a : Addr} {xs : List V} (e : H a = some (.lst xs)) : isL H (.ref a) = true := by simp only [isL, e]
theorem isL_tup {H : Hp} {a : Addr} {xs : List V} (e : H a = some (.tup xs)) : isL H (.ref a) = false := by simp only [isL, e]
def KT (K : PySem.W.Frag) (t : String) (bi bb bt bl : Bool) : Prop := PySem.W.kitOne K (.type t) (.type "int") = some bi ∧ PySem.W.kitOne K (.type t) (.type "bool") = some bb ∧
    PySem.W.kitOne K (.type t) (.type "tuple") = some bt ∧ PySem.W.kitOne K (.type t) (.type "list") = some bl ∧ PySem.W.kitOne K (.type t) (.type "dict") = some false
theorem kt_of {K : PySem.W.Frag} {t : String} {bi bb bt bl : Bool} (h : kitB t "int" = some bi ∧ kitB t "bool" = some bb ∧ kitB t "tuple" = some bt ∧ kitB t "list" = some bl ∧ kitB t "dict" = some false) : KT K t bi bb bt bl := h
theorem kt_non {K : PySem.W.Frag} : KT K "NoneType" false false false false := kt_of (by decide +kernel)
theorem kt_bl {K : PySem.W.Frag} : KT K "bool" true true false false := kt_of (by decide +kernel)
theorem kt_int {K : PySem.W.Frag} : KT K "int" true false false false := kt_of (by decide +kernel)
theorem kt_str {K : PySem.W.Frag} : KT K "str" false false false false := kt_of (by decide +kernel)
theorem kt_lst {K : PySem.W.Frag} : KT K "list" false false false true := kt_of (by decide +kernel)
theorem kt_tup {K : PySem.W.Frag} : KT K "tuple" false false true false := kt_of (by decide +kernel)
/-- a known value's type, and what isinstance says of it -/
theorem Kn.kinds (K : PySem.W.Frag) {H : Hp} {v : V} (k : Kn H v) : ∃ t : String, TyX K H v (.type t) ∧ KT K t (isI v || isB v) (isB v) (isT H v) (isL H v) := by
  cases k with
  | non => exact ⟨_, .base .non, kt_non⟩
  | bl b => exact ⟨_, .base (.bl b), kt_bl⟩
  | int i => exact ⟨_, .base (.int i), kt_int⟩
  | str x => exact ⟨_, .base (.str x), kt_str⟩
  | lst e =>
    rw [isT_lst e, isL_lst e]
    exact ⟨_, .base (.lst e), kt_lst⟩
  | tup e =>
    rw [isT_tup e, isL_tup e]
    exact ⟨_, .base (.tup e), kt_tup⟩
def spWhole : Sp := fun vs H Q _ => ∃ v, vs = [v] ∧ Kn H v ∧ Q (.bl (isI v)) H
def btw : V → Int → Int → Bool
  | .int i, lo, hi => decide (lo ≤ i ∧ i ≤ hi)
  | _, _, _ => false
def spBetween : Sp := fun vs H Q _ => ∃ v lo hi, vs = [v, .int lo, .int hi] ∧ Kn H v ∧ Q (.bl (btw v lo hi)) H
/-- how many items a known tuple has -/
def isTn (H : Hp) (v : V) (n : Int) : Bool := match v with
  | .ref a => match H a with
    | some (.tup xs) => decide ((xs.length : Int) = n)
    | _ => false
  | _ => false
def spTupOf : Sp := fun vs H Q _ => ∃ v n, vs = [v, .int n] ∧ Kn H v ∧ Q (.bl (isTn H v n)) H
section
variable {P : Program} {w : World} {K : PySem.W.Frag} {mg : Str → Option Value} {base : Heap}
/-- a def of the top that may be called by its name; CX: what it may let out -/
structure Cal (CX : CXT) (P : Program) (w : World) (K : PySem.W.Frag) (mg : Str → Option Value) (base : Heap) (k : Nat) (x : Str) (sp : Sp) : Prop where
  ex : ∃ (f : Addr) (fd : FuncData) (ps : List Str), FnOk P w K mg base CX k f fd ps sp ∧ mg x = some (.ref f) ∧ PySem.W.keepIn K (.ref f) = true ∧ Binds K fd ps []
/-- a method of the class at C -/
structure Met (CX : CXT) (P : Program) (w : World) (K : PySem.W.Frag) (mg : Str → Option Value) (base : Heap) (k : Nat) (C : Addr) (m : Str) (sp : Sp) : Prop where
  ex : ∃ (f : Addr) (fd : FuncData) (ps : List Str), Cls K C ∧ Meth K C m f ∧ FnOk P w K mg base CX k f fd ps sp ∧ Binds K fd ps []
/-- a class that may be made by its name -/
structure Mak (CX : CXT) (P : Program) (w : World) (K : PySem.W.Frag) (mg : Str → Option Value) (base : Heap) (k : Nat) (x : Str) (C : Addr) (sp : Sp) : Prop where
  ex : ∃ (f : Addr) (fd : FuncData) (ps : List Str), Mk K C f ∧ FnOk P w K mg base CX k f fd ps sp ∧ mg x = some (.ref C) ∧ Binds K fd ps []
section
variable {X : Cx} {CX : CXT} {k j : Nat} {C : Addr} {x m : Str} {sp : Sp} {p pos apos : Pos} {e o : Expr} {es : List Expr} {ta : TE} {t : TA} {E : XK}
theorem pe_c (c : Cal CX X.prog X.w X.K X.mg X.base k x sp) (hr : Room j X.A) (hx : Passes CX X E) (ha : PA X (e :: es) t) (hk : k ≤ j := by decide) (hg : Gl X x := by rfl) (hdb : (x == ("__debug__" : Str)) = false := by decide)
    (he : starEach (e :: es) X.env = (false, eval e X.env) :: starEach es X.env := by rfl) (hpl : (backTo pos (starEach es X.env)).any (·.1) = false := by rfl) : PE X (.Call (.Name x p) (e :: es) [] pos) (tCall sp [] E t) := by
  obtain ⟨f, fd, ps, F, hm, kp, b⟩ := c.ex
  exact pe_call F (hr.mono hk) hg hm kp b .nil hx ha hdb he hpl
theorem pe_mt (c : Met CX X.prog X.w X.K X.mg X.base k C m sp) (hr : Room j X.A) (hx : Passes CX X E) (he : PE X o ta) (ha : PA X (e :: es) t) (hk : k ≤ j := by decide) {pl : Sem Bool}
    (hst : starEach (e :: es) X.env = (false, eval e X.env) :: starEach es X.env := by rfl) (hpl : (backTo pos (starEach es X.env)).any (·.1) = false := by rfl)
    (hc : eval (.Call (.Attribute o m apos) (e :: es) [] pos) X.env = (do
      let ov ← eval o X.env
      standAt apos.atName
      let (f, first) ← holding [ov] (getMethod ov m pl)
      callWith pos f first (backTo pos (starEach (e :: es) X.env)) (backToKw pos (keywordEach [] X.env))) := by rfl) :
    PE X (.Call (.Attribute o m apos) (e :: es) [] pos) (tMeth C m sp [] E ta t) := by
  obtain ⟨f, fd, ps, cc, hm, F, b⟩ := c.ex
  exact pe_meth he cc hm F (hr.mono hk) b .nil hx ha hst hpl hc
theorem pe_mt0 (c : Met CX X.prog X.w X.K X.mg X.base k C m sp) (hr : Room j X.A) (hx : Passes CX X E) (he : PE X o ta) (hk : k ≤ j := by decide) {pl : Sem Bool}
    (hc : eval (.Call (.Attribute o m apos) [] [] pos) X.env = (do
      let ov ← eval o X.env
      standAt apos.atName
      let (f, first) ← holding [ov] (getMethod ov m pl)
      callWith pos f first (backTo pos (starEach [] X.env)) (backToKw pos (keywordEach [] X.env))) := by rfl) :
    PE X (.Call (.Attribute o m apos) [] [] pos) (tMeth C m sp [] E ta tNil) := by
  obtain ⟨f, fd, ps, cc, hm, F, b⟩ := c.ex
  exact pe_meth0 he cc hm F (hr.mono hk) b .nil hx hc
theorem pe_mk (c : Mak CX X.prog X.w X.K X.mg X.base k x C sp) (hr : Room j X.A) (hx : Passes CX X E) (ha : PA X (e :: es) t) (hk : k + 1 ≤ j := by decide) (hg : Gl X x := by rfl) (hdb : (x == ("__debug__" : Str)) = false := by decide)
    (he : starEach (e :: es) X.env = (false, eval e X.env) :: starEach es X.env := by rfl) (hpl : (backTo pos (starEach es X.env)).any (·.1) = false := by rfl) : PE X (.Call (.Name x p) (e :: es) [] pos) (tMake C sp [] E t) := by
  obtain ⟨f, fd, ps, M, F, hm, b⟩ := c.ex
  exact pe_make M F (hr.mono hk) hg hm b .nil hx ha hdb he hpl
end
/-- the built-in names that the module leaves as they are -/
structure Bi (mg : Str → Option Value) : Prop where
  isi : mg "isinstance" = none
  int : mg "int" = none
  bool : mg "bool" = none
  tuple : mg "tuple" = none
  list : mg "list" = none
  dict : mg "dict" = none
  len : mg "len" = none
  enum : mg "enumerate" = none
  range : mg "range" = none
  abs : mg "abs" = none
  max : mg "max" = none
  min : mg "min" = none
section
variable {X : Cx}
theorem pe_isi {a : Expr} {es : List Expr} {t : TA} {p pos : Pos} (hm : X.mg "isinstance" = none) (ha : PA X (a :: es) t) (hg : Gl X "isinstance" := by rfl)
    (he : starEach (a :: es) X.env = (false, eval a X.env) :: starEach es X.env := by rfl) (hpl : (backTo pos (starEach es X.env)).any (·.1) = false := by rfl) :
    PE X (.Call (.Name "isinstance" p) (a :: es) [] pos) (tCB (rIsi X.K) t) := pe_callB call_isi hg hm PyProof.Rows.boot_isinstance ha (he := he) (hpl := hpl)
theorem pe_ty (n : String) {x : Str} {p : Pos} (hm : X.mg x = none) (hv : bootBuiltins x = some (.type n) := by decide +kernel) (hg : Gl X x := by rfl) (h1 : x ≠ "__name__" := by decide) (h2 : (x == ("__debug__" : Str)) = false := by decide) : PE X (.Name x p) (tC (.ty n)) :=
  pe_bltn (v := .ty n) hg hm hv rfl h1 h2
theorem pe_len {a : Expr} {es : List Expr} {t : TA} {p pos : Pos} (hm : X.mg "len" = none) (ha : PA X (a :: es) t) (hg : Gl X "len" := by rfl) (he : starEach (a :: es) X.env = (false, eval a X.env) :: starEach es X.env := by rfl)
    (hpl : (backTo pos (starEach es X.env)).any (·.1) = false := by rfl) :
    PE X (.Call (.Name "len" p) (a :: es) [] pos) (tCB (fun xs H Q => ∃ p ys, xs = [.ref p] ∧ (SqL X.K H p ys ∨ SqT X.K H p ys) ∧ Q (.int ys.length) H) t) := pe_callB call_len_seq hg hm PySem.boot_len ha (he := he) (hpl := hpl)
theorem pa1 {a : Expr} {ta : TE} (ha : PE X a ta) (hs : starEach (a :: []) X.env = (false, eval a X.env) :: starEach [] X.env := by rfl) : PA X [a] (tCons ta tNil) := pa_cons ha pa_nil hs
end
theorem scWhole : FnScope ["value"] ["value"] (defScope sWhole) := ⟨rfl, rfl, rfl, by decide +kernel, rfl, by decide +kernel, by decide +kernel⟩
theorem ok_whole {f : Addr} {fd : FuncData} (F : Fun K "is_whole" "is_whole" sWhole f fd) (B : Bi mg) : FnOk P w K mg base CX0 1 f fd ["value"] spWhole := by
  refine F.ok scWhole (fun vs H Q E h => ?_) (fun cdv A outer s H vs Q E hr h => ?_)
  · obtain ⟨v, rfl, _⟩ := h
    rfl
  · obtain ⟨v, rfl, k, q⟩ := h
    refine ⟨_, pss_one (ps_ret (pe_and (pe_isi B.isi (pa_cons (pv 0) (pa_cons (pe_ty "int" B.int) pa_nil))) (pe_one (pe_not (pe_isi B.isi (pa_cons (pv 0) (pa_cons (pe_ty "bool" B.bool) pa_nil))))))), ?_⟩
    obtain ⟨t, ty, k1, k2, _⟩ := k.kinds K
    refine ⟨v, rfl, v, _, _, _, _, rfl, .ty "int", ty, k1, _, rfl, ?_⟩
    cases v with
    | bl b => exact ⟨_, rfl, _, _, _, _, _, rfl, .ty "bool", ty, k2, _, rfl, q⟩
    | int i => exact ⟨_, rfl, _, _, _, _, _, rfl, .ty "bool", ty, k2, _, rfl, q⟩
    | _ => exact q
theorem scBetween : FnScope ["value", "low", "high"] ["value", "low", "high"] (defScope sBetween) := ⟨rfl, rfl, rfl, by decide +kernel, rfl, by decide +kernel, by decide +kernel⟩
theorem ok_between {f : Addr} {fd : FuncData} (F : Fun K "is_between" "is_between" sBetween f fd) (cW : Cal CX0 P w K mg base 1 "is_whole" spWhole) : FnOk P w K mg base CX0 2 f fd ["value", "low", "high"] spBetween := by
  refine F.ok scBetween (fun vs H Q E h => ?_) (fun cdv A outer s H vs Q E hr h => ?_)
  · obtain ⟨v, lo, hi, rfl, _⟩ := h
    rfl
  · obtain ⟨v, lo, hi, rfl, k, q⟩ := h
    refine ⟨_, pss_one (ps_ret (pe_and (pe_c cW hr pass0 (pa_cons (pv 0) pa_nil)) (pe_one (pe_chain op_le op_le (pv 1) (pv 0) (pv 2))))), ?_⟩
    refine ⟨v, rfl, v, rfl, k, _, rfl, ?_⟩
    cases v with
    | int i =>
      refine ⟨_, rfl, _, rfl, _, _, rfl, rfl, _, rfl, ?_⟩
      by_cases c : lo ≤ i
      · rw [decide_eq_true c]
        refine ⟨_, rfl, _, _, rfl, rfl, ?_⟩
        have e : decide (i ≤ hi) = btw (.int i) lo hi := by
          show decide (i ≤ hi) = decide (lo ≤ i ∧ i ≤ hi)
          exact decide_eq_decide.mpr ⟨fun h => ⟨c, h⟩, fun h => h.2⟩
        show Q (.bl (decide (i ≤ hi))) H
        rw [e]
        exact q
      · rw [decide_eq_false c]
        have e : false = btw (.int i) lo hi := (decide_eq_false fun h => c h.1).symm
        show Q (.bl false) H
        rw [e]
        exact q
    | _ => exact q
end
theorem Same.seqT {K : PySem.W.Frag} {H H' : Hp} {a : Addr} {xs : List V} (e : Same H H') (h : SqT K H a xs) : SqT K H' a xs := by
  rcases h with (h | ⟨o, h⟩) | h
  · exact .inl (.inl (e _ _ h))
  · exact .inl (.inr ⟨o, e _ _ h⟩)
  · exact .inr h
theorem same_new {H : Hp} {p : Addr} {o : HO} (n : H p = none) : Same H (upd H p o) := fun b u e => by
  rw [upd_ne (ne_of_none e n)]
  exact e
/-- a list or a tuple of these items -/
def Sq (K : PySem.W.Frag) (H : Hp) (a : Addr) (xs : List V) : Prop := SqL K H a xs ∨ SqT K H a xs
theorem Sq.same {K : PySem.W.Frag} {H H' : Hp} {a : Addr} {xs : List V} (q : Sq K H a xs) (e : Same H H') : Sq K H' a xs := q.imp (fun h => e.seq h) fun h => Same.seqT e h
section
variable {X : Cx} {tg e : Expr} {w1 w2 : TI}
/-- a list or a tuple, item by item -/
def iSqS (K : PySem.W.Frag) (te : TE) : TI := fun σ H R => te σ H fun x H1 => ∃ a xs, x = .ref a ∧ Sq K H1 a xs ∧ ∀ (J : It) (G : Hp → Prop), Walk J xs.length G (YAt xs) → (∀ H', Same H1 H' → G H') → R J H1
open PySem.Spec PyProof.Rows in
theorem pi_sq {te : TE} (he : PE X e te) : PI X tg e (iSqS X.K te) := by
  constructor
  intro pins s σ H R I h
  refine thn (he.run pins s σ H _ I h) fun u s1 hh => ?_
  obtain ⟨v, H1, I1, r1, a, xs, ev, sq, k⟩ := hh
  subst ev
  cases r1
  have near : ∀ b ∈ [s1.heap.objs.size], FpOk X pins H1 b := fun b hb => by
    rw [List.mem_singleton.mp hb]
    exact I1.fpOk (Nat.le_refl _) (I1.hok.fresh (Nat.le_refl _))
  have J1 : ∀ o : Obj, Inv X pins σ H1 { s1 with heap := s1.heap.push o } := fun o => I1.kept (t' := s1.toks) fun b u z => Heap.get?_push_of_some _ z
  rcases sq with hq | hq
  · obtain ⟨its, rv, p1, hz⟩ := I1.list hq
    exact wpAny_pyIter_list p1.isList ⟨s1.heap.objs.size, _, _, _, H1, rfl, J1 _, turn_list a _, ⟨_, Heap.get?_push_size _ rfl, rfl, rfl⟩, near, k _ _ walk_list fun H' z => z.seq hq⟩
  · obtain ⟨its, rv, p2, hz⟩ := I1.tuple hq
    exact wpAny_pyIter_tuple (show s1.heap.IsTuple a its.toArray from p2) ⟨s1.heap.objs.size, _, _, _, H1, rfl, J1 _, turn_tuple a _, ⟨_, Heap.get?_push_size _ rfl, rfl, rfl⟩, near, k _ _ walk_tup fun H' z => Same.seqT z hq⟩
end
/-! ### None or an int -/
def Num (v : V) : Prop := v = .non ∨ ∃ i, v = .int i
def dOf : V → PyData
  | .int i => .int i
  | .bl b => .bool b
  | .str x => .str x
  | _ => .none
theorem eqv_num {a b : V} (ha : Num a) (hb : Num b) : PyData.eqv (dOf a) (dOf b) = decide (a = b) := by
  rcases ha with rfl | ⟨i, rfl⟩ <;> rcases hb with rfl | ⟨j, rfl⟩
  · simp [dOf, PyData.eqv]
  · simp [dOf, PyData.eqv]
  · simp [dOf, PyData.eqv]
  · rw [dec_int]
    simp [dOf, PyData.eqv]
theorem eqvAll_num : ∀ {xs ys : List V}, (∀ v ∈ xs, Num v) → (∀ v ∈ ys, Num v) → PyData.eqvAll (xs.map dOf) (ys.map dOf) = decide (xs = ys)
  | [], [], _, _ => by simp [PyData.eqvAll]
  | [], _ :: _, _, _ => by simp [PyData.eqvAll]
  | _ :: _, [], _, _ => by simp [PyData.eqvAll]
  | x :: xs, y :: ys, hx, hy => by
    have ih := eqvAll_num (fun v m => hx v (List.mem_cons_of_mem _ m)) fun v m => hy v (List.mem_cons_of_mem _ m)
    have e : PyData.eqvAll ((x :: xs).map dOf) ((y :: ys).map dOf) = (PyData.eqv (dOf x) (dOf y) && PyData.eqvAll (xs.map dOf) (ys.map dOf)) := by simp only [List.map_cons, PyData.eqvAll]
    rw [e, ih, eqv_num (hx x List.mem_cons_self) (hy y List.mem_cons_self)]
    by_cases h1 : x = y
    · by_cases h2 : xs = ys
      · simp [h1, h2]
      · simp [h1, h2]
    · simp [h1]
theorem dp_num {K : PySem.W.Frag} {H : Hp} {v : V} (h : Num v) : Dp K H v (dOf v) := by
  rcases h with rfl | ⟨i, rfl⟩
  · exact .non
  · exact .int i
theorem dpAll_num {K : PySem.W.Frag} {H : Hp} : ∀ {xs : List V}, (∀ v ∈ xs, Num v) → DpAll K H xs (xs.map dOf)
  | [], _ => .nil
  | x :: xs, h => .cons (dp_num (h x List.mem_cons_self)) (dpAll_num fun v m => h v (List.mem_cons_of_mem _ m))
theorem lay_num : ∀ {xs : List V}, (∀ v ∈ xs, Num v) → PyData.canLayAll0 (xs.map dOf) = true
  | [], _ => by simp [PyData.canLayAll0]
  | x :: xs, h => by
    have ih := lay_num fun v m => h v (List.mem_cons_of_mem x m)
    rw [List.map_cons, PyData.canLayAll0, ih, Bool.and_true]
    rcases h x List.mem_cons_self with rfl | ⟨i, rfl⟩ <;> simp [dOf, PyData.canLay0]
theorem depth_num : ∀ {xs : List V}, (∀ v ∈ xs, Num v) → PyData.depthAll (xs.map dOf) ≤ 1
  | [], _ => by simp [PyData.depthAll]
  | x :: xs, h => by
    have ih := depth_num fun v m => h v (List.mem_cons_of_mem x m)
    simp only [List.map_cons, PyData.depthAll]
    rcases h x List.mem_cons_self with rfl | ⟨i, rfl⟩ <;> simp only [dOf, PyData.depth] <;> omega
theorem shL_num {xs : List V} (h : ∀ v ∈ xs, Num v) : SeqAt.shaped (.list (xs.map dOf)) = true := by
  have h1 := lay_num h
  have h2 := depth_num h
  show (PyData.canLay0 (.list (xs.map dOf)) && decide (PyData.depth (.list (xs.map dOf)) ≤ 64)) = true
  rw [Bool.and_eq_true]
  refine ⟨by simp only [PyData.canLay0]; exact h1, decide_eq_true ?_⟩
  simp only [PyData.depth]
  omega
theorem shT_num {xs : List V} (h : ∀ v ∈ xs, Num v) : SeqAt.shaped (.tuple (xs.map dOf)) = true := by
  have h1 := lay_num h
  have h2 := depth_num h
  show (PyData.canLay0 (.tuple (xs.map dOf)) && decide (PyData.depth (.tuple (xs.map dOf)) ≤ 64)) = true
  rw [Bool.and_eq_true]
  refine ⟨by simp only [PyData.canLay0]; exact h1, decide_eq_true ?_⟩
  simp only [PyData.depth]
  omega
/-- two lists, or two tuples, of None and ints -/
def rEqN (K : PySem.W.Frag) (neg : Bool) : R2 := fun x y H Q => ∃ a b xs ys, x = .ref a ∧ y = .ref b ∧ ((SqL K H a xs ∧ SqL K H b ys) ∨ (SqT K H a xs ∧ SqT K H b ys)) ∧ (∀ v ∈ xs, Num v) ∧ (∀ v ∈ ys, Num v) ∧ Q (.bl (if neg then !decide (xs = ys) else decide (xs = ys))) H
section
variable {X : Cx}
theorem op_eqN (hu : X.A.units + 64 < cLine) : OpR X (compareOp .Eq) (rEqN X.K false) := by
  intro pins s σ H x y v u Q I rx ry h
  obtain ⟨a, b, xs, ys, rfl, rfl, d, nx, ny, q⟩ := h
  rcases d with ⟨d1, d2⟩ | ⟨d1, d2⟩
  · refine op_eqD hu pins s σ H _ _ v u Q I rx ry ⟨.list (xs.map dOf), .list (ys.map dOf), .lst d1 (dpAll_num nx), .lst d2 (dpAll_num ny), shL_num nx, shL_num ny, ?_⟩
    rw [show PyData.eqv (.list (xs.map dOf)) (.list (ys.map dOf)) = decide (xs = ys) by rw [← eqvAll_num nx ny]; simp only [PyData.eqv]]
    exact q
  · refine op_eqD hu pins s σ H _ _ v u Q I rx ry ⟨.tuple (xs.map dOf), .tuple (ys.map dOf), .tup d1 (dpAll_num nx), .tup d2 (dpAll_num ny), shT_num nx, shT_num ny, ?_⟩
    rw [show PyData.eqv (.tuple (xs.map dOf)) (.tuple (ys.map dOf)) = decide (xs = ys) by rw [← eqvAll_num nx ny]; simp only [PyData.eqv]]
    exact q
theorem op_neN (hu : X.A.units + 64 < cLine) : OpR X (compareOp .NotEq) (rEqN X.K true) := by
  intro pins s σ H x y v u Q I rx ry h
  obtain ⟨a, b, xs, ys, rfl, rfl, d, nx, ny, q⟩ := h
  rcases d with ⟨d1, d2⟩ | ⟨d1, d2⟩
  · refine op_neD hu pins s σ H _ _ v u Q I rx ry ⟨.list (xs.map dOf), .list (ys.map dOf), .lst d1 (dpAll_num nx), .lst d2 (dpAll_num ny), shL_num nx, shL_num ny, ?_⟩
    rw [show PyData.eqv (.list (xs.map dOf)) (.list (ys.map dOf)) = decide (xs = ys) by rw [← eqvAll_num nx ny]; simp only [PyData.eqv]]
    exact q
  · refine op_neD hu pins s σ H _ _ v u Q I rx ry ⟨.tuple (xs.map dOf), .tuple (ys.map dOf), .tup d1 (dpAll_num nx), .tup d2 (dpAll_num ny), shT_num nx, shT_num ny, ?_⟩
    rw [show PyData.eqv (.tuple (xs.map dOf)) (.tuple (ys.map dOf)) = decide (xs = ys) by rw [← eqvAll_num nx ny]; simp only [PyData.eqv]]
    exact q
/-- x == y, x an instance of the class at C with an own __eq__ -/
def rOwnEq (K : PySem.W.Frag) (C : Addr) (sp : Sp) : R2 := fun x y H Q => ∃ a dx fs tb, x = .ref a ∧ H a = some (.ins C dx fs) ∧ TyX K H y tb ∧ PySem.W.notFirst K C tb = true ∧ sp [x, y] H (fun v H' => (∃ b, v = .bl b) ∧ Q v H') E0
theorem op_ownEq {CX : CXT} {n j : Nat} {C f : Addr} {fd : FuncData} {ps : List Str} {sp : Sp} (F : FnOk X.prog X.w X.K X.mg X.base CX n f fd ps sp) (hs : PySem.W.findIn X.K (.ref C) "__eq__" = some (some (.ref f))) (hf : PySem.W.isFn X.K (.ref f) = true) (hb : Binds X.K fd ps [])
    (hx : Passes CX X E0) (hr : Room j X.A) (hj : n ≤ j) : OpR X (compareOp .Eq) (rOwnEq X.K C sp) := by
  intro pins s σ H x y v u Q I rx ry h
  obtain ⟨a, dx, fs, tb, rfl, ha, ty, nf, h⟩ := h
  have hr := hr.mono hj
  cases (show v = Value.ref a from rx)
  obtain ⟨mA, J, _⟩ := ins_get I.hok ha
  obtain ⟨od, J, _⟩ := J.look
  obtain ⟨Pz, Z, p, _⟩ := kit_of I ry ty
  obtain ⟨m, hF⟩ := I.fr
  show wpAny (model X.prog X.w) X.A (richCompare .Eq (.ref a) u) (EP X pins σ Q) X.xe s
  have hu : X.A.units < cLine := by have := hr.un; omega
  refine PySem.W.cmp_K (op := .Eq) (tb := tb) hu hF I.ok.mod.kin J (Z.ty _ _ I.kIn p) nf hs hf ?_
  have hl := F.len _ _ _ _ h
  have r2 : Vals [V.ref a, y] [Value.ref a, u] := .cons rfl (.cons ry .nil)
  refine wpAny_call (codeAny_mono (F.run X.A X.stack s H ⟨[.ref a, u], []⟩ [.ref a, u] [.ref a, y] _ E0 hr I.env0 (by
    have := hb s [.ref a, u] I.kIn (by simpa using hl)
    simpa using this) r2 h) fun r s' hq => ?_)
  cases r with
  | error e => exact hx pins σ H s e s' I hq
  | ok fl =>
    cases fl with
    | ret w =>
      obtain ⟨z, H', I', rz, ⟨b, ez⟩, q⟩ := I.after hq
      subst ez
      cases rz
      exact ⟨.bl b, H', I', rfl, q⟩
    | next => exact False.elim hq
    | brk => exact False.elim hq
    | cont => exact False.elim hq
end
theorem kit_self {K : PySem.W.Frag} {C : Addr} : PySem.W.kitOne K (.ref C) (.ref C) = some true := by
  unfold PySem.W.kitOne
  rw [if_pos (by simp)]

theorem hu64 {A : Around} {k : Nat} (hr : Room k A) : A.units + 64 < cLine := by have := hr.un; omega
theorem hu65 {A : Around} {k : Nat} (hr : Room k A) : A.units + 65 < cLine := by have := hr.un; omega
theorem small2000 {n : Nat} (h : n ≤ 2100) : n < sizeLine := Nat.lt_of_le_of_lt h (by decide)
theorem small10 {n : Nat} (h : n ≤ 10000) : n < sizeLine := Nat.lt_of_le_of_lt h (by decide)
theorem num_kn {H : Hp} {v : V} (h : Num v) : Kn H v := by
  rcases h with rfl | ⟨i, rfl⟩
  · exact .non
  · exact .int i

section
variable {X : Cx} (K : PySem.W.Frag)
theorem pe_fldK (hK : X.K = K) {e : Expr} {ta : TE} {f : Str} {pos : Pos} (he : PE X e ta) (hb : attributeBase e f X.env (eval e X.env) = eval e X.env := by rfl) : PE X (.Attribute e f pos) (tFld K ta f) := by
  subst hK
  exact pe_fld he hb
theorem ix_tupK (hK : X.K = K) : IxR X (rIxT K) := by
  subst hK
  exact ix_tup
theorem ix_listK (hK : X.K = K) : IxR X (rIxL K) := by
  subst hK
  exact ix_list
end

theorem paired_last {α β : Type} {F : α → β → Prop} : ∀ {ts : List α} {ps : List β} {p : β}, Paired F ts (ps ++ [p]) → ∃ us v, ts = us ++ [v] ∧ Paired F us ps ∧ F v p
  | _, [], _, .cons h .nil => ⟨[], _, rfl, .nil, h⟩
  | _, _ :: _, _, .cons h t =>
    let ⟨us, v, e, q1, q2⟩ := paired_last t
    ⟨_ :: us, v, by rw [e]; rfl, .cons h q1, q2⟩
section
variable {X : Cx} {tg e : Expr}
/-- a list or a tuple, item by item; it stays where its own object does -/
def iSqA (K : PySem.W.Frag) (te : TE) : TI := fun σ H R => te σ H fun x H1 => ∃ a xs, x = .ref a ∧ Sq K H1 a xs ∧ ∀ (J : It) (G : Hp → Prop), Walk J xs.length G (YAt xs) → (∀ H', (∀ o, H1 a = some o → H' a = some o) → G H') → R J H1
theorem sqL_at {K : PySem.W.Frag} {H H' : Hp} {a : Addr} {xs : List V} (h : SqL K H a xs) (e : ∀ o, H a = some o → H' a = some o) : SqL K H' a xs := by
  rcases h with (h | ⟨o, h⟩) | h
  · exact .inl (.inl (e _ h))
  · exact .inl (.inr ⟨o, e _ h⟩)
  · exact .inr h
theorem sqT_at {K : PySem.W.Frag} {H H' : Hp} {a : Addr} {xs : List V} (h : SqT K H a xs) (e : ∀ o, H a = some o → H' a = some o) : SqT K H' a xs := by
  rcases h with (h | ⟨o, h⟩) | h
  · exact .inl (.inl (e _ h))
  · exact .inl (.inr ⟨o, e _ h⟩)
  · exact .inr h
open PySem.Spec PyProof.Rows in
theorem pi_sqA {te : TE} (he : PE X e te) : PI X tg e (iSqA X.K te) := by
  constructor
  intro pins s σ H R I h
  refine thn (he.run pins s σ H _ I h) fun u s1 hh => ?_
  obtain ⟨v, H1, I1, r1, a, xs, ev, sq, k⟩ := hh
  subst ev
  cases r1
  have near : ∀ b ∈ [s1.heap.objs.size], FpOk X pins H1 b := fun b hb => by
    rw [List.mem_singleton.mp hb]
    exact I1.fpOk (Nat.le_refl _) (I1.hok.fresh (Nat.le_refl _))
  have J1 : ∀ o : Obj, Inv X pins σ H1 { s1 with heap := s1.heap.push o } := fun o => I1.kept (t' := s1.toks) fun b u z => Heap.get?_push_of_some _ z
  rcases sq with hq | hq
  · obtain ⟨its, rv, p1, hz⟩ := I1.list hq
    exact wpAny_pyIter_list p1.isList ⟨s1.heap.objs.size, _, _, _, H1, rfl, J1 _, turn_list a _, ⟨_, Heap.get?_push_size _ rfl, rfl, rfl⟩, near, k _ _ walk_list fun H' z => sqL_at hq z⟩
  · obtain ⟨its, rv, p2, hz⟩ := I1.tuple hq
    exact wpAny_pyIter_tuple (show s1.heap.IsTuple a its.toArray from p2) ⟨s1.heap.objs.size, _, _, _, H1, rfl, J1 _, turn_tuple a _, ⟨_, Heap.get?_push_size _ rfl, rfl, rfl⟩, near, k _ _ walk_tup fun H' z => sqT_at hq z⟩
end

/-! ### the law's pen -/
def penK (cl : Addr) (k left : Int) : List (Key × V) := [(.inr "cells", .ref cl), (.inr "opened", .int k), (.inr "left", .int left)]
theorem valV_eq {k : Key} {v : V} {r : List (Key × V)} : valV ((k, v) :: r) k = some v := by
  unfold valV
  rw [List.find?_cons_of_pos (by simp)]
  rfl
theorem valV_ne {k j : Key} {v : V} {r : List (Key × V)} (h : ¬ j = k) : valV ((j, v) :: r) k = valV r k := by
  unfold valV
  rw [List.find?_cons_of_neg (by simpa using h)]
theorem k12 : ¬ (Sum.inr ("cells" : Str) : Key) = Sum.inr ("opened" : Str) := by decide +kernel
theorem k13 : ¬ (Sum.inr ("cells" : Str) : Key) = Sum.inr ("left" : Str) := by decide +kernel
theorem k23 : ¬ (Sum.inr ("opened" : Str) : Key) = Sum.inr ("left" : Str) := by decide +kernel
theorem k32 : ¬ (Sum.inr ("left" : Str) : Key) = Sum.inr ("opened" : Str) := by decide +kernel
theorem pen_cells (cl : Addr) (k l : Int) : valV (penK cl k l) (.inr "cells") = some (.ref cl) := valV_eq
theorem pen_opened (cl : Addr) (k l : Int) : valV (penK cl k l) (.inr "opened") = some (.int k) := (valV_ne k12).trans valV_eq
theorem pen_left (cl : Addr) (k l : Int) : valV (penK cl k l) (.inr "left") = some (.int l) := (valV_ne k13).trans ((valV_ne k23).trans valV_eq)
theorem put_opened (cl : Addr) (k l j : Int) : putK (penK cl k l) (.inr "opened") (.int j) = penK cl j l := by
  unfold putK penK
  rw [if_pos (by simp)]
  simp only [List.map_cons, List.map_nil, k12, k32, if_false, if_true]
theorem put_left (cl : Addr) (k l j : Int) : putK (penK cl k l) (.inr "left") (.int j) = penK cl k j := by
  unfold putK penK
  rw [if_pos (by simp)]
  simp only [List.map_cons, List.map_nil, k13, k23, if_false, if_true]
/-- at pn: the pen, at most b cells opened -/
def Pen (H : Hp) (pn cl : Addr) (b : Nat) : Prop := ∃ (k : Nat) (l : Int) (cs : List Int), H pn = some (.dK (penK cl (k : Nat) l)) ∧ H cl = some (.lst (cs.map V.int)) ∧ k ≤ b ∧ cs.length ≤ 63
/-- all but what is at pn is as it was -/
def But (pn : Addr) (H H' : Hp) : Prop := ∀ b o, b ≠ pn → H b = some o → H' b = some o
theorem But.refl {pn : Addr} {H : Hp} : But pn H H := fun _ _ _ h => h
theorem But.trans {pn : Addr} {H H1 H2 : Hp} (a : But pn H H1) (b : But pn H1 H2) : But pn H H2 := fun c o n h => b c o n (a c o n h)
def spDraw : Sp := fun vs H Q _ => ∃ (pn cl : Addr) (m : Int) (b : Nat), vs = [.ref pn, .int m] ∧ Pen H pn cl b ∧ b ≤ 1000000 ∧ 0 < m ∧ m < 1073741824 ∧ ∀ (r : Int) H', 0 ≤ r → r < m → But pn H H' → Pen H' pn cl (b + 1) → Q (.int r) H'
def spPen (K : PySem.W.Frag) : Sp := fun vs H Q _ => ∃ (a : Addr) (ns : List Int), vs = [.ref a] ∧ SqL K H a (ns.map V.int) ∧ ∀ pn cl H', H pn = none → H cl = none → Same H H' → Pen H' pn cl 0 → Q (.ref pn) H'
section
variable {P : Program} {w : World} {K : PySem.W.Frag} {mg : Str → Option Value} {base : Heap}
theorem scPen : FnScope ["_law_script"] ["_law_script"] (defScope sPen) := ⟨rfl, rfl, rfl, by decide +kernel, rfl, by decide +kernel, by decide +kernel⟩
theorem ok_pen {f : Addr} {fd : FuncData} (F : Fun K "_law_pen" "_law_pen" sPen f fd) (B : Bi mg) : FnOk P w K mg base CX0 1 f fd ["_law_script"] (spPen K) := by
  refine F.ok scPen (fun vs H Q E h => ?_) (fun cdv A outer s H vs Q E hr h => ?_)
  · obtain ⟨a, ns, rfl, _⟩ := h
    rfl
  · obtain ⟨a, ns, rfl, hs, q⟩ := h
    refine ⟨_, pss_one (ps_ret (pe_disp (pps_cons pe_str (pe_callTy call_list_of rfl B.list (by decide +kernel) (pa_cons (pe_slice sl_list (pv 0) po_none (po_some pe_int)) pa_nil)) (pps_cons pe_str pe_int (pps_cons pe_str pe_int pps_nil))) rfl rfl (by simp) (by decide))), ?_⟩
    intro p np
    have hs2 := (same_new (o := .dK []) np).seq hs
    refine ⟨_, rfl, 63, rfl, a, _, rfl, hs2, fun c nc => ⟨c, _, rfl, .inl (SqL.of upd_same), fun l nl => ?_⟩⟩
    have npl : p ≠ l := ne_of_none ((upd_ne (ne_of_none upd_same nc)).trans upd_same) nl
    have npc : p ≠ c := ne_of_none upd_same nc
    have ec : cutV (ns.map V.int) none (some 63) = (ns.take 63).map V.int := by
      unfold cutV
      rw [show ((63 : Int)) = ((63 : Nat) : Int) from rfl, HT.sIx_nat, HT.sIx_none, List.drop_zero, Nat.sub_zero, List.length_map, ← List.map_take]
      congr 1
      by_cases c : 63 ≤ ns.length
      · rw [Nat.min_eq_left c]
      · rw [Nat.min_eq_right (by omega), List.take_of_length_le (Nat.le_refl _), List.take_of_length_le (by omega)]
    refine ⟨(upd_ne npl).trans ((upd_ne npc).trans upd_same), [(.inr "cells", .ref l), (.inr "opened", .int 0), (.inr "left", .int 0)], rfl, (by show 3 ≤ 15; decide), ?_⟩
    have em : mergeK [] [((.inr ("cells" : Str) : Key), V.ref l), (.inr ("opened" : Str), .int 0), (.inr ("left" : Str), .int 0)] = penK l ((0 : Nat) : Int) 0 := by
      unfold mergeK penK
      simp only [List.foldl_cons, List.foldl_nil]
      have h1 : valV ([(.inr ("cells" : Str), V.ref l)] : List (Key × V)) (.inr ("opened" : Str)) = none := (valV_ne k12).trans rfl
      have h2 : valV ([(.inr ("cells" : Str), V.ref l), (.inr ("opened" : Str), V.int 0)] : List (Key × V)) (.inr ("left" : Str)) = none := (valV_ne k13).trans ((valV_ne k23).trans rfl)
      rw [show putK ([] : List (Key × V)) (.inr ("cells" : Str)) (.ref l) = [(.inr ("cells" : Str), .ref l)] from rfl, putK_new _ h1]
      simp only [List.cons_append, List.nil_append]
      rw [putK_new _ h2]
      rfl
    rw [em]
    have nl0 : H l = none := by
      cases z : H l with
      | none => rfl
      | some o =>
        have z1 : upd H p (.dK []) l = some o := (upd_ne (ne_of_none z np)).trans z
        rw [(upd_ne (ne_of_none z1 nc)).trans z1] at nl
        cases nl
    refine q p l _ np nl0 (fun b o z => ?_) ⟨0, 0, ns.take 63, upd_same, ?_, Nat.le_refl _, by rw [List.length_take]; omega⟩
    · have nb : b ≠ p := ne_of_none z np
      have z1 : upd H p (.dK []) b = some o := (upd_ne nb).trans z
      have nc2 : b ≠ c := ne_of_none z1 nc
      have z2 : upd (upd H p (.dK [])) c (.lst (cutV (ns.map V.int) none (some 63))) b = some o := (upd_ne nc2).trans z1
      rw [upd_ne nb, upd_ne (ne_of_none z2 nl)]
      exact z2
    · rw [upd_ne (Ne.symm npl), upd_same, ec]
theorem getL {H : Hp} {pn cl : Addr} {k l : Int} (hp : H pn = some (.dK (penK cl k l))) : DGet H pn (.str "left") (some (.int l)) := by
  have z := DGet.k (k := .inr ("left" : Str)) hp
  rw [pen_left] at z
  exact z
theorem getO {H : Hp} {pn cl : Addr} {k l : Int} (hp : H pn = some (.dK (penK cl k l))) : DGet H pn (.str "opened") (some (.int k)) := by
  have z := DGet.k (k := .inr ("opened" : Str)) hp
  rw [pen_opened] at z
  exact z
theorem getC {H : Hp} {pn cl : Addr} {k l : Int} (hp : H pn = some (.dK (penK cl k l))) : DGet H pn (.str "cells") (some (.ref cl)) := by
  have z := DGet.k (k := .inr ("cells" : Str)) hp
  rw [pen_cells] at z
  exact z
theorem putL {H : Hp} {pn cl : Addr} {k l : Int} (j : Int) (hp : H pn = some (.dK (penK cl k l))) : DPut H pn (.str "left") (.int j) (upd H pn (.dK (penK cl k j))) := by
  have z := DPut.k (k := .inr ("left" : Str)) (v := .int j) hp (by show 3 < sizeLine; decide)
  rw [put_left] at z
  exact z
theorem putO' {H : Hp} {pn cl : Addr} {k l : Int} (j : Int) (hp : H pn = some (.dK (penK cl k l))) : DPut H pn (.str "opened") (.int j) (upd H pn (.dK (penK cl j l))) := by
  have z := DPut.k (k := .inr ("opened" : Str)) (v := .int j) hp (by show 3 < sizeLine; decide)
  rw [put_opened] at z
  exact z
theorem scDraw : FnScope ["_law_pen_here", "_law_many", "_law_digit", "_law_k", "_law_told_cells", "_law_cell", "_law_mix"] ["_law_pen_here", "_law_many"] (defScope sDraw) := ⟨rfl, rfl, rfl, by decide +kernel, rfl, by decide +kernel, by decide +kernel⟩
theorem mix_lt (x : Int) {m : Int} (h : 0 < m) : 0 ≤ x % m ∧ x % m < m := ⟨Int.emod_nonneg _ (by omega), Int.emod_lt_of_pos _ h⟩
section
variable {X : Cx}
theorem pe_int1 {a : Expr} {es : List Expr} {t : TA} {p pos : Pos} (hm : X.mg "int" = none) (ha : PA X (a :: es) t) (hg : Gl X "int" := by rfl) (he : starEach (a :: es) X.env = (false, eval a X.env) :: starEach es X.env := by rfl)
    (hpl : (backTo pos (starEach es X.env)).any (·.1) = false := by rfl) : PE X (.Call (.Name "int" p) (a :: es) [] pos) (tCB (fun xs H Q => (∃ i, xs = [.int i] ∧ Q (.int i) H) ∨ ∃ k, xs = [.bl k] ∧ Q (.int (if k then 1 else 0)) H) t) :=
  pe_callTy call_int1 hg hm (by decide +kernel) ha (he := he) (hpl := hpl)
theorem pe_abs {a : Expr} {es : List Expr} {t : TA} {p pos : Pos} (hm : X.mg "abs" = none) (ha : PA X (a :: es) t) (hg : Gl X "abs" := by rfl) (he : starEach (a :: es) X.env = (false, eval a X.env) :: starEach es X.env := by rfl)
    (hpl : (backTo pos (starEach es X.env)).any (·.1) = false := by rfl) : PE X (.Call (.Name "abs" p) (a :: es) [] pos) (tCB (fun xs H Q => ∃ i, xs = [.int i] ∧ Q (.int (if i < 0 then -i else i)) H) t) :=
  pe_callB call_abs hg hm (by decide +kernel) ha (he := he) (hpl := hpl)
end
theorem ok_draw {f : Addr} {fd : FuncData} (F : Fun K "_law_draw" "_law_draw" sDraw f fd) (B : Bi mg) : FnOk P w K mg base CX0 1 f fd ["_law_pen_here", "_law_many"] spDraw := by
  refine F.ok scDraw (fun vs H Q E h => ?_) (fun cdv A outer s H vs Q E hr h => ?_)
  · obtain ⟨pn, cl, m, b, rfl, _⟩ := h
    rfl
  · obtain ⟨pn, cl, m, b, rfl, ⟨k, l, cs, hp, hc, hk, lc⟩, hb, m0, m1, q⟩ := h
    refine ⟨_, pss_cons (ps_if (pt_cmpR op_gt (pe_dget (hu_of hr) (pv 0) pe_str (fun _ _ => rfl)) pe_int (nomark _))
        (pss_cons (ps_set (i := 2) scDraw.nd rfl (Or.inl rfl) (pe_op op_mod (pe_int1 B.int (pa_cons (pe_dget (hu_of hr) (pv 0) pe_str (fun _ _ => rfl)) pa_nil)) (pv 1)))
        (pss_cons (ps_dput (hu_of hr) (pv 0) pe_str (pe_op op_fdiv (pe_dget (hu_of hr) (pv 0) pe_str (fun _ _ => rfl)) (pv 1)) rfl) (pss_one (ps_ret (pv 2))))) pss_nil)
      (pss_cons (ps_par (i := 3) (j := 4) rfl scDraw.nd rfl rfl (by decide) rfl rfl (pa_cons (pe_dget (hu_of hr) (pv 0) pe_str (fun _ _ => rfl)) (pa_cons (pe_dget (hu_of hr) (pv 0) pe_str (fun _ _ => rfl)) pa_nil)) rfl)
      (pss_cons (ps_dput (hu_of hr) (pv 0) pe_str (pe_op op_add (pv 3) pe_int) rfl)
      (pss_cons (ps_if (pt_cmpR (op_eqN (hu64 hr)) (pv 4) (pe_lst pa_nil) (nomark _)) (pss_one (ps_ret (pe_op op_mod (pe_int1 B.int (pa_cons (pe_op op_add (pe_op op_mul pe_int (pv 3)) pe_int) pa_nil)) (pv 1)))) pss_nil)
      (pss_cons (ps_set (i := 5) scDraw.nd rfl (Or.inl rfl) (pe_ix ix_list (pv 4) (pe_op op_mod (pe_int1 B.int (pa_cons (pv 3) pa_nil)) (pe_len B.len (pa_cons (pv 4) pa_nil))) (fun _ _ => rfl)))
      (pss_cons (ps_if (PW.pt (pw_and (pt_cmpR op_lt (pv 3) (pe_len B.len (pa_cons (pv 4) pa_nil)) (nomark _)) (pw_and1 (pt_cmpR op_ge (pe_abs B.abs (pa_cons (pv 5) pa_nil)) (pe_op op_pow pe_int pe_int) (nomark _)))))
        (pss_cons (ps_dput (hu_of hr) (pv 0) pe_str (pe_op op_fdiv (pe_op op_sub (pe_abs B.abs (pa_cons (pv 5) pa_nil)) (pe_op op_pow pe_int pe_int)) (pv 1)) rfl)
        (pss_one (ps_ret (pe_op op_mod (pe_int1 B.int (pa_cons (pe_op op_sub (pe_abs B.abs (pa_cons (pv 5) pa_nil)) (pe_op op_pow pe_int pe_int)) pa_nil)) (pv 1))))) pss_nil)
      (pss_cons (ps_set (i := 6) scDraw.nd rfl (Or.inl rfl) (pe_op op_mod (pe_int1 B.int (pa_cons (pe_op op_add (pe_op op_add (pe_op op_add (pe_op op_mul (pe_op op_mod (pe_int1 B.int (pa_cons (pv 5) pa_nil)) pe_int) pe_int) (pe_op op_mul (pe_op op_mul pe_int (pv 3)) (pv 3))) (pe_op op_mul pe_int (pv 3))) pe_int) pa_nil)) pe_int))
      (pss_cons (ps_set (i := 6) scDraw.nd rfl (Or.inl rfl) (pe_op op_mod (pe_int1 B.int (pa_cons (pe_op op_add (pe_op op_add (pe_op op_mul (pv 6) (pv 6)) (pe_op op_mul pe_int (pv 6))) (pe_op op_mul pe_int (pv 3))) pa_nil)) pe_int))
      (pss_one (ps_ret (pe_op op_mod (pe_int1 B.int (pa_cons (pe_op op_fdiv (pe_op op_mod (pe_int1 B.int (pa_cons (pe_op op_mul (pv 6) (pe_op op_add (pv 6) pe_int)) pa_nil)) pe_int) pe_int) pa_nil)) (pv 1))))))))))), ?_⟩
    have ncp : cl ≠ pn := ne_of hc hp (fun z => by cases z)
    refine ⟨_, rfl, pn, _, rfl, getL hp, _, _, rfl, rfl, _, rfl, ?_⟩
    refine ite2 (fun _ => ?_) fun _ => ?_
    · refine ⟨_, rfl, pn, _, rfl, getL hp, .inl ⟨_, rfl, _, rfl, _, _, rfl, rfl, m0, ?_⟩⟩
      refine ⟨_, rfl, pn, _, rfl, getL hp, _, rfl, _, _, rfl, rfl, ⟨m0, m1⟩, _, rfl, pn, _, rfl, putL _ hp, ?_⟩
      exact ⟨_, rfl, q _ _ (mix_lt _ m0).1 (mix_lt _ m0).2 (fun c o n z => (upd_ne n).trans z) ⟨k, _, cs, upd_same, (upd_ne ncp).trans hc, Nat.le_succ_of_le hk, lc⟩⟩
    · refine ⟨_, rfl, pn, _, rfl, getO hp, _, rfl, pn, _, rfl, getC hp, _, _, rfl, ?_⟩
      refine ⟨_, rfl, _, _, rfl, rfl, _, rfl, pn, _, rfl, putO' _ hp, ?_⟩
      have ek : ((k : Nat) : Int) + 1 = ((k + 1 : Nat) : Int) := by omega
      rw [ek]
      generalize eH2 : upd H pn (.dK (penK cl ((k + 1 : Nat) : Int) l)) = H2
      have hp2 : H2 pn = some (.dK (penK cl ((k + 1 : Nat) : Int) l)) := by rw [← eH2]; exact upd_same
      have hc2 : H2 cl = some (.lst (cs.map V.int)) := by rw [← eH2]; exact (upd_ne ncp).trans hc
      have e2 : But pn H H2 := fun c o n z => by rw [← eH2]; exact (upd_ne n).trans z
      refine ⟨_, rfl, Nat.zero_le _, fun e ne => ?_⟩
      have hp3 : upd H2 e (.lst []) pn = some (.dK (penK cl ((k + 1 : Nat) : Int) l)) := (upd_ne (ne_of_none hp2 ne)).trans hp2
      have hc3 : upd H2 e (.lst []) cl = some (.lst (cs.map V.int)) := (upd_ne (ne_of_none hc2 ne)).trans hc2
      have e3 : But pn H (upd H2 e (.lst [])) := fun c o n z => (upd_ne (ne_of_none (e2 c o n z) ne)).trans (e2 c o n z)
      have he3 : upd H2 e (.lst []) e = some (.lst []) := upd_same
      generalize upd H2 e (.lst []) = H3 at hp3 hc3 e3 he3
      have fin : ∀ (r : Int) (H4 : Hp) (l2 : Int), 0 ≤ r → r < m → H4 = H3 ∨ H4 = upd H3 pn (.dK (penK cl ((k + 1 : Nat) : Int) l2)) → Q (.int r) H4 := fun r H4 l2 r0 r1 e4 => by
        rcases e4 with rfl | rfl
        · exact q r _ r0 r1 e3 ⟨k + 1, l, cs, hp3, hc3, Nat.succ_le_succ hk, lc⟩
        · exact q r _ r0 r1 (fun c o n z => (upd_ne n).trans (e3 c o n z)) ⟨k + 1, l2, cs, upd_same, (upd_ne ncp).trans hc3, Nat.succ_le_succ hk, lc⟩
      have num : ∀ v ∈ cs.map V.int, Num v := fun v hv => by
        obtain ⟨i, _, rfl⟩ := List.mem_map.mp hv
        exact .inr ⟨i, rfl⟩
      refine ⟨cl, e, _, [], rfl, rfl, .inl ⟨SqL.of hc3, SqL.of he3⟩, num, (fun v hv => absurd hv (by simp)), _, rfl, ?_⟩
      refine ite2 (fun c => ?_) fun c => ?_
      · refine ⟨_, rfl, _, _, rfl, rfl, .inl ⟨by decide, by decide⟩, ?_⟩
        refine ⟨_, _, rfl, rfl, .inl ⟨_, rfl, _, rfl, _, _, rfl, rfl, m0, ?_⟩⟩
        exact fin _ _ 0 (mix_lt _ m0).1 (mix_lt _ m0).2 (.inl rfl)
      have cne : cs ≠ [] := fun z => by
        rw [z] at c
        exact c (by decide)
      have lpos : 0 < cs.length := List.length_pos_iff.mpr cne
      refine ⟨_, rfl, _, rfl, .inl ⟨_, rfl, _, rfl, cl, _, rfl, .inl (SqL.of hc3), _, _, rfl, rfl, (by rw [List.length_map]; omega), cl, _, _, .int (cs[k % cs.length]'(Nat.mod_lt _ lpos)), rfl, rfl, SqL.of hc3, ?_, ?_⟩⟩
      · rw [List.length_map]
        have em : ((k : Nat) : Int) % ((cs.length : Nat) : Int) = ((k % cs.length : Nat) : Int) := by omega
        rw [em]
        refine atI_nat ?_
        rw [List.getElem?_map, List.getElem?_eq_getElem (Nat.mod_lt _ lpos)]
        rfl
      generalize cs[k % cs.length]'(Nat.mod_lt _ lpos) = cell
      refine ⟨_, rfl, _, rfl, cl, _, rfl, .inl (SqL.of hc3), _, _, rfl, rfl, _, rfl, ?_⟩
      refine ite2 (fun _ => ?_) fun _ => iteF ?_
      refine ⟨_, rfl, _, rfl, _, _, rfl, rfl, ⟨by decide, by decide, by decide⟩, _, _, rfl, rfl, _, rfl, ?_⟩
      refine ite2 (fun _ => ?_) fun _ => ?_
      refine ⟨_, rfl, _, rfl, _, _, rfl, rfl, ⟨by decide, by decide, by decide⟩, _, _, rfl, rfl, _, rfl, _, _, rfl, rfl, ⟨m0, m1⟩, _, rfl, pn, _, rfl, putL _ hp3, ?_⟩
      refine ⟨_, rfl, _, rfl, _, _, rfl, rfl, ⟨by decide, by decide, by decide⟩, _, _, rfl, rfl, .inl ⟨_, rfl, _, rfl, _, _, rfl, rfl, m0, ?_⟩⟩
      exact fin _ _ _ (mix_lt _ m0).1 (mix_lt _ m0).2 (.inr rfl)
      all_goals
        refine ⟨_, rfl, .inl ⟨_, rfl, _, _, rfl, rfl, (by show (0 : Int) < _; decide), _, _, rfl, rfl, .inr ⟨by decide, by decide⟩, ?_⟩⟩
        refine ⟨_, rfl, _, _, rfl, rfl, .inl ⟨by decide, by decide⟩, _, rfl, _, _, rfl, rfl, .inr ⟨by omega, by omega⟩, _, _, rfl, rfl, ?_⟩
        refine ⟨_, rfl, _, _, rfl, rfl, .inl ⟨by decide, by decide⟩, _, _, rfl, rfl, _, _, rfl, rfl, .inl ⟨_, rfl, _, _, rfl, rfl, (by show (0 : Int) < _; decide), ?_⟩⟩
        generalize emx : (cell % 4294965361 * 41903 + 27011 * ((k : Nat) : Int) * ((k : Nat) : Int) + 853 * ((k : Nat) : Int) + 71) % 4294965383 = mx
        have b1 : 0 ≤ mx ∧ mx < 4294965383 := by rw [← emx]; exact mix_lt _ (by decide)
        refine ⟨_, rfl, _, rfl, _, _, rfl, rfl, .inl ⟨by omega, by omega⟩, ?_⟩
        refine ⟨_, rfl, _, _, rfl, rfl, .inl ⟨by decide, by decide⟩, _, _, rfl, rfl, _, rfl, _, _, rfl, rfl, .inl ⟨by decide, by decide⟩, _, _, rfl, rfl, .inl ⟨_, rfl, _, _, rfl, rfl, (by show (0 : Int) < _; decide), ?_⟩⟩
        generalize emy : (mx * mx + 40213 * mx + 37 * ((k : Nat) : Int)) % 4294965337 = my
        have b2 : 0 ≤ my ∧ my < 4294965337 := by rw [← emy]; exact mix_lt _ (by decide)
        refine ⟨_, rfl, _, rfl, _, _, rfl, rfl, _, _, rfl, rfl, .inl ⟨by omega, by omega⟩, .inl ⟨_, rfl, _, _, rfl, rfl, (by show (0 : Int) < _; decide), _, _, rfl, rfl, ⟨by decide, by decide⟩, .inl ⟨_, rfl, _, rfl, _, _, rfl, rfl, m0, ?_⟩⟩⟩
        exact fin _ _ 0 (mix_lt _ m0).1 (mix_lt _ m0).2 (.inl rfl)
end
def spPick : Sp := fun vs H Q _ => ∃ (pn cl s : Addr) (xs : List V) (b : Nat), vs = [.ref pn, .ref s] ∧ Pen H pn cl b ∧ b ≤ 1000000 ∧ H s = some (.lst xs) ∧ 0 < xs.length ∧ xs.length ≤ 1000 ∧ ∀ x H', x ∈ xs → But pn H H' → Pen H' pn cl (b + 1) → Q x H'
theorem Pen.mono {H : Hp} {pn cl : Addr} {b c : Nat} (h : Pen H pn cl b) (e : b ≤ c) : Pen H pn cl c := let ⟨k, l, cs, h1, h2, h3, h4⟩ := h; ⟨k, l, cs, h1, h2, Nat.le_trans h3 e, h4⟩
theorem Pen.same {H H' : Hp} {pn cl : Addr} {b : Nat} (h : Pen H pn cl b) (e : Same H H') : Pen H' pn cl b := let ⟨k, l, cs, h1, h2, h3, h4⟩ := h; ⟨k, l, cs, e _ _ h1, e _ _ h2, h3, h4⟩
theorem Pen.ne {H : Hp} {pn cl a : Addr} {b : Nat} {o : HO} (h : Pen H pn cl b) (ha : H a = some o) (d : ∀ kvs, o ≠ .dK kvs) : a ≠ pn := let ⟨_, _, _, h1, _⟩ := h; ne_of ha h1 (d _)
/-- the pen stays where another object is written -/
theorem Pen.upd {H : Hp} {pn cl a : Addr} {b : Nat} {o : HO} (h : Pen H pn cl b) (n1 : pn ≠ a) (n2 : cl ≠ a) : Pen (L2.upd H a o) pn cl b := let ⟨k, l, cs, h1, h2, h3, h4⟩ := h; ⟨k, l, cs, (upd_ne n1).trans h1, (upd_ne n2).trans h2, h3, h4⟩
theorem Pen.off {H : Hp} {pn cl a : Addr} {b : Nat} (h : Pen H pn cl b) (n : H a = none) : pn ≠ a ∧ cl ≠ a := let ⟨_, _, _, h1, h2, _⟩ := h; ⟨ne_of_none h1 n, ne_of_none h2 n⟩
theorem same_but {pn : Addr} {H H' : Hp} (e : Same H H') : But pn H H' := fun b o _ h => e b o h
section
variable {P : Program} {w : World} {K : PySem.W.Frag} {mg : Str → Option Value} {base : Heap}
theorem scPick : FnScope ["_law_pen_here", "_law_some"] ["_law_pen_here", "_law_some"] (defScope sPick) := ⟨rfl, rfl, rfl, by decide +kernel, rfl, by decide +kernel, by decide +kernel⟩
theorem ok_pick {f : Addr} {fd : FuncData} (F : Fun K "_law_pick" "_law_pick" sPick f fd) (B : Bi mg) (cD : Cal CX0 P w K mg base 1 "_law_draw" spDraw) : FnOk P w K mg base CX0 2 f fd ["_law_pen_here", "_law_some"] spPick := by
  refine F.ok scPick (fun vs H Q E h => ?_) (fun cdv A outer s H vs Q E hr h => ?_)
  · obtain ⟨pn, cl, s, xs, b, rfl, _⟩ := h
    rfl
  · obtain ⟨pn, cl, s0, xs, b, rfl, pen, hb, hs, l0, l1, q⟩ := h
    refine ⟨_, pss_one (ps_ret (pe_ix ix_list (pv 1) (pe_c cD hr pass0 (pa_cons (pv 0) (pa_cons (pe_len B.len (pa_cons (pv 1) pa_nil)) pa_nil))) (fun _ _ => rfl))), ?_⟩
    refine ⟨_, rfl, _, rfl, _, rfl, s0, xs, rfl, .inl (SqL.of hs), pn, cl, _, b, rfl, pen, hb, by omega, by omega, fun r H' r0 r1 e pen2 => ?_⟩
    obtain ⟨r, rfl⟩ := Int.eq_ofNat_of_zero_le r0
    have lt : r < xs.length := by omega
    exact ⟨s0, xs, _, xs[r], rfl, rfl, SqL.of (e _ _ (pen.ne hs fun _ z => by cases z) hs), atI_nat (List.getElem?_eq_getElem lt), q _ _ (List.getElem_mem lt) e pen2⟩
end
def Flat : V → Prop
  | .non | .bl _ | .int _ => True
  | .str x => PyData.strOk x = true
  | _ => False
theorem dp_flat {K : PySem.W.Frag} {H : Hp} {v : V} (h : Flat v) : Dp K H v (dOf v) := by
  cases v with
  | non => exact .non
  | bl b => exact .bl b
  | int i => exact .int i
  | str x => exact .str x
  | _ => exact h.elim
theorem dpAll_flat {K : PySem.W.Frag} {H : Hp} : ∀ {xs : List V}, (∀ v ∈ xs, Flat v) → DpAll K H xs (xs.map dOf)
  | [], _ => .nil
  | x :: xs, h => .cons (dp_flat (h x List.mem_cons_self)) (dpAll_flat fun v m => h v (List.mem_cons_of_mem _ m))
theorem lay_flat : ∀ {xs : List V}, (∀ v ∈ xs, Flat v) → PyData.canLayAll0 (xs.map dOf) = true
  | [], _ => by simp [PyData.canLayAll0]
  | x :: xs, h => by
    have ih := lay_flat fun v m => h v (List.mem_cons_of_mem x m)
    have hx := h x List.mem_cons_self
    rw [List.map_cons, PyData.canLayAll0, ih, Bool.and_true]
    cases x <;> simp [dOf, PyData.canLay0, Flat] at hx ⊢
    exact hx
theorem depth_flat : ∀ (xs : List V), PyData.depthAll (xs.map dOf) ≤ 1
  | [] => by simp [PyData.depthAll]
  | x :: xs => by
    have ih := depth_flat xs
    simp only [List.map_cons, PyData.depthAll]
    cases x <;> simp only [dOf, PyData.depth] <;> omega
theorem shT_flat {xs : List V} (h : ∀ v ∈ xs, Flat v) : SeqAt.shaped (.tuple (xs.map dOf)) = true := by
  have h1 := lay_flat h
  have h2 := depth_flat xs
  show (PyData.canLay0 (.tuple (xs.map dOf)) && decide (PyData.depth (.tuple (xs.map dOf)) ≤ 64)) = true
  rw [Bool.and_eq_true]
  refine ⟨by simp only [PyData.canLay0]; exact h1, decide_eq_true ?_⟩
  simp only [PyData.depth]
  omega
/-- two tuples with the same flat items -/
def rSm (b : Bool) : R2 := fun x y H Q => ∃ s t us, x = .ref s ∧ y = .ref t ∧ H s = some (.tup us) ∧ H t = some (.tup us) ∧ (∀ v ∈ us, Flat v) ∧ Q (.bl b) H
section
variable {X : Cx}
theorem op_neSm (hu : X.A.units + 64 < cLine) : OpR X (compareOp .NotEq) (rSm false) := by
  intro pins s σ H x y v u Q I rx ry h
  obtain ⟨a, b, us, rfl, rfl, d1, d2, f, q⟩ := h
  have sh := shT_flat f
  refine op_neD hu pins s σ H _ _ v u Q I rx ry ⟨_, _, .tup (SqT.of d1) (dpAll_flat f), .tup (SqT.of d2) (dpAll_flat f), sh, sh, ?_⟩
  rw [SeqAt.eqv_refl _ (Bool.and_eq_true_iff.mp sh).1]
  exact q
theorem op_eqSm (hu : X.A.units + 64 < cLine) : OpR X (compareOp .Eq) (rSm true) := by
  intro pins s σ H x y v u Q I rx ry h
  obtain ⟨a, b, us, rfl, rfl, d1, d2, f, q⟩ := h
  have sh := shT_flat f
  refine op_eqD hu pins s σ H _ _ v u Q I rx ry ⟨_, _, .tup (SqT.of d1) (dpAll_flat f), .tup (SqT.of d2) (dpAll_flat f), sh, sh, ?_⟩
  rw [SeqAt.eqv_refl _ (Bool.and_eq_true_iff.mp sh).1]
  exact q
end
theorem cut_to {xs : List V} {k : Nat} (h : k ≤ xs.length) : cutV xs none (some (k : Int)) = xs.take k := by
  unfold cutV
  rw [HT.sIx_nat, HT.sIx_none, List.drop_zero, Nat.sub_zero, Nat.min_eq_left h]
theorem cut_from {xs : List V} {k : Nat} (h : k ≤ xs.length) : cutV xs (some (k : Int)) none = xs.drop k := by
  unfold cutV
  rw [HT.sIx_nat, HT.sIx_none, Nat.min_eq_left h, List.take_of_length_le (by rw [List.length_drop]; exact Nat.le_refl _)]
theorem kn_flat {H : Hp} {v : V} (h : Flat v) : Kn H v := by
  cases v with
  | non => exact .non
  | bl b => exact .bl b
  | int i => exact .int i
  | str x => exact .str x
  | _ => exact h.elim
theorem flat_ref {v : V} (h : Flat v) : ∀ b, v ≠ .ref b := fun b e => by
  rw [e] at h
  exact h
end K02
set_option Elab.async false
set_option linter.all false
set_option maxRecDepth 100001
set_option maxHeartbeats 3999999
namespace K02
open PySem L2
abbrev sCopied : Stmt := topS 5
abbrev sNoWord : Stmt := inClass (topS 13) 0
abbrev sNotWord : Stmt := inClass (topS 14) 0
/-- what is handed in of any kind, as data -/
inductive Odd (H : Hp) : V → PyData → Prop
  | flat {v : V} (h : Flat v) : Odd H v (dOf v)
  | tup {a : Addr} {x : V} (e : H a = some (.tup [x])) (f : Flat x) : Odd H (.ref a) (.tuple [dOf x])
  | lst {a : Addr} {xs : List V} (e : H a = some (.lst xs)) (f : ∀ v ∈ xs, Flat v) (l : xs.length ≤ 1000) : Odd H (.ref a) (.list (xs.map dOf))
theorem Odd.kn {H : Hp} {v : V} {d : PyData} (o : Odd H v d) : Kn H v := by
  cases o with
  | flat h => exact kn_flat h
  | tup e f => exact .tup e
  | lst e f l => exact .lst e
theorem Odd.same {H H' : Hp} {v : V} {d : PyData} (o : Odd H v d) (s : Same H H') : Odd H' v d := by
  cases o with
  | flat h => exact .flat h
  | tup e f => exact .tup (s _ _ e) f
  | lst e f l => exact .lst (s _ _ e) f l
theorem Odd.dp {K : PySem.W.Frag} {H : Hp} {v : V} {d : PyData} (o : Odd H v d) : Dp K H v d := by
  cases o with
  | flat h => exact dp_flat h
  | tup e f => exact .tup (SqT.of e) (.cons (dp_flat f) .nil)
  | lst e f l => exact .lst (SqL.of e) (dpAll_flat f)
def spCopied : Sp := fun vs H Q _ => ∃ v, vs = [v] ∧ Flat v ∧ Q v H
def spCopy2 : Sp := fun vs H Q _ => ∃ v d, vs = [v] ∧ Odd H v d ∧ ∀ v' H', Same H H' → Odd H' v' d → Q v' H'
section
variable {P : Program} {w : World} {K : PySem.W.Frag} {mg : Str → Option Value} {base : Heap}
theorem scCopied : FnScope ["value", "part", "key"] ["value"] (defScope sCopied) := ⟨rfl, rfl, rfl, by decide +kernel, rfl, by decide +kernel, by decide +kernel⟩
theorem ok_copied {f : Addr} {fd : FuncData} (F : Fun K "copied" "copied" sCopied f fd) (B : Bi mg) : FnOk P w K mg base CX0 1 f fd ["value"] spCopied := by
  refine F.ok scCopied (fun vs H Q E h => ?_) (fun cdv A outer s H vs Q E hr h => ?_)
  · obtain ⟨v, rfl, _⟩ := h
    rfl
  · obtain ⟨v, rfl, fl, q⟩ := h
    refine ⟨_, pss_cons (ps_if (pt_val (pe_isi B.isi (pa_cons (pv 0) (pa_cons (pe_ty "list" B.list) pa_nil)))) pss_never pss_nil) (pss_cons (ps_if (pt_val (pe_isi B.isi (pa_cons (pv 0) (pa_cons (pe_ty "tuple" B.tuple) pa_nil)))) pss_never pss_nil)
      (pss_cons (ps_if (pt_val (pe_isi B.isi (pa_cons (pv 0) (pa_cons (pe_ty "dict" B.dict) pa_nil)))) pss_never pss_nil) (pss_one (ps_ret (pv 0))))), ?_⟩
    obtain ⟨t, ty, _, _, k3, k4, k5⟩ := (kn_flat (H := H) fl).kinds K
    have f3 : isT H v = false := by cases v <;> first | rfl | exact fl.elim
    have f4 : isL H v = false := by cases v <;> first | rfl | exact fl.elim
    rw [f3] at k3
    rw [f4] at k4
    exact ⟨v, rfl, v, _, _, _, _, rfl, .ty "list", ty, k4, _, rfl, iteF ⟨v, rfl, v, _, _, _, _, rfl, .ty "tuple", ty, k3, _, rfl, iteF ⟨v, rfl, v, _, _, _, _, rfl, .ty "dict", ty, k5, _, rfl, iteF ⟨v, rfl, q⟩⟩⟩⟩
theorem ok_copy2 {f : Addr} {fd : FuncData} (F : Fun K "copied" "copied" sCopied f fd) (B : Bi mg) (c1 : Cal CX0 P w K mg base 1 "copied" spCopied) : FnOk P w K mg base CX0 2 f fd ["value"] spCopy2 := by
  refine F.ok scCopied (fun vs H Q E h => ?_) (fun cdv A outer s H vs Q E hr h => ?_)
  · obtain ⟨v, d, rfl, _⟩ := h
    rfl
  · obtain ⟨v, d, rfl, od, q⟩ := h
    refine ⟨_, pss_cons (ps_if (pt_val (pe_isi B.isi (pa_cons (pv 0) (pa_cons (pe_ty "list" B.list) pa_nil)))) (pss_one (ps_ret (pe_lc (own := [("part", 1)]) rfl scCopied.nd (pi_sqA (pv 0)) (blkOk_by (N := ["value", "part", "key"]) (sc := defScope sCopied) (by decide +kernel))
          (fun _ _ _ _ _ => pg_name (i := 1) scCopied.nd rfl (Or.inl rfl)) (fun _ _ _ _ _ => pts_nil) (fun _ _ _ _ _ => pe_c c1 hr pass0 (pa_cons (pv 1) pa_nil))))) pss_nil)
      (pss_cons (ps_if (pt_val (pe_isi B.isi (pa_cons (pv 0) (pa_cons (pe_ty "tuple" B.tuple) pa_nil)))) (pss_one (ps_ret (pe_tupleOf rfl B.tuple (pe_lc (own := [("part", 1)]) rfl scCopied.nd (pi_sqA (pv 0)) (blkOk_by (N := ["value", "part", "key"]) (sc := defScope sCopied) (by decide +kernel))
          (fun _ _ _ _ _ => pg_name (i := 1) scCopied.nd rfl (Or.inl rfl)) (fun _ _ _ _ _ => pts_nil) (fun _ _ _ _ _ => pe_c c1 hr pass0 (pa_cons (pv 1) pa_nil)))))) pss_nil)
      (pss_cons (ps_if (pt_val (pe_isi B.isi (pa_cons (pv 0) (pa_cons (pe_ty "dict" B.dict) pa_nil)))) pss_never pss_nil) (pss_one (ps_ret (pv 0))))), ?_⟩
    obtain ⟨t, ty, _, _, k3, k4, k5⟩ := od.kn.kinds K
    cases od with
    | flat fl =>
      have f3 : isT H v = false := by cases v <;> first | rfl | exact fl.elim
      have f4 : isL H v = false := by cases v <;> first | rfl | exact fl.elim
      rw [f3] at k3
      rw [f4] at k4
      exact ⟨v, rfl, v, _, _, _, _, rfl, .ty "list", ty, k4, _, rfl, iteF ⟨v, rfl, v, _, _, _, _, rfl, .ty "tuple", ty, k3, _, rfl, iteF ⟨v, rfl, v, _, _, _, _, rfl, .ty "dict", ty, k5, _, rfl, iteF ⟨v, rfl, q v H (Same.refl H) (.flat fl)⟩⟩⟩⟩
    | @lst a xs e fx ll =>
      rw [isL_lst e] at k4
      refine ⟨_, rfl, _, _, _, _, _, rfl, .ty "list", ty, k4, _, rfl, iteT ?_⟩
      refine ⟨_, rfl, a, _, rfl, .inl (SqL.of e), fun J G wk hG D nD => lc_it wk (fun j H' => Same H H' ∧ H' D = some (.lst (xs.take j))) ⟨same_new nD, upd_same⟩ (fun j H' _ z => hG H' fun o w => z.1 _ _ w) ?_ ?_⟩
      · rintro j y H1 H2 hj ⟨e1, hD⟩ ⟨rfl, hy⟩
        refine ⟨rfl, ?_⟩
        unfold tYes
        refine iteT ⟨_, rfl, _, rfl, fx y (List.mem_of_getElem? hy), _, hD, by rw [List.length_take]; exact small10 (by omega), fun b o z => ?_, ?_⟩
        · rw [upd_ne (ne_of_none z nD)]
          exact e1 _ _ z
        · rw [upd_same, List.take_add_one, hy]
          rfl
      · rintro H1 ⟨e1, hD⟩
        rw [List.take_length] at hD
        exact q _ H1 e1 (.lst hD fx ll)
    | @tup a x e fx =>
      rw [isL_tup e] at k4
      rw [isT_tup e] at k3
      refine ⟨_, rfl, _, _, _, _, _, rfl, .ty "list", ty, k4, _, rfl, iteF ⟨_, rfl, _, _, _, _, _, rfl, .ty "tuple", ty, k3, _, rfl, iteT ?_⟩⟩
      refine ⟨_, rfl, a, _, rfl, .inr (SqT.of e), fun J G wk hG D nD => lc_it wk (fun j H' => Same H H' ∧ H' D = some (.lst ([x].take j))) ⟨same_new nD, upd_same⟩ (fun j H' _ z => hG H' fun o w => z.1 _ _ w) ?_ ?_⟩
      · rintro j y H1 H2 hj ⟨e1, hD⟩ ⟨rfl, hy⟩
        have j0 : j = 0 := by simpa using hj
        subst j0
        cases hy
        refine ⟨rfl, ?_⟩
        unfold tYes
        refine iteT ⟨_, rfl, _, rfl, fx, _, hD, by show 0 < sizeLine; decide, fun b o z => ?_, upd_same⟩
        rw [upd_ne (ne_of_none z nD)]
        exact e1 _ _ z
      · rintro H1 ⟨e1, hD⟩
        exact .inl ⟨D, _, rfl, SqL.of hD, fun t nt => q _ _ (e1.trans (same_new nt)) (.tup upd_same fx)⟩
/-! ### the errors -/
/-- self.f = copied(v), of an exception that has no field yet -/
def spXO (K : PySem.W.Frag) (f : Str) : Sp := fun vs H Q _ => ∃ (a C : Addr) (v : V) (d : PyData), vs = [.ref a, v] ∧ OexC K C ∧ PySem.W.findIn K (.ref C) f = some none ∧ Odd H v d ∧ H a = some (exo a C none) ∧
  ∀ v' H1 dx, Same H H1 → Odd H1 v' d → H1 dx = none → dx ≠ a → Q .non (upd (upd H1 dx (exd dx [(f, v')])) a (exo a C (some dx)))
theorem scNoWord : FnScope ["self", "word"] ["self", "word"] (defScope sNoWord) := ⟨rfl, rfl, rfl, by decide +kernel, rfl, by decide +kernel, by decide +kernel⟩
theorem ok_noWord {f : Addr} {fd : FuncData} (F : Fun K "__init__" "NoWord.__init__" sNoWord f fd) (cC : Cal CX0 P w K mg base 2 "copied" spCopy2) : FnOk P w K mg base CX0 3 f fd ["self", "word"] (spXO K "word") := by
  refine F.ok scNoWord (fun vs H Q E h => ?_) (fun cdv A outer s H vs Q E hr h => ?_)
  · obtain ⟨a, C, v, d, rfl, _⟩ := h
    rfl
  · obtain ⟨a, C, v, d, rfl, T, no, od, ha, q⟩ := h
    refine ⟨_, pss_one (ps_ost (pv 0) (pe_c cC hr pass0 (pa_cons (pv 1) pa_nil))), ?_⟩
    exact ⟨_, rfl, v, d, rfl, od, fun v' H1 e1 o1 => ⟨_, rfl, a, C, rfl, T, no, .inl ⟨e1 _ _ ha, fun dx nd ne => q v' H1 dx e1 o1 nd ne⟩⟩⟩
theorem scNotWord : FnScope ["self", "word"] ["self", "word"] (defScope sNotWord) := ⟨rfl, rfl, rfl, by decide +kernel, rfl, by decide +kernel, by decide +kernel⟩
theorem ok_notWord {f : Addr} {fd : FuncData} (F : Fun K "__init__" "NotWord.__init__" sNotWord f fd) (cC : Cal CX0 P w K mg base 2 "copied" spCopy2) : FnOk P w K mg base CX0 3 f fd ["self", "word"] (spXO K "word") := by
  refine F.ok scNotWord (fun vs H Q E h => ?_) (fun cdv A outer s H vs Q E hr h => ?_)
  · obtain ⟨a, C, v, d, rfl, _⟩ := h
    rfl
  · obtain ⟨a, C, v, d, rfl, T, no, od, ha, q⟩ := h
    refine ⟨_, pss_one (ps_ost (pv 0) (pe_c cC hr pass0 (pa_cons (pv 1) pa_nil))), ?_⟩
    exact ⟨_, rfl, v, d, rfl, od, fun v' H1 e1 o1 => ⟨_, rfl, a, C, rfl, T, no, .inl ⟨e1 _ _ ha, fun dx nd ne => q v' H1 dx e1 o1 nd ne⟩⟩⟩
end
/-! ### what a raise leaves -/
/-- behind a raise: all that was there, and the error's field at d -/
structure RsO (H H' : Hp) (d : Addr) (f : Str) (dd : PyData) : Prop where
  new : H d = none
  same : Same H H'
  at_ : ∃ v', H' d = some (.xd [(f, v')]) ∧ Odd H' v' dd
theorem raiseO {H : Hp} {C : Addr} {f : Str} {v : V} {dd : PyData} {R : XK} {K : PySem.W.Frag} (T : OexC K C) (no : PySem.W.findIn K (.ref C) f = some none) (od : Odd H v dd) (r : ∀ d H', RsO H H' d f dd → R (.ref C) (some d) H') :
    ([v] : List V).length ≤ 1000 ∧ ∀ a, H a = none → spXO K f (.ref a :: ([v] ++ [])) (upd H a (exo a C none)) (fun u H2 => u = .non ∧ ∃ (d : Addr) (fs : List (Str × V)), H2 a = some (exo a C (some d)) ∧ H2 d = some (exd d fs) ∧ H d = none ∧ R (.ref C) (some d) (upd (del H2 a) d (.xd fs))) (fun _ _ _ => False) := by
  refine ⟨by show 1 ≤ 1000; decide, fun a na => ⟨a, C, v, dd, rfl, T, no, od.same (same_new na), upd_same, fun v' H1 dx e1 o1 nd ne => ⟨rfl, dx, [(f, v')], upd_same, by rw [upd_ne ne]; exact upd_same, ?_, r _ _ ?_⟩⟩⟩
  · cases z : H dx with
    | none => rfl
    | some o =>
      rw [e1 _ _ (same_new na _ _ z)] at nd
      cases nd
  · have hne : ∀ b o, H1 b = some o → b ≠ dx := fun b o e => ne_of_none e nd
    have h1a : H1 a = some (exo a C none) := e1 _ _ upd_same
    have keep : ∀ b o, b ≠ a → H1 b = some o → upd (del (upd (upd H1 dx (exd dx [(f, v')])) a (exo a C (some dx))) a) dx (.xd [(f, v')]) b = some o := fun b o h1 h2 => by
      rw [upd_ne (hne b o h2), del_ne h1, upd_ne h1, upd_ne (hne b o h2)]
      exact h2
    refine ⟨?_, fun b o e => ?_, v', upd_same, ?_⟩
    · cases z : H dx with
      | none => rfl
      | some o =>
        rw [e1 _ _ (same_new na _ _ z)] at nd
        cases nd
    · have ba := ne_of_none e na
      exact keep b o ba (e1 _ _ ((upd_ne ba).trans e))
    · cases o1 with
      | flat h => exact .flat h
      | tup e f => exact .tup (keep _ _ (ne_of e h1a fun z => by unfold exo at z; cases z) e) f
      | lst e f l => exact .lst (keep _ _ (ne_of e h1a fun z => by unfold exo at z; cases z) e) f l
end K02
set_option Elab.async false
set_option linter.all false
set_option maxRecDepth 100001
set_option maxHeartbeats 3999999
namespace K02
open PySem L2
abbrev sLetters : Stmt := topS 22
abbrev sIsWord : Stmt := topS 23
def S (l : List Nat) : Str := ⟨l.toArray⟩
def abc : List Nat := (List.range 26).map (· + 97)
theorem S_list (l : List Nat) : (S l).cps.toList = l := rfl
theorem S_size (l : List Nat) : (S l).cps.size = l.length := by simp [S]
theorem S_len (l : List Nat) : (S l).length = l.length := S_size l
theorem S_get (l : List Nat) (i : Nat) : (S l).cps[i]? = l[i]? := by simp [S]
theorem S_inj {l m : List Nat} (h : S l = S m) : l = m := congrArg (fun z : Str => z.cps.toList) h
theorem S_of (z : Str) : z = S z.cps.toList := rfl
/-- letters that a dictionary may have -/
structure Lets (ls : List Nat) : Prop where
  nd : ls.Nodup
  lo : 2 ≤ ls.length
  hi : ls.length ≤ 26
  abc : ∀ c ∈ ls, c ∈ abc
def isS : V → Bool
  | .str _ => true
  | _ => false
/-- a word over these letters -/
def isW (ls : List Nat) : V → Bool
  | .str x => decide (x.length ≤ 200) && x.cps.toList.all fun c => decide (c ∈ ls)
  | _ => false
structure Bs (mg : Str → Option Value) : Prop where
  str : mg "str" = none
  all : mg "all" = none
  set : mg "set" = none
  sorted : mg "sorted" = none
structure Cn (mg : Str → Option Value) : Prop where
  alpha : ∃ u, mg "ALPHABET" = some u ∧ RelV (.str (S abc)) u
  longest : ∃ u, mg "LONGEST" = some u ∧ RelV (.int 200) u
theorem ks_of {K : PySem.W.Frag} {t : String} {b : Bool} (h : kitB t "str" = some b) : PySem.W.kitOne K (.type t) (.type "str") = some b := h
theorem Kn.isStr (K : PySem.W.Frag) {H : Hp} {v : V} (k : Kn H v) : ∃ t : String, TyX K H v (.type t) ∧ PySem.W.kitOne K (.type t) (.type "str") = some (isS v) := by
  cases k with
  | non => exact ⟨_, .base .non, ks_of (show kitB "NoneType" "str" = some false by decide +kernel)⟩
  | bl b => exact ⟨_, .base (.bl b), ks_of (show kitB "bool" "str" = some false by decide +kernel)⟩
  | int i => exact ⟨_, .base (.int i), ks_of (show kitB "int" "str" = some false by decide +kernel)⟩
  | str x => exact ⟨_, .base (.str x), ks_of (show kitB "str" "str" = some true by decide +kernel)⟩
  | lst e => exact ⟨_, .base (.lst e), ks_of (show kitB "list" "str" = some false by decide +kernel)⟩
  | tup e => exact ⟨_, .base (.tup e), ks_of (show kitB "tuple" "str" = some false by decide +kernel)⟩
theorem yesT {te : TE} {σ : St} {H : Hp} {Q : VK} {N : Hp → Prop} (h : te σ H Q) : tYes σ H fun b H3 => if b = true then te σ H3 Q else N H3 := by
  unfold tYes
  exact iteT h
/-- a comprehension whose elements change nothing -/
theorem lcP {J : It} {n : Nat} {G : Hp → Prop} {Y : Nat → Hp → V → Hp → Prop} (wk : Walk J n G Y) {g : TG} {tt : TT} {te : TE} {vs : List Nat} {σ : St} {H1 : Hp} {D : Addr} {Qd : Hp → Prop} (us fs : List V) (hn : us.length = n) (hf : fs.length = n) (hb : n ≤ 10000)
    (hY : ∀ (i : Nat) (x : V) (H H' : Hp), Y i H x H' → H' = H ∧ us[i]? = some x) (hG : ∀ H', Same H1 H' → G H') (nD : H1 D = none)
    (hs : ∀ (i : Nat) (x y : V) (H : Hp) (Q : VK) (N : Hp → Prop), us[i]? = some x → fs[i]? = some y → Same H1 H → Q y H → g x (wipe σ vs) H fun σ2 H2 => wipe σ2 vs = wipe σ vs ∧ tt σ2 H2 fun b H3 => if b = true then te σ2 H3 Q else N H3)
    (hd : ∀ H, Same H1 H → H D = some (.lst fs) → Qd H) :
    ∃ W : Nat → Nat → Hp → Prop, (∃ m, W 0 m (upd H1 D (.lst []))) ∧ ∀ i m H, W i m H →
      (J.stop i H ∧ Qd H) ∨ (J.go i H ∧ ∃ Nx : Hp → Prop, (∀ H', Nx H' → ∃ m', m' < m ∧ W (i + 1) m' H') ∧ ∀ x H', J.yld i H x H' → g x (wipe σ vs) H' fun σ2 H2 => wipe σ2 vs = wipe σ vs ∧ tt σ2 H2 fun b H3 =>
        if b = true then te σ2 H3 fun y H4 => ∃ acc, H4 D = some (.lst acc) ∧ acc.length < sizeLine ∧ Nx (upd H4 D (.lst (acc ++ [y]))) else Nx H3) := by
  refine lc_it wk (fun i H' => Same H1 H' ∧ H' D = some (.lst (fs.take i))) ⟨same_new nD, upd_same⟩ (fun i H' _ z => hG H' z.1) ?_ ?_
  · rintro i x H H' hi ⟨e1, hD⟩ y
    obtain ⟨rfl, hx⟩ := hY i x H H' y
    have hi2 : i < fs.length := by omega
    refine hs i x fs[i] H' _ _ hx (List.getElem?_eq_getElem hi2) e1 ⟨_, hD, ?_, fun b o z => ?_, ?_⟩
    · rw [List.length_take]
      exact small10 (by omega)
    · rw [upd_ne (ne_of_none z nD)]
      exact e1 _ _ z
    · rw [List.take_add_one, List.getElem?_eq_getElem hi2]
      exact upd_same
  · rintro H ⟨e1, hD⟩
    refine hd H e1 ?_
    rw [hD, List.take_of_length_le (by omega)]
/-- a comprehension over a text -/
theorem lcS {z : Str} {g : TG} {tt : TT} {te : TE} {vs : List Nat} {σ : St} {H1 : Hp} {D : Addr} {Qd : Hp → Prop} (f : Nat → V) (hb : z.cps.size ≤ 10000) (nD : H1 D = none)
    (hs : ∀ c H (Q : VK) (N : Hp → Prop), c ∈ z.cps.toList → Same H1 H → Q (f c) H → g (.str ⟨#[c]⟩) (wipe σ vs) H fun σ2 H2 => wipe σ2 vs = wipe σ vs ∧ tt σ2 H2 fun b H3 => if b = true then te σ2 H3 Q else N H3)
    (hd : ∀ H, Same H1 H → H D = some (.lst (z.cps.toList.map f)) → Qd H) :
    ∃ W : Nat → Nat → Hp → Prop, (∃ m, W 0 m (upd H1 D (.lst []))) ∧ ∀ i m H, W i m H →
      ((Its z).stop i H ∧ Qd H) ∨ ((Its z).go i H ∧ ∃ Nx : Hp → Prop, (∀ H', Nx H' → ∃ m', m' < m ∧ W (i + 1) m' H') ∧ ∀ x H', (Its z).yld i H x H' → g x (wipe σ vs) H' fun σ2 H2 => wipe σ2 vs = wipe σ vs ∧ tt σ2 H2 fun b H3 =>
        if b = true then te σ2 H3 fun y H4 => ∃ acc, H4 D = some (.lst acc) ∧ acc.length < sizeLine ∧ Nx (upd H4 D (.lst (acc ++ [y]))) else Nx H3) := by
  refine lcP walk_str (sgns z) (z.cps.toList.map f) (by simp [sgns]) (by simp) hb ?_ (fun _ _ => True.intro) nD ?_ hd
  · rintro i x H H' ⟨rfl, c, hc, rfl⟩
    refine ⟨rfl, ?_⟩
    unfold sgns
    rw [List.getElem?_map, Array.getElem?_toList, hc]
    rfl
  · intro i x y H Q N hx hy e q
    unfold sgns at hx
    rw [List.getElem?_map] at hx hy
    cases hc : z.cps.toList[i]? with
    | none =>
      rw [hc] at hx
      cases hx
    | some c =>
      rw [hc] at hx hy
      cases hx
      cases hy
      exact hs c H Q N (List.mem_of_getElem? hc) e q
def spLets : Sp := fun vs H Q _ => ∃ ls, vs = [.str (S ls)] ∧ Lets ls ∧ ∀ H', Same H H' → Q (.bl true) H'
def spIsW : Sp := fun vs H Q _ => ∃ v ls, vs = [v, .str (S ls)] ∧ Kn H v ∧ (∀ x, v = .str x → x.length ≤ 10000) ∧ ∀ H', Same H H' → Q (.bl (isW ls v)) H'
section
variable {X : Cx}
theorem pe_isStr {a : Expr} {es : List Expr} {t : TA} {p pos : Pos} (hm : X.mg "isinstance" = none) (ha : PA X (a :: es) t) (hg : Gl X "isinstance" := by rfl)
    (he : starEach (a :: es) X.env = (false, eval a X.env) :: starEach es X.env := by rfl) (hpl : (backTo pos (starEach es X.env)).any (·.1) = false := by rfl) :
    PE X (.Call (.Name "isinstance" p) (a :: es) [] pos) (tCB (rIsi X.K) t) := pe_isi hm ha hg he hpl
theorem pe_lenS {a : Expr} {es : List Expr} {t : TA} {p pos : Pos} (hm : X.mg "len" = none) (ha : PA X (a :: es) t) (hg : Gl X "len" := by rfl) (he : starEach (a :: es) X.env = (false, eval a X.env) :: starEach es X.env := by rfl)
    (hpl : (backTo pos (starEach es X.env)).any (·.1) = false := by rfl) :
    PE X (.Call (.Name "len" p) (a :: es) [] pos) (tCB (fun xs H Q => ∃ z, xs = [.str z] ∧ z.length ≤ sizeLine ∧ Q (.int z.length) H) t) := pe_callB call_len_str hg hm PySem.boot_len ha (he := he) (hpl := hpl)
theorem pe_all {a : Expr} {es : List Expr} {t : TA} {p pos : Pos} (hc : X.calm = true) (hm : X.mg "all" = none) (ha : PA X (a :: es) t) (hg : Gl X "all" := by rfl) (he : starEach (a :: es) X.env = (false, eval a X.env) :: starEach es X.env := by rfl)
    (hpl : (backTo pos (starEach es X.env)).any (·.1) = false := by rfl) :
    PE X (.Call (.Name "all" p) (a :: es) [] pos) (tCB (rAll X.K) t) := pe_callB (cr_all hc) hg hm (by decide +kernel) ha (he := he) (hpl := hpl)
end
section
variable {P : Program} {w : World} {K : PySem.W.Frag} {mg : Str → Option Value} {base : Heap}
theorem scLetters : FnScope ["value", "letter"] ["value"] (defScope sLetters) := ⟨rfl, rfl, rfl, by decide +kernel, rfl, by decide +kernel, by decide +kernel⟩
theorem ok_letters {f : Addr} {fd : FuncData} (F : Fun K "are_letters" "are_letters" sLetters f fd) (B : Bi mg) (C : Bs mg) (N : Cn mg) : FnOk P w K mg base CX0 1 f fd ["value"] spLets := by
  refine F.ok scLetters (fun vs H Q E h => ?_) (fun cdv A outer s H vs Q E hr h => ?_)
  · obtain ⟨ls, rfl, _⟩ := h
    rfl
  · obtain ⟨ls, rfl, L, q⟩ := h
    refine ⟨_, pss_cons (ps_if (PW.pt (pw_or (pt_not (pt_val (pe_isStr B.isi (pa_cons (pv 0) (pa_cons (pe_ty "str" C.str) pa_nil))))) (pw_or1 (pt_not (pt_chain op_le op_le pe_int (pe_lenS B.len (pa_cons (pv 0) pa_nil)) pe_int))))) pss_never pss_nil)
      (pss_one (ps_ret (pe_and (pe_all rfl C.all (pa_cons (pe_lc (own := [("letter", 1)]) rfl scLetters.nd (pi_str (pv 0)) (blkOk_by (N := ["value", "letter"]) (sc := defScope sLetters) (by decide +kernel))
          (fun _ _ _ _ _ => pg_name (i := 1) scLetters.nd rfl (Or.inl rfl)) (fun _ _ _ _ _ => pts_nil) (fun _ _ _ _ _ => pe_cmpR op_in_sign (pv 1) (C8.pe_gc rfl N.alpha) rfl)) pa_nil))
        (pe_one (pe_cmpR op_eq (pe_lenSetS rfl rfl B.len rfl C.set (pv 0)) (pe_lenS B.len (pa_cons (pv 0) pa_nil)) (nomark _)))))), ?_⟩
    obtain ⟨t, ty, k1⟩ := (Kn.str (S ls) : Kn H _).isStr K
    have l26 : (S ls).length ≤ 26 := by rw [S_len]; exact L.hi
    have l2 : 2 ≤ (S ls).length := by rw [S_len]; exact L.lo
    have small : (S ls).length ≤ sizeLine := Nat.le_of_lt (small10 (by omega))
    refine ⟨_, rfl, _, _, _, _, _, rfl, .ty "str", ty, k1, _, rfl, iteF ⟨_, rfl, _, rfl, small, _, _, rfl, rfl, _, rfl, ?_⟩⟩
    rw [if_pos (decide_eq_true (by omega))]
    refine ⟨_, _, rfl, rfl, _, rfl, ?_⟩
    show (if (!decide (((S ls).length : Int) ≤ 26)) = true then _ else _)
    rw [decide_eq_true (by omega)]
    refine iteF ⟨_, rfl, _, rfl, fun D nD => lcS (fun c => .bl (decide (c ∈ abc))) (by rw [S_size]; have := L.hi; omega) nD ?_ ?_⟩
    · intro c H1 Q N hc e q
      exact ⟨rfl, yesT ⟨_, rfl, c, S abc, rfl, rfl, q⟩⟩
    · intro H1 e hD
      refine ⟨D, (ls.map fun c => decide (c ∈ abc)), rfl, ?_, ?_⟩
      · rw [List.map_map]
        exact SqL.of hD
      rw [List.all_map, show (ls.all (id ∘ fun c => decide (c ∈ abc))) = true from List.all_eq_true.mpr fun c hc => decide_eq_true (L.abc c hc)]
      refine ⟨true, rfl, iteT ⟨_, rfl, S ls, rfl, L.nd, by rw [S_size]; have := L.hi; omega, _, rfl, S ls, rfl, small, rfl, ?_⟩⟩
      rw [S_len, S_size, decide_eq_true rfl]
      exact q H1 e
theorem scIsWord : FnScope ["value", "letters", "letter"] ["value", "letters"] (defScope sIsWord) := ⟨rfl, rfl, rfl, by decide +kernel, rfl, by decide +kernel, by decide +kernel⟩
theorem ok_isWord {f : Addr} {fd : FuncData} (F : Fun K "is_word" "is_word" sIsWord f fd) (B : Bi mg) (C : Bs mg) (N : Cn mg) : FnOk P w K mg base CX0 1 f fd ["value", "letters"] spIsW := by
  refine F.ok scIsWord (fun vs H Q E h => ?_) (fun cdv A outer s H vs Q E hr h => ?_)
  · obtain ⟨v, ls, rfl, _⟩ := h
    rfl
  · obtain ⟨v, ls, rfl, kn, lv, q⟩ := h
    refine ⟨_, pss_one (ps_ret (pe_and (pe_isStr B.isi (pa_cons (pv 0) (pa_cons (pe_ty "str" C.str) pa_nil))) (pe_and (pe_cmpR op_le (pe_lenS B.len (pa_cons (pv 0) pa_nil)) (C8.pe_gc rfl N.longest) (nomark _))
      (pe_one (pe_all rfl C.all (pa_cons (pe_lc (own := [("letter", 2)]) rfl scIsWord.nd (pi_str (pv 0)) (blkOk_by (N := ["value", "letters", "letter"]) (sc := defScope sIsWord) (by decide +kernel))
          (fun _ _ _ _ _ => pg_name (i := 2) scIsWord.nd rfl (Or.inl rfl)) (fun _ _ _ _ _ => pts_nil) (fun _ _ _ _ _ => pe_cmpR op_in_sign (pv 2) (pv 1) rfl)) pa_nil)))))), ?_⟩
    obtain ⟨t, ty, k1⟩ := kn.isStr K
    refine ⟨_, rfl, _, _, _, _, _, rfl, .ty "str", ty, k1, _, rfl, ?_⟩
    cases v with
    | str x =>
      have lx := lv x rfl
      refine iteT ⟨_, rfl, x, rfl, Nat.le_of_lt (small10 lx), _, _, rfl, rfl, _, rfl, ?_⟩
      by_cases c : x.length ≤ 200
      · rw [decide_eq_true (show (x.length : Int) ≤ 200 by omega)]
        refine iteT ⟨_, rfl, _, rfl, fun D nD => lcS (fun c => .bl (decide (c ∈ ls))) lx nD ?_ ?_⟩
        · intro c H1 Q N hc e q
          exact ⟨rfl, yesT ⟨_, rfl, _, rfl, c, S ls, rfl, rfl, q⟩⟩
        · intro H1 e hD
          refine ⟨D, (x.cps.toList.map fun c => decide (c ∈ ls)), rfl, ?_, ?_⟩
          · rw [List.map_map]
            exact SqL.of hD
          rw [List.all_map]
          have q1 : Q (.bl (decide (x.length ≤ 200) && x.cps.toList.all fun c => decide (c ∈ ls))) H1 := q H1 e
          rw [decide_eq_true c, Bool.true_and] at q1
          exact q1
      · rw [decide_eq_false (show ¬ (x.length : Int) ≤ 200 by omega)]
        refine iteF ?_
        have q1 : Q (.bl (decide (x.length ≤ 200) && x.cps.toList.all fun c => decide (c ∈ ls))) H := q H (Same.refl H)
        rw [decide_eq_false c, Bool.false_and] at q1
        exact q1
    | _ => exact iteF (q H (Same.refl H))
end
end K02
set_option Elab.async false
set_option linter.all false
set_option maxRecDepth 100001
set_option maxHeartbeats 3999999
namespace K02
open PySem L2
/-- how many signs two texts begin with in common -/
def shr : List Nat → List Nat → Nat
  | x :: xs, y :: ys => if x = y then shr xs ys + 1 else 0
  | _, _ => 0
theorem shr_nil {l : List Nat} : shr l [] = 0 := by cases l <;> rfl
theorem shr_step {a b : List Nat} {i x y : Nat} (ha : a[i]? = some x) (hb : b[i]? = some y) : shr (a.drop i) (b.drop i) = if x = y then shr (a.drop (i + 1)) (b.drop (i + 1)) + 1 else 0 := by
  obtain ⟨h1, rfl⟩ := List.getElem?_eq_some_iff.mp ha
  obtain ⟨h2, rfl⟩ := List.getElem?_eq_some_iff.mp hb
  rw [List.drop_eq_getElem_cons h1, List.drop_eq_getElem_cons h2]
  rfl
theorem shr_le : ∀ (a b : List Nat), shr a b ≤ a.length ∧ shr a b ≤ b.length
  | x :: xs, y :: ys => by
    have ih := shr_le xs ys
    unfold shr
    simp only [List.length_cons]
    split <;> omega
  | [], _ => by simp [shr]
  | _ :: _, [] => by simp [shr]
def MonT (t : TT) : Prop := ∀ (σ : St) (H : Hp) (Q Q' : Bool → Hp → Prop), (∀ b H1, Q b H1 → Q' b H1) → t σ H Q → t σ H Q'
theorem mono_and {t u : TT} (ht : MonT t) (hu : MonT u) : MonT (tAnd t u) := fun σ H Q Q' m h => ht σ H _ _ (fun c H1 z => by
  cases c with
  | true =>
    rw [if_pos rfl] at z ⊢
    exact hu _ _ _ _ m z
  | false =>
    rw [if_neg (by decide)] at z ⊢
    exact m _ _ z) h
def spShared : Sp := fun vs H Q _ => ∃ a b, vs = [.str (S a), .str (S b)] ∧ a.length ≤ 10000 ∧ b.length ≤ 10000 ∧ Q (.int (shr a b : Nat)) H
def spPickS : Sp := fun vs H Q _ => ∃ (pn cl : Addr) (ls : List Nat) (b : Nat), vs = [.ref pn, .str (S ls)] ∧ Pen H pn cl b ∧ b ≤ 1000000 ∧ 0 < ls.length ∧ ls.length ≤ 1000 ∧ ∀ c H', c ∈ ls → But pn H H' → Pen H' pn cl (b + 1) → Q (.str (S [c])) H'
section
variable {P : Program} {w : World} {K : PySem.W.Frag} {mg : Str → Option Value} {base : Heap}
theorem ok_pickS {f : Addr} {fd : FuncData} (F : Fun K "_law_pick" "_law_pick" sPick f fd) (B : Bi mg) (cD : Cal CX0 P w K mg base 1 "_law_draw" spDraw) : FnOk P w K mg base CX0 2 f fd ["_law_pen_here", "_law_some"] spPickS := by
  refine F.ok scPick (fun vs H Q E h => ?_) (fun cdv A outer s H vs Q E hr h => ?_)
  · obtain ⟨pn, cl, ls, b, rfl, _⟩ := h
    rfl
  · obtain ⟨pn, cl, ls, b, rfl, pen, hb, l0, l1, q⟩ := h
    have small : (S ls).length ≤ sizeLine := by rw [S_len]; exact Nat.le_of_lt (small10 (by omega))
    refine ⟨_, pss_one (ps_ret (pe_ix ix_str (pv 1) (pe_c cD hr pass0 (pa_cons (pv 0) (pa_cons (pe_lenS B.len (pa_cons (pv 1) pa_nil)) pa_nil))) (fun _ _ => rfl))), ?_⟩
    refine ⟨_, rfl, _, rfl, _, rfl, _, rfl, small, pn, cl, _, b, rfl, pen, hb, by rw [S_len]; omega, by rw [S_len]; omega, fun r H' r0 r1 e pen2 => ?_⟩
    obtain ⟨r, rfl⟩ := Int.eq_ofNat_of_zero_le r0
    rw [S_len] at r1
    have lt : r < ls.length := by omega
    exact ⟨S ls, _, ls[r], rfl, rfl, small, atI_nat (List.getElem?_eq_getElem lt), q _ _ (List.getElem_mem lt) e pen2⟩
end
end K02
set_option Elab.async false
set_option linter.all false
set_option maxRecDepth 100001
set_option maxHeartbeats 3999999
namespace K02
open PySem L2
/-! ### texts compared, joined -/
def txs (ws : List (List Nat)) : List V := ws.map fun w => .str (S w)
def Nch (w : List Nat) : Prop := ∀ c ∈ w, c < 1114112
theorem S_ok {w : List Nat} (h : Nch w) : PyData.strOk (S w) = true := by
  show ((S w).cps.all (· < 0x110000)) = true
  rw [Array.all_eq_true']
  intro c hc
  exact decide_eq_true (h c (by simpa [S] using hc))
theorem flat_S {w : List Nat} (h : Nch w) : Flat (.str (S w)) := S_ok h
theorem flat_strs {ws : List (List Nat)} (h : ∀ w ∈ ws, Nch w) : ∀ v ∈ txs ws, Flat v := fun v hv => by
  obtain ⟨w, m, rfl⟩ := List.mem_map.mp hv
  exact flat_S (h w m)
theorem strs_len (ws : List (List Nat)) : (txs ws).length = ws.length := List.length_map ..
theorem str_inj {a b : List Nat} (h : V.str (S a) = V.str (S b)) : a = b := S_inj (V.str.inj h)
theorem strs_inj : ∀ {as bs : List (List Nat)}, txs as = txs bs → as = bs
  | [], [], _ => rfl
  | [], _ :: _, h => nomatch h
  | _ :: _, [], h => nomatch h
  | a :: as, b :: bs, h => by
    injection h with h1 h2
    rw [str_inj h1, strs_inj h2]
theorem decS {a b : List Nat} : decide (V.str (S a) = V.str (S b)) = decide (a = b) := decide_eq_decide.mpr ⟨str_inj, fun h => h ▸ rfl⟩
theorem eqvAll_strs : ∀ (as bs : List (List Nat)), PyData.eqvAll ((txs as).map dOf) ((txs bs).map dOf) = decide (as = bs)
  | [], [] => by simp [PyData.eqvAll, txs]
  | [], _ :: _ => by simp [PyData.eqvAll, txs]
  | _ :: _, [] => by simp [PyData.eqvAll, txs]
  | a :: as, b :: bs => by
    have ih := eqvAll_strs as bs
    have e : PyData.eqvAll ((txs (a :: as)).map dOf) ((txs (b :: bs)).map dOf) = (PyData.eqv (.str (S a)) (.str (S b)) && PyData.eqvAll ((txs as).map dOf) ((txs bs).map dOf)) := by simp only [txs, List.map_cons, PyData.eqvAll, dOf]
    have e2 : PyData.eqv (.str (S a)) (.str (S b)) = decide (a = b) := by
      have : PyData.eqv (.str (S a)) (.str (S b)) = (S a == S b) := by simp only [PyData.eqv]
      rw [this, Bool.eq_iff_iff, decide_eq_true_iff, beq_iff_eq]
      exact ⟨S_inj, fun h => h ▸ rfl⟩
    rw [e, ih, e2]
    by_cases h1 : a = b
    · by_cases h2 : as = bs
      · simp [h1, h2]
      · simp [h1, h2]
    · simp [h1]
theorem shL_flat {xs : List V} (h : ∀ v ∈ xs, Flat v) : SeqAt.shaped (.list (xs.map dOf)) = true := by
  have h1 := lay_flat h
  have h2 := depth_flat xs
  show (PyData.canLay0 (.list (xs.map dOf)) && decide (PyData.depth (.list (xs.map dOf)) ≤ 64)) = true
  rw [Bool.and_eq_true]
  refine ⟨by simp only [PyData.canLay0]; exact h1, decide_eq_true ?_⟩
  simp only [PyData.depth]
  omega
/-- two lists, or two tuples, of texts -/
def rEqT (K : PySem.W.Frag) (neg : Bool) : R2 := fun x y H Q => ∃ a b us vs, x = .ref a ∧ y = .ref b ∧ ((SqL K H a (txs us) ∧ SqL K H b (txs vs)) ∨ (SqT K H a (txs us) ∧ SqT K H b (txs vs))) ∧ (∀ v ∈ us, Nch v) ∧ (∀ v ∈ vs, Nch v) ∧ Q (.bl (if neg then !decide (us = vs) else decide (us = vs))) H
section
variable {X : Cx}
theorem op_eqT (hu : X.A.units + 64 < cLine) : OpR X (compareOp .Eq) (rEqT X.K false) := by
  intro pins s σ H x y v u Q I rx ry h
  obtain ⟨a, b, us, vs, rfl, rfl, d, nx, ny, q⟩ := h
  rcases d with ⟨d1, d2⟩ | ⟨d1, d2⟩
  · refine op_eqD hu pins s σ H _ _ v u Q I rx ry ⟨_, _, .lst d1 (dpAll_flat (flat_strs nx)), .lst d2 (dpAll_flat (flat_strs ny)), shL_flat (flat_strs nx), shL_flat (flat_strs ny), ?_⟩
    rw [show PyData.eqv (.list ((txs us).map dOf)) (.list ((txs vs).map dOf)) = decide (us = vs) by rw [← eqvAll_strs]; simp only [PyData.eqv]]
    exact q
  · refine op_eqD hu pins s σ H _ _ v u Q I rx ry ⟨_, _, .tup d1 (dpAll_flat (flat_strs nx)), .tup d2 (dpAll_flat (flat_strs ny)), shT_flat (flat_strs nx), shT_flat (flat_strs ny), ?_⟩
    rw [show PyData.eqv (.tuple ((txs us).map dOf)) (.tuple ((txs vs).map dOf)) = decide (us = vs) by rw [← eqvAll_strs]; simp only [PyData.eqv]]
    exact q
theorem op_neT (hu : X.A.units + 64 < cLine) : OpR X (compareOp .NotEq) (rEqT X.K true) := by
  intro pins s σ H x y v u Q I rx ry h
  obtain ⟨a, b, us, vs, rfl, rfl, d, nx, ny, q⟩ := h
  rcases d with ⟨d1, d2⟩ | ⟨d1, d2⟩
  · refine op_neD hu pins s σ H _ _ v u Q I rx ry ⟨_, _, .lst d1 (dpAll_flat (flat_strs nx)), .lst d2 (dpAll_flat (flat_strs ny)), shL_flat (flat_strs nx), shL_flat (flat_strs ny), ?_⟩
    rw [show PyData.eqv (.list ((txs us).map dOf)) (.list ((txs vs).map dOf)) = decide (us = vs) by rw [← eqvAll_strs]; simp only [PyData.eqv]]
    exact q
  · refine op_neD hu pins s σ H _ _ v u Q I rx ry ⟨_, _, .tup d1 (dpAll_flat (flat_strs nx)), .tup d2 (dpAll_flat (flat_strs ny)), shT_flat (flat_strs nx), shT_flat (flat_strs ny), ?_⟩
    rw [show PyData.eqv (.tuple ((txs us).map dOf)) (.tuple ((txs vs).map dOf)) = decide (us = vs) by rw [← eqvAll_strs]; simp only [PyData.eqv]]
    exact q
/-- two values that are the same data -/
def rSmD (K : PySem.W.Frag) : R2 := fun x y H Q => ∃ d, Dp K H x d ∧ Dp K H y d ∧ SeqAt.shaped d = true ∧ Q (.bl false) H
theorem op_neSmD (hu : X.A.units + 64 < cLine) : OpR X (compareOp .NotEq) (rSmD X.K) := by
  intro pins s σ H x y v u Q I rx ry h
  obtain ⟨d, d1, d2, sh, q⟩ := h
  refine op_neD hu pins s σ H _ _ v u Q I rx ry ⟨d, d, d1, d2, sh, sh, ?_⟩
  rw [SeqAt.eqv_refl _ (Bool.and_eq_true_iff.mp sh).1]
  exact q
end
theorem S_app (a b : List Nat) : S a ++ S b = S (a ++ b) := by
  show (⟨a.toArray ++ b.toArray⟩ : Str) = ⟨(a ++ b).toArray⟩
  simp
theorem join_signs : ∀ l : List Nat, Str.join (S []) (l.map fun c => S [c]) = S l
  | [] => rfl
  | [c] => rfl
  | c :: d :: r => by
    have ih := join_signs (d :: r)
    show S [c] ++ S [] ++ Str.join (S []) ((d :: r).map fun c => S [c]) = _
    rw [ih, S_app, S_app]
    rfl
theorem joined (l : List Nat) : Txt.join (S []) (l.map fun c => S [c]) = S l := by
  show Builtin.Str.glued _ _ = _
  rw [StrLaws.glued_eq_join, join_signs]
theorem empty_S : ("" : Str) = S [] := by decide +kernel
/-! ### a dict that is filled key by key -/
def asc (kf : Nat → Key) (vf : Nat → V) (n : Nat) : List (Key × V) := (List.range n).map fun j => (kf j, vf j)
theorem asc_len (kf : Nat → Key) (vf : Nat → V) (n : Nat) : (asc kf vf n).length = n := by simp [asc]
theorem asc_succ (kf : Nat → Key) (vf : Nat → V) (n : Nat) : asc kf vf (n + 1) = asc kf vf n ++ [(kf n, vf n)] := by
  unfold asc
  rw [List.range_succ, List.map_append]
  rfl
theorem asc_none {kf : Nat → Key} {vf : Nat → V} {k : Key} {n : Nat} (h : ∀ j, j < n → kf j ≠ k) : valV (asc kf vf n) k = none := by
  unfold valV
  rw [Option.map_eq_none_iff, List.find?_eq_none]
  intro x hx
  obtain ⟨j, hj, rfl⟩ := List.mem_map.mp hx
  simpa using h j (List.mem_range.mp hj)
theorem asc_at {kf : Nat → Key} {vf : Nat → V} {j : Nat} : ∀ {n : Nat}, j < n → (∀ i l, i < n → l < n → kf i = kf l → i = l) → valV (asc kf vf n) (kf j) = some (vf j)
  | 0, h, _ => absurd h (Nat.not_lt_zero _)
  | n + 1, h, inj => by
    rw [asc_succ, valV_snoc _ _ _ _ (asc_none fun i hi e => by have := inj i n (by omega) (by omega) e; omega)]
    by_cases c : j = n
    · rw [c, if_pos rfl]
    · rw [if_neg fun e => c (inj j n h (by omega) e)]
      exact asc_at (by omega) fun i l h1 h2 => inj i l (by omega) (by omega)
theorem asc_put {kf : Nat → Key} {vf : Nat → V} {n : Nat} (h : ∀ j, j < n → kf j ≠ kf n) : putK (asc kf vf n) (kf n) (vf n) = asc kf vf (n + 1) := by
  rw [putK_new _ (asc_none h), asc_succ]
/-! ### a dictionary -/
def key (ls w : List Nat) : List Nat := w.map fun c => 97 + ls.idxOf c
def plainF (ls : List Nat) (j : Nat) : Key := .inr (S [ls.getD j 0])
def plainK (ls : List Nat) : List (Key × V) := asc (plainF ls) (fun j => .str (S [97 + j])) ls.length
def numF (ws : List (List Nat)) (j : Nat) : Key := .inr (S (ws.getD j []))
def numK (ws : List (List Nat)) : List (Key × V) := asc (numF ws) (fun j => .int (j : Nat)) ws.length
theorem sg_inj {a b : Nat} (h : S [a] = S [b]) : a = b := (List.cons.inj (S_inj h)).1
theorem nd_at {α : Type} {l : List α} {d : α} (nd : l.Nodup) {i j : Nat} (hi : i < l.length) (hj : j < l.length) (e : l.getD i d = l.getD j d) : i = j := by
  rw [List.getD_eq_getElem?_getD, List.getD_eq_getElem?_getD, List.getElem?_eq_getElem hi, List.getElem?_eq_getElem hj] at e
  have p := List.pairwise_iff_getElem.mp nd
  rcases Nat.lt_trichotomy i j with h | h | h
  · exact absurd (Option.some.inj (by simpa using congrArg some e)) (p i j hi hj h)
  · exact h
  · exact absurd (Option.some.inj (by simpa using congrArg some e.symm)) (p j i hj hi h)
theorem plain_inj {ls : List Nat} (nd : ls.Nodup) : ∀ i l, i < ls.length → l < ls.length → plainF ls i = plainF ls l → i = l := fun i l hi hl e => nd_at nd hi hl (sg_inj (Sum.inr.inj e))
theorem num_inj {ws : List (List Nat)} (nd : ws.Nodup) : ∀ i l, i < ws.length → l < ws.length → numF ws i = numF ws l → i = l := fun i l hi hl e => nd_at nd hi hl (S_inj (Sum.inr.inj e))
theorem plain_at {ls : List Nat} (nd : ls.Nodup) {c : Nat} (h : c ∈ ls) : valV (plainK ls) (.inr (S [c])) = some (.str (S [97 + ls.idxOf c])) := by
  have lt := List.idxOf_lt_length_of_mem h
  have e : plainF ls (ls.idxOf c) = .inr (S [c]) := by
    unfold plainF
    rw [List.getD_eq_getElem?_getD, List.getElem?_eq_getElem lt, Option.getD_some, List.getElem_idxOf]
  rw [← e]
  exact asc_at lt (plain_inj nd)
theorem num_at {ws : List (List Nat)} (nd : ws.Nodup) {i : Nat} {w : List Nat} (h : ws[i]? = some w) : valV (numK ws) (.inr (S w)) = some (.int (i : Nat)) := by
  have lt := (List.getElem?_eq_some_iff.mp h).1
  have e : numF ws i = .inr (S w) := by
    unfold numF
    rw [List.getD_eq_getElem?_getD, h, Option.getD_some]
  rw [← e]
  exact asc_at lt (num_inj nd)
theorem num_none {ws : List (List Nat)} {z : Str} (h : z.cps.toList ∉ ws) : valV (numK ws) (.inr z) = none := asc_none fun j hj e => h (by
  have e := S_inj (Sum.inr.inj e)
  rw [List.getD_eq_getElem?_getD, List.getElem?_eq_getElem hj, Option.getD_some] at e
  rw [← e]
  exact List.getElem_mem hj)
def dicF (ls : List Nat) (p t : Addr) (n : Int) (kk nn : Addr) : List (Str × V) := putF "_numbers" (.ref nn) (putF "_keys" (.ref kk) (putF "many" (.int n) (putF "words" (.ref t) (putF "_plain" (.ref p) (putF "letters" (.str (S ls)) [])))))
section
variable (ls : List Nat) (p t : Addr) (n : Int) (kk nn : Addr)
theorem df_numbers : (dicF ls p t n kk nn).lookup ("_numbers" : Str) = some (.ref nn) := by
  unfold dicF
  rw [lookup_putF, if_pos rfl]
theorem df_keys : (dicF ls p t n kk nn).lookup ("_keys" : Str) = some (.ref kk) := by
  unfold dicF
  rw [lookup_putF, if_neg (by decide +kernel), lookup_putF, if_pos rfl]
theorem df_many : (dicF ls p t n kk nn).lookup ("many" : Str) = some (.int n) := by
  unfold dicF
  rw [lookup_putF, if_neg (by decide +kernel), lookup_putF, if_neg (by decide +kernel), lookup_putF, if_pos rfl]
theorem df_words : (dicF ls p t n kk nn).lookup ("words" : Str) = some (.ref t) := by
  unfold dicF
  rw [lookup_putF, if_neg (by decide +kernel), lookup_putF, if_neg (by decide +kernel), lookup_putF, if_neg (by decide +kernel), lookup_putF, if_pos rfl]
theorem df_plain : (dicF ls p t n kk nn).lookup ("_plain" : Str) = some (.ref p) := by
  unfold dicF
  rw [lookup_putF, if_neg (by decide +kernel), lookup_putF, if_neg (by decide +kernel), lookup_putF, if_neg (by decide +kernel), lookup_putF, if_neg (by decide +kernel), lookup_putF, if_pos rfl]
theorem df_letters : (dicF ls p t n kk nn).lookup ("letters" : Str) = some (.str (S ls)) := by
  unfold dicF
  rw [lookup_putF, if_neg (by decide +kernel), lookup_putF, if_neg (by decide +kernel), lookup_putF, if_neg (by decide +kernel), lookup_putF, if_neg (by decide +kernel), lookup_putF, if_neg (by decide +kernel), lookup_putF, if_pos rfl]
end
/-- what the class is known by -/
structure Txd (K : PySem.W.Frag) (C : Addr) : Prop where
  cl : Cls K C
  nL : NoAttr K C "letters"
  nP : NoAttr K C "_plain"
  nW : NoAttr K C "words"
  nM : NoAttr K C "many"
  nK : NoAttr K C "_keys"
  nN : NoAttr K C "_numbers"
/-- at p: the dictionary of these letters and these words -/
def IsD (C : Addr) (H : Hp) (p : Addr) (ls : List Nat) (ws : List (List Nat)) : Prop := ∃ (dx pl t kk nn : Addr), H p = some (.ins C dx (dicF ls pl t (ws.length : Nat) kk nn)) ∧ H pl = some (.dK (plainK ls)) ∧ H t = some (.tup (txs ws)) ∧ H kk = some (.lst (txs (ws.map (key ls)))) ∧ H nn = some (.dK (numK ws))
theorem IsD.same {C : Addr} {H H' : Hp} {p : Addr} {ls : List Nat} {ws : List (List Nat)} (h : IsD C H p ls ws) (e : Same H H') : IsD C H' p ls ws :=
  let ⟨dx, pl, t, kk, nn, h1, h2, h3, h4, h5⟩ := h
  ⟨dx, pl, t, kk, nn, e _ _ h1, e _ _ h2, e _ _ h3, e _ _ h4, e _ _ h5⟩
/-- letters and words as a dictionary has them -/
structure OkD (ls : List Nat) (ws : List (List Nat)) : Prop where
  L : Lets ls
  many : ws.length ≤ 2000
  word : ∀ w ∈ ws, w.length ≤ 200 ∧ ∀ c ∈ w, c ∈ ls
  up : ws.Pairwise fun a b => key ls a < key ls b
theorem Lets.nch {ls : List Nat} (L : Lets ls) {w : List Nat} (h : ∀ c ∈ w, c ∈ ls) : Nch w := fun c hc => by
  obtain ⟨i, hi, rfl⟩ := List.mem_map.mp (L.abc c (h c hc))
  have := List.mem_range.mp hi
  omega
theorem OkD.nch {ls : List Nat} {ws : List (List Nat)} (O : OkD ls ws) : ∀ w ∈ ws, Nch w := fun w hw => O.L.nch (O.word w hw).2
theorem OkD.nd {ls : List Nat} {ws : List (List Nat)} (O : OkD ls ws) : ws.Nodup := O.up.imp fun h e => by
  rw [e] at h
  exact List.lt_irrefl _ h
end K02
set_option Elab.async false
set_option linter.all false
set_option maxRecDepth 100001
set_option maxHeartbeats 3999999
namespace K02
open PySem L2
abbrev sD (j : Nat) : Stmt := inClass (topS 24) j
abbrev sInit : Stmt := sD 0
abbrev sEq : Stmt := sD 1
abbrev sKeyOf : Stmt := sD 2
abbrev sAhead : Stmt := sD 3
abbrev sHasW : Stmt := sD 4
abbrev sNumOf : Stmt := sD 5
abbrev sPlace : Stmt := sD 7
/-- an own exception class of the module -/
structure Xc (P : Program) (w : World) (K : PySem.W.Frag) (mg : Str → Option Value) (base : Heap) (k : Nat) (x : Str) (C : Addr) (sp : Sp) : Prop where
  T : OexC K C
  mgC : mg x = some (.ref C)
  ex : ∃ (f : Addr) (fd : FuncData) (ps : List Str), PySem.W.findIn K (.ref C) "__init__" = some (some (.ref f)) ∧ PySem.W.typeIn K (.ref f) = some (.type "function") ∧ FnOk P w K mg base CX0 k f fd ps sp ∧ Binds K fd ps []
section
variable {X : Cx} {k j : Nat} {x : Str} {C : Addr} {sp : Sp} {e : Expr} {es : List Expr} {t : TA} {p pos : Pos}
theorem pmk_x (c : Xc X.prog X.w X.K X.mg X.base k x C sp) (hr : Room j X.A) (ha : PA X (e :: es) t) (hk : k + 1 ≤ j := by decide) (hg : Gl X x := by rfl) (hdb : (x == ("__debug__" : Str)) = false := by decide)
    (he : starEach (e :: es) X.env = (false, eval e X.env) :: starEach es X.env := by rfl) (hpl : (backTo pos (starEach es X.env)).any (·.1) = false := by rfl) : PMk X (.Call (.Name x p) (e :: es) [] pos) (tMkO C sp [] t) := by
  obtain ⟨f, fd, ps, i1, i2, F, b⟩ := c.ex
  exact pmk_oex c.T i1 i2 F (hr.mono hk) b .nil pass0 hg c.mgC ha hdb he hpl
end
/-! ### the key of a word -/
/-- the letters of an instance, put into the letters a, b, c, .. -/
def PlainAt (C : Addr) (H : Hp) (p : Addr) (ls : List Nat) : Prop := ∃ (dx pl : Addr) (fs : List (Str × V)), H p = some (.ins C dx fs) ∧ fs.lookup ("_plain" : Str) = some (.ref pl) ∧ H pl = some (.dK (plainK ls))
theorem IsD.plain {C : Addr} {H : Hp} {p : Addr} {ls : List Nat} {ws : List (List Nat)} (h : IsD C H p ls ws) : PlainAt C H p ls :=
  let ⟨dx, pl, t, kk, nn, h1, h2, _⟩ := h
  ⟨dx, pl, _, h1, df_plain _ _ _ _ _ _, h2⟩
def spKeyOf (C : Addr) : Sp := fun vs H Q _ => ∃ p ls w, vs = [.ref p, .str (S w)] ∧ PlainAt C H p ls ∧ ls.Nodup ∧ (∀ c ∈ w, c ∈ ls) ∧ w.length ≤ 1000 ∧ ∀ H', Same H H' → Q (.str (S (key ls w))) H'
section
variable {P : Program} {w : World} {K : PySem.W.Frag} {mg : Str → Option Value} {base : Heap}
theorem scKeyOf : FnScope ["self", "word", "letter"] ["self", "word"] (defScope sKeyOf) := ⟨rfl, rfl, rfl, by decide +kernel, rfl, by decide +kernel, by decide +kernel⟩
theorem ok_keyOf {f C : Addr} {fd : FuncData} (F : Fun K "_key_of" "Dictionary._key_of" sKeyOf f fd) (T : Txd K C) : FnOk P w K mg base CX0 1 f fd ["self", "word"] (spKeyOf C) := by
  refine F.ok scKeyOf (fun vs H Q E h => ?_) (fun cdv A outer s H vs Q E hr h => ?_)
  · obtain ⟨p, ls, w, rfl, _⟩ := h
    rfl
  · obtain ⟨p, ls, w, rfl, ⟨dx, pl, fs, h1, h2, h3⟩, nd, hw, lw, q⟩ := h
    refine ⟨_, pss_one (ps_ret (pe_join pe_str (pe_lc (own := [("letter", 2)]) rfl scKeyOf.nd (pi_str (pv 1)) (blkOk_by (N := ["self", "word", "letter"]) (sc := defScope sKeyOf) (by decide +kernel))
          (fun _ _ _ _ _ => pg_name (i := 2) scKeyOf.nd rfl (Or.inl rfl)) (fun _ _ _ _ _ => pts_nil) (fun _ _ _ _ _ => pe_dget (hu_of hr) (pe_fldK (K := K) rfl (pv 0) rfl) (pv 2) (fun _ _ => rfl))))), ?_⟩
    refine ⟨⟨_, rfl⟩, _, rfl, _, rfl, fun D nD => lcS (fun c => .str (S [97 + ls.idxOf c])) (by rw [S_size]; omega) nD ?_ ?_⟩
    · intro c H1 Q1 N hc e q1
      exact ⟨rfl, yesT ⟨_, rfl, p, C, dx, fs, _, rfl, e _ _ h1, T.cl, T.nP, h2, _, rfl, pl, _, rfl, by
        have := DGet.k (k := Sum.inr (S [c])) (e _ _ h3)
        rw [plain_at nd (hw c hc)] at this
        exact this, q1⟩⟩
    · intro H1 e hD
      refine ⟨_, D, (key ls w).map fun c => S [c], rfl, rfl, .inl ?_, ?_, ?_⟩
      · have e3 : (w.map fun c => V.str (S [97 + ls.idxOf c])) = ((key ls w).map fun c => S [c]).map V.str := by
          unfold key
          rw [List.map_map, List.map_map]
          rfl
        rw [← e3]
        exact SqL.of hD
      · have : ∀ l : List Nat, ((l.map fun c => S [c]).map (·.length)).sum = l.length := fun l => by
          induction l with
          | nil => rfl
          | cons c l ih =>
            simp only [List.map_cons, List.sum_cons, ih, S_len, List.length_cons, List.length_nil]
            omega
        rw [this, List.length_map]
        have : (key ls w).length = w.length := List.length_map ..
        rw [this]
        show w.length + w.length * ("" : Str).length ≤ _
        rw [empty_S, S_len]
        simp only [List.length_nil]
        omega
      · show Q (.str (Txt.join "" _)) H1
        rw [empty_S, joined]
        exact q H1 e
end
end K02
set_option Elab.async false
set_option linter.all false
set_option maxRecDepth 100001
set_option maxHeartbeats 3999999
namespace K02
open PySem L2
/-- how many words have a key ahead of this one -/
def ahead (ls : List Nat) (ws : List (List Nat)) (k : List Nat) : Nat := ws.countP fun w => decide (key ls w < k)
theorem countP_cut {α : Type} (p : α → Bool) : ∀ (l : List α) (n : Nat), n ≤ l.length → (∀ i x, i < n → l[i]? = some x → p x = true) → (∀ i x, n ≤ i → l[i]? = some x → p x = false) → l.countP p = n
  | [], n, h, _, _ => by simp at h; simp [h]
  | x :: xs, 0, _, _, h2 => by
    have ih := countP_cut p xs 0 (Nat.zero_le _) (fun i x h => absurd h (Nat.not_lt_zero _)) fun i y _ e => h2 (i + 1) y (Nat.zero_le _) (by simpa using e)
    rw [List.countP_cons_of_neg (by rw [h2 0 x (Nat.le_refl _) rfl]; decide), ih]
  | x :: xs, n + 1, h, h1, h2 => by
    have ih := countP_cut p xs n (by simp at h; omega) (fun i y l e => h1 (i + 1) y (by omega) (by simpa using e)) fun i y l e => h2 (i + 1) y (by omega) (by simpa using e)
    rw [List.countP_cons_of_pos (h1 0 x (by omega) rfl), ih]
theorem up_at {ls : List Nat} {ws : List (List Nat)} (up : ws.Pairwise fun a b => key ls a < key ls b) {i j : Nat} {a b : List Nat} (h : i < j) (ha : ws[i]? = some a) (hb : ws[j]? = some b) : key ls a < key ls b := by
  obtain ⟨hi, rfl⟩ := List.getElem?_eq_some_iff.mp ha
  obtain ⟨hj, rfl⟩ := List.getElem?_eq_some_iff.mp hb
  exact List.pairwise_iff_getElem.mp up i j hi hj h
def spAhead (C : Addr) : Sp := fun vs H Q _ => ∃ p ls ws k, vs = [.ref p, .str (S k)] ∧ IsD C H p ls ws ∧ (ws.Pairwise fun a b => key ls a < key ls b) ∧ ws.length ≤ 2000 ∧ Q (.int (ahead ls ws k : Nat)) H
section
variable {P : Program} {w : World} {K : PySem.W.Frag} {mg : Str → Option Value} {base : Heap}
theorem scAhead : FnScope ["self", "key", "low", "high", "middle"] ["self", "key"] (defScope sAhead) := ⟨rfl, rfl, rfl, by decide +kernel, rfl, by decide +kernel, by decide +kernel⟩
theorem ok_ahead {f C : Addr} {fd : FuncData} (F : Fun K "_keys_ahead" "Dictionary._keys_ahead" sAhead f fd) (T : Txd K C) : FnOk P w K mg base CX0 1 f fd ["self", "key"] (spAhead C) := by
  refine F.ok scAhead (fun vs H Q E h => ?_) (fun cdv A outer s H vs Q E hr h => ?_)
  · obtain ⟨p, ls, ws, k, rfl, _⟩ := h
    rfl
  · obtain ⟨p, ls, ws, k, rfl, ⟨dx, pl, t, kk, nn, h1, h2, h3, h4, h5⟩, up, lw, q⟩ := h
    refine ⟨_, pss_cons (ps_par (i := 2) (j := 3) rfl scAhead.nd rfl rfl (by decide) rfl rfl (pa_cons pe_int (pa_cons (pe_fld (pv 0) rfl) pa_nil)) rfl)
      (pss_cons (ps_while PassesOwn.never (pt_cmpR op_lt (pv 2) (pv 3) (nomark _))
        (pss_cons (ps_set (i := 4) scAhead.nd rfl (Or.inl rfl) (pe_op op_fdiv (pe_op op_add (pv 2) (pv 3)) pe_int))
        (pss_one (ps_if (pt_cmpR op_lt_str (pe_ix ix_list (pe_fld (pv 0) rfl) (pv 4) (fun _ _ => rfl)) (pv 1) (nomark _))
          (pss_one (ps_set (i := 2) scAhead.nd rfl (Or.inl rfl) (pe_op op_add (pv 4) pe_int))) (pss_one (ps_set (i := 3) scAhead.nd rfl (Or.inl rfl) (pv 4)))))))
      (pss_one (ps_ret (pv 2)))), ?_⟩
    refine ⟨_, rfl, p, C, dx, _, _, rfl, h1, T.cl, T.nM, df_many _ _ _ _ _ _, _, _, rfl, ?_⟩
    refine while_by (fun σ H' => ∃ (lo hi : Nat) (a : Option V), σ = [some (.ref p), some (.str (S k)), some (.int (lo : Nat)), some (.int (hi : Nat)), a] ∧ H' = H ∧ lo ≤ hi ∧ hi ≤ ws.length ∧ (∀ i w, i < lo → ws[i]? = some w → key ls w < k) ∧ (∀ i w, hi ≤ i → ws[i]? = some w → ¬ key ls w < k))
      (fun σ _ => match σ with | [_, _, some (.int lo), some (.int hi), _] => (hi - lo).toNat | _ => 0) ⟨0, ws.length, none, rfl, rfl, Nat.zero_le _, Nat.le_refl _, fun i w h => absurd h (Nat.not_lt_zero _), fun i w h e => absurd (List.getElem?_eq_some_iff.mp e).1 (by omega)⟩ ?_ ?_
    · rintro σ H1 ⟨lo, hi, a, rfl, rfl, g1, g2, g3, g4⟩
      refine ⟨_, rfl, _, rfl, _, _, rfl, rfl, _, rfl, ?_⟩
      by_cases c : lo < hi
      · rw [decide_eq_true (show (lo : Int) < (hi : Nat) by omega)]
        refine iteT ?_
        refine ⟨_, rfl, _, rfl, _, _, rfl, rfl, _, _, rfl, rfl, ⟨by decide, by decide⟩, ?_⟩
        obtain ⟨mid, em⟩ := Int.eq_ofNat_of_zero_le (show (0 : Int) ≤ (((lo : Nat) : Int) + ((hi : Nat) : Int)) / 2 by omega)
        have m1 : lo ≤ mid := by omega
        have m2 : mid < hi := by omega
        rw [show (fun i j : Int => V.int (i / j)) (((lo : Nat) : Int) + ((hi : Nat) : Int)) 2 = V.int (mid : Nat) from congrArg V.int em]
        have lt : mid < ws.length := by omega
        have ew := List.getElem?_eq_getElem lt
        have ek : (txs (ws.map (key ls)))[mid]? = some (.str (S (key ls ws[mid]))) := by
          unfold txs
          rw [List.getElem?_map, List.getElem?_map, ew]
          rfl
        refine ⟨_, rfl, p, C, dx, _, _, rfl, h1, T.cl, T.nK, df_keys _ _ _ _ _ _, _, rfl, kk, _, _, _, rfl, rfl, SqL.of h4, atI_nat ek, _, rfl, _, _, rfl, rfl, _, rfl, ?_⟩
        by_cases d : key ls ws[mid] < k
        · rw [decide_eq_true (show (S (key ls ws[mid])).cps.toList < (S k).cps.toList from d)]
          refine iteT ⟨_, rfl, _, _, rfl, rfl, ⟨mid + 1, hi, _, rfl, rfl, m2, g2, fun i w hi' hw => ?_, g4⟩, ?_⟩
          · by_cases e : i = mid
            · subst e
              rw [ew] at hw
              cases hw
              exact d
            · exact List.lt_trans (up_at up (by omega) hw ew) d
          · show (((hi : Nat) : Int) - (((mid : Nat) : Int) + 1)).toNat < (((hi : Nat) : Int) - ((lo : Nat) : Int)).toNat
            omega
        · rw [decide_eq_false (show ¬ (S (key ls ws[mid])).cps.toList < (S k).cps.toList from d)]
          refine iteF ⟨_, rfl, ⟨lo, mid, _, rfl, rfl, m1, by omega, g3, fun i w hi' hw z => ?_⟩, ?_⟩
          · by_cases e : i = mid
            · subst e
              rw [ew] at hw
              cases hw
              exact d z
            · exact d (List.lt_trans (up_at up (by omega) ew hw) z)
          · show (((mid : Nat) : Int) - ((lo : Nat) : Int)).toNat < (((hi : Nat) : Int) - ((lo : Nat) : Int)).toNat
            omega
      · rw [decide_eq_false (show ¬ (lo : Int) < (hi : Nat) by omega)]
        refine iteF ⟨_, rfl, ?_⟩
        have e : ahead ls ws k = lo := countP_cut _ ws lo (by omega) (fun i w hi' hw => decide_eq_true (g3 i w hi' hw)) fun i w hi' hw => decide_eq_false (g4 i w (by omega) hw)
        rw [← e]
        exact q
    · exact fun σ H Q Q' m ⟨v, h1, u, h2, i, j, e1, e2, b, e5, x⟩ => ⟨v, h1, u, h2, i, j, e1, e2, b, e5, m _ _ x⟩
end
end K02
set_option Elab.async false
set_option linter.all false
set_option maxRecDepth 100001
set_option maxHeartbeats 3999999
namespace K02
open PySem L2
theorem df_no {ls : List Nat} {p t : Addr} {n : Int} {kk nn : Addr} {x : Str} (h : x ∉ (["_numbers", "_keys", "many", "words", "_plain", "letters"] : List Str) := by decide +kernel) : (dicF ls p t n kk nn).lookup x = none := by
  simp only [List.mem_cons, List.not_mem_nil, not_or] at h
  obtain ⟨h1, h2, h3, h4, h5, h6, _⟩ := h
  unfold dicF
  rw [lookup_putF, if_neg h1, lookup_putF, if_neg h2, lookup_putF, if_neg h3, lookup_putF, if_neg h4, lookup_putF, if_neg h5, lookup_putF, if_neg h6]
  rfl
def hasW (ws : List (List Nat)) : V → Bool
  | .str z => decide (z.cps.toList ∈ ws)
  | _ => false
def spHas (C : Addr) : Sp := fun vs H Q _ => ∃ p v ls ws, vs = [.ref p, v] ∧ IsD C H p ls ws ∧ ws.Nodup ∧ Kn H v ∧ Q (.bl (hasW ws v)) H
def spNumOf (C CN : Addr) : Sp := fun vs H Q E => ∃ p v ls ws, vs = [.ref p, v] ∧ IsD C H p ls ws ∧ ws.Nodup ∧ ((∃ i w, v = .str (S w) ∧ ws[i]? = some w ∧ Q (.int (i : Nat)) H) ∨ (∃ d, hasW ws v = false ∧ Odd H v d ∧ ∀ dd H', RsO H H' dd "word" d → E (.ref CN) (some dd) H'))
def spWordOf (C CN : Addr) : Sp := fun vs H Q E => ∃ p v ls ws, vs = [.ref p, v] ∧ IsD C H p ls ws ∧ ((∃ (i : Nat) (w : List Nat), v = .int (i : Nat) ∧ ws[i]? = some w ∧ Q (.str (S w)) H) ∨ (∃ d, btw v 0 ((ws.length : Nat) - 1) = false ∧ Odd H v d ∧ ∀ dd H', RsO H H' dd "number" d → E (.ref CN) (some dd) H'))
def spPlace (C CN : Addr) : Sp := fun vs H Q E => ∃ p v ls ws, vs = [.ref p, v] ∧ IsD C H p ls ws ∧ OkD ls ws ∧ ((∃ w, v = .str (S w) ∧ w.length ≤ 200 ∧ (∀ c ∈ w, c ∈ ls) ∧ ∀ H', Same H H' → Q (.int (ahead ls ws (key ls w) : Nat)) H') ∨ (∃ d, isW ls v = false ∧ (∀ x, v = .str x → x.length ≤ 10000) ∧ Odd H v d ∧ ∀ dd H', RsO H H' dd "word" d → E (.ref CN) (some dd) H'))
theorem RsO.back {H H1 H' : Hp} {d : Addr} {f : Str} {dd : PyData} (e : Same H H1) (r : RsO H1 H' d f dd) : RsO H H' d f dd := by
  refine ⟨?_, e.trans r.same, r.at_⟩
  cases z : H d with
  | none => rfl
  | some o =>
    have := e _ _ z
    rw [r.new] at this
    cases this
section
variable {P : Program} {w : World} {K : PySem.W.Frag} {mg : Str → Option Value} {base : Heap}
theorem scHasW : FnScope ["self", "word"] ["self", "word"] (defScope sHasW) := ⟨rfl, rfl, rfl, by decide +kernel, rfl, by decide +kernel, by decide +kernel⟩
theorem ok_hasW {f C : Addr} {fd : FuncData} (F : Fun K "has_word" "Dictionary.has_word" sHasW f fd) (B : Bi mg) (C' : Bs mg) (T : Txd K C) : FnOk P w K mg base CX0 1 f fd ["self", "word"] (spHas C) := by
  refine F.ok scHasW (fun vs H Q E h => ?_) (fun cdv A outer s H vs Q E hr h => ?_)
  · obtain ⟨p, v, ls, ws, rfl, _⟩ := h
    rfl
  · obtain ⟨p, v, ls, ws, rfl, ⟨dx, pl, t, kk, nn, h1, h2, h3, h4, h5⟩, nd, kn, q⟩ := h
    refine ⟨_, pss_one (ps_ret (pe_and (pe_isStr B.isi (pa_cons (pv 1) (pa_cons (pe_ty "str" C'.str) pa_nil))) (pe_one (pe_cmp (pc_din (hu_of hr) (pv 1) (pe_fld (pv 0) rfl)))))), ?_⟩
    obtain ⟨t', ty, k1⟩ := kn.isStr K
    refine ⟨_, rfl, _, _, _, _, _, rfl, .ty "str", ty, k1, _, rfl, ?_⟩
    cases v with
    | str z =>
      refine iteT ⟨_, rfl, _, rfl, p, C, dx, _, _, rfl, h1, T.cl, T.nN, df_numbers _ _ _ _ _ _, nn, _, rfl, DGet.k (k := Sum.inr z) h5, ?_⟩
      have e : (valV (numK ws) (Sum.inr z)).isSome = decide (z.cps.toList ∈ ws) := by
        by_cases c : z.cps.toList ∈ ws
        · obtain ⟨i, hi, e⟩ := List.getElem_of_mem c
          have e3 : z = S ws[i] := by rw [e]; rfl
          rw [decide_eq_true c, e3, num_at nd (List.getElem?_eq_getElem hi)]
          rfl
        · rw [decide_eq_false c, num_none c]
          rfl
      rw [e]
      exact q
    | _ => exact iteF q
theorem scNumOf : FnScope ["self", "word"] ["self", "word"] (defScope sNumOf) := ⟨rfl, rfl, rfl, by decide +kernel, rfl, by decide +kernel, by decide +kernel⟩
theorem ok_numOf {f C CN : Addr} {fd : FuncData} (F : Fun K "number_of" "Dictionary.number_of" sNumOf f fd) (T : Txd K C) (mH : Met CX0 P w K mg base 1 C "has_word" (spHas C))
    (xN : Xc P w K mg base 3 "NoWord" CN (spXO K "word")) (nN : PySem.W.findIn K (.ref CN) "word" = some none) : FnOk P w K mg base (L2.CX P w) 5 f fd ["self", "word"] (spNumOf C CN) := by
  refine F.okX scNumOf (fun vs H Q E h => ?_) (fun cdv A outer s H vs Q E hr h => ?_)
  · obtain ⟨p, v, ls, ws, rfl, _⟩ := h
    rfl
  · obtain ⟨p, v, ls, ws, rfl, D, nd, h⟩ := h
    obtain ⟨dx, pl, t, kk, nn, h1, h2, h3, h4, h5⟩ := id D
    refine ⟨_, pss_cons (ps_if (pt_not (pt_val (pe_mt mH hr pass0 (pv 0) (pa_cons (pv 1) pa_nil)))) (pss_one (ps_raise rfl (takes_of rfl rfl rfl rfl) (pmk_x xN hr (pa_cons (pv 1) pa_nil)))) pss_nil)
      (pss_one (ps_ret (pe_dget (hu_of hr) (pe_fld (pv 0) rfl) (pv 1) (fun _ _ => rfl)))), ?_⟩
    rcases h with ⟨i, w, rfl, hw, q⟩ | ⟨d, hn, od, q⟩
    · refine ⟨_, rfl, p, dx, _, rfl, h1, df_no, _, rfl, p, _, ls, ws, rfl, D, nd, .str _, _, rfl, ?_⟩
      rw [show hasW ws (.str (S w)) = true from decide_eq_true (List.mem_of_getElem? hw)]
      exact iteF ⟨_, rfl, p, C, dx, _, _, rfl, h1, T.cl, T.nN, df_numbers _ _ _ _ _ _, _, rfl, nn, _, rfl, by
        have := DGet.k (k := Sum.inr (S w)) h5
        rw [num_at nd hw] at this
        exact this, q⟩
    · refine ⟨_, rfl, p, dx, _, rfl, h1, df_no, _, rfl, p, v, ls, ws, rfl, D, nd, od.kn, _, rfl, ?_⟩
      rw [hn]
      exact iteT ⟨v, rfl, raiseO xN.T nN od q⟩
theorem scPlace : FnScope ["self", "word"] ["self", "word"] (defScope sPlace) := ⟨rfl, rfl, rfl, by decide +kernel, rfl, by decide +kernel, by decide +kernel⟩
theorem ok_place {f C CN : Addr} {fd : FuncData} (F : Fun K "place_for" "Dictionary.place_for" sPlace f fd) (T : Txd K C) (cW : Cal CX0 P w K mg base 1 "is_word" spIsW) (mK : Met CX0 P w K mg base 1 C "_key_of" (spKeyOf C)) (mA : Met CX0 P w K mg base 1 C "_keys_ahead" (spAhead C))
    (xN : Xc P w K mg base 3 "NotWord" CN (spXO K "word")) (nN : PySem.W.findIn K (.ref CN) "word" = some none) : FnOk P w K mg base (L2.CX P w) 5 f fd ["self", "word"] (spPlace C CN) := by
  refine F.okX scPlace (fun vs H Q E h => ?_) (fun cdv A outer s H vs Q E hr h => ?_)
  · obtain ⟨p, v, ls, ws, rfl, _⟩ := h
    rfl
  · obtain ⟨p, v, ls, ws, rfl, D, O, h⟩ := h
    refine ⟨_, pss_cons (ps_if (pt_not (pt_val (pe_c cW hr pass0 (pa_cons (pv 1) (pa_cons (pe_fld (pv 0) rfl) pa_nil))))) (pss_one (ps_raise rfl (takes_of rfl rfl rfl rfl) (pmk_x xN hr (pa_cons (pv 1) pa_nil)))) pss_nil)
      (pss_one (ps_ret (pe_mt mA hr pass0 (pv 0) (pa_cons (pe_mt mK hr pass0 (pv 0) (pa_cons (pv 1) pa_nil)) pa_nil)))), ?_⟩
    have kv : Kn H v := by
      rcases h with ⟨w, rfl, _⟩ | ⟨d, _, _, od, _⟩
      · exact .str _
      · exact od.kn
    have lv : ∀ x, v = .str x → x.length ≤ 10000 := by
      rcases h with ⟨w, rfl, lw, _⟩ | ⟨d, _, lv, _⟩
      · intro x e
        cases e
        rw [S_len]
        omega
      · exact lv
    obtain ⟨dx, pl, t, kk, nn, h1, h2, h3, h4, h5⟩ := id D
    refine ⟨v, rfl, _, rfl, p, C, dx, _, _, rfl, h1, T.cl, T.nL, df_letters _ _ _ _ _ _, v, ls, rfl, kv, lv, fun H1 e1 => ⟨_, rfl, ?_⟩⟩
    rcases h with ⟨w, rfl, lw, hw, q⟩ | ⟨d, hn, lv, od, q⟩
    · rw [show isW ls (.str (S w)) = true by
        show (decide ((S w).length ≤ 200) && (S w).cps.toList.all fun c => decide (c ∈ ls)) = true
        rw [S_len, decide_eq_true lw, Bool.true_and]
        exact List.all_eq_true.mpr fun c hc => decide_eq_true (hw c hc)]
      exact iteF ⟨_, rfl, p, dx, _, rfl, e1 _ _ h1, df_no, _, rfl, p, dx, _, rfl, e1 _ _ h1, df_no, _, rfl, p, ls, w, rfl, (D.same e1).plain, O.L.nd, hw, by omega, fun H2 e2 => ⟨p, ls, ws, key ls w, rfl, D.same (e1.trans e2), O.up, O.many, q H2 (e1.trans e2)⟩⟩
    · rw [hn]
      exact iteT ⟨v, rfl, raiseO xN.T nN (od.same e1) fun dd H' r => q dd H' (r.back e1)⟩
end
end K02
set_option Elab.async false
set_option linter.all false
set_option maxRecDepth 100001
set_option maxHeartbeats 3999999
namespace K02
open PySem L2
def spRange (C CN : Addr) : Sp := fun vs H Q E => ∃ p v ls ws, vs = [.ref p, v] ∧ IsD C H p ls ws ∧ OkD ls ws ∧ ((∃ w, v = .str (S w) ∧ w.length ≤ 200 ∧ (∀ c ∈ w, c ∈ ls) ∧
    (ahead ls ws (key ls w) = ahead ls ws (key ls w ++ [126]) → ∀ H', Same H H' → Q .non H') ∧
    (ahead ls ws (key ls w) ≠ ahead ls ws (key ls w ++ [126]) → ∀ t H', Same H H' → H' t = some (.tup [.int (ahead ls ws (key ls w) : Nat), .int ((ahead ls ws (key ls w ++ [126]) : Nat) - 1)]) → Q (.ref t) H')) ∨
  (∃ d, isW ls v = false ∧ (∀ x, v = .str x → x.length ≤ 10000) ∧ Odd H v d ∧ ∀ dd H', RsO H H' dd "word" d → E (.ref CN) (some dd) H'))
/-- the least beginning that only this word has -/
def headAt (ws : List (List Nat)) (i : Nat) : Option (List Nat) :=
  let w := ws.getD i []
  let s1 := if 0 < i then shr w (ws.getD (i - 1) []) + 1 else 0
  let s2 := if i + 1 < ws.length then max s1 (shr w (ws.getD (i + 1) []) + 1) else s1
  if w.length < s2 then none else some (w.take s2)
def optS : Option (List Nat) → V
  | none => .non
  | some l => .str (S l)
def spLeast (C CN : Addr) : Sp := fun vs H Q E => ∃ p v ls ws, vs = [.ref p, v] ∧ IsD C H p ls ws ∧ OkD ls ws ∧ ((∃ (i : Nat) (w : List Nat), v = .int (i : Nat) ∧ ws[i]? = some w ∧ Q (optS (headAt ws i)) H) ∨ (∃ d, btw v 0 ((ws.length : Nat) - 1) = false ∧ Odd H v d ∧ ∀ dd H', RsO H H' dd "number" d → E (.ref CN) (some dd) H'))
theorem cut_S {w : List Nat} {k : Nat} (h : k ≤ w.length) : cutS (S w) none (some (k : Int)) = S (w.take k) := by
  unfold cutS
  rw [S_len, HT.sIx_nat, HT.sIx_none, S_list, List.drop_zero, Nat.sub_zero, Nat.min_eq_left h]
  rfl
theorem max_cast (a b : Nat) : (if ((b : Nat) : Int) > ((a : Nat) : Int) then ((b : Nat) : Int) else ((a : Nat) : Int)) = ((max a b : Nat) : Int) := by
  split <;> omega
section
variable {X : Cx}
theorem pe_max {a : Expr} {es : List Expr} {t : TA} {p pos : Pos} (hc : X.calm = true) (hm : X.mg "max" = none) (ha : PA X (a :: es) t) (hg : Gl X "max" := by rfl) (he : starEach (a :: es) X.env = (false, eval a X.env) :: starEach es X.env := by rfl)
    (hpl : (backTo pos (starEach es X.env)).any (·.1) = false := by rfl) :
    PE X (.Call (.Name "max" p) (a :: es) [] pos) (tCB (fun xs H Q => ∃ i j, xs = [.int i, .int j] ∧ Q (.int (if j > i then j else i)) H) t) := pe_callB (call_max2 hc) hg hm (by decide +kernel) ha (he := he) (hpl := hpl)
end
section
variable {P : Program} {w : World} {K : PySem.W.Frag} {mg : Str → Option Value} {base : Heap}
end
end K02
set_option Elab.async false
set_option linter.all false
set_option maxRecDepth 100001
set_option maxHeartbeats 3999999
namespace K02
open PySem L2
section
variable {X : Cx} {tg e : Expr}
/-- enumerate of a list or a tuple -/
def iEnS (K : PySem.W.Frag) (ta : TA) : TI := fun σ H R => ta σ H fun vs H1 => ∃ a xs, vs = [.ref a] ∧ Sq K H1 a xs ∧ ∀ (J : It) (G : Hp → Prop), Walk J xs.length G (YPair (fun i => some (.int (i : Nat))) (fun i => xs[i]?)) → (∀ H', (∀ o, H1 a = some o → H' a = some o) → G H') → R J H1
open PySem.Spec PyProof.Rows in
theorem pi_en {ta : TA} {p pos tp : Pos} {es : List Expr} {kk : Nat} (hm : X.mg "enumerate" = none) (ha : PA X [e] ta) (hg : Gl X "enumerate" := by rfl) (hs : starEach [e] X.env = [(false, eval e X.env)] := by rfl) :
    PI X (.Tuple es kk tp) (.Call (.Name "enumerate" p) [e] [] pos) (iEnS X.K ta) := by
  constructor
  intro pins s σ H R I h
  refine Call_ (ld_blt I hg hm PyProof.Rows.boot_enumerate (PyProof.Rows.callWith_type1 (thn (ha.run pos pins s σ H _ I h) fun us s1 hh => ?_) hs rfl))
  obtain ⟨vs, H1, I1, r1, a, xs, ev, sq, k⟩ := hh
  subst ev
  have near : ∀ b ∈ [s1.heap.objs.size + 1, s1.heap.objs.size], FpOk X pins H1 b := fun b hb => by
    have ge : s1.heap.objs.size ≤ b := by
      rcases two_of hb with z | z
      · rw [z]; exact Nat.le_add_right _ _
      · rw [z]; exact Nat.le_refl _
    exact I1.fpOk ge (I1.hok.fresh ge)
  cases r1 with
  | cons r rr =>
    cases rr
    cases r
    rcases sq with hq | hq
    · obtain ⟨its, rv, p1, hz⟩ := I1.list hq
      refine call_enumerate_list p1.isList fun h2 he hd _ hk => wpAny_pyIter_enum he ?_
      exact ⟨s1.heap.objs.size + 1, _, _, _, H1, rfl, I1.kept (t' := s1.toks) hk, turn_enum a (s1.heap.objs.size + 1) s1.heap.objs.size, ⟨⟨.none, he⟩, hd, Nat.succ_ne_self _⟩, near, k _ _ walk_enum fun H' e => sqL_at hq e⟩
    · obtain ⟨its, rv, p2, hz⟩ := I1.tuple hq
      refine enumT_call (begins_tuple a its.toArray) p2 fun h2 he hd hk => wpAny_pyIter_enum he ?_
      exact ⟨s1.heap.objs.size + 1, _, _, _, H1, rfl, I1.kept (t' := s1.toks) hk, turn_enT a (s1.heap.objs.size + 1) s1.heap.objs.size, ⟨⟨.none, he⟩, ⟨_, hd, rfl, rfl⟩, Nat.succ_ne_self _⟩, near, k _ _ walk_enT fun H' e => sqT_at hq e⟩
end
theorem pg_pairK {X : Cx} (K : PySem.W.Frag) (hK : X.K = K) (hc : X.calm = true) {e1 e2 : Expr} {t1 t2 : TG} {k : Nat} {pos : Pos} (h1 : PG X e1 t1) (h2 : PG X e2 t2) (he1 : (assignEach [e1, e2] X.env).map (·.2) = assign e1 X.env :: (assignEach [e2] X.env).map (·.2) := by rfl)
    (he2 : (assignEach [e2] X.env).map (·.2) = assign e2 X.env :: (assignEach [] X.env).map (·.2) := by rfl) (hn : (assignEach [e1, e2] X.env).length = 2 := by rfl) (hf : (assignEach [e1, e2] X.env).findIdx? (·.1) = none := by rfl) : PG X (.Tuple [e1, e2] k pos) (gTup K 2 (gCons t1 (gCons t2 gNil))) := by
  subst hK
  have h := pg_tup (k := k) (pos := pos) hc (pgs_cons h1 (pgs_cons h2 pgs_nil he2) he1) hn hf
  exact h
/-- a dict comprehension over numbered items, with keys that are all unlike -/
theorem dcA {J : It} {n : Nat} {G : Hp → Prop} {f1 f2 : Nat → Option V} (wk : Walk J n G (YPair f1 f2)) {g : TG} {tt : TT} {tk tv : TE} {vs : List Nat} {σ : St} {H1 : Hp} {D : Addr} {Qd : Hp → Prop} (kf : Nat → Key) (vf : Nat → V) (hb : n ≤ 10000)
    (inj : ∀ i l, i < n → l < n → kf i = kf l → i = l) (hG : ∀ H', Same H1 H' → G H') (nD : H1 D = none)
    (hs : ∀ (i : Nat) (T : Addr) (a b : V) (H : Hp) (R : V → V → Hp → Prop) (N : Hp → Prop), i < n → f1 i = some a → f2 i = some b → Same H1 H → H T = some (.tup [a, b]) → R (kV (kf i)) (vf i) H → g (.ref T) (wipe σ vs) H fun σ2 H2 => wipe σ2 vs = wipe σ vs ∧ tt σ2 H2 fun b H3 => if b = true then tk σ2 H3 fun y H4 => tv σ2 H4 fun z H5 => R y z H5 else N H3)
    (hd : ∀ H, Same H1 H → H D = some (.dK (asc kf vf n)) → Qd H) :
    ∃ W : Nat → Nat → Hp → Prop, (∃ m, W 0 m (upd H1 D (.dK []))) ∧ ∀ i m H, W i m H →
      (J.stop i H ∧ Qd H) ∨ (J.go i H ∧ ∃ Nx : Hp → Prop, (∀ H', Nx H' → ∃ m', m' < m ∧ W (i + 1) m' H') ∧ ∀ x H', J.yld i H x H' → g x (wipe σ vs) H' fun σ2 H2 => wipe σ2 vs = wipe σ vs ∧ tt σ2 H2 fun b H3 =>
        if b = true then tk σ2 H3 fun y H4 => tv σ2 H4 fun z H5 => ∃ kvs k, y = kV k ∧ H5 D = some (.dK kvs) ∧ kvs.length < sizeLine ∧ Nx (upd H5 D (.dK (putK kvs k z))) else Nx H3) := by
  refine ⟨fun i m H => m = n - i ∧ i ≤ n ∧ Same H1 H ∧ H D = some (.dK (asc kf vf i)), ⟨n, rfl, Nat.zero_le _, same_new nD, upd_same⟩, ?_⟩
  rintro i m H ⟨rfl, hi, e1, hD⟩
  by_cases lt : i < n
  · refine .inr ⟨wk.goes i H lt (hG H e1), fun H' => Same H1 H' ∧ H' D = some (.dK (asc kf vf (i + 1))), fun H' p => ⟨n - (i + 1), by omega, rfl, lt, p.1, p.2⟩, fun x H' y => ?_⟩
    obtain ⟨T, a, b, rfl, nT, rfl, ea, eb⟩ := wk.yields i H x H' lt (hG H e1) y
    refine hs i T a b _ _ _ lt ea eb (e1.trans (same_new nT)) upd_same ⟨asc kf vf i, kf i, rfl, ?_, ?_, fun c o z => ?_, ?_⟩
    · rw [upd_ne (ne_of_none hD nT)]
      exact hD
    · rw [asc_len]
      exact small10 (by omega)
    · rw [upd_ne (ne_of_none z nD)]
      exact (e1.trans (same_new nT)) _ _ z
    · rw [asc_put fun j hj e => by have := inj j i (by omega) lt e; omega]
      exact upd_same
  · obtain rfl : i = n := by omega
    exact .inl ⟨wk.stops H (hG H e1), hd H e1 hD⟩
/-- a def within which lambdas are made: its code object at c, its table at T -/
structure FunL (K : PySem.W.Frag) (base : Heap) (mg : Str → Option Value) (x q : Str) (st : Stmt) (f c T : Addr) (fd : FuncData) : Prop where
  ex : ∃ (oc : Value) (od : Option Addr) (kV doc pm : Value) (an : Option Addr) (ct : Value) (osl : Array (Option Value)),
    fd = PySem.W.fnOf x q (defArgs st) (defBody st) (defScope st) .none kV doc pm an (.ref c) ct ∧ K.lookup f = some ⟨oc, od, .func fd, osl⟩ ∧ PySem.W.codeIn K (.ref c) q = true
  tab : LamX.TabB base mg c T
section
variable {P : Program} {w : World} {K : PySem.W.Frag} {mg : Str → Option Value} {base : Heap}
theorem FunL.okX {CX : CXT} {x q : Str} {st : Stmt} {f c T : Addr} {fd : FuncData} {N ps : List Str} {k : Nat} {sp : Sp} (F : FunL K base mg x q st f c T fd) (S : FnScope N ps (defScope st)) (len : ∀ vs H Q E, sp vs H Q E → vs.length = ps.length)
    (hbody : ∀ (A : Around) (outer : List Env) (s : Shared) (H : Hp) (vs : List V) (Q : VK) (E : XK), Room k (A.deeper (PyProof.Rows.envOfC q (defScope st) s.heap.objs.size f (.ref c))) → sp vs H Q E →
      ∃ t, PSs (cxOf CX P w K mg base N q (defScope st) f (.ref c) A outer s H E).nox (defBody st) t ∧ t { nx := fun _ H' => Q .non H', rt := Q } (L2.start N vs) H) : FnOk P w K mg base CX (k + 1) f fd ps sp := by
  obtain ⟨oc, od, kV, doc, pm, an, ct, osl, rfl, lk, hcd⟩ := F.ex
  refine fn_of lk hcd S len fun A outer s H vs Q E hr hsp => ?_
  obtain ⟨t, h, q⟩ := hbody A outer s H vs Q E hr hsp
  exact ⟨t, h.nox, q⟩
end
theorem ext_of {H H' : Hp} (e : Same H H') : LamX.ExtN H H' := LamX.ExtN.of e
theorem IsD.ext {C : Addr} {H H' : Hp} {p : Addr} {ls : List Nat} {ws : List (List Nat)} (h : IsD C H p ls ws) (e : LamX.ExtN H H') : IsD C H' p ls ws :=
  let ⟨dx, pl, t, kk, nn, h1, h2, h3, h4, h5⟩ := h
  ⟨dx, pl, t, kk, nn, e _ _ h1 (fun _ z => nomatch z), e _ _ h2 (fun _ z => nomatch z), e _ _ h3 (fun _ z => nomatch z), e _ _ h4 (fun _ z => nomatch z), e _ _ h5 (fun _ z => nomatch z)⟩
theorem Pen.ext {H H' : Hp} {pn cl : Addr} {b : Nat} (h : Pen H pn cl b) (e : LamX.ExtN H H') : Pen H' pn cl b := let ⟨k, l, cs, h1, h2, h3, h4⟩ := h; ⟨k, l, cs, e _ _ h1 (fun _ z => nomatch z), e _ _ h2 (fun _ z => nomatch z), h3, h4⟩
/-- what more the class is known by -/
structure TxE (K : PySem.W.Frag) (C : Addr) : Prop where
  cc : PySem.W.findIn K (.ref C) "__class__" = some (some (.builtin "object.__class__"))
  gg : PySem.W.specialIn K (.builtin "object.__class__") "__get__" = some (some (.builtin "getset_descriptor.__get__"))
  tk : PySem.W.takesIn K (.builtin "object.__class__") = some true
  mr : PySem.W.mroIn K C (.type "object") = some true
  kT : PySem.W.kitOne K (.type "tuple") (.ref C) = some false
theorem IsD.ty {K : PySem.W.Frag} {C : Addr} {H : Hp} {p : Addr} {ls : List Nat} {ws : List (List Nat)} (T : Txd K C) (E : TxE K C) (q : IsD C H p ls ws) : TyX K H (.ref p) (.ref C) :=
  let ⟨_, _, _, _, _, h1, _⟩ := q
  .base (.ins h1 T.cl E.cc E.gg E.tk E.mr)
/-- one == other -/
def spEqD (C : Addr) : Sp := fun vs H Q _ => ∃ p y ls ws, vs = [.ref p, y] ∧ IsD C H p ls ws ∧ OkD ls ws ∧
  ((∃ q ls2 ws2, y = .ref q ∧ IsD C H q ls2 ws2 ∧ OkD ls2 ws2 ∧ Q (.bl (decide (ls = ls2) && decide (ws = ws2))) H) ∨ (∃ t xs, y = .ref t ∧ H t = some (.tup xs) ∧ Q (.bl false) H))
section
variable {P : Program} {w : World} {K : PySem.W.Frag} {mg : Str → Option Value} {base : Heap}
theorem scEq : FnScope ["self", "other"] ["self", "other"] (defScope sEq) := ⟨rfl, rfl, rfl, by decide +kernel, rfl, by decide +kernel, by decide +kernel⟩
theorem ok_eq {f C : Addr} {fd : FuncData} (F : Fun K "__eq__" "Dictionary.__eq__" sEq f fd) (B : Bi mg) (T : Txd K C) (TE : TxE K C) (gC : mg "Dictionary" = some (.ref C)) : FnOk P w K mg base CX0 1 f fd ["self", "other"] (spEqD C) := by
  refine F.ok scEq (fun vs H Q E h => ?_) (fun cdv A outer s H vs Q E hr h => ?_)
  · obtain ⟨p, y, ls, ws, rfl, _⟩ := h
    rfl
  · obtain ⟨p, y, ls, ws, rfl, D, O, h⟩ := h
    refine ⟨_, pss_one (ps_ret (pe_and (pe_isi B.isi (pa_cons (pv 1) (pa_cons (pe_glob (v := .ref C) rfl gC rfl) pa_nil))) (pe_and (pe_cmpR op_eq (pe_fld (pv 0) rfl) (pe_fld (pv 1) rfl) (nomark _)) (pe_one (pe_cmpR (op_eqT (hu64 hr)) (pe_fld (pv 0) rfl) (pe_fld (pv 1) rfl) (nomark _)))))), ?_⟩
    obtain ⟨dx, pl, t, kk, nn, h1, h2, h3, h4, h5⟩ := id D
    rcases h with ⟨q, ls2, ws2, rfl, D2, O2, h⟩ | ⟨t2, xs, rfl, ht, h⟩
    · obtain ⟨dx2, pl2, t2, kk2, nn2, g1, g2, g3, g4, g5⟩ := id D2
      refine ⟨_, rfl, _, _, _, _, _, rfl, .own C, D2.ty T TE, kit_self, _, rfl, ?_⟩
      refine ⟨_, rfl, p, C, dx, _, _, rfl, h1, T.cl, T.nL, df_letters _ _ _ _ _ _, _, rfl, q, C, dx2, _, _, rfl, g1, T.cl, T.nL, df_letters _ _ _ _ _ _, rfl, _, rfl, ?_⟩
      rw [decS]
      cases e : decide (ls = ls2) with
      | true =>
        rw [e, Bool.true_and] at h
        exact ⟨_, rfl, p, C, dx, _, _, rfl, h1, T.cl, T.nW, df_words _ _ _ _ _ _, _, rfl, q, C, dx2, _, _, rfl, g1, T.cl, T.nW, df_words _ _ _ _ _ _, t, t2, ws, ws2, rfl, rfl, .inr ⟨SqT.of h3, SqT.of g3⟩, O.nch, O2.nch, h⟩
      | false =>
        rw [e, Bool.false_and] at h
        exact h
    · exact ⟨_, rfl, _, _, _, _, _, rfl, .own C, .base (.tup ht), TE.kT, _, rfl, h⟩
end
end K02
set_option Elab.async false
set_option linter.all false
set_option maxRecDepth 100001
set_option maxHeartbeats 3999999
namespace K02
open PySem L2
/-- what is not at p stays -/
def ButI (p : Addr) (H H' : Hp) : Prop := ∀ b o, b ≠ p → H b = some o → H' b = some o
/-- a list or a tuple in the heap -/
def Lt (H : Hp) (a : Addr) (xs : List V) : Prop := H a = some (.lst xs) ∨ H a = some (.tup xs)
theorem Lt.sq {K : PySem.W.Frag} {H : Hp} {a : Addr} {xs : List V} (h : Lt H a xs) : Sq K H a xs := h.imp SqL.of SqT.of
theorem Lt.same {H H' : Hp} {a : Addr} {xs : List V} (h : Lt H a xs) (e : Same H H') : Lt H' a xs := h.imp (e _ _) (e _ _)
theorem Lt.at_ {H H' : Hp} {a p : Addr} {xs : List V} {o : HO} (h : Lt H a xs) (hp : H p = some o) (no : ∀ ys, o ≠ .lst ys ∧ o ≠ .tup ys) (e : ButI p H H') : Lt H' a xs :=
  h.imp (fun h => e _ _ (ne_of h hp fun z => (no xs).1 z.symm) h) (fun h => e _ _ (ne_of h hp fun z => (no xs).2 z.symm) h)
theorem Lt.ne {H : Hp} {a p : Addr} {xs : List V} (h : Lt H a xs) (hp : H p = none) : a ≠ p := h.elim (fun h => ne_of_none h hp) fun h => ne_of_none h hp
theorem tabs_at {Tb : List (Addr × Str)} {H H' : Hp} {p : Addr} {o : HO} (t : LamX.Tabs Tb H) (hp : H p = some o) (n1 : ∀ ps, o ≠ .tbl ps) (n2 : ∀ f, o ≠ .ext f) (e : ButI p H H') : LamX.Tabs Tb H' := fun pt hpt => by
  obtain ⟨ps, a1, a2, a3⟩ := t pt hpt
  refine ⟨ps, e _ _ (ne_of a1 hp fun z => n1 _ z.symm) a1, a2, fun pos cv hc => ?_⟩
  obtain ⟨c0, e1, e2⟩ := a3 pos cv hc
  exact ⟨c0, e1, e _ _ (ne_of e2 hp fun z => n2 _ (by unfold LamX.CodeO at z; exact z.symm)) e2⟩
theorem idx_inj {ls : List Nat} {a b : Nat} (ha : a ∈ ls) (hb : b ∈ ls) (e : ls.idxOf a = ls.idxOf b) : a = b := by
  have h1 := List.getElem_idxOf (List.idxOf_lt_length_of_mem ha)
  have h2 := List.getElem_idxOf (List.idxOf_lt_length_of_mem hb)
  rw [← h1, ← h2]
  simp only [e]
theorem key_inj {ls : List Nat} : ∀ {v w : List Nat}, (∀ c ∈ v, c ∈ ls) → (∀ c ∈ w, c ∈ ls) → key ls v = key ls w → v = w
  | [], [], _, _, _ => rfl
  | [], _ :: _, _, _, e => nomatch e
  | _ :: _, [], _, _, e => nomatch e
  | a :: v, b :: w, hv, hw, e => by
    unfold key at e
    rw [List.map_cons, List.map_cons] at e
    injection e with e1 e2
    rw [idx_inj (hv a List.mem_cons_self) (hw b List.mem_cons_self) (by omega), key_inj (fun c m => hv c (List.mem_cons_of_mem _ m)) (fun c m => hw c (List.mem_cons_of_mem _ m)) e2]
/-- the sign list of a text value -/
def uns : V → List Nat
  | .str z => z.cps.toList
  | _ => []
def gK (ls : List Nat) (v : V) : Str := S (key ls (uns v))
theorem txs_uns {ys : List V} {ws : List (List Nat)} (h : ys.Perm (txs ws)) : ys = txs (ys.map uns) ∧ (ys.map uns).Perm ws := by
  constructor
  · unfold txs
    rw [List.map_map]
    refine (List.map_id' ys).symm.trans (List.map_congr_left fun y hy => ?_)
    obtain ⟨w, _, rfl⟩ := List.mem_map.mp (h.mem_iff.mp hy)
    rfl
  · have := h.map uns
    unfold txs at this
    rw [List.map_map] at this
    have e : ws.map (uns ∘ fun w => V.str (S w)) = ws := (List.map_congr_left fun _ _ => rfl).trans (List.map_id' ws)
    rwa [e] at this
theorem sorted_okD {ls : List Nat} {ws : List (List Nat)} {ys : List V} (L : Lets ls) (nd : ws.Nodup) (lw : ws.length ≤ 2000) (hw : ∀ w ∈ ws, w.length ≤ 200 ∧ ∀ c ∈ w, c ∈ ls) (so : SrtO.Srtd (SrtL.ltG SrtL.ordStr (gK ls)) ys) (pm : ys.Perm (txs ws)) : ∃ us, ys = txs us ∧ us.Perm ws ∧ OkD ls us := by
  obtain ⟨e, pu⟩ := txs_uns pm
  generalize ys.map uns = us at e pu
  subst e
  refine ⟨us, rfl, pu, L, by rw [pu.length_eq]; exact lw, fun w m => hw w (pu.mem_iff.mp m), ?_⟩
  have nu : us.Nodup := pu.nodup_iff.mpr nd
  unfold SrtO.Srtd txs at so
  rw [List.pairwise_map] at so
  refine List.Pairwise.imp_of_mem (fun {a b} ma mb h => ?_) (List.Pairwise.and so nu)
  obtain ⟨h1, h2⟩ := h
  have h3 : ¬ key ls b < key ls a := of_decide_eq_false h1
  exact (List.le_iff_lt_or_eq.mp (List.not_lt.mp h3)).resolve_right fun e => h2 (key_inj (hw a (pu.mem_iff.mp ma)).2 (hw b (pu.mem_iff.mp mb)).2 e)
/-- what was told of the words so far -/
def toldK (ls : List Nat) (ws : List (List Nat)) (i : Nat) : List (Key × V) := asc (numF ws) (fun j => .str (S (key ls (ws.getD j [])))) i
theorem numF_at {ws : List (List Nat)} {i : Nat} {w : List Nat} (h : ws[i]? = some w) : numF ws i = .inr (S w) ∧ ws.getD i [] = w := by
  unfold numF
  rw [List.getD_eq_getElem?_getD, h]
  exact ⟨rfl, rfl⟩
theorem told_keys (ls : List Nat) (ws : List (List Nat)) : (toldK ls ws ws.length).map (fun kv => kV kv.1) = txs ws := by
  unfold toldK asc txs
  rw [List.map_map]
  refine List.ext_getElem (by simp) fun i h1 h2 => ?_
  simp only [List.getElem_map, List.getElem_range]
  have h3 : i < ws.length := by simpa using h2
  have e := (numF_at (List.getElem?_eq_getElem h3)).1
  show kV (numF ws i) = _
  rw [e]
  rfl
theorem told_at {ls : List Nat} {ws : List (List Nat)} (nd : ws.Nodup) {w : List Nat} (h : w ∈ ws) : valV (toldK ls ws ws.length) (.inr (S w)) = some (.str (S (key ls w))) := by
  obtain ⟨i, hi, rfl⟩ := List.getElem_of_mem h
  obtain ⟨e1, e2⟩ := numF_at (List.getElem?_eq_getElem hi)
  rw [← e1]
  unfold toldK
  rw [asc_at hi (num_inj nd), e2]
abbrev NI' : List Str := ["self", "letters", "words", "index", "word", "told", "letter", "place", "number"]
def spInitD (K : PySem.W.Frag) (C : Addr) (Tb : List (Addr × Str)) : Sp := fun vs H Q _ => ∃ p dx s ls ws, vs = [.ref p, .str (S ls), .ref s] ∧ H p = some (.ins C dx []) ∧ Lt H s (txs ws) ∧ Lets ls ∧ ws.Nodup ∧ ws.length ≤ 2000 ∧ (∀ w ∈ ws, w.length ≤ 200 ∧ ∀ c ∈ w, c ∈ ls) ∧ LamX.Tabs Tb H ∧
  ∀ us H', us.Perm ws → OkD ls us → (∀ b o, b ≠ p → H b = some o → (∀ ps, o ≠ .tbl ps) → H' b = some o) → IsD C H' p ls us → (∀ g xs ys, H g = some (.lst xs) → IsD C (upd H' g (.lst ys)) p ls us) → LamX.Tabs Tb H' → Q .non H'
section
variable {P : Program} {w : World} {K : PySem.W.Frag} {mg : Str → Option Value} {base : Heap}
theorem scInit : FnScope NI' ["self", "letters", "words"] (defScope sInit) := ⟨rfl, rfl, rfl, by decide +kernel, rfl, by decide +kernel, by decide +kernel⟩
theorem ok_init {f c T C : Addr} {fd : FuncData} {Tb : List (Addr × Str)} (F : FunL K base mg "__init__" "Dictionary.__init__" sInit f c T fd) (B : Bi mg) (C' : Bs mg) (N : Cn mg) (X : Txd K C) (cL : Cal CX0 P w K mg base 1 "are_letters" spLets) (cW : Cal CX0 P w K mg base 1 "is_word" spIsW) (mK : Met CX0 P w K mg base 1 C "_key_of" (spKeyOf C))
    (hmT : (T, (("Dictionary.__init__.<locals>.<lambda>" : String) : Str)) ∈ Tb) (hu : ∀ p ∈ Tb, p.1 = T → p.2 = (("Dictionary.__init__.<locals>.<lambda>" : String) : Str)) : FnOk P w K mg base CX0 5 f fd ["self", "letters", "words"] (spInitD K C Tb) := by
  refine F.okX scInit (fun vs H Q E h => ?_) (fun A outer s H vs Q E hr h => ?_)
  · obtain ⟨p, dx, s, ls, ws, rfl, _⟩ := h
    rfl
  · obtain ⟨p, dx, sq, ls, ws, rfl, hp, hs, L, nd, lw, hw, tabs, q⟩ := h
    refine ⟨_, pss_cons (ps_if (pt_not (pt_val (pe_c cL hr pass0 (pa_cons (pv 1) pa_nil)))) pss_never pss_nil)
      (pss_cons (ps_if (pt_cmpR op_gt (pe_len B.len (pa_cons (pv 2) pa_nil)) pe_int (nomark _)) pss_never pss_nil)
      (pss_cons (ps_fld (pv 0) (pv 1) rfl)
      (pss_cons (ps_fld (pv 0) (pe_dc (own := [("place", 7), ("letter", 6)]) rfl scInit.nd (pi_enS rfl B.enum (pa_cons (pv 1) pa_nil)) (blkOk_by (N := NI') (sc := defScope sInit) (by decide +kernel))
          (fun _ _ _ _ _ => pg_pairK K rfl rfl (pg_name (i := 7) scInit.nd rfl (Or.inl rfl) (.inr rfl)) (pg_name (i := 6) scInit.nd rfl (Or.inl rfl) (.inr rfl))) (fun _ _ _ _ _ => pts_nil) (fun _ _ _ _ _ => pv 6) (fun _ _ _ _ _ => pe_ix ix_str (C8.pe_gc rfl N.alpha) (pv 7) (fun _ _ => rfl))) rfl)
      (pss_cons (ps_set (i := 5) scInit.nd rfl (Or.inr rfl) pe_dnewK)
      (pss_cons (ps_for PassesOwn.never rfl (pi_en B.enum (pa_cons (pv 2) pa_nil)) (pg_tup rfl (pgs_cons (pg_name (i := 3) scInit.nd rfl (.inl rfl)) (pgs_cons (pg_name (i := 4) scInit.nd rfl (.inl rfl)) pgs_nil)))
          (pss_cons (ps_if (PW.pt (pw_or (pt_not (pt_val (pe_c cW hr pass0 (pa_cons (pv 4) (pa_cons (pv 1) pa_nil))))) (pw_or1 (pt_cmp (pc_din (hu_of hr) (pv 4) (pv 5)))))) pss_never pss_nil)
          (pss_one (ps_dput (hu_of hr) (pv 5) (pv 4) (pe_mt mK hr pass0 (pv 0) (pa_cons (pv 4) pa_nil)) rfl))))
      (pss_cons (ps_fld (pv 0) (pe_tupleOf rfl B.tuple (by exact SrtL.pe_sortLam (k := 1) (i := 4) SrtL.ordStr rfl C'.sorted (pe_callTy (call_listD rfl) rfl B.list (by decide +kernel) (pa_cons (pv 5) pa_nil)) F.tab hmT hu (hr.mono (by decide)) (LamX.lamP_by (sc := defScope sInit) (by decide +kernel)) scInit.nd rfl (fun s H f c' hr' => pe_dget (hu_of hr') (pv 5) (pv 4) (fun _ _ => rfl)))) rfl)
      (pss_cons (ps_fld (pv 0) (pe_len B.len (pa_cons (pe_fld (pv 0) rfl) pa_nil)) rfl)
      (pss_cons (ps_fld (pv 0) (pe_lc (own := [("word", 4)]) rfl scInit.nd (pi_sqA (pe_fld (pv 0) rfl)) (blkOk_by (N := NI') (sc := defScope sInit) (by decide +kernel))
          (fun _ _ _ _ _ => pg_name (i := 4) scInit.nd rfl (Or.inl rfl)) (fun _ _ _ _ _ => pts_nil) (fun _ _ _ _ _ => pe_dget (hu_of hr) (pv 5) (pv 4) (fun _ _ => rfl))) rfl)
      (pss_one (ps_fld (pv 0) (pe_dc (own := [("number", 8), ("word", 4)]) rfl scInit.nd (pi_en B.enum (pa_cons (pe_fld (pv 0) rfl) pa_nil)) (blkOk_by (N := NI') (sc := defScope sInit) (by decide +kernel))
          (fun _ _ _ _ _ => pg_pairK K rfl rfl (pg_name (i := 8) scInit.nd rfl (Or.inl rfl) (.inr rfl)) (pg_name (i := 4) scInit.nd rfl (Or.inl rfl) (.inr rfl))) (fun _ _ _ _ _ => pts_nil) (fun _ _ _ _ _ => pv 4) (fun _ _ _ _ _ => pv 8)) rfl)))))))))), ?_⟩
    refine ⟨_, rfl, ls, rfl, L, fun H1 e1 => ⟨_, rfl, iteF ?_⟩⟩
    have hp1 := e1 _ _ hp
    have hs1 := hs.same e1
    have tab1 := tabs.ext e1
    refine ⟨_, rfl, sq, _, rfl, hs1.sq, _, _, rfl, rfl, _, rfl, ?_⟩
    rw [strs_len, decide_eq_false (show ¬ (2000 : Int) < ((ws.length : Nat) : Int) by omega)]
    refine iteF ⟨_, rfl, _, rfl, p, C, dx, [], rfl, hp1, X.cl, X.nL, by decide, ?_⟩
    have x2 : ButI p H1 (upd H1 p (.ins C dx (putF "letters" (.str (S ls)) []))) := fun b o n z => (upd_ne n).trans z
    have hp2 : upd H1 p (.ins C dx (putF "letters" (.str (S ls)) [])) p = some (.ins C dx (putF "letters" (.str (S ls)) [])) := upd_same
    generalize upd H1 p (.ins C dx (putF "letters" (.str (S ls)) [])) = H2 at x2 hp2 ⊢
    have tab2 := tabs_at tab1 hp1 (fun _ z => nomatch z) (fun _ z => nomatch z) x2
    have hs2 := hs1.at_ hp1 (fun _ => ⟨(fun z => nomatch z), fun z => nomatch z⟩) x2
    have b2 : ButI p H H2 := fun b o n z => x2 _ _ n (e1 _ _ z)
    clear x2 tab1 hs1 hp1 e1
    refine ⟨_, rfl, _, rfl, fun D nD => dcA walk_enS (plainF ls) (fun j => .str (S [97 + j])) (by rw [S_size]; have := L.hi; omega) (fun i l hi hl => plain_inj L.nd i l (by rwa [S_size] at hi) (by rwa [S_size] at hl)) (fun _ _ => True.intro) nD ?_ ?_⟩
    · intro i T0 a b H3 R N3 hi ea eb e3 hT r
      rw [S_size] at hi
      cases ea
      rw [S_get, List.getElem?_eq_getElem hi] at eb
      cases eb
      refine ⟨T0, _, rfl, SqT.of hT, rfl, _, _, rfl, _, _, rfl, rfl, rfl, ?_⟩
      unfold tYes
      have a26 : (S abc).length ≤ sizeLine := Nat.le_of_lt (small10 (by rw [S_len]; decide))
      have ai : abc[i]? = some (97 + i) := by
        have : i < 26 := by have := L.hi; omega
        unfold abc
        rw [List.getElem?_map, List.getElem?_range this]
        show some (i + 97) = some (97 + i)
        rw [Nat.add_comm]
      have ek : plainF ls i = .inr (S [ls[i]]) := by
        unfold plainF
        rw [List.getD_eq_getElem?_getD, List.getElem?_eq_getElem hi]
        rfl
      rw [ek] at r
      exact iteT ⟨_, rfl, _, rfl, S abc, _, _, rfl, rfl, a26, atI_nat ai, r⟩
    intro H3 e3 hD3
    rw [S_size] at hD3
    have hp3 := e3 _ _ hp2
    have b3 : ButI p H H3 := fun b o n z => e3 _ _ (b2 b o n z)
    have tab3 := tab2.ext e3
    have hs3 := hs2.same e3
    clear e3 tab2 hs2 b2 hp2
    refine ⟨_, rfl, p, C, dx, _, rfl, hp3, X.cl, X.nP, by show 1 < 1000; decide, ?_⟩
    have x4 : ButI p H3 (upd H3 p (.ins C dx (putF "_plain" (.ref D) (putF "letters" (.str (S ls)) [])))) := fun b o n z => (upd_ne n).trans z
    have hp4 : upd H3 p (.ins C dx (putF "_plain" (.ref D) (putF "letters" (.str (S ls)) []))) p = some (.ins C dx (putF "_plain" (.ref D) (putF "letters" (.str (S ls)) []))) := upd_same
    generalize upd H3 p (.ins C dx (putF "_plain" (.ref D) (putF "letters" (.str (S ls)) []))) = H4 at x4 hp4 ⊢
    have tab4 := tabs_at tab3 hp3 (fun _ z => nomatch z) (fun _ z => nomatch z) x4
    have hs4 := hs3.at_ hp3 (fun _ => ⟨(fun z => nomatch z), fun z => nomatch z⟩) x4
    have b4 : ButI p H H4 := fun b o n z => x4 _ _ n (b3 b o n z)
    have hD4 := x4 _ _ (ne_of hD3 hp3 fun z => nomatch z) hD3
    clear x4 tab3 hs3 b3 hp3 hD3
    refine fun td ntd => ?_
    have e5 : Same H4 (upd H4 td (.dK [])) := same_new ntd
    have htd5 : upd H4 td (.dK []) td = some (.dK (toldK ls ws 0)) := upd_same
    generalize upd H4 td (.dK []) = H5 at e5 htd5 ⊢
    have hp5 := e5 _ _ hp4
    have hD5 := e5 _ _ hD4
    have tab5 := tab4.ext e5
    have hs5 := hs4.same e5
    have b5 : ButI p H H5 := fun b o n z => e5 _ _ (b4 b o n z)
    have nDt : D ≠ td := ne_of_none hD4 ntd
    have npt : p ≠ td := ne_of_none hp4 ntd
    have ntb : ∀ b o, H b = some o → b ≠ p → b ≠ td := fun b o z n => ne_of_none (b4 b o n z) ntd
    have nst : sq ≠ td := hs4.ne ntd
    clear e5 hp4 hD4 tab4 hs4 b4
    refine ⟨_, rfl, sq, _, rfl, hs5.sq, fun J G wk hG => for_it wk (fun i σ H' => ∃ a b : Option V, σ = [some (.ref p), some (.str (S ls)), some (.ref sq), a, b, some (.ref td), none, none, none] ∧ ButI td H5 H' ∧ H' td = some (.dK (toldK ls ws i))) ⟨none, none, rfl, (fun _ _ _ z => z), htd5⟩
      (fun i σ H' _ ⟨_, _, _, e, _⟩ => hG H' fun o z => e _ _ (nst) z) ?_ ?_⟩
    · rintro i x σ H6 H7 hi ⟨a, b, rfl, e6, htd6⟩ ⟨T0, y, v, rfl, nT0, rfl, ey, hv⟩
      cases ey
      have hi2 : i < ws.length := by rwa [strs_len] at hi
      have ew := List.getElem?_eq_getElem hi2
      have ev : v = .str (S ws[i]) := by
        have hv : (ws.map fun w => V.str (S w))[i]? = some v := hv
        rw [List.getElem?_map, ew] at hv
        exact (Option.some.inj hv).symm
      subst ev
      obtain ⟨w1, w2⟩ := hw ws[i] (List.getElem_mem hi2)
      obtain ⟨k1, k2⟩ := numF_at ew
      have e7 : Same H6 (upd H6 T0 (.tup [.int (i : Nat), .str (S ws[i])])) := same_new nT0
      have h7 : upd H6 T0 (.tup [.int (i : Nat), .str (S ws[i])]) T0 = _ := upd_same
      generalize upd H6 T0 (.tup [.int (i : Nat), .str (S ws[i])]) = H7 at e7 h7 ⊢
      refine ⟨T0, _, rfl, SqT.of h7, rfl, _, _, rfl, _, _, rfl, rfl, ?_⟩
      refine ⟨_, rfl, _, rfl, _, ls, rfl, .str _, (fun x z => by cases z; rw [S_len]; omega), fun H8 e8 => ⟨_, rfl, ?_⟩⟩
      rw [show isW ls (.str (S ws[i])) = true by
        show (decide ((S ws[i]).length ≤ 200) && (S ws[i]).cps.toList.all fun c => decide (c ∈ ls)) = true
        rw [S_len, decide_eq_true w1, Bool.true_and]
        exact List.all_eq_true.mpr fun c hc => decide_eq_true (w2 c hc)]
      have htd8 := e8 _ _ (e7 _ _ htd6)
      refine iteF ⟨_, rfl, _, rfl, td, _, rfl, DGet.k (k := Sum.inr (S ws[i])) htd8, _, rfl, ?_⟩
      rw [show valV (toldK ls ws i) (Sum.inr (S ws[i])) = none from asc_none fun j hj e => by
        rw [← k1] at e
        have := num_inj nd j i (by omega) hi2 e
        omega]
      have hp8 := e8 _ _ (e7 _ _ (e6 _ _ npt hp5))
      have hD8 := e8 _ _ (e7 _ _ (e6 _ _ nDt hD5))
      refine iteF ⟨_, rfl, p, dx, _, rfl, hp8, by rw [lookup_putF, if_neg (by decide +kernel), lookup_putF, if_neg (by decide +kernel)]; rfl, _, rfl, p, ls, ws[i], rfl, ⟨dx, D, _, hp8, by rw [lookup_putF, if_pos rfl], hD8⟩, L.nd, w2, by omega, fun H9 e9 => ?_⟩
      have htd9 := e9 _ _ htd8
      refine ⟨_, rfl, _, rfl, td, _, rfl, DPut.k (k := Sum.inr (S ws[i])) htd9 (by unfold toldK; rw [asc_len]; exact small10 (by omega)), _, _, rfl, fun b' o' nb z => (upd_ne nb).trans (e9 _ _ (e8 _ _ (e7 _ _ (e6 _ _ nb z)))), ?_⟩
      rw [upd_same]
      have ap := asc_put (kf := numF ws) (vf := fun j => .str (S (key ls (ws.getD j [])))) (n := i) fun j hj e => by
        have := num_inj nd j i (by omega) hi2 e
        omega
      simp only [k1, k2] at ap
      unfold toldK
      rw [ap]
    rintro σ H6 ⟨a, b, rfl, e6, htd6⟩
    rw [strs_len] at htd6
    have hp6 := e6 _ _ npt hp5
    have hD6 := e6 _ _ nDt hD5
    have tab6 := tabs_at tab5 htd5 (fun _ z => nomatch z) (fun _ z => nomatch z) e6
    have b6 : ∀ b o, b ≠ p → H b = some o → H6 b = some o := fun b o n z => e6 _ _ (ntb b o z n) (b5 _ _ n z)
    clear e6 tab5 b5 hD5 hp5 htd5 hs5 nDt npt ntb nst ntd
    refine ⟨_, rfl, td, _, rfl, .inl htd6, fun l nl => ?_⟩
    rw [told_keys]
    have e7 : Same H6 (upd H6 l (.lst (txs ws))) := same_new nl
    have hl7 : upd H6 l (.lst (txs ws)) l = some (.lst (txs ws)) := upd_same
    generalize upd H6 l (.lst (txs ws)) = H7 at e7 hl7 ⊢
    have hp7 := e7 _ _ hp6
    have hD7 := e7 _ _ hD6
    have htd7 := e7 _ _ htd6
    have tab7 := tab6.ext e7
    have b7 : ∀ b o, b ≠ p → H b = some o → H7 b = some o := fun b o n z => e7 _ _ (b6 b o n z)
    clear e7 hp6 hD6 htd6 tab6 b6 nl
    refine ⟨l, txs ws, gK ls, rfl, SqL.of hl7, tab7, fun H8 e8 tab8 => ⟨SqL.of (e8 _ _ hl7 fun _ z => nomatch z), fun v hv => ?_, fun ys r so st nr => ?_⟩⟩
    · obtain ⟨w, mw, rfl⟩ := List.mem_map.mp hv
      exact ⟨_, rfl, _, rfl, td, _, rfl, by
        have := DGet.k (k := Sum.inr (S w)) (e8 _ _ htd7 fun _ z => nomatch z)
        rw [told_at nd mw] at this
        exact this, rfl, rfl⟩
    obtain ⟨us, rfl, pu, O⟩ := sorted_okD L nd lw hw so st.perm
    refine .inl ⟨r, _, rfl, SqL.of upd_same, fun t nt => ?_⟩
    have hp8 := e8 _ _ hp7 fun _ z => nomatch z
    have hD8 := e8 _ _ hD7 fun _ z => nomatch z
    have htd8 := e8 _ _ htd7 fun _ z => nomatch z
    have b8 : ∀ b o, b ≠ p → H b = some o → (∀ ps, o ≠ .tbl ps) → H8 b = some o := fun b o n z nt => e8 _ _ (b7 b o n z) nt
    clear e8 hp7 hD7 htd7 tab7 b7 hl7
    have e9 : Same H8 (upd (upd H8 r (.lst (txs us))) t (.tup (txs us))) := (same_new nr).trans (same_new nt)
    have ht9 : upd (upd H8 r (.lst (txs us))) t (.tup (txs us)) t = some (.tup (txs us)) := upd_same
    generalize upd (upd H8 r (.lst (txs us))) t (.tup (txs us)) = H9 at e9 ht9 ⊢
    have hp9 := e9 _ _ hp8
    have hD9 := e9 _ _ hD8
    have htd9 := e9 _ _ htd8
    have tab9 := tab8.ext e9
    have b9 : ∀ b o, b ≠ p → H b = some o → (∀ ps, o ≠ .tbl ps) → H9 b = some o := fun b o n z nt => e9 _ _ (b8 b o n z nt)
    clear e9 hp8 hD8 htd8 tab8 b8 nr nt
    refine ⟨_, rfl, p, C, dx, _, rfl, hp9, X.cl, X.nW, by show 2 < 1000; decide, ?_⟩
    generalize eF : putF "words" (V.ref t) (putF "_plain" (.ref D) (putF "letters" (.str (S ls)) [])) = F3
    have x10 : ButI p H9 (upd H9 p (.ins C dx F3)) := fun b o n z => (upd_ne n).trans z
    have hp10 : upd H9 p (.ins C dx F3) p = some (.ins C dx F3) := upd_same
    generalize upd H9 p (.ins C dx F3) = H10 at x10 hp10 ⊢
    have tab10 := tabs_at tab9 hp9 (fun _ z => nomatch z) (fun _ z => nomatch z) x10
    have hD10 := x10 _ _ (ne_of hD9 hp9 fun z => nomatch z) hD9
    have htd10 := x10 _ _ (ne_of htd9 hp9 fun z => nomatch z) htd9
    have ht10 := x10 _ _ (ne_of ht9 hp9 fun z => nomatch z) ht9
    have b10 : ∀ b o, b ≠ p → H b = some o → (∀ ps, o ≠ .tbl ps) → H10 b = some o := fun b o n z nt => x10 _ _ n (b9 b o n z nt)
    clear x10 tab9 hD9 htd9 ht9 b9 hp9
    have lt3 : F3.lookup ("words" : Str) = some (.ref t) := by rw [← eF, lookup_putF, if_pos rfl]
    have l3 : F3.length < 1000 := by rw [← eF]; show 3 < 1000; decide
    refine ⟨_, rfl, p, C, dx, _, _, rfl, hp10, X.cl, X.nW, lt3, t, _, rfl, .inr (SqT.of ht10), _, rfl, p, C, dx, _, rfl, hp10, X.cl, X.nM, l3, ?_⟩
    rw [strs_len]
    have x11 : ButI p H10 (upd H10 p (.ins C dx (putF "many" (.int (us.length : Nat)) F3))) := fun b o n z => (upd_ne n).trans z
    have hp11 : upd H10 p (.ins C dx (putF "many" (.int (us.length : Nat)) F3)) p = some (.ins C dx (putF "many" (.int (us.length : Nat)) F3)) := upd_same
    generalize upd H10 p (.ins C dx (putF "many" (.int (us.length : Nat)) F3)) = H11 at x11 hp11 ⊢
    have tab11 := tabs_at tab10 hp10 (fun _ z => nomatch z) (fun _ z => nomatch z) x11
    have hD11 := x11 _ _ (ne_of hD10 hp10 fun z => nomatch z) hD10
    have htd11 := x11 _ _ (ne_of htd10 hp10 fun z => nomatch z) htd10
    have ht11 := x11 _ _ (ne_of ht10 hp10 fun z => nomatch z) ht10
    have b11 : ∀ b o, b ≠ p → H b = some o → (∀ ps, o ≠ .tbl ps) → H11 b = some o := fun b o n z nt => x11 _ _ n (b10 b o n z nt)
    clear x11 tab10 hD10 htd10 ht10 b10 hp10
    have lt4 : (putF "many" (.int (us.length : Nat)) F3).lookup ("words" : Str) = some (.ref t) := by rw [lookup_putF, if_neg (by decide +kernel), lt3]
    have lu := pu.length_eq
    refine ⟨_, rfl, p, C, dx, _, _, rfl, hp11, X.cl, X.nW, lt4, t, _, rfl, .inr (SqT.of ht11), fun J G wk hG kk nkk => lcP wk (txs us) (txs (us.map (key ls))) rfl (by rw [strs_len, strs_len, List.length_map]) (by rw [strs_len]; omega) (fun _ _ _ _ y => y) (fun H' e => hG H' fun o z => e _ _ z) nkk ?_ ?_⟩
    · intro i x y H12 Q2 N2 hx hy e12 q2
      unfold txs at hx hy
      rw [List.getElem?_map] at hx hy
      rw [List.getElem?_map] at hy
      cases hu : us[i]? with
      | none =>
        rw [hu] at hx
        cases hx
      | some u =>
        rw [hu] at hx hy
        cases hx
        cases hy
        refine ⟨rfl, yesT ⟨_, rfl, _, rfl, td, _, rfl, by
          have := DGet.k (k := Sum.inr (S u)) (e12 _ _ htd11)
          rw [told_at nd (pu.mem_iff.mp (List.mem_of_getElem? hu))] at this
          exact this, q2⟩⟩
    intro H12 e12 hkk12
    have hp12 := e12 _ _ hp11
    have hD12 := e12 _ _ hD11
    have ht12 := e12 _ _ ht11
    have tab12 := tab11.ext e12
    have b12 : ∀ b o, b ≠ p → H b = some o → (∀ ps, o ≠ .tbl ps) → H12 b = some o := fun b o n z nt => e12 _ _ (b11 b o n z nt)
    have fresh := b11
    clear e12 hp11 hD11 htd11 ht11 tab11 b11
    have l4 : (putF "many" (.int (us.length : Nat)) F3).length < 1000 := by rw [← eF]; show 4 < 1000; decide
    refine ⟨_, rfl, p, C, dx, _, rfl, hp12, X.cl, X.nK, l4, ?_⟩
    have x13 : ButI p H12 (upd H12 p (.ins C dx (putF "_keys" (.ref kk) (putF "many" (.int (us.length : Nat)) F3)))) := fun b o n z => (upd_ne n).trans z
    have hp13 : upd H12 p (.ins C dx (putF "_keys" (.ref kk) (putF "many" (.int (us.length : Nat)) F3))) p = some (.ins C dx (putF "_keys" (.ref kk) (putF "many" (.int (us.length : Nat)) F3))) := upd_same
    generalize upd H12 p (.ins C dx (putF "_keys" (.ref kk) (putF "many" (.int (us.length : Nat)) F3))) = H13 at x13 hp13 ⊢
    have tab13 := tabs_at tab12 hp12 (fun _ z => nomatch z) (fun _ z => nomatch z) x13
    have hD13 := x13 _ _ (ne_of hD12 hp12 fun z => nomatch z) hD12
    have ht13 := x13 _ _ (ne_of ht12 hp12 fun z => nomatch z) ht12
    have hkk13 := x13 _ _ (ne_of hkk12 hp12 fun z => nomatch z) hkk12
    have b13 : ∀ b o, b ≠ p → H b = some o → (∀ ps, o ≠ .tbl ps) → H13 b = some o := fun b o n z nt => x13 _ _ n (b12 b o n z nt)
    clear x13 tab12 hD12 ht12 hkk12 b12 hp12
    have lt5 : (putF "_keys" (.ref kk) (putF "many" (.int (us.length : Nat)) F3)).lookup ("words" : Str) = some (.ref t) := by rw [lookup_putF, if_neg (by decide +kernel), lt4]
    have l5 : (putF "_keys" (.ref kk) (putF "many" (.int (us.length : Nat)) F3)).length < 1000 := by rw [← eF]; show 5 < 1000; decide
    refine ⟨_, rfl, p, C, dx, _, _, rfl, hp13, X.cl, X.nW, lt5, t, _, rfl, .inr (SqT.of ht13), fun J G wk hG nn nnn => dcA wk (numF us) (fun j => .int (j : Nat)) (by rw [strs_len]; omega) (fun i l hi hl => num_inj O.nd i l (by rwa [strs_len] at hi) (by rwa [strs_len] at hl)) (fun H' e => hG H' fun o z => e _ _ z) nnn ?_ ?_⟩
    · intro i T0 a' b' H14 R N3 hi ea eb e14 hT r
      rw [strs_len] at hi
      cases ea
      have ew := List.getElem?_eq_getElem hi
      have eb : (us.map fun w => V.str (S w))[i]? = some b' := eb
      rw [List.getElem?_map, ew] at eb
      cases eb
      rw [(numF_at ew).1] at r
      refine ⟨T0, _, rfl, SqT.of hT, rfl, _, _, rfl, _, _, rfl, rfl, rfl, ?_⟩
      unfold tYes
      exact iteT ⟨_, rfl, _, rfl, r⟩
    intro H14 e14 hnn14
    rw [strs_len] at hnn14
    refine ⟨_, rfl, p, C, dx, _, rfl, e14 _ _ hp13, X.cl, X.nN, l5, ?_⟩
    have eM : putF "_numbers" (.ref nn) (putF "_keys" (.ref kk) (putF "many" (.int (us.length : Nat)) F3)) = dicF ls D t (us.length : Nat) kk nn := by
      rw [← eF]
      rfl
    rw [eM]
    have x15 : ButI p H14 (upd H14 p (.ins C dx (dicF ls D t (us.length : Nat) kk nn))) := fun b o n z => (upd_ne n).trans z
    have hp14 := e14 _ _ hp13
    have keep : ∀ b o, b ≠ p → H b = some o → (∀ ps, o ≠ .tbl ps) → upd H14 p (.ins C dx (dicF ls D t (us.length : Nat) kk nn)) b = some o := fun b o n z nt => x15 _ _ n (e14 _ _ (b13 b o n z nt))
    have r1 : upd H14 p (.ins C dx (dicF ls D t (us.length : Nat) kk nn)) p = some (.ins C dx (dicF ls D t (us.length : Nat) kk nn)) := upd_same
    have r2 := x15 _ _ (ne_of (e14 _ _ hD13) hp14 fun z => nomatch z) (e14 _ _ hD13)
    have r3 := x15 _ _ (ne_of (e14 _ _ ht13) hp14 fun z => nomatch z) (e14 _ _ ht13)
    have r4 := x15 _ _ (ne_of (e14 _ _ hkk13) hp14 fun z => nomatch z) (e14 _ _ hkk13)
    have r5 := x15 _ _ (ne_of hnn14 hp14 fun z => nomatch z) hnn14
    have tabE := tabs_at (tab13.ext e14) hp14 (fun _ z => nomatch z) (fun _ z => nomatch z) x15
    generalize upd H14 p (.ins C dx (dicF ls D t (us.length : Nat) kk nn)) = HE at keep r1 r2 r3 r4 r5 tabE ⊢
    refine q us HE pu O keep ⟨dx, D, t, kk, nn, r1, r2, r3, r4, r5⟩ (fun g xs ys hg => ?_) tabE
    have hgE := keep g _ (ne_of hg hp fun z => nomatch z) hg fun _ z => nomatch z
    have nk : kk ≠ g := fun z => by
      subst z
      have := fresh _ _ (ne_of hg hp fun z => nomatch z) hg fun _ z => nomatch z
      rw [nkk] at this
      cases this
    exact ⟨dx, D, t, kk, nn, (upd_ne (ne_of r1 hgE fun z => nomatch z)).trans r1, (upd_ne (ne_of r2 hgE fun z => nomatch z)).trans r2, (upd_ne (ne_of r3 hgE fun z => nomatch z)).trans r3, (upd_ne nk).trans r4, (upd_ne (ne_of r5 hgE fun z => nomatch z)).trans r5⟩
end
end K02
set_option Elab.async false
set_option linter.all false
set_option maxRecDepth 100001
set_option maxHeartbeats 3999999
namespace K02
open PySem L2
abbrev sLLet : Stmt := topS 29
abbrev sLWord : Stmt := topS 30
abbrev sLKey : Stmt := topS 31
/-! ### a sign's place -/
theorem idx_first {c : Nat} : ∀ (l : List Nat) (i : Nat), l[i]? = some c → (∀ k, k < i → l[k]? ≠ some c) → l.idxOf c = i
  | [], i, h, _ => by simp at h
  | a :: l, 0, h, _ => by
    simp at h
    rw [h, List.idxOf_cons_self]
  | a :: l, i + 1, h, n => by
    have ne : a ≠ c := fun e => n 0 (by omega) (by rw [e]; rfl)
    have ih := idx_first l i (by simpa using h) fun k hk => by have := n (k + 1) (by omega); simpa using this
    rw [List.idxOf_cons, show (a == c) = false from beq_eq_false_iff_ne.mpr ne, ih]
    rfl
theorem occ_sign {l : List Nat} {c : Nat} (h : c ∈ l) : ∃ r, Builtin.Str.occurrences (S l) (S [c]) 0 (S l).length 1 = l.idxOf c :: r := by
  rcases StrLaws.occ_head (S l) (S [c]) 1 (Nat.le_refl _) with ⟨_, hn⟩ | ⟨i, r, e, ha, hn⟩
  · obtain ⟨i, hi, e⟩ := List.getElem_of_mem h
    exact absurd ((StrLaws.subAt_one (S l) c i).mpr (by rw [S_list, List.getElem?_eq_getElem hi, e])) (hn i)
  · refine ⟨r, ?_⟩
    rw [e, idx_first l i ((StrLaws.subAt_one (S l) c i).mp ha) fun k hk z => hn k hk ((StrLaws.subAt_one (S l) c k).mpr z)]
/-! ### the law's letters, words, keys -/
/-- letters, and how many the law draws; one of a, z is not among them -/
structure LLet (ls : List Nat) : Prop where
  L : Lets ls
  few : ls.length ≤ 4
  str : 97 ∉ ls ∨ 122 ∉ ls
def spLLet : Sp := fun vs H Q _ => ∃ (pn cl : Addr) (b : Nat), vs = [.ref pn, .int 4] ∧ Pen H pn cl b ∧ b ≤ 900000 ∧ ∀ ls H', LLet ls → But pn H H' → Pen H' pn cl (b + 6) → Q (.str (S ls)) H'
def spLWord : Sp := fun vs H Q _ => ∃ (pn cl : Addr) (ls : List Nat) (b : Nat), vs = [.ref pn, .str (S ls), .int 4] ∧ Pen H pn cl b ∧ b ≤ 900000 ∧ LLet ls ∧ ∀ w H', w.length ≤ 4 → (∀ c ∈ w, c ∈ ls) → But pn H H' → Pen H' pn cl (b + 6) → Q (.str (S w)) H'
def keyI (ls w : List Nat) : List Int := w.map fun c => ((ls.idxOf c : Nat) : Int)
def spLKey : Sp := fun vs H Q _ => ∃ ls w, vs = [.str (S ls), .str (S w)] ∧ ls.length ≤ 1000 ∧ w.length ≤ 1000 ∧ (∀ c ∈ w, c ∈ ls) ∧ ∀ t H', Same H H' → H' t = some (.lst ((keyI ls w).map V.int)) → Q (.ref t) H'
section
variable {P : Program} {w : World} {K : PySem.W.Frag} {mg : Str → Option Value} {base : Heap}
theorem scLKey : FnScope ["_law_letters_here", "_law_word_here", "_law_sign"] ["_law_letters_here", "_law_word_here"] (defScope sLKey) := ⟨rfl, rfl, rfl, by decide +kernel, rfl, by decide +kernel, by decide +kernel⟩
theorem ok_lkey {f : Addr} {fd : FuncData} (F : Fun K "_law_key" "_law_key" sLKey f fd) : FnOk P w K mg base CX0 1 f fd ["_law_letters_here", "_law_word_here"] spLKey := by
  refine F.ok scLKey (fun vs H Q E h => ?_) (fun cdv A outer s H vs Q E hr h => ?_)
  · obtain ⟨ls, w, rfl, _⟩ := h
    rfl
  · obtain ⟨ls, w, rfl, ll, lw, hw, q⟩ := h
    refine ⟨_, pss_one (ps_ret (pe_lc (own := [("_law_sign", 2)]) rfl scLKey.nd (pi_str (pv 1)) (blkOk_by (N := ["_law_letters_here", "_law_word_here", "_law_sign"]) (sc := defScope sLKey) (by decide +kernel))
          (fun _ _ _ _ _ => pg_name (i := 2) scLKey.nd rfl (Or.inl rfl)) (fun _ _ _ _ _ => pts_nil) (fun _ _ _ _ _ => pe_m1 PySem.F.slot_str_index PySem.F.type_str_index mt_sindex (pv 0) (pv 2)))), ?_⟩
    refine ⟨_, rfl, _, rfl, fun D nD => lcS (fun c => .int ((ls.idxOf c : Nat) : Int)) (by rw [S_size]; omega) nD ?_ ?_⟩
    · intro c H1 Q1 N hc e q1
      obtain ⟨r, er⟩ := occ_sign (hw c hc)
      exact ⟨rfl, yesT ⟨_, rfl, ⟨_, rfl⟩, _, rfl, _, _, _, _, rfl, rfl, er, q1⟩⟩
    · intro H1 e hD
      refine q D H1 e ?_
      rw [hD]
      unfold keyI
      rw [List.map_map]
      rfl
theorem scLWord : FnScope ["_law_pen_here", "_law_letters_here", "_law_most", "_law_k"] ["_law_pen_here", "_law_letters_here", "_law_most"] (defScope sLWord) := ⟨rfl, rfl, rfl, by decide +kernel, rfl, by decide +kernel, by decide +kernel⟩
theorem ok_lword {f : Addr} {fd : FuncData} (F : Fun K "_law_word" "_law_word" sLWord f fd) (B : Bi mg) (cD : Cal CX0 P w K mg base 1 "_law_draw" spDraw) (cP : Cal CX0 P w K mg base 2 "_law_pick" spPickS) : FnOk P w K mg base CX0 3 f fd ["_law_pen_here", "_law_letters_here", "_law_most"] spLWord := by
  refine F.ok scLWord (fun vs H Q E h => ?_) (fun cdv A outer s H vs Q E hr h => ?_)
  · obtain ⟨pn, cl, ls, b, rfl, _⟩ := h
    rfl
  · obtain ⟨pn, cl, ls, b, rfl, pen, hb, LL, q⟩ := h
    refine ⟨_, pss_one (ps_ret (pe_join pe_str (pe_lc (own := [("_law_k", 3)]) rfl scLWord.nd (pi_range1 rfl B.range (pa_cons (pe_c cD hr pass0 (pa_cons (pv 0) (pa_cons (pe_op op_add (pv 2) pe_int) pa_nil))) pa_nil)) (blkOk_by (N := ["_law_pen_here", "_law_letters_here", "_law_most", "_law_k"]) (sc := defScope sLWord) (by decide +kernel))
          (fun _ _ _ _ _ => pg_name (i := 3) scLWord.nd rfl (Or.inl rfl)) (fun _ _ _ _ _ => pts_nil) (fun _ _ _ _ _ => pe_c cP hr pass0 (pa_cons (pv 0) (pa_cons (pv 1) pa_nil)))))), ?_⟩
    refine ⟨⟨_, rfl⟩, _, rfl, _, rfl, _, _, rfl, rfl, pn, cl, _, b, rfl, pen, by omega, by decide, by decide, fun r H1 r0 r1 e1 pen1 => ⟨_, rfl, by omega, by omega, ?_⟩⟩
    obtain ⟨n, rfl⟩ := Int.eq_ofNat_of_zero_le r0
    have n5 : n ≤ 4 := by omega
    rw [Int.toNat_natCast]
    have e0 : ∀ c o, c ≠ pn → H c = some o → H1 c = some o := e1
    intro D nD
    have pd : ∀ b' o, H1 b' = some o → b' ≠ D := fun b' o z => ne_of_none z nD
    have npD : pn ≠ D := (pen1.off nD).1
    have ncD : cl ≠ D := (pen1.off nD).2
    refine lc_it walk_range (fun i H' => ∃ u : List Nat, u.length = i ∧ (∀ c ∈ u, c ∈ ls) ∧ But pn H H' ∧ Pen H' pn cl (b + 1 + i) ∧ H' D = some (.lst (u.map fun c => .str (S [c])))) ⟨[], rfl, (fun _ h => nomatch h), (fun b' o nb z => (upd_ne (pd b' o (e1 _ _ nb z))).trans (e1 _ _ nb z)), pen1.upd npD ncD, upd_same⟩ (fun _ _ _ _ => True.intro) ?_ ?_
    · rintro i x H2 H3 hi ⟨u, lu, hu, e2, pen2, hD⟩ ⟨rfl, hx⟩
      refine ⟨rfl, yesT ⟨_, rfl, _, rfl, pn, cl, ls, _, rfl, pen2, by omega, by have := LL.L.lo; omega, by have := LL.few; omega, fun c H4 hc e4 pen4 => ?_⟩⟩
      have hD4 := e4 _ _ npD.symm hD
      refine ⟨_, hD4, by rw [List.length_map]; exact small10 (by omega), u ++ [c], by rw [List.length_append, lu]; rfl, fun c' hc' => ?_, fun b' o nb z => ?_, (pen4.mono (by omega)).upd npD ncD, ?_⟩
      · rcases List.mem_append.mp hc' with h | h
        · exact hu c' h
        · rw [List.mem_singleton.mp h]
          exact hc
      · exact (upd_ne (pd b' o (e1 _ _ nb z))).trans (e4 _ _ nb (e2 _ _ nb z))
      · rw [upd_same, List.map_append]
        rfl
    · rintro H2 ⟨u, lu, hu, e2, pen2, hD⟩
      refine ⟨_, D, u.map fun c => S [c], rfl, rfl, .inl ?_, ?_, ?_⟩
      · rw [List.map_map]
        exact SqL.of hD
      · have : ∀ l : List Nat, ((l.map fun c => S [c]).map (·.length)).sum = l.length := fun l => by
          induction l with
          | nil => rfl
          | cons c l ih =>
            simp only [List.map_cons, List.sum_cons, ih, S_len, List.length_cons, List.length_nil]
            omega
        rw [this, List.length_map]
        show u.length + u.length * ("" : Str).length ≤ _
        rw [empty_S, S_len]
        simp only [List.length_nil]
        omega
      · show Q (.str (Txt.join "" _)) H2
        rw [empty_S, joined]
        exact q u H2 (by omega) hu e2 (pen2.mono (by omega))
end
end K02
set_option Elab.async false
set_option linter.all false
set_option maxRecDepth 100001
set_option maxHeartbeats 3999999
namespace K02
open PySem L2
def low6 : List Nat := [97, 98, 99, 100, 101, 102]
def hi6 : List Nat := [117, 118, 119, 120, 121, 122]
theorem low6_S : ("abcdef" : Str) = S low6 := by decide +kernel
theorem hi6_S : ("uvwxyz" : Str) = S hi6 := by decide +kernel
theorem map_erase {α β : Type} (f : α → β) : ∀ (l : List α) (i : Nat), (l.map f).eraseIdx i = (l.eraseIdx i).map f
  | [], _ => rfl
  | _ :: _, 0 => rfl
  | a :: l, i + 1 => by
    rw [List.map_cons, List.eraseIdx_cons_succ, List.eraseIdx_cons_succ, List.map_cons, map_erase f l i]
theorem perm_erase {α : Type} : ∀ (l : List α) (i : Nat) (h : i < l.length), (l[i] :: l.eraseIdx i).Perm l
  | [], _, h => absurd h (Nat.not_lt_zero _)
  | _ :: _, 0, _ => List.Perm.refl _
  | a :: l, i + 1, h => by
    have ih := perm_erase l i (by simpa using h)
    exact (List.Perm.swap a _ _).trans (ih.cons a)
theorem seqIx {k n : Nat} (h : k < n) : seqIndex? ((k : Nat) : Int) n = some k := by
  unfold seqIndex?
  simp
  omega
section
variable {P : Program} {w : World} {K : PySem.W.Frag} {mg : Str → Option Value} {base : Heap}
theorem scLLet : FnScope ["_law_pen_here", "_law_most", "_law_kind", "_law_pool", "_law_found", "_law_k"] ["_law_pen_here", "_law_most"] (defScope sLLet) := ⟨rfl, rfl, rfl, by decide +kernel, rfl, by decide +kernel, by decide +kernel⟩
theorem ok_llet {f : Addr} {fd : FuncData} (F : Fun K "_law_letters" "_law_letters" sLLet f fd) (B : Bi mg) (cD : Cal CX0 P w K mg base 1 "_law_draw" spDraw) : FnOk P w K mg base CX0 3 f fd ["_law_pen_here", "_law_most"] spLLet := by
  refine F.ok scLLet (fun vs H Q E h => ?_) (fun cdv A outer s H vs Q E hr h => ?_)
  · obtain ⟨pn, cl, b, rfl, _⟩ := h
    rfl
  · obtain ⟨pn, cl, b, rfl, pen, hb, q⟩ := h
    refine ⟨_, pss_cons (ps_set (i := 2) scLLet.nd rfl (Or.inl rfl) (pe_c cD hr pass0 (pa_cons (pv 0) (pa_cons pe_int pa_nil))))
      (pss_cons (ps_set (i := 3) scLLet.nd rfl (Or.inl rfl) (pe_callTy (call_listS rfl) rfl B.list (by decide +kernel) (pa_cons (pe_slice sl_str (pe_ix ix_list (pe_lst (pa_cons pe_str (pa_cons pe_str pa_nil))) (pe_op op_fdiv (pv 2) pe_int) (fun _ _ => rfl)) po_none (po_some (pe_op op_add pe_int (pe_op op_mod (pe_int1 B.int (pa_cons (pv 2) pa_nil)) pe_int)))) pa_nil)))
      (pss_cons (ps_set (i := 4) scLLet.nd rfl (Or.inl rfl) pe_str)
      (pss_cons (ps_for PassesOwn.never rfl (pi_range1 rfl B.range (pa_cons (pe_op op_add pe_int (pe_c cD hr pass0 (pa_cons (pv 0) (pa_cons (pe_op op_sub (pv 1) pe_int) pa_nil)))) pa_nil)) (pg_name (i := 5) scLLet.nd rfl (.inl rfl))
        (pss_one (ps_set (i := 4) scLLet.nd rfl (Or.inl rfl) (pe_op op_add_str (pv 4) (pe_bm PySem.F.plainAttrs_list PySem.F.slot_list_pop PySem.F.type_list_pop mt_popAt (pv 3) (pa_cons (pe_c cD hr pass0 (pa_cons (pv 0) (pa_cons (pe_len B.len (pa_cons (pv 3) pa_nil)) pa_nil))) pa_nil))))))
      (pss_one (ps_ret (pv 4)))))), ?_⟩
    refine ⟨_, rfl, pn, cl, _, b, rfl, pen, by omega, by decide, by decide, fun r H1 r0 r1 e1 pen1 => ?_⟩
    obtain ⟨r, rfl⟩ := Int.eq_ofNat_of_zero_le r0
    have r6 : r < 6 := by omega
    obtain ⟨bs, hbs, b6, bi, b97⟩ : ∃ bs : List Nat, atI [V.str ("abcdef" : Str), V.str ("uvwxyz" : Str)] (((r : Nat) : Int) / 3) = some (.str (S bs)) ∧ bs.length = 6 ∧ (bs.Nodup ∧ ∀ c ∈ bs, c ∈ abc) ∧ (97 ∉ bs ∨ 122 ∉ bs) := by
      by_cases c : r < 3
      · rw [show ((r : Nat) : Int) / 3 = ((0 : Nat) : Int) by omega, low6_S]
        exact ⟨low6, atI_nat rfl, rfl, by decide, by decide⟩
      · rw [show ((r : Nat) : Int) / 3 = ((1 : Nat) : Int) by omega, hi6_S]
        exact ⟨hi6, atI_nat rfl, rfl, by decide, by decide⟩
    refine ⟨by decide, fun l0 n0 => ⟨_, rfl, _, _, rfl, rfl, ⟨by decide, by decide⟩, l0, _, _, _, rfl, rfl, SqL.of upd_same, hbs, ?_⟩⟩
    have sb : (S bs).length ≤ sizeLine := Nat.le_of_lt (small10 (by rw [S_len]; omega))
    refine ⟨_, rfl, .inl ⟨_, rfl, _, _, rfl, rfl, (by show (0 : Int) < 3; decide), _, _, rfl, rfl, _, rfl, S bs, rfl, sb, ?_⟩⟩
    have ec : cutS (S bs) none (some (4 + ((r : Nat) : Int) % 3)) = S (bs.take (4 + r % 3)) := by
      rw [show (4 + ((r : Nat) : Int) % 3) = ((4 + r % 3 : Nat) : Int) by omega]
      exact cut_S (by omega)
    rw [ec]
    have lp : (bs.take (4 + r % 3)).length = 4 + r % 3 := by rw [List.length_take]; omega
    have ps : ∀ c ∈ bs.take (4 + r % 3), c ∈ bs := fun c h => List.mem_of_mem_take h
    have pn' : (bs.take (4 + r % 3)).Nodup := (List.take_sublist _ _).nodup bi.1
    generalize bs.take (4 + r % 3) = pool at lp ps pn' ⊢
    refine ⟨_, rfl, Nat.le_of_lt (small10 (by rw [S_len]; omega)), fun po npo => ?_⟩
    have e2 : Same H1 (upd H1 l0 (.lst [.str "abcdef", .str "uvwxyz"])) := same_new n0
    generalize upd H1 l0 (.lst [.str "abcdef", .str "uvwxyz"]) = H2 at e2 npo ⊢
    have pen2 := pen1.same e2
    have x3 : Same H2 (upd H2 po (.lst (sgns (S pool)))) := same_new npo
    have hpo : upd H2 po (.lst (sgns (S pool))) po = some (.lst (sgns (S pool))) := upd_same
    have pen3 := pen2.same x3
    have npp : pn ≠ po := (pen2.off npo).1
    have ncp : cl ≠ po := (pen2.off npo).2
    have nH : ∀ c o, c ≠ pn → H c = some o → c ≠ po := fun c o n z => ne_of_none (e2 _ _ (e1 _ _ n z)) npo
    have bt3 : But pn H (upd H2 po (.lst (sgns (S pool)))) := fun c o n z => x3 _ _ (e2 _ _ (e1 _ _ n z))
    generalize upd H2 po (.lst (sgns (S pool))) = H3 at x3 hpo pen3 bt3 ⊢
    clear x3 pen2 e2 npo n0 pen1 e1 pen
    refine ⟨_, rfl, _, rfl, _, _, rfl, rfl, pn, cl, _, b + 1, rfl, pen3, by omega, by decide, by decide, fun m H4 m0 m1 e4 pen4 => ?_⟩
    obtain ⟨m, rfl⟩ := Int.eq_ofNat_of_zero_le m0
    have m3 : m < 3 := by omega
    have hpo4 := e4 _ _ npp.symm hpo
    have bt4 : But pn H H4 := fun c o n z => e4 _ _ n (bt3 c o n z)
    refine ⟨_, _, rfl, rfl, _, rfl, by omega, by omega, for_range (lo := 0) (n := (2 + ((m : Nat) : Int)).toNat) (fun i σ H' => ∃ (k : Option V) (u rest : List Nat), σ = [some (.ref pn), some (.int 4), some (.int (r : Nat)), some (.ref po), some (.str (S u)), k] ∧ But pn H H' ∧ Pen H' pn cl (b + 2 + i) ∧ H' po = some (.lst (rest.map sgn)) ∧ (u ++ rest).Nodup ∧ (∀ c ∈ u ++ rest, c ∈ bs) ∧ u.length = i ∧ 4 ≤ rest.length + i ∧ rest.length ≤ 6)
      ⟨none, [], pool, by rw [← empty_S]; rfl, bt4, pen4, hpo4, pn', ps, rfl, by omega, by omega⟩ ?_ ?_⟩
    · rintro i σ H5 hi ⟨k, u, rest, rfl, e5, pen5, hpo5, nd, sub, lu, l4, l6⟩
      have lm : (rest.map sgn).length = rest.length := List.length_map ..
      refine ⟨_, rfl, _, rfl, .inl ⟨rfl, _, SqL.of hpo5⟩, _, rfl, _, rfl, po, _, rfl, .inl (SqL.of hpo5), pn, cl, _, b + 2 + i, rfl, pen5, by omega, by rw [lm]; omega, by rw [lm]; omega, fun d H6 d0 d1 e6 pen6 => ?_⟩
      obtain ⟨d, rfl⟩ := Int.eq_ofNat_of_zero_le d0
      rw [lm] at d1
      have d2 : d < rest.length := by omega
      have hpo6 := e6 _ _ npp.symm hpo5
      have eg : (rest.map sgn)[d]? = some (sgn rest[d]) := by rw [List.getElem?_map, List.getElem?_eq_getElem d2]; rfl
      refine ⟨po, _, _, d, _, rfl, rfl, hpo6, by omega, by omega, by rw [lm]; exact seqIx d2, eg, _, S [rest[d]], rfl, rfl, ?_, some (.int (0 + ((i : Nat) : Int))), u ++ [rest[d]], rest.eraseIdx d, ?_, ?_, ?_, ?_, ?_, ?_, ?_, ?_, ?_⟩
      · rw [S_len, S_len]
        exact Nat.le_of_lt (small10 (by simp only [List.length_cons, List.length_nil]; omega))
      · rw [S_app]
        rfl
      · exact fun c o n z => (upd_ne (nH c o n z)).trans (e6 _ _ n (e5 c o n z))
      · exact (pen6.mono (by omega)).upd npp ncp
      · rw [upd_same, map_erase]
      · have pm : (u ++ [rest[d]] ++ rest.eraseIdx d).Perm (u ++ rest) := by
          rw [List.append_assoc]
          exact List.Perm.append_left _ (perm_erase rest d d2)
        exact pm.nodup_iff.mpr nd
      · have pm : (u ++ [rest[d]] ++ rest.eraseIdx d).Perm (u ++ rest) := by
          rw [List.append_assoc]
          exact List.Perm.append_left _ (perm_erase rest d d2)
        exact fun c h => sub c (pm.mem_iff.mp h)
      · rw [List.length_append, lu]
        rfl
      · rw [List.length_eraseIdx_of_lt d2]
        omega
      · rw [List.length_eraseIdx_of_lt d2]
        omega
    · rintro σ H5 ⟨k, u, rest, rfl, e5, pen5, hpo5, nd, sub, lu, l4, l6⟩
      have mu : ∀ c ∈ u, c ∈ bs := fun c h => sub c (List.mem_append_left _ h)
      refine ⟨_, rfl, q u H5 ⟨⟨(List.nodup_append.mp nd).1, by omega, by omega, fun c h => bi.2 c (mu c h)⟩, by omega, b97.imp (fun h z => h (mu _ z)) fun h z => h (mu _ z)⟩ e5 (pen5.mono (by omega))⟩
end
end K02
set_option Elab.async false
set_option linter.all false
set_option maxRecDepth 100001
set_option maxHeartbeats 3999999
namespace K02
open PySem L2
abbrev sLOrd : Stmt := topS 32
theorem lex_key (ls : List Nat) : ∀ v w : List Nat, HT.lexLt (keyI ls v) (keyI ls w) = decide (key ls v < key ls w)
  | [], [] => by simp [keyI, key, HT.lexLt]
  | [], _ :: _ => by simp [keyI, key, HT.lexLt]
  | _ :: _, [] => by simp [keyI, key, HT.lexLt]
  | a :: v, b :: w => by
    have ih := lex_key ls v w
    show HT.lexLt (((ls.idxOf a : Nat) : Int) :: keyI ls v) (((ls.idxOf b : Nat) : Int) :: keyI ls w) = decide ((97 + ls.idxOf a) :: key ls v < (97 + ls.idxOf b) :: key ls w)
    rw [HT.lexLt_cons, ih]
    by_cases c : ls.idxOf a = ls.idxOf b
    · rw [c, if_pos rfl]
      exact decide_eq_decide.mpr (by rw [List.cons_lt_cons_iff]; simp)
    · rw [if_neg (by omega)]
      refine decide_eq_decide.mpr ?_
      rw [List.cons_lt_cons_iff]
      omega
theorem in_txs {w : List Nat} : ∀ {us : List (List Nat)}, inV (.str (S w)) (txs us) = decide (w ∈ us)
  | [] => by simp [inV, txs]
  | u :: us => by
    have ih := in_txs (w := w) (us := us)
    have e : inV (.str (S w)) (txs (u :: us)) = (eqV (.str (S u)) (.str (S w)) || inV (.str (S w)) (txs us)) := by simp [inV, txs]
    have e2 : eqV (.str (S u)) (.str (S w)) = decide (w = u) := by
      show (S u == S w) = _
      rw [Bool.eq_iff_iff, decide_eq_true_iff, beq_iff_eq]
      exact ⟨fun h => (S_inj h).symm, fun h => h ▸ rfl⟩
    rw [e, ih, e2]
    simp only [List.mem_cons, Bool.decide_or]
theorem flat_txs (us : List (List Nat)) : (txs us).all flatV = true := by
  unfold txs
  rw [List.all_map]
  exact List.all_eq_true.mpr fun _ _ => rfl
theorem lt_tri {a b : List Nat} (h : ¬ b < a) (n : a ≠ b) : a < b := (List.le_iff_lt_or_eq.mp (List.not_lt.mp h)).resolve_right n
theorem lt_irr {a : List Nat} (h : a < a) : False := List.lt_irrefl a h
/-- a word put where its key belongs -/
theorem ins_sorted {ls w : List Nat} : ∀ {us : List (List Nat)}, (us.Pairwise fun a b => key ls a < key ls b) → (∀ u ∈ us, key ls u ≠ key ls w) → ((us.take (us.countP fun o => decide (key ls o < key ls w)) ++ [w] ++ us.drop (us.countP fun o => decide (key ls o < key ls w))).Pairwise fun a b => key ls a < key ls b)
  | [], _, _ => by simp
  | a :: us, h, n => by
    obtain ⟨h1, h2⟩ := List.pairwise_cons.mp h
    have ih := ins_sorted h2 fun u m => n u (List.mem_cons_of_mem _ m)
    by_cases c : key ls a < key ls w
    · have ec : (a :: us).countP (fun o => decide (key ls o < key ls w)) = us.countP (fun o => decide (key ls o < key ls w)) + 1 := by simp [List.countP_cons, c]
      rw [ec, List.take_succ_cons, List.drop_succ_cons, List.cons_append, List.cons_append]
      refine List.pairwise_cons.mpr ⟨fun x hx => ?_, ih⟩
      rcases List.mem_append.mp hx with hx | hx
      · rcases List.mem_append.mp hx with hx | hx
        · exact h1 x (List.mem_of_mem_take hx)
        · rw [List.mem_singleton.mp hx]
          exact c
      · exact h1 x (List.mem_of_mem_drop hx)
    · have wa : key ls w < key ls a := lt_tri c fun e => n a List.mem_cons_self e.symm
      have z : us.countP (fun o => decide (key ls o < key ls w)) = 0 := by
        rw [List.countP_eq_zero]
        intro u mu z
        exact lt_irr (List.lt_trans (List.lt_trans wa (h1 u mu)) (of_decide_eq_true z))
      have ec : (a :: us).countP (fun o => decide (key ls o < key ls w)) = us.countP (fun o => decide (key ls o < key ls w)) := by simp [List.countP_cons, c]
      rw [ec, z]
      show List.Pairwise _ (w :: a :: us)
      refine List.pairwise_cons.mpr ⟨fun x hx => ?_, h⟩
      rcases List.mem_cons.mp hx with rfl | hx
      · exact wa
      · exact List.lt_trans wa (h1 x hx)
theorem mem_ins {α : Type} {us : List α} {w x : α} {p : Nat} : x ∈ us.take p ++ [w] ++ us.drop p ↔ x = w ∨ x ∈ us := by
  rw [List.append_assoc, List.mem_append, List.mem_append, List.mem_singleton]
  constructor
  · rintro (h | h | h)
    · exact .inr (List.mem_of_mem_take h)
    · exact .inl h
    · exact .inr (List.mem_of_mem_drop h)
  · rintro (h | h)
    · exact .inr (.inl h)
    · rw [← List.take_append_drop p us, List.mem_append] at h
      exact h.elim .inl fun h => .inr (.inr h)
/-- words that the law draws -/
structure WsL (ls : List Nat) (ws : List (List Nat)) : Prop where
  many : ws.length ≤ 14
  word : ∀ w ∈ ws, w.length ≤ 5 ∧ ∀ c ∈ w, c ∈ ls
/-- these words in their order -/
structure OrdL (ls : List Nat) (ws us : List (List Nat)) : Prop where
  many : us.length ≤ ws.length
  mem : ∀ w, w ∈ us ↔ w ∈ ws
  up : us.Pairwise fun a b => key ls a < key ls b
def spLOrd : Sp := fun vs H Q _ => ∃ s ls ws, vs = [.str (S ls), .ref s] ∧ H s = some (.lst (txs ws)) ∧ LLet ls ∧ WsL ls ws ∧ ∀ t us H', OrdL ls ws us → Same H H' → H' t = some (.lst (txs us)) → Q (.ref t) H'
theorem op_ltLIK {X : Cx} {K : PySem.W.Frag} (hK : X.K = K) (hu : X.A.units < cLine) : OpR X (compareOp .Lt) (rLtLI K) := by
  subst hK
  exact op_ltLI hu
section
variable {P : Program} {w : World} {K : PySem.W.Frag} {mg : Str → Option Value} {base : Heap}
abbrev NOrd : List Str := ["_law_letters_here", "_law_words", "_law_found", "_law_word_here", "_law_place", "_law_other"]
theorem scLOrd : FnScope NOrd ["_law_letters_here", "_law_words"] (defScope sLOrd) := ⟨rfl, rfl, rfl, by decide +kernel, rfl, by decide +kernel, by decide +kernel⟩
theorem ok_lord {f : Addr} {fd : FuncData} (F : Fun K "_law_ordered" "_law_ordered" sLOrd f fd) (B : Bi mg) (cK : Cal CX0 P w K mg base 1 "_law_key" spLKey) : FnOk P w K mg base CX0 2 f fd ["_law_letters_here", "_law_words"] spLOrd := by
  refine F.ok scLOrd (fun vs H Q E h => ?_) (fun cdv A outer s H vs Q E hr h => ?_)
  · obtain ⟨s, ls, ws, rfl, _⟩ := h
    rfl
  · obtain ⟨sq, ls, ws, rfl, hs, LL, W, q⟩ := h
    refine ⟨_, pss_cons (ps_set (i := 2) scLOrd.nd rfl (Or.inl rfl) (pe_lst pa_nil))
      (pss_cons (ps_for PassesOwn.never rfl (pi_sqA (pv 1)) (pg_name (i := 3) scLOrd.nd rfl (.inr rfl))
        (pss_one (ps_if (pt_cmpR op_notIn_seq (pv 3) (pv 2) rfl)
          (pss_cons (ps_set (i := 4) scLOrd.nd rfl (Or.inl rfl) (pe_len B.len (pa_cons (pe_lc (own := [("_law_other", 5)]) rfl scLOrd.nd (pi_sqA (pv 2)) (blkOk_by (N := NOrd) (sc := defScope sLOrd) (by decide +kernel))
            (fun _ _ _ _ _ => pg_name (i := 5) scLOrd.nd rfl (Or.inl rfl)) (fun _ _ _ _ _ => pts_one (pt_cmpR (op_ltLIK (K := K) rfl (by have := hu64 hr; exact Nat.lt_of_le_of_lt (Nat.le_add_right _ _) this)) (pe_c cK hr pass0 (pa_cons (pv 0) (pa_cons (pv 5) pa_nil))) (pe_c cK hr pass0 (pa_cons (pv 0) (pa_cons (pv 3) pa_nil))) (nomark _))) (fun _ _ _ _ _ => pv 5)) pa_nil)))
          (pss_one (ps_expr (pe_bm PySem.F.plainAttrs_list PySem.F.slot_list_insert PySem.F.type_list_insert mt_insert (pv 2) (pa_cons (pv 4) (pa_cons (pv 3) pa_nil)))))) pss_nil)))
      (pss_one (ps_ret (pv 2)))), ?_⟩
    have sOf : ∀ {i : Nat} {v : V}, (txs ws)[i]? = some v → ∃ w, ws[i]? = some w ∧ v = .str (S w) := fun {i v} h => by
      have h : (ws.map fun w => V.str (S w))[i]? = some v := h
      rw [List.getElem?_map] at h
      cases e : ws[i]? with
      | none => rw [e] at h; cases h
      | some w => rw [e] at h; exact ⟨w, rfl, (Option.some.inj h).symm⟩
    refine ⟨by decide, fun fo nfo => ?_⟩
    have nsf : sq ≠ fo := ne_of_none hs nfo
    have nH : ∀ b o, H b = some o → b ≠ fo := fun b o z => ne_of_none z nfo
    refine ⟨_, rfl, sq, _, rfl, .inl (SqL.of ((upd_ne nsf).trans hs)), fun J G wk hG => for_it wk (fun i σ H' => ∃ (a b : Option V) (us : List (List Nat)), σ = [some (.str (S ls)), some (.ref sq), some (.ref fo), a, b, none] ∧ Same H H' ∧ H' fo = some (.lst (txs us)) ∧ us.length ≤ i ∧ (∀ w, w ∈ us ↔ w ∈ ws.take i) ∧ us.Pairwise fun a b => key ls a < key ls b)
      ⟨none, none, [], rfl, same_new nfo, upd_same, Nat.le_refl _, (fun w => by simp), .nil⟩ (fun i σ H' _ ⟨_, _, _, _, e, _⟩ => hG H' fun o z => by rw [upd_ne nsf] at z; exact e _ _ z) ?_ ?_⟩
    · rintro i x σ H1 H2 hi ⟨a, b, us, rfl, e1, hfo, lu, mem, up⟩ ⟨rfl, hx⟩
      obtain ⟨w, hw, rfl⟩ := sOf hx
      have hi2 : i < ws.length := (List.getElem?_eq_some_iff.mp hw).1
      obtain ⟨w5, wl⟩ := W.word w (List.mem_of_getElem? hw)
      have tk : ∀ x, x ∈ ws.take (i + 1) ↔ x = w ∨ x ∈ ws.take i := fun x => by
        rw [List.take_add_one, hw, List.mem_append]
        simp only [Option.toList_some, List.mem_singleton]
        exact or_comm
      have wo : ∀ u ∈ us, u.length ≤ 5 ∧ ∀ c ∈ u, c ∈ ls := fun u m => W.word u (List.mem_of_mem_take ((mem u).mp m))
      refine ⟨_, rfl, _, rfl, fo, _, rfl, .inl (SqL.of hfo), rfl, flat_txs us, _, rfl, ?_⟩
      rw [in_txs]
      by_cases c : w ∈ us
      · rw [decide_eq_true c]
        refine iteF ⟨_, _, us, rfl, e1, hfo, by omega, fun x => ?_, up⟩
        rw [tk x, mem x]
        exact ⟨.inr, fun h => h.elim (fun h => by rw [h]; exact (mem w).mp c) id⟩
      · rw [decide_eq_false c]
        have W14 := W.many
        refine iteT ⟨_, rfl, fo, _, rfl, .inl (SqL.of hfo), fun J2 G2 wk2 hG2 D nD => lc_it wk2 (fun j H' => Same H2 H' ∧ H' D = some (.lst (txs ((us.take j).filter fun o => decide (key ls o < key ls w))))) ⟨same_new nD, upd_same⟩ (fun j H' _ z => hG2 H' fun o z' => z.1 _ _ z') ?_ ?_⟩
        · rintro j y H3 H4 hj ⟨e3, hD⟩ ⟨rfl, hy⟩
          have hj2 : j < us.length := by rwa [strs_len] at hj
          have eu := List.getElem?_eq_getElem hj2
          have ey : y = .str (S us[j]) := by
            have hy : (us.map fun w => V.str (S w))[j]? = some y := hy
            rw [List.getElem?_map, eu] at hy
            exact (Option.some.inj hy).symm
          subst ey
          obtain ⟨u5, ul⟩ := wo us[j] (List.getElem_mem hj2)
          have sm := LL.few
          refine ⟨rfl, _, rfl, _, rfl, ls, us[j], rfl, by omega, by omega, ul, fun t1 H5 e5 h5 => ?_⟩
          refine ⟨_, rfl, _, rfl, ls, w, rfl, by omega, by omega, wl, fun t2 H6 e6 h6 => ?_⟩
          refine ⟨t1, t2, _, _, rfl, rfl, SqL.of (e6 _ _ h5), SqL.of h6, _, rfl, ?_⟩
          rw [lex_key]
          have e46 := (e3.trans e5).trans e6
          have tj : us.take (j + 1) = us.take j ++ [us[j]] := by rw [List.take_add_one, eu]; rfl
          by_cases d : key ls us[j] < key ls w
          · rw [decide_eq_true d]
            refine iteT ⟨_, rfl, _, e6 _ _ (e5 _ _ hD), ?_, fun b' o z => ?_, ?_⟩
            · rw [strs_len]
              exact small10 (Nat.le_trans (List.length_filter_le _ _) (by rw [List.length_take]; omega))
            · rw [upd_ne (ne_of_none z nD)]
              exact e46 _ _ z
            · rw [upd_same, tj, List.filter_append, List.filter_cons_of_pos (by simpa using d)]
              unfold txs
              rw [List.map_append]
              rfl
          · rw [decide_eq_false d]
            refine iteF ⟨e46, ?_⟩
            rw [e6 _ _ (e5 _ _ hD), tj, List.filter_append, List.filter_cons_of_neg (by simpa using d)]
            simp
        · rintro H3 ⟨e3, hD⟩
          rw [strs_len, List.take_length] at hD
          have hfo3 := e3 _ _ hfo
          refine ⟨D, _, rfl, .inl (SqL.of hD), ?_⟩
          rw [strs_len, ← List.countP_eq_length_filter]
          have cl := List.countP_le_length (p := fun o => decide (key ls o < key ls w)) (l := us)
          refine ⟨_, rfl, .inl ⟨rfl, _, SqL.of hfo3⟩, _, rfl, _, rfl, fo, _, _, _, rfl, rfl, hfo3, by rw [strs_len]; exact small10 (by omega), by omega, by omega, ?_⟩
          have iu := ins_sorted (w := w) up fun u m e => c (key_inj (wo u m).2 wl e ▸ m)
          rw [Int.toNat_natCast]
          generalize us.countP (fun o => decide (key ls o < key ls w)) = p at iu cl ⊢
          refine ⟨_, _, us.take p ++ [w] ++ us.drop p, rfl, fun b' o z => (upd_ne (nH b' o z)).trans (e3 _ _ (e1 _ _ z)), ?_, ?_, fun x => ?_, iu⟩
          · rw [upd_same]
            unfold txs
            rw [List.map_append, List.map_append, List.map_take, List.map_drop]
            rfl
          · rw [List.length_append, List.length_append, List.length_take, List.length_drop, List.length_singleton]
            omega
          · rw [mem_ins, tk x, mem x]
    · rintro σ H1 ⟨a, b, us, rfl, e1, hfo, lu, mem, up⟩
      rw [strs_len, List.take_length] at mem
      rw [strs_len] at lu
      exact ⟨_, rfl, q fo us H1 ⟨lu, mem, up⟩ e1 hfo⟩
end
end K02
set_option Elab.async false
set_option linter.all false
set_option maxRecDepth 100001
set_option maxHeartbeats 3999999
namespace K02
open PySem L2
abbrev sBadLet : Stmt := inClass (topS 11) 0
abbrev sBadWrd : Stmt := inClass (topS 12) 0
abbrev sBadOld : Stmt := inClass (topS 15) 0
section
variable {P : Program} {w : World} {K : PySem.W.Frag} {mg : Str → Option Value} {base : Heap}
theorem scBadLet : FnScope ["self", "letters"] ["self", "letters"] (defScope sBadLet) := ⟨rfl, rfl, rfl, by decide +kernel, rfl, by decide +kernel, by decide +kernel⟩
theorem ok_badLet {f : Addr} {fd : FuncData} (F : Fun K "__init__" "BadLetters.__init__" sBadLet f fd) (cC : Cal CX0 P w K mg base 2 "copied" spCopy2) : FnOk P w K mg base CX0 3 f fd ["self", "letters"] (spXO K "letters") := by
  refine F.ok scBadLet (fun vs H Q E h => ?_) (fun cdv A outer s H vs Q E hr h => ?_)
  · obtain ⟨a, C, v, d, rfl, _⟩ := h
    rfl
  · obtain ⟨a, C, v, d, rfl, T, no, od, ha, q⟩ := h
    refine ⟨_, pss_one (ps_ost (pv 0) (pe_c cC hr pass0 (pa_cons (pv 1) pa_nil))), ?_⟩
    exact ⟨_, rfl, v, d, rfl, od, fun v' H1 e1 o1 => ⟨_, rfl, a, C, rfl, T, no, .inl ⟨e1 _ _ ha, fun dx nd ne => q v' H1 dx e1 o1 nd ne⟩⟩⟩
theorem scBadWrd : FnScope ["self", "index"] ["self", "index"] (defScope sBadWrd) := ⟨rfl, rfl, rfl, by decide +kernel, rfl, by decide +kernel, by decide +kernel⟩
theorem ok_badWrd {f : Addr} {fd : FuncData} (F : Fun K "__init__" "BadWord.__init__" sBadWrd f fd) (cC : Cal CX0 P w K mg base 2 "copied" spCopy2) : FnOk P w K mg base CX0 3 f fd ["self", "index"] (spXO K "index") := by
  refine F.ok scBadWrd (fun vs H Q E h => ?_) (fun cdv A outer s H vs Q E hr h => ?_)
  · obtain ⟨a, C, v, d, rfl, _⟩ := h
    rfl
  · obtain ⟨a, C, v, d, rfl, T, no, od, ha, q⟩ := h
    refine ⟨_, pss_one (ps_ost (pv 0) (pe_c cC hr pass0 (pa_cons (pv 1) pa_nil))), ?_⟩
    exact ⟨_, rfl, v, d, rfl, od, fun v' H1 e1 o1 => ⟨_, rfl, a, C, rfl, T, no, .inl ⟨e1 _ _ ha, fun dx nd ne => q v' H1 dx e1 o1 nd ne⟩⟩⟩
theorem scBadOld : FnScope ["self", "word"] ["self", "word"] (defScope sBadOld) := ⟨rfl, rfl, rfl, by decide +kernel, rfl, by decide +kernel, by decide +kernel⟩
theorem ok_badOld {f : Addr} {fd : FuncData} (F : Fun K "__init__" "OldWord.__init__" sBadOld f fd) (cC : Cal CX0 P w K mg base 2 "copied" spCopy2) : FnOk P w K mg base CX0 3 f fd ["self", "word"] (spXO K "word") := by
  refine F.ok scBadOld (fun vs H Q E h => ?_) (fun cdv A outer s H vs Q E hr h => ?_)
  · obtain ⟨a, C, v, d, rfl, _⟩ := h
    rfl
  · obtain ⟨a, C, v, d, rfl, T, no, od, ha, q⟩ := h
    refine ⟨_, pss_one (ps_ost (pv 0) (pe_c cC hr pass0 (pa_cons (pv 1) pa_nil))), ?_⟩
    exact ⟨_, rfl, v, d, rfl, od, fun v' H1 e1 o1 => ⟨_, rfl, a, C, rfl, T, no, .inl ⟨e1 _ _ ha, fun dx nd ne => q v' H1 dx e1 o1 nd ne⟩⟩⟩
end
end K02
set_option Elab.async false
set_option linter.all false
set_option maxRecDepth 100001
set_option maxHeartbeats 3200000
/-! len(set(s)), s any text. -/
namespace SetAny
open PySem.Spec PySem PyProof.Rows
def sgl (c : Nat) : Str := ⟨#[c]⟩
def firsts (z : Str) (i : Nat) : List Nat := z.cps.toList.take i
def has (z : Str) (i : Nat) (k : Str) : Bool := (firsts z i).any fun c => sgl c == k
theorem firsts_succ {z : Str} {i c : Nat} (h : z.cps[i]? = some c) : firsts z (i + 1) = firsts z i ++ [c] := by
  unfold firsts
  rw [List.take_add_one, Array.getElem?_toList, h]
  rfl
theorem sgl_inj {a b : Nat} (h : sgl a = sgl b) : a = b := by
  have h2 : (#[a] : Array Nat) = #[b] := congrArg Str.cps h
  have h3 := congrArg Array.toList h2
  simpa using h3
/-- how many unlike signs there are among the first i -/
def news (z : Str) : Nat → Nat
  | 0 => 0
  | i + 1 => news z i + if has z i (sgl (z.cps.toList.getD i 0)) = true then 0 else 1
theorem news_le (z : Str) : ∀ i, news z i ≤ i
  | 0 => Nat.le_refl _
  | i + 1 => by
    have ih := news_le z i
    unfold news
    split <;> omega
theorem news_succ {z : Str} {i c : Nat} (h : z.cps[i]? = some c) : news z (i + 1) = news z i + if has z i (sgl c) = true then 0 else 1 := by
  have e : z.cps.toList.getD i 0 = c := by
    rw [List.getD_eq_getElem?_getD, Array.getElem?_toList, h]
    rfl
  show news z i + _ = _
  rw [e]
section
variable {prog : Program} {w : World} {A : Around} {R : Result → Shared → Prop} {I : Addr} {fp wr : List Addr} {G : Array GenState → Array GenState → Prop} {n : Nat} {St : Nat → Shared → Prop}
theorem loop (z : Str) (hb : z.cps.size + 1 < scanBound) (W : WalksS prog w A.in1 I fp wr G z.cps.size (SignAt z) St) (S : Addr) (hSf : S ∉ fp) :
    ∀ (k i : Nat) (s : Shared), z.cps.size - i = k → i ≤ z.cps.size → St i s →
      s.heap.SetOf (PySem.strKind prog w) S (has z i) (news z i) →
      (∀ s', Moved (S :: wr) G s s' → s'.heap.SetOf (PySem.strKind prog w) S (has z z.cps.size) (news z z.cps.size) → R (.ok (.ret .none)) s') →
      codeAny (model prog w) A (.builtin "set.update.loop" ⟨[.ref S, .ref I], []⟩) R s := by
  have hSw : S ∉ wr := fun h => hSf (W.sub _ h)
  have hsub : ∀ b ∈ wr, b ∈ S :: wr := fun b hb => List.mem_cons_of_mem _ hb
  intro k
  induction k with
  | zero =>
    intro i s hk hi hst hS hR
    have hin : i = z.cps.size := by omega
    subst hin
    refine codeAny_builtin PyProof.Rows.F.entry_set_update_loop ?_
    rw [Around.under_plainId PyProof.Rows.F.plain_set_update_loop _]
    show wpAny _ A.in1 (pyNext (.ref I) >>= _) _ _ s
    refine wpAny_bind (W.done s _ _ hst fun s' hm => ?_)
    show wpAny _ A.in1 (ret Value.none) _ _ s'
    exact wpAny_pure (hR s' (hm.mono hsub) (by
      obtain ⟨o, es, ep, t, ho, rest⟩ := hS
      exact ⟨o, es, ep, t, hm.heap S _ hSw ho, rest⟩))
  | succ k ih =>
    intro i s hk hi hst hS hR
    have hlt : i < z.cps.size := by omega
    refine codeAny_builtin PyProof.Rows.F.entry_set_update_loop ?_
    rw [Around.under_plainId PyProof.Rows.F.plain_set_update_loop _]
    show wpAny _ A.in1 (pyNext (.ref I) >>= _) _ _ s
    refine wpAny_bind (W.item i s _ _ hlt hst fun v s' hP hst' hm => ?_)
    obtain ⟨c, t, hc, rfl⟩ := hP
    have hS' : s'.heap.SetOf (PySem.strKind prog w) S (has z i) (news z i) := by
      obtain ⟨o, es, ep, tb, ho, rest⟩ := hS
      exact ⟨o, es, ep, tb, hm.heap S _ hSw ho, rest⟩
    show wpAny _ A.in1 (holding [Value.str (sgl c) t] (setAdd S (.str (sgl c) t)) >>= _) _ _ s'
    refine wpAny_bind (wpAny_holding ?_)
    unfold setAdd
    refine wpAny_holding ?_
    refine wpAny_bind ((PySem.strKind prog w).pyHash (k := sgl c) (strKind_is _ _ _ _) ?_)
    refine wpAny_setAddHashed_of (knd := PySem.strKind prog w) (s := { s' with toks := s'.toks + 1 }) (strKind_is _ _ _ _) rfl hS' (by have := news_le z i; omega) fun h' hsb hS2 => ?_
    have hSi : h'.SetOf (PySem.strKind prog w) S (has z (i + 1)) (news z (i + 1)) := by
      refine SetOf_congr hS2 (fun k' => ?_) (by rw [news_succ hc]; cases has z i (sgl c) <;> rfl)
      unfold has
      rw [firsts_succ hc, List.any_append]
      congr 1
      by_cases e : k' = sgl c
      · subst e; simp
      · have hb : (sgl c == k') = false := by simpa [beq_iff_eq] using (fun h' : sgl c = k' => e h'.symm)
        simp [hb, e]
    refine wpAny_pure ⟨plainId_quiet PyProof.Rows.F.plain_set_update_loop _, ih (i + 1) _ (by omega) hlt (W.frame _ s' _ _ hst' (Nat.le_succ _) fun b hb o e => ?_) hSi fun s'' hm'' hS'' => ?_⟩
    · rw [hsb.2 b (fun h : b = S => hSf (by rw [← h]; exact hb))]; exact e
    · refine hR s'' (Moved.trans W.gtrans ((hm.mono hsub).then_heap (Nat.le_succ _) fun b o hb e => ?_) hm'') hS''
      rw [hsb.2 b (fun h : b = S => hb (by rw [h]; exact List.mem_cons_self))]; exact e
end
section
variable {prog : Program} {w : World} {A : Around} {E : Value → Shared → Prop} {s : Shared}
theorem call_set (z : Str) (t : Tok) {Q : Value → Shared → Prop} (hh : A.handled = none) (hb : z.cps.size + 1 < scanBound)
    (h : ∀ (h' : Heap) (tk : Nat), h'.SetOf (PySem.strKind prog w) s.heap.objs.size (has z z.cps.size) (news z z.cps.size) → (∀ b o, b < s.heap.objs.size → s.heap.get? b = some o → h'.get? b = some o) → Q (.ref s.heap.objs.size) { s with heap := h', toks := tk }) :
    wpAny (model prog w) A (call (.type "set") [.str z t]) Q E s := by
  obtain ⟨c, tl, hmro⟩ := PySem.F.called_set.mro
  have hmade := PySem.F.called_set.made
  have hsub := PySem.F.called_set.sub
  refine wpAny_call (codeAny_of_tree ?_)
  show wpAny _ _ (callAny (.type "set") _) _ _ _
  refine wpAny_pure ⟨Code.quiet_builtin _ (by decide +kernel), codeAny_builtin PySem.F.entry_type_call ?_⟩
  rw [Around.under_plain (weight_type_call_type "set" [.str z t] []) rfl]
  have h1 := PySem.F.called_set.notType
  have h2 := PySem.F.called_set.canCreate
  have hct := PySem.F.typeCall_set_1 (.str z t)
  repeat (any_goals (first | assumption | wp_step))

  refine codeAny_mono (code_set_new_1 (.str z t) (E := E) (Q₁ := fun obj s₁ => ∃ led : Bool, obj = .ref s.heap.objs.size ∧ s₁ = { s with heap := s.heap.push { cls := .type "set", dict := none, data := .set #[] 0 (.fresh 0 0 led) } }) fun led => ⟨led, rfl, rfl⟩) fun r s₁ hr => ?_
  cases r with
  | error e => exact hr
  | ok fl =>
    cases fl with
    | ret obj =>
      obtain ⟨led, rfl, rfl⟩ := hr
      have hS : (s.heap.push { cls := .type "set", dict := none, data := .set #[] 0 (.fresh 0 0 led) }).get? s.heap.objs.size = some { cls := .type "set", dict := none, data := .set #[] 0 (.fresh 0 0 led) } := Heap.get?_push_size _ rfl
      have hT : Shared.TypeIs { s with heap := s.heap.push { cls := .type "set", dict := none, data := .set #[] 0 (.fresh 0 0 led) } } (.ref s.heap.objs.size) "set" := ⟨_, hS, rfl⟩
      have hli := PySem.F.called_set.init.lookup
      have hbi := PySem.F.called_set.init.bind (.ref s.heap.objs.size)
      repeat (any_goals (first | assumption | wp_step))

      refine codeAny_mono (codeAny_call_builtin (R := wants (fun r s₂ => r = .none ∧ ∃ h' tk, s₂ = { s with heap := h', toks := tk } ∧
          h'.SetOf (PySem.strKind prog w) s.heap.objs.size (has z z.cps.size) (news z z.cps.size) ∧
          (∀ b o, b < s.heap.objs.size → s.heap.get? b = some o → h'.get? b = some o)) E) PySem.F.called_set.init.plain PySem.F.entry_set_init (check_set_init_1 hT ?_)) fun r₂ s₂ hr₂ => ?_
      · have hsls := PySem.F.sub_str_set
        have hslf := PySem.F.sub_str_frozenset
        have hne : (Value.type "str" == Value.type "dict") = false := by decide
        unfold Builtin.«set.__init__» noKeywords Builtin.Frozenset.updateFrom
        generalize hPI : pyIter = PI
        wp_walk
        subst hPI

        have hh3 : A.in1.in1.in1.handled = none := by simp [hh]
        have hSf : s.heap.objs.size ∉ [(s.heap.push { cls := .type "set", dict := none, data := .set #[] 0 (.fresh 0 0 led) }).objs.size] := by
          rw [Heap.size_push]; simp only [List.mem_singleton]
          exact Nat.ne_of_lt (Nat.lt_succ_self _)
        refine wpAny_pyIter_str fun o St W hst => ?_
        refine wpAny_bind (wpAny_runValue ?_)
        refine loop z hb (W _ hh3).toS s.heap.objs.size hSf (z.cps.size - 0) 0 _ (by omega) (Nat.zero_le _) hst ?hS0 ?hR
        case hS0 =>
          have hget : ((s.heap.push { cls := .type "set", dict := none, data := .set #[] 0 (.fresh 0 0 led) }).push o).get? s.heap.objs.size
              = some { cls := .type "set", dict := none, data := .set #[] 0 (.fresh 0 0 led) } := Heap.get?_push_of_some _ hS
          exact PyProof.Rows.SetOf_congr ((PyProof.Rows.setObjOf_fresh (knd := PySem.strKind prog w) led).setOf hget (by unfold scanBound; omega)) (fun _ => rfl) rfl
        case hR =>
          intro s' hm hS'
          obtain ⟨h', g', d', tk', os'⟩ := s'
          have eg : g' = s.gens := hm.gens
          have ed : d' = s.drawn := hm.drawn
          have eo : os' = s.os := hm.os
          subst eg; subst ed; subst eo
          show wpAny _ _ _ _ _ _
          refine wpAny_pure ?_
          show wpAny _ _ (ret Value.none) _ _ _
          refine wpAny_pure ⟨rfl, h', tk', rfl, hS', fun b o hb e => ?_⟩
          have hb1 : b ≠ s.heap.objs.size := Nat.ne_of_lt hb
          have hb2 : b ≠ (s.heap.push { cls := .type "set", dict := none, data := .set #[] 0 (.fresh 0 0 led) }).objs.size := by
            rw [Heap.size_push]; exact Nat.ne_of_lt (Nat.lt_succ_of_lt hb)
          exact hm.heap b o (by simp only [List.mem_cons, List.mem_singleton, List.not_mem_nil, or_false, not_or]; exact ⟨hb1, hb2⟩) (Heap.get?_push_of_some _ (Heap.get?_push_of_some _ e))

      · cases r₂ with
        | error e => exact hr₂
        | ok fl₂ =>
          cases fl₂ with
          | ret r =>
            obtain ⟨rfl, h', tk, rfl, hS', hk'⟩ := hr₂
            repeat (any_goals (first | assumption | wp_step))
            exact h _ _ hS' hk'
          | _ => exact hr₂.elim
    | _ => exact hr.elim
end
end SetAny
namespace L2
open PySem.Spec PySem PyProof.Rows
section
variable {X : Cx}
/-- len(set(s)) -/
def tLenSetA (ta : TE) : TE := fun σ H Q => ta σ H fun x H1 => ∃ z : Str, x = .str z ∧ z.cps.size ≤ 200 ∧ Q (.int (SetAny.news z z.cps.size)) H1
theorem pe_lenSetA {a : Expr} {ta : TE} {p p2 q pos : Pos} (hc : X.calm = true) (hg : Gl X "len") (hm : X.mg "len" = none) (hg2 : Gl X "set") (hm2 : X.mg "set" = none) (ha : PE X a ta)
    (na : starEach [a] X.env = (false, eval a X.env) :: starEach [] X.env := by rfl) : PE X (.Call (.Name "len" p) [.Call (.Name "set" p2) [a] [] q] [] pos) (tLenSetA ta) := by
  refine ⟨fun pins s σ H Q I h => ?_⟩
  refine Call_ (ld_blt I hg hm boot_len ?_)
  refine PyProof.Rows.callWith_builtin1 (PyProof.Rows.args_cons ?_ rfl) rfl rfl
  refine Call_ (ld_blt I hg2 hm2 boot_set ?_)
  refine PyProof.Rows.callWith_type1 (PyProof.Rows.args_cons (thn (ha.run pins s σ H _ I h) fun v s1 ⟨x, H1, I1, r1, q1⟩ => PyProof.Rows.args_nil ?_) na) na rfl
  obtain ⟨z, rfl, hz, q1⟩ := q1
  obtain ⟨t, rfl⟩ := r1
  refine SetAny.call_set z t (I1.ok.hd hc) (by unfold scanBound; omega) fun h' tk hS hk => ?_
  refine PyProof.Rows.args_nil ?_
  obtain ⟨o, es, ep, tt, ho, hex, hd, _, _, _, hf, hn⟩ := hS
  have I2 : Inv X pins σ H1 { s1 with heap := h', toks := tk } := I1.kept fun b o e => hk b o (Heap.lt_size e) e
  exact call_len_set ho hex hd hf (by rw [hn]; have := SetAny.news_le z z.cps.size; omega) ⟨.int (SetAny.news z z.cps.size), H1, I2.tok _, ⟨_, by rw [hn]⟩, q1⟩
end
end L2
namespace SetAny
open PySem
/-- as many unlike signs as signs: none comes twice -/
theorem news_nd {z : Str} : ∀ {i : Nat}, i ≤ z.cps.size → (news z i = i ↔ (firsts z i).Nodup)
  | 0, _ => by simp [news, firsts]
  | i + 1, h => by
    have ih := news_nd (z := z) (i := i) (by omega)
    have hc : z.cps[i]? = some z.cps[i] := Array.getElem?_eq_getElem (by omega)
    have le := news_le z i
    rw [news_succ hc, firsts_succ hc, List.nodup_append]
    have e : has z i (sgl z.cps[i]) = true ↔ z.cps[i] ∈ firsts z i := by
      unfold has
      rw [List.any_eq_true]
      constructor
      · rintro ⟨x, hx, e⟩
        have := sgl_inj (by simpa using e : sgl x = sgl z.cps[i])
        rw [← this]
        exact hx
      · intro m
        exact ⟨_, m, by simp⟩
    by_cases c : has z i (sgl z.cps[i]) = true
    · rw [if_pos c]
      constructor
      · intro z; omega
      · intro z
        exact absurd rfl (z.2.2 _ (e.mp c) _ List.mem_cons_self)
    · rw [if_neg c]
      have nm := fun m => c (e.mpr m)
      constructor
      · intro z
        refine ⟨ih.mp (by omega), by simp, fun a ha b hb => ?_⟩
        rw [List.mem_singleton.mp hb]
        exact fun y => nm (y ▸ ha)
      · intro z
        have := ih.mpr z.1
        omega
end SetAny
set_option Elab.async false
set_option linter.all false
set_option maxRecDepth 100001
set_option maxHeartbeats 3999999
namespace K02
open PySem L2
/-- letters that a dictionary may have, of any value -/
def isLs : V → Bool
  | .str x => (decide (2 ≤ x.length ∧ x.length ≤ 26)) && ((x.cps.toList.all fun c => decide (c ∈ abc)) && decide (SetAny.news x x.cps.size = x.cps.size))
  | _ => false
theorem isLs_lets {ls : List Nat} (h : isLs (.str (S ls)) = true) : Lets ls := by
  have h : ((decide (2 ≤ (S ls).length ∧ (S ls).length ≤ 26)) && (((S ls).cps.toList.all fun c => decide (c ∈ abc)) && decide (SetAny.news (S ls) (S ls).cps.size = (S ls).cps.size))) = true := h
  rw [Bool.and_eq_true, Bool.and_eq_true] at h
  obtain ⟨h1, h2, h3⟩ := h
  have h1 := of_decide_eq_true h1
  rw [S_len] at h1
  have h3 := (SetAny.news_nd (Nat.le_refl _)).mp (of_decide_eq_true h3)
  unfold SetAny.firsts at h3
  rw [S_size, S_list, List.take_length] at h3
  exact ⟨h3, h1.1, h1.2, fun c m => of_decide_eq_true (List.all_eq_true.mp h2 c m)⟩
def spLetsV : Sp := fun vs H Q _ => ∃ v, vs = [v] ∧ Kn H v ∧ (∀ x, v = .str x → x.length ≤ 200) ∧ ∀ H', Same H H' → Q (.bl (isLs v)) H'
section
variable {P : Program} {w : World} {K : PySem.W.Frag} {mg : Str → Option Value} {base : Heap}
theorem ok_lettersV {f : Addr} {fd : FuncData} (F : Fun K "are_letters" "are_letters" sLetters f fd) (B : Bi mg) (C : Bs mg) (N : Cn mg) : FnOk P w K mg base CX0 1 f fd ["value"] spLetsV := by
  refine F.ok scLetters (fun vs H Q E h => ?_) (fun cdv A outer s H vs Q E hr h => ?_)
  · obtain ⟨v, rfl, _⟩ := h
    rfl
  · obtain ⟨v, rfl, kn, lv, q⟩ := h
    refine ⟨_, pss_cons (ps_if (PW.pt (pw_or (pt_not (pt_val (pe_isStr B.isi (pa_cons (pv 0) (pa_cons (pe_ty "str" C.str) pa_nil))))) (pw_or1 (pt_not (pt_chain op_le op_le pe_int (pe_lenS B.len (pa_cons (pv 0) pa_nil)) pe_int))))) (pss_one (ps_ret pe_bl)) pss_nil)
      (pss_one (ps_ret (pe_and (pe_all rfl C.all (pa_cons (pe_lc (own := [("letter", 1)]) rfl scLetters.nd (pi_str (pv 0)) (blkOk_by (N := ["value", "letter"]) (sc := defScope sLetters) (by decide +kernel))
          (fun _ _ _ _ _ => pg_name (i := 1) scLetters.nd rfl (Or.inl rfl)) (fun _ _ _ _ _ => pts_nil) (fun _ _ _ _ _ => pe_cmpR op_in_sign (pv 1) (C8.pe_gc rfl N.alpha) rfl)) pa_nil))
        (pe_one (pe_cmpR op_eq (pe_lenSetA rfl rfl B.len rfl C.set (pv 0)) (pe_lenS B.len (pa_cons (pv 0) pa_nil)) (nomark _)))))), ?_⟩
    obtain ⟨t, ty, k1⟩ := kn.isStr K
    refine ⟨_, rfl, _, _, _, _, _, rfl, .ty "str", ty, k1, _, rfl, ?_⟩
    cases v with
    | str x =>
      have lx := lv x rfl
      have small : x.length ≤ sizeLine := Nat.le_of_lt (small10 (by omega))
      have q0 : ∀ H', Same H H' → Q (.bl ((decide (2 ≤ x.length ∧ x.length ≤ 26)) && ((x.cps.toList.all fun c => decide (c ∈ abc)) && decide (SetAny.news x x.cps.size = x.cps.size)))) H' := q
      refine iteF ⟨_, rfl, _, rfl, small, _, _, rfl, rfl, _, rfl, ?_⟩
      by_cases c1 : 2 ≤ x.length
      · rw [if_pos (decide_eq_true (show (2 : Int) ≤ (x.length : Int) by omega))]
        refine ⟨_, _, rfl, rfl, _, rfl, ?_⟩
        show (if (!decide ((x.length : Int) ≤ 26)) = true then _ else _)
        by_cases c2 : x.length ≤ 26
        · rw [decide_eq_true (show (x.length : Int) ≤ 26 by omega)]
          rw [decide_eq_true (show 2 ≤ x.length ∧ x.length ≤ 26 from ⟨c1, c2⟩)] at q0
          refine iteF ⟨_, rfl, _, rfl, fun D nD => lcS (fun c => .bl (decide (c ∈ abc))) (by show x.length ≤ 10000; omega) nD ?_ ?_⟩
          · intro c H1 Q N hc e q
            exact ⟨rfl, yesT ⟨_, rfl, c, S abc, rfl, rfl, q⟩⟩
          · intro H1 e hD
            refine ⟨D, (x.cps.toList.map fun c => decide (c ∈ abc)), rfl, ?_, ?_⟩
            · rw [List.map_map]
              exact SqL.of hD
            have q1 := q0 H1 e
            rw [Bool.true_and] at q1
            rw [List.all_map, show (id ∘ fun c => decide (c ∈ abc)) = fun c => decide (c ∈ abc) from rfl]
            cases ca : x.cps.toList.all fun c => decide (c ∈ abc) with
            | false =>
              rw [ca, Bool.false_and] at q1
              exact ⟨false, rfl, iteF q1⟩
            | true =>
              rw [ca, Bool.true_and] at q1
              refine ⟨true, rfl, iteT ⟨_, rfl, x, rfl, lx, _, rfl, x, rfl, small, rfl, ?_⟩⟩
              have e : decide (V.int ((SetAny.news x x.cps.size : Nat) : Int) = V.int ((x.length : Nat) : Int)) = decide (SetAny.news x x.cps.size = x.cps.size) := decide_eq_decide.mpr ⟨fun h => by
                have := V.int.inj h
                have e2 : x.length = x.cps.size := rfl
                omega, fun h => by rw [h]; rfl⟩
              rw [e]
              exact q1
        · rw [decide_eq_false (show ¬ (x.length : Int) ≤ 26 by omega)]
          rw [decide_eq_false (show ¬ (2 ≤ x.length ∧ x.length ≤ 26) from fun h => c2 h.2)] at q0
          exact iteT (q0 H (Same.refl H))
      · rw [if_neg (fun z => c1 (by have := of_decide_eq_true z; omega))]
        rw [decide_eq_false (show ¬ (2 ≤ x.length ∧ x.length ≤ 26) from fun h => c1 h.1)] at q0
        exact ⟨_, rfl, iteT (q0 H (Same.refl H))⟩
    | _ => exact iteT (q H (Same.refl H))
end
end K02
set_option Elab.async false
set_option linter.all false
set_option maxRecDepth 100001
set_option maxHeartbeats 3999999
namespace K02
open PySem L2
/-- Dictionary(letters, words) that is refused, for its letters or for a word -/
def spInitE (C CL CW : Addr) : Sp := fun vs H Q E => ∃ p dx s v xs, vs = [.ref p, v, .ref s] ∧ H p = some (.ins C dx []) ∧ Lt H s xs ∧ ((∃ d, isLs v = false ∧ Odd H v d ∧ (∀ x, v = .str x → x.length ≤ 200) ∧ ∀ dd H', RsO H H' dd "letters" d → E (.ref CL) (some dd) H') ∨
  (∃ (ls : List Nat) (ws : List (List Nat)) (x : V), v = .str (S ls) ∧ isLs (.str (S ls)) = true ∧ xs.length ≤ 2000 ∧ ws.Nodup ∧ (∀ w ∈ ws, w.length ≤ 200 ∧ ∀ c ∈ w, c ∈ ls) ∧ xs.take ws.length = txs ws ∧ xs[ws.length]? = some x ∧ Kn H x ∧ (∀ z, x = .str z → z.length ≤ 10000) ∧ (isW ls x = false ∨ ∃ w ∈ ws, x = .str (S w)) ∧
    ∀ dd H', (∀ b o, b ≠ p → H b = some o → H' b = some o) → (∃ v', H' dd = some (.xd [("index", v')]) ∧ Odd H' v' (.int (ws.length : Nat))) → E (.ref CW) (some dd) H'))
section
variable {P : Program} {w : World} {K : PySem.W.Frag} {mg : Str → Option Value} {base : Heap}
theorem FunL.okR {CX : CXT} {x q : Str} {st : Stmt} {f c T : Addr} {fd : FuncData} {N ps : List Str} {k : Nat} {sp : Sp} (F : FunL K base mg x q st f c T fd) (S : FnScope N ps (defScope st)) (len : ∀ vs H Q E, sp vs H Q E → vs.length = ps.length)
    (hbody : ∀ (A : Around) (outer : List Env) (s : Shared) (H : Hp) (vs : List V) (Q : VK) (E : XK), Room k (A.deeper (PyProof.Rows.envOfC q (defScope st) s.heap.objs.size f (.ref c))) → sp vs H Q E →
      ∃ t, PSs (cxOf CX P w K mg base N q (defScope st) f (.ref c) A outer s H E) (defBody st) t ∧ t { nx := fun _ H' => Q .non H', rt := Q } (L2.start N vs) H) : FnOk P w K mg base CX (k + 1) f fd ps sp := by
  obtain ⟨oc, od, kV, doc, pm, an, ct, osl, rfl, lk, hcd⟩ := F.ex
  refine fn_of lk hcd S len fun A outer s H vs Q E hr hsp => ?_
  obtain ⟨t, h, q⟩ := hbody A outer s H vs Q E hr hsp
  exact ⟨t, h, q⟩
theorem ok_initE {f c T C CL CW : Addr} {fd : FuncData} {Tb : List (Addr × Str)} (F : FunL K base mg "__init__" "Dictionary.__init__" sInit f c T fd) (B : Bi mg) (C' : Bs mg) (N : Cn mg) (X : Txd K C) (cL : Cal CX0 P w K mg base 1 "are_letters" spLetsV) (cW : Cal CX0 P w K mg base 1 "is_word" spIsW) (mK : Met CX0 P w K mg base 1 C "_key_of" (spKeyOf C))
    (xL : Xc P w K mg base 3 "BadLetters" CL (spXO K "letters")) (nL : PySem.W.findIn K (.ref CL) "letters" = some none) (xW : Xc P w K mg base 3 "BadWord" CW (spXO K "index")) (nW : PySem.W.findIn K (.ref CW) "index" = some none)
    (hmT : (T, (("Dictionary.__init__.<locals>.<lambda>" : String) : Str)) ∈ Tb) (hu : ∀ p ∈ Tb, p.1 = T → p.2 = (("Dictionary.__init__.<locals>.<lambda>" : String) : Str)) : FnOk P w K mg base (L2.CX P w) 5 f fd ["self", "letters", "words"] (spInitE C CL CW) := by
  refine F.okR scInit (fun vs H Q E h => ?_) (fun A outer s H vs Q E hr h => ?_)
  · obtain ⟨p, dx, s, v, xs, rfl, _⟩ := h
    rfl
  · obtain ⟨p, dx, sq, v, xs, rfl, hp, hs, h⟩ := h
    refine ⟨_, pss_cons (ps_if (pt_not (pt_val (pe_c cL hr pass0 (pa_cons (pv 1) pa_nil)))) (pss_one (ps_raise rfl (takes_of rfl rfl rfl rfl) (pmk_x xL hr (pa_cons (pv 1) pa_nil)))) pss_nil)
      (pss_cons (ps_if (pt_cmpR op_gt (pe_len B.len (pa_cons (pv 2) pa_nil)) pe_int (nomark _)) pss_never pss_nil)
      (pss_cons (ps_fld (pv 0) (pv 1) rfl)
      (pss_cons (ps_fld (pv 0) (pe_dc (own := [("place", 7), ("letter", 6)]) rfl scInit.nd (pi_enS rfl B.enum (pa_cons (pv 1) pa_nil)) (blkOk_by (N := NI') (sc := defScope sInit) (by decide +kernel))
          (fun _ _ _ _ _ => pg_pairK K rfl rfl (pg_name (i := 7) scInit.nd rfl (Or.inl rfl) (.inr rfl)) (pg_name (i := 6) scInit.nd rfl (Or.inl rfl) (.inr rfl))) (fun _ _ _ _ _ => pts_nil) (fun _ _ _ _ _ => pv 6) (fun _ _ _ _ _ => pe_ix ix_str (C8.pe_gc rfl N.alpha) (pv 7) (fun _ _ => rfl))) rfl)
      (pss_cons (ps_set (i := 5) scInit.nd rfl (Or.inr rfl) pe_dnewK)
      (pss_cons (ps_for (passes_of rfl) rfl (pi_en B.enum (pa_cons (pv 2) pa_nil)) (pg_tup rfl (pgs_cons (pg_name (i := 3) scInit.nd rfl (.inl rfl)) (pgs_cons (pg_name (i := 4) scInit.nd rfl (.inl rfl)) pgs_nil)))
          (pss_cons (ps_if (PW.pt (pw_or (pt_not (pt_val (pe_c cW hr pass0 (pa_cons (pv 4) (pa_cons (pv 1) pa_nil))))) (pw_or1 (pt_cmp (pc_din (hu_of hr) (pv 4) (pv 5)))))) (pss_one (ps_raise rfl (takes_of rfl rfl rfl rfl) (pmk_x xW hr (pa_cons (pv 3) pa_nil)))) pss_nil)
          (pss_one (ps_dput (hu_of hr) (pv 5) (pv 4) (pe_mt mK hr pass0 (pv 0) (pa_cons (pv 4) pa_nil)) rfl))))
      (pss_cons (ps_fld (pv 0) (pe_tupleOf rfl B.tuple (by exact SrtL.pe_sortLam (k := 1) (i := 4) SrtL.ordStr rfl C'.sorted (pe_callTy (call_listD rfl) rfl B.list (by decide +kernel) (pa_cons (pv 5) pa_nil)) F.tab hmT hu (hr.mono (by decide)) (LamX.lamP_by (sc := defScope sInit) (by decide +kernel)) scInit.nd rfl (fun s H f c' hr' => pe_dget (hu_of hr') (pv 5) (pv 4) (fun _ _ => rfl)))) rfl)
      (pss_cons (ps_fld (pv 0) (pe_len B.len (pa_cons (pe_fld (pv 0) rfl) pa_nil)) rfl)
      (pss_cons (ps_fld (pv 0) (pe_lc (own := [("word", 4)]) rfl scInit.nd (pi_sqA (pe_fld (pv 0) rfl)) (blkOk_by (N := NI') (sc := defScope sInit) (by decide +kernel))
          (fun _ _ _ _ _ => pg_name (i := 4) scInit.nd rfl (Or.inl rfl)) (fun _ _ _ _ _ => pts_nil) (fun _ _ _ _ _ => pe_dget (hu_of hr) (pv 5) (pv 4) (fun _ _ => rfl))) rfl)
      (pss_one (ps_fld (pv 0) (pe_dc (own := [("number", 8), ("word", 4)]) rfl scInit.nd (pi_en B.enum (pa_cons (pe_fld (pv 0) rfl) pa_nil)) (blkOk_by (N := NI') (sc := defScope sInit) (by decide +kernel))
          (fun _ _ _ _ _ => pg_pairK K rfl rfl (pg_name (i := 8) scInit.nd rfl (Or.inl rfl) (.inr rfl)) (pg_name (i := 4) scInit.nd rfl (Or.inl rfl) (.inr rfl))) (fun _ _ _ _ _ => pts_nil) (fun _ _ _ _ _ => pv 4) (fun _ _ _ _ _ => pv 8)) rfl)))))))))), ?_⟩
    have kv : Kn H v ∧ ∀ x, v = .str x → x.length ≤ 200 := by
      rcases h with ⟨d, _, od, lv, _⟩ | ⟨ls, ws, x, rfl, il, _⟩
      · exact ⟨od.kn, lv⟩
      · refine ⟨.str _, fun x e => ?_⟩
        cases e
        have := (isLs_lets il).hi
        rw [S_len]
        omega
    refine ⟨_, rfl, v, rfl, kv.1, kv.2, fun H1 e1 => ⟨_, rfl, ?_⟩⟩
    rcases h with ⟨d, il, od, lv, q⟩ | ⟨ls, ws, x, rfl, il, lx, nd, hw, tk, hx, kx, lz, bad, q⟩
    · rw [il]
      exact iteT ⟨_, rfl, raiseO xL.T nL (od.same e1) fun dd H' r => q dd H' (r.back e1)⟩
    rw [il]
    refine iteF ?_
    have L := isLs_lets il
    have hp1 := e1 _ _ hp
    have hs1 := hs.same e1
    refine ⟨_, rfl, sq, _, rfl, hs1.sq, _, _, rfl, rfl, _, rfl, ?_⟩
    rw [decide_eq_false (show ¬ (2000 : Int) < ((xs.length : Nat) : Int) by omega)]
    refine iteF ⟨_, rfl, _, rfl, p, C, dx, [], rfl, hp1, X.cl, X.nL, by decide, ?_⟩
    have x2 : ButI p H1 (upd H1 p (.ins C dx (putF "letters" (.str (S ls)) []))) := fun b o n z => (upd_ne n).trans z
    have hp2 : upd H1 p (.ins C dx (putF "letters" (.str (S ls)) [])) p = some (.ins C dx (putF "letters" (.str (S ls)) [])) := upd_same
    generalize upd H1 p (.ins C dx (putF "letters" (.str (S ls)) [])) = H2 at x2 hp2 ⊢
    have hs2 := hs1.at_ hp1 (fun _ => ⟨(fun z => nomatch z), fun z => nomatch z⟩) x2
    have b2 : ButI p H H2 := fun b o n z => x2 _ _ n (e1 _ _ z)
    clear x2 hs1 hp1 e1
    refine ⟨_, rfl, _, rfl, fun D nD => dcA walk_enS (plainF ls) (fun j => .str (S [97 + j])) (by rw [S_size]; have := L.hi; omega) (fun i l hi hl => plain_inj L.nd i l (by rwa [S_size] at hi) (by rwa [S_size] at hl)) (fun _ _ => True.intro) nD ?_ ?_⟩
    · intro i T0 a b H3 R N3 hi ea eb e3 hT r
      rw [S_size] at hi
      cases ea
      rw [S_get, List.getElem?_eq_getElem hi] at eb
      cases eb
      refine ⟨T0, _, rfl, SqT.of hT, rfl, _, _, rfl, _, _, rfl, rfl, rfl, ?_⟩
      unfold tYes
      have a26 : (S abc).length ≤ sizeLine := Nat.le_of_lt (small10 (by rw [S_len]; decide))
      have ai : abc[i]? = some (97 + i) := by
        have : i < 26 := by have := L.hi; omega
        unfold abc
        rw [List.getElem?_map, List.getElem?_range this]
        show some (i + 97) = some (97 + i)
        rw [Nat.add_comm]
      have ek : plainF ls i = .inr (S [ls[i]]) := by
        unfold plainF
        rw [List.getD_eq_getElem?_getD, List.getElem?_eq_getElem hi]
        rfl
      rw [ek] at r
      exact iteT ⟨_, rfl, _, rfl, S abc, _, _, rfl, rfl, a26, atI_nat ai, r⟩
    intro H3 e3 hD3
    rw [S_size] at hD3
    have hp3 := e3 _ _ hp2
    have b3 : ButI p H H3 := fun b o n z => e3 _ _ (b2 b o n z)
    have hs3 := hs2.same e3
    clear e3 hs2 b2 hp2
    refine ⟨_, rfl, p, C, dx, _, rfl, hp3, X.cl, X.nP, by show 1 < 1000; decide, ?_⟩
    have x4 : ButI p H3 (upd H3 p (.ins C dx (putF "_plain" (.ref D) (putF "letters" (.str (S ls)) [])))) := fun b o n z => (upd_ne n).trans z
    have hp4 : upd H3 p (.ins C dx (putF "_plain" (.ref D) (putF "letters" (.str (S ls)) []))) p = some (.ins C dx (putF "_plain" (.ref D) (putF "letters" (.str (S ls)) []))) := upd_same
    generalize upd H3 p (.ins C dx (putF "_plain" (.ref D) (putF "letters" (.str (S ls)) []))) = H4 at x4 hp4 ⊢
    have hs4 := hs3.at_ hp3 (fun _ => ⟨(fun z => nomatch z), fun z => nomatch z⟩) x4
    have b4 : ButI p H H4 := fun b o n z => x4 _ _ n (b3 b o n z)
    have hD4 := x4 _ _ (ne_of hD3 hp3 fun z => nomatch z) hD3
    clear x4 hs3 b3 hp3 hD3
    refine fun td ntd => ?_
    have e5 : Same H4 (upd H4 td (.dK [])) := same_new ntd
    have htd5 : upd H4 td (.dK []) td = some (.dK (toldK ls ws 0)) := upd_same
    generalize upd H4 td (.dK []) = H5 at e5 htd5 ⊢
    have hp5 := e5 _ _ hp4
    have hD5 := e5 _ _ hD4
    have hs5 := hs4.same e5
    have b5 : ButI p H H5 := fun b o n z => e5 _ _ (b4 b o n z)
    have nDt : D ≠ td := ne_of_none hD4 ntd
    have npt : p ≠ td := ne_of_none hp4 ntd
    have ntb : ∀ b o, H b = some o → b ≠ p → b ≠ td := fun b o z n => ne_of_none (b4 b o n z) ntd
    have nst : sq ≠ td := hs4.ne ntd
    have lt : ws.length < xs.length := (List.getElem?_eq_some_iff.mp hx).1
    have xAt : ∀ {i : Nat} {u : List Nat}, ws[i]? = some u → xs[i]? = some (.str (S u)) := fun {i u} h => by
      have e : (xs.take ws.length)[i]? = some (.str (S u)) := by
        rw [tk]
        unfold txs
        rw [List.getElem?_map, h]
        rfl
      rw [List.getElem?_take] at e
      split at e
      · exact e
      · cases e
    refine ⟨_, rfl, sq, _, rfl, hs5.sq, fun J G wk hG => for_it wk (fun i σ H' => ∃ a b : Option V, σ = [some (.ref p), some (.str (S ls)), some (.ref sq), a, b, some (.ref td), none, none, none] ∧ ButI td H5 H' ∧ H' td = some (.dK (toldK ls ws i)) ∧ i ≤ ws.length) ⟨none, none, rfl, (fun _ _ _ z => z), htd5, Nat.zero_le _⟩
      (fun i σ H' _ ⟨_, _, _, e, _⟩ => hG H' fun o z => e _ _ nst z) ?_ ?_⟩
    · rintro i x' σ H6 H7 hi ⟨a, b, rfl, e6, htd6, iw⟩ ⟨T0, y, v, rfl, nT0, rfl, ey, hv⟩
      cases ey
      have hv : xs[i]? = some v := hv
      have e7 : Same H6 (upd H6 T0 (.tup [.int (i : Nat), v])) := same_new nT0
      have h7 : upd H6 T0 (.tup [.int (i : Nat), v]) T0 = _ := upd_same
      generalize upd H6 T0 (.tup [.int (i : Nat), v]) = H7 at e7 h7 ⊢
      refine ⟨T0, _, rfl, SqT.of h7, rfl, _, _, rfl, _, _, rfl, rfl, ?_⟩
      by_cases ci : i = ws.length
      · subst ci
        obtain rfl : v = x := Option.some.inj (hv.symm.trans hx)
        have mv : ∀ b o, H b = some o → b ≠ p → H7 b = some o := fun b o z n => e7 _ _ (e6 _ _ (ntb b o z n) (b5 _ _ n z))
        have kx7 : Kn H7 v := by
          cases kx with
          | non => exact .non
          | bl b => exact .bl b
          | int i => exact .int i
          | str x => exact .str x
          | lst e => exact .lst (mv _ _ e (ne_of e hp fun z => nomatch z))
          | tup e => exact .tup (mv _ _ e (ne_of e hp fun z => nomatch z))
        refine ⟨_, rfl, _, rfl, v, ls, rfl, kx7, lz, fun H8 e8 => ⟨_, rfl, ?_⟩⟩
        have fin : ∀ dd H', RsO H8 H' dd "index" (.int ((ws.length : Nat) : Int)) → E (.ref CW) (some dd) H' := fun dd H' r => q dd H' (fun b o n z => r.same _ _ (e8 _ _ (e7 _ _ (e6 _ _ (ntb b o z n) (b5 _ _ n z))))) r.at_
        cases ew : isW ls v with
        | false => exact iteT (iteT ⟨_, rfl, raiseO xW.T nW (.flat (v := .int ((ws.length : Nat) : Int)) True.intro) fin⟩)
        | true =>
          rcases bad with bad | ⟨w, mw, rfl⟩
          · rw [ew] at bad
            cases bad
          have htd8 := e8 _ _ (e7 _ _ htd6)
          refine iteF ⟨_, rfl, _, rfl, td, _, rfl, DGet.k (k := Sum.inr (S w)) htd8, _, rfl, ?_⟩
          rw [told_at nd mw]
          exact iteT ⟨_, rfl, raiseO xW.T nW (.flat (v := .int ((ws.length : Nat) : Int)) True.intro) fin⟩
      · have hi2 : i < ws.length := by omega
        have ew := List.getElem?_eq_getElem hi2
        obtain rfl : v = .str (S ws[i]) := Option.some.inj (hv.symm.trans (xAt ew))
        obtain ⟨w1, w2⟩ := hw ws[i] (List.getElem_mem hi2)
        obtain ⟨k1, k2⟩ := numF_at ew
        refine ⟨_, rfl, _, rfl, _, ls, rfl, .str _, (fun x z => by cases z; rw [S_len]; omega), fun H8 e8 => ⟨_, rfl, ?_⟩⟩
        rw [show isW ls (.str (S ws[i])) = true by
          show (decide ((S ws[i]).length ≤ 200) && (S ws[i]).cps.toList.all fun c => decide (c ∈ ls)) = true
          rw [S_len, decide_eq_true w1, Bool.true_and]
          exact List.all_eq_true.mpr fun c hc => decide_eq_true (w2 c hc)]
        have htd8 := e8 _ _ (e7 _ _ htd6)
        refine iteF ⟨_, rfl, _, rfl, td, _, rfl, DGet.k (k := Sum.inr (S ws[i])) htd8, _, rfl, ?_⟩
        rw [show valV (toldK ls ws i) (Sum.inr (S ws[i])) = none from asc_none fun j hj e => by
          rw [← k1] at e
          have := num_inj nd j i (by omega) hi2 e
          omega]
        have hp8 := e8 _ _ (e7 _ _ (e6 _ _ npt hp5))
        have hD8 := e8 _ _ (e7 _ _ (e6 _ _ nDt hD5))
        refine iteF ⟨_, rfl, p, dx, _, rfl, hp8, by rw [lookup_putF, if_neg (by decide +kernel), lookup_putF, if_neg (by decide +kernel)]; rfl, _, rfl, p, ls, ws[i], rfl, ⟨dx, D, _, hp8, by rw [lookup_putF, if_pos rfl], hD8⟩, L.nd, w2, by omega, fun H9 e9 => ?_⟩
        have htd9 := e9 _ _ htd8
        refine ⟨_, rfl, _, rfl, td, _, rfl, DPut.k (k := Sum.inr (S ws[i])) htd9 (by unfold toldK; rw [asc_len]; exact small10 (by omega)), _, _, rfl, fun b' o' nb z => (upd_ne nb).trans (e9 _ _ (e8 _ _ (e7 _ _ (e6 _ _ nb z)))), ?_, hi2⟩
        rw [upd_same]
        have ap := asc_put (kf := numF ws) (vf := fun j => .str (S (key ls (ws.getD j [])))) (n := i) fun j hj e => by
          have := num_inj nd j i (by omega) hi2 e
          omega
        simp only [k1, k2] at ap
        unfold toldK
        rw [ap]
    · rintro σ H6 ⟨a, b, rfl, e6, htd6, iw⟩
      omega
end
end K02
set_option Elab.async false
set_option linter.all false
set_option maxRecDepth 100001
set_option maxHeartbeats 3999999
namespace K02
open PySem L2
abbrev sTMany : Stmt := inClass (topS 8) 0
abbrev sOLet : Stmt := inClass (topS 16) 0
/-- an exception of three flat fields -/
def spX3 (K : PySem.W.Frag) (f g h : Str) : Sp := fun vs H Q _ => ∃ (a C : Addr) (u v w : V), vs = [.ref a, u, v, w] ∧ OexC K C ∧ PySem.W.findIn K (.ref C) f = some none ∧ PySem.W.findIn K (.ref C) g = some none ∧ PySem.W.findIn K (.ref C) h = some none ∧
  Flat u ∧ Flat v ∧ Flat w ∧ H a = some (exo a C none) ∧
  ∀ dx H', H dx = none → dx ≠ a → (∀ b, b ≠ a → b ≠ dx → H' b = H b) → H' a = some (exo a C (some dx)) → H' dx = some (exd dx [(h, w), (g, v), (f, u)]) → Q .non H'
def spX0 : Sp := fun vs H Q _ => ∃ a : Addr, vs = [.ref a] ∧ Q .non H
section
variable {P : Program} {w : World} {K : PySem.W.Frag} {mg : Str → Option Value} {base : Heap}
theorem scOLet : FnScope ["self"] ["self"] (defScope sOLet) := ⟨rfl, rfl, rfl, by decide +kernel, rfl, by decide +kernel, by decide +kernel⟩
theorem ok_OLet {f : Addr} {fd : FuncData} (F : Fun K "__init__" "OtherLetters.__init__" sOLet f fd) : FnOk P w K mg base CX0 1 f fd ["self"] spX0 := by
  refine F.ok scOLet (fun vs H Q E h => ?_) (fun cdv A outer s H vs Q E hr h => ?_)
  · obtain ⟨a, rfl, _⟩ := h
    rfl
  · obtain ⟨a, rfl, q⟩ := h
    exact ⟨_, pss_one ps_pass, q⟩
theorem scTMany : FnScope ["self", "what", "many", "most"] ["self", "what", "many", "most"] (defScope sTMany) := ⟨rfl, rfl, rfl, by decide +kernel, rfl, by decide +kernel, by decide +kernel⟩
theorem ok_TMany {f : Addr} {fd : FuncData} (F : Fun K "__init__" "TooMany.__init__" sTMany f fd) (cC : Cal CX0 P w K mg base 1 "copied" spCopied) : FnOk P w K mg base CX0 2 f fd ["self", "what", "many", "most"] (spX3 K "what" "many" "most") := by
  refine F.ok scTMany (fun vs H Q E h => ?_) (fun cdv A outer s H vs Q E hr h => ?_)
  · obtain ⟨a, C, u, v, z, rfl, _⟩ := h
    rfl
  · obtain ⟨a, C, u, v, z, rfl, T, n1, n2, n3, k1, k2, k3, ha, q⟩ := h
    refine ⟨_, pss_cons (ps_ost (pv 0) (pe_c cC hr pass0 (pa_cons (pv 1) pa_nil))) (pss_cons (ps_ost (pv 0) (pe_c cC hr pass0 (pa_cons (pv 2) pa_nil))) (pss_one (ps_ost (pv 0) (pe_c cC hr pass0 (pa_cons (pv 3) pa_nil))))), ?_⟩
    refine ⟨u, rfl, u, rfl, k1, _, rfl, a, C, rfl, T, n1, .inl ⟨ha, fun dx nd na => ?_⟩⟩
    refine ⟨v, rfl, v, rfl, k2, _, rfl, a, C, rfl, T, n2, .inr ⟨dx, _, upd_same, by rw [upd_ne na]; exact upd_same, by show 1 ≤ 900; decide, ?_⟩⟩
    refine ⟨z, rfl, z, rfl, k3, _, rfl, a, C, rfl, T, n3, .inr ⟨dx, _, by rw [upd_ne (Ne.symm na)]; exact upd_same, upd_same, by show 2 ≤ 900; decide, ?_⟩⟩
    refine q dx _ nd na (fun b h1 h2 => ?_) ?_ upd_same
    · rw [upd_ne h2, upd_ne h2, upd_ne h1, upd_ne h2]
    · rw [upd_ne (Ne.symm na), upd_ne (Ne.symm na)]
      exact upd_same
end
/-- behind a raise: all that was there, and the error's fields at d -/
structure Rsd (H H' : Hp) (d : Addr) (fs : List (Str × V)) : Prop where
  new : H d = none
  same : Same H H'
  at_ : H' d = some (.xd fs)
theorem rsd_of {H H2 : Hp} {a d C : Addr} {fs : List (Str × V)} (na : H a = none) (nd : H d = none) (h : ∀ b, b ≠ a → b ≠ d → H2 b = H b) : Rsd H (upd (del H2 a) d (.xd fs)) d fs :=
  ⟨nd, fun b o e => by
    rw [upd_ne (ne_of_none e nd), del_ne (ne_of_none e na), h b (ne_of_none e na) (ne_of_none e nd)]
    exact e, upd_same⟩
theorem raise3 {H : Hp} {C : Addr} {f g h : Str} {u v z : V} {R : XK} {K : PySem.W.Frag} (T : OexC K C) (n1 : PySem.W.findIn K (.ref C) f = some none) (n2 : PySem.W.findIn K (.ref C) g = some none) (n3 : PySem.W.findIn K (.ref C) h = some none)
    (k1 : Flat u) (k2 : Flat v) (k3 : Flat z) (r : ∀ d H', Rsd H H' d [(h, z), (g, v), (f, u)] → R (.ref C) (some d) H') :
    ([u, v, z] : List V).length ≤ 1000 ∧ ∀ a, H a = none → spX3 K f g h (.ref a :: ([u, v, z] ++ [])) (upd H a (exo a C none)) (fun y H2 => y = .non ∧ ∃ (d : Addr) (fs : List (Str × V)), H2 a = some (exo a C (some d)) ∧ H2 d = some (exd d fs) ∧ H d = none ∧ R (.ref C) (some d) (upd (del H2 a) d (.xd fs))) (fun _ _ _ => False) := by
  refine ⟨by show 3 ≤ 1000; decide, fun a na => ⟨a, C, u, v, z, rfl, T, n1, n2, n3, k1, k2, k3, upd_same, fun dx H' nd ne hk ha hd => ⟨rfl, dx, _, ha, hd, ?_, r _ _ ?_⟩⟩⟩
  · rw [upd_ne ne] at nd
    exact nd
  · refine rsd_of (C := C) na (by rw [upd_ne ne] at nd; exact nd) fun b h1 h2 => ?_
    rw [hk b h1 h2, upd_ne h1]
theorem raise0 {H : Hp} {C : Addr} {R : XK} {K : PySem.W.Frag} (r : ∀ H', Same H H' → R (.ref C) none H') :
    ∀ a, H a = none → spX0 [.ref a] (upd H a (exo a C none)) (fun v H2 => v = .non ∧ H2 a = some (exo a C none) ∧ R (.ref C) none (del H2 a)) (fun _ _ _ => False) := fun a na =>
  ⟨a, rfl, rfl, upd_same, r _ fun b o e => by rw [del_ne (ne_of_none e na), upd_ne (ne_of_none e na)]; exact e⟩
end K02
set_option Elab.async false
set_option linter.all false
set_option maxRecDepth 100001
set_option maxHeartbeats 3999999
namespace K02
open PySem L2
section
variable {P : Program} {w : World} {K : PySem.W.Frag} {mg : Str → Option Value} {base : Heap}
theorem FnOk.orr {CX : CXT} {k : Nat} {f : Addr} {fd : FuncData} {ps : List Str} {sp1 sp2 : Sp} (F : FnOk P w K mg base CX k f fd ps sp1) (G : FnOk P w K mg base CX k f fd ps sp2) : FnOk P w K mg base CX k f fd ps fun vs H Q E => sp1 vs H Q E ∨ sp2 vs H Q E :=
  ⟨fun vs H Q E h => h.elim (F.len _ _ _ _) (G.len _ _ _ _), fun A o s H a us vs Q E hr he hb hv h => h.elim (F.run A o s H a us vs Q E hr he hb hv) (G.run A o s H a us vs Q E hr he hb hv)⟩
theorem FnOk.up {CX : CXT} {k : Nat} {f : Addr} {fd : FuncData} {ps : List Str} {sp : Sp} (F : FnOk P w K mg base CX0 k f fd ps sp) : FnOk P w K mg base CX k f fd ps sp :=
  ⟨F.len, fun A o s H a us vs Q E hr he hb hv h => codeAny_mono (F.run A o s H a us vs Q E hr he hb hv h) fun z s' hz => match z, hz with
    | .ok (.ret _), hz => hz
    | .ok .next, hz => hz
    | .ok .brk, hz => hz
    | .ok .cont, hz => hz
    | .error _, hz => hz.elim⟩
end
/-- Dictionary(letters, words) with too many words -/
def spInitM (C CT : Addr) : Sp := fun vs H Q E => ∃ p dx s ls xs, vs = [.ref p, .str (S ls), .ref s] ∧ H p = some (.ins C dx []) ∧ Lt H s xs ∧ isLs (.str (S ls)) = true ∧ 2000 < xs.length ∧
  ∀ dd H', Rsd H H' dd [("most", .int 2000), ("many", .int (xs.length : Nat)), ("what", .str "words")] → E (.ref CT) (some dd) H'
/-- Dictionary(letters, words), whatever comes of it -/
def spDic (K : PySem.W.Frag) (C CL CW CT : Addr) (Tb : List (Addr × Str)) : Sp := fun vs H Q E => (spInitD K C Tb vs H Q E ∨ spInitE C CL CW vs H Q E) ∨ spInitM C CT vs H Q E
abbrev sNMap : Stmt := inClass (topS 18) 0
/-- ascending numbers from least on, below m -/
def upTo (m : Int) : Int → List Int → Prop
  | _, [] => True
  | l, j :: r => l ≤ j ∧ j ≤ m - 1 ∧ upTo m (j + 1) r
/-- NumberMap(many, numbers) of numbers that ascend -/
def spMap (C : Addr) : Sp := fun vs H Q _ => ∃ (p dx s : Addr) (m : Int) (js : List Int), vs = [.ref p, .int m, .ref s] ∧ H p = some (.ins C dx []) ∧ H s = some (.lst (js.map V.int)) ∧ 0 ≤ m ∧ m ≤ 2000 ∧ js.length ≤ 2000 ∧ upTo m 0 js ∧ ∀ H', (∀ b o, b ≠ p → H b = some o → H' b = some o) → Q .non H'
structure TxM (K : PySem.W.Frag) (C : Addr) : Prop where
  cl : Cls K C
  nM : NoAttr K C "many"
  nN : NoAttr K C "numbers"
section
variable {P : Program} {w : World} {K : PySem.W.Frag} {mg : Str → Option Value} {base : Heap}
theorem ok_initM {f c T C CT : Addr} {fd : FuncData} (F : FunL K base mg "__init__" "Dictionary.__init__" sInit f c T fd) (B : Bi mg) (cL : Cal CX0 P w K mg base 1 "are_letters" spLetsV)
    (xT : Xc P w K mg base 2 "TooMany" CT (spX3 K "what" "many" "most")) (nT : PySem.W.findIn K (.ref CT) "what" = some none ∧ PySem.W.findIn K (.ref CT) "many" = some none ∧ PySem.W.findIn K (.ref CT) "most" = some none) :
    FnOk P w K mg base (L2.CX P w) 5 f fd ["self", "letters", "words"] (spInitM C CT) := by
  refine F.okR scInit (fun vs H Q E h => ?_) (fun A outer s H vs Q E hr h => ?_)
  · obtain ⟨p, dx, s, ls, xs, rfl, _⟩ := h
    rfl
  · obtain ⟨p, dx, sq, ls, xs, rfl, hp, hs, il, lx, q⟩ := h
    refine ⟨_, pss_cons (ps_if (pt_not (pt_val (pe_c cL hr pass0 (pa_cons (pv 1) pa_nil)))) pss_never pss_nil)
      (pss_cons (ps_if (pt_cmpR op_gt (pe_len B.len (pa_cons (pv 2) pa_nil)) pe_int (nomark _)) (pss_one (ps_raise rfl (takes_of rfl rfl rfl rfl) (pmk_x xT hr (pa_cons pe_str (pa_cons (pe_len B.len (pa_cons (pv 2) pa_nil)) (pa_cons pe_int pa_nil)))))) pss_nil)
      pss_never), ?_⟩
    have L := isLs_lets il
    refine ⟨_, rfl, _, rfl, .str _, fun x e => ?_, fun H1 e1 => ⟨_, rfl, ?_⟩⟩
    · cases e
      have := L.hi
      rw [S_len]
      omega
    rw [il]
    refine iteF ?_
    have hs1 := hs.same e1
    refine ⟨_, rfl, sq, _, rfl, hs1.sq, _, _, rfl, rfl, _, rfl, ?_⟩
    rw [decide_eq_true (show (2000 : Int) < ((xs.length : Nat) : Int) by omega)]
    refine iteT ⟨_, rfl, sq, _, rfl, hs1.sq, raise3 xT.T nT.1 nT.2.1 nT.2.2 ?_ True.intro True.intro fun dd H' r => q dd H' ⟨e1.free r.new, e1.trans r.same, r.at_⟩⟩
    show PyData.strOk _ = true
    decide +kernel
theorem scNMap : FnScope ["self", "many", "numbers", "least", "index", "number"] ["self", "many", "numbers"] (defScope sNMap) := ⟨rfl, rfl, rfl, by decide +kernel, rfl, by decide +kernel, by decide +kernel⟩
theorem ok_map {f C : Addr} {fd : FuncData} (F : Fun K "__init__" "NumberMap.__init__" sNMap f fd) (B : Bi mg) (T : TxM K C) (cB : Cal CX0 P w K mg base 2 "is_between" spBetween) : FnOk P w K mg base CX0 3 f fd ["self", "many", "numbers"] (spMap C) := by
  refine F.ok scNMap (fun vs H Q E h => ?_) (fun cdv A outer s H vs Q E hr h => ?_)
  · obtain ⟨p, dx, s, m, js, rfl, _⟩ := h
    rfl
  · obtain ⟨p, dx, sq, m, js, rfl, hp, hs, m0, m1, len, up, q⟩ := h
    refine ⟨_, pss_cons (ps_if (pt_not (pt_val (pe_c cB hr pass0 (pa_cons (pv 1) (pa_cons pe_int (pa_cons pe_int pa_nil)))))) pss_never pss_nil)
      (pss_cons (ps_if (pt_cmpR op_gt (pe_len B.len (pa_cons (pv 2) pa_nil)) pe_int (nomark _)) pss_never pss_nil)
      (pss_cons (ps_set (i := 3) scNMap.nd rfl (Or.inl rfl) pe_int)
      (pss_cons (ps_for PassesOwn.never rfl (pi_en B.enum (pa_cons (pv 2) pa_nil)) (pg_tup rfl (pgs_cons (pg_name (i := 4) scNMap.nd rfl (.inl rfl)) (pgs_cons (pg_name (i := 5) scNMap.nd rfl (.inl rfl)) pgs_nil)))
          (pss_one (ps_if (pt_cmpR op_notN (pv 5) pe_non (nomark _)) (pss_cons (ps_if (pt_not (pt_val (pe_c cB hr pass0 (pa_cons (pv 5) (pa_cons (pv 3) (pa_cons (pe_op op_sub (pv 1) pe_int) pa_nil))))))
            pss_never pss_nil) (pss_one (ps_set (i := 3) scNMap.nd rfl (Or.inl rfl) (pe_op op_add (pv 5) pe_int)))) pss_nil)))
      (pss_cons (ps_fld (pv 0) (pv 1) rfl) (pss_one (ps_fld (pv 0) (pe_tupleOf rfl B.tuple (pv 2)) rfl)))))), ?_⟩
    refine ⟨_, rfl, _, 0, 2000, rfl, .int _, _, rfl, ?_⟩
    rw [show btw (.int m) 0 2000 = true from decide_eq_true ⟨m0, m1⟩]
    have ll : (js.map V.int).length = js.length := List.length_map ..
    refine iteF ⟨_, rfl, sq, _, rfl, .inl (SqL.of hs), _, _, rfl, rfl, _, rfl, ?_⟩
    rw [ll, decide_eq_false (show ¬ (2000 : Int) < ((js.length : Nat) : Int) by omega)]
    refine iteF ⟨_, rfl, sq, _, rfl, .inl (SqL.of hs), fun J G wk hG => for_it wk (fun i σ H' => ∃ (least : Int) (a b : Option V), σ = [some (.ref p), some (.int m), some (.ref sq), some (.int least), a, b] ∧ Same H H' ∧ upTo m least (js.drop i)) ⟨0, none, none, rfl, Same.refl H, up⟩
      (fun i σ H' _ ⟨_, _, _, _, e, _⟩ => hG H' fun o z => e _ _ z) ?_ ?_⟩
    · rintro i x σ H1 H2 hi ⟨least, a, b, rfl, e, u⟩ ⟨T0, y, v, rfl, nT0, rfl, ey, hv⟩
      cases ey
      have hv : (js.map V.int)[i]? = some v := hv
      rw [List.getElem?_map] at hv
      have hi2 : i < js.length := by omega
      rw [List.getElem?_eq_getElem hi2] at hv
      cases hv
      have dr : js.drop i = js[i] :: js.drop (i + 1) := List.drop_eq_getElem_cons hi2
      rw [dr] at u
      obtain ⟨u1, u2, u3⟩ := u
      refine ⟨T0, _, rfl, SqT.of upd_same, rfl, _, _, rfl, _, _, rfl, rfl, ?_⟩
      refine ⟨_, rfl, rfl, _, rfl, ?_⟩
      refine iteT ⟨_, rfl, _, rfl, _, rfl, _, _, rfl, rfl, _, least, m - 1, rfl, .int _, _, rfl, ?_⟩
      rw [show btw (.int js[i]) least (m - 1) = true from decide_eq_true ⟨u1, u2⟩]
      exact iteF ⟨_, rfl, _, _, rfl, rfl, js[i] + 1, _, _, rfl, e.trans (same_new nT0), u3⟩
    · rintro σ H1 ⟨least, a, b, rfl, e, _⟩
      refine ⟨_, rfl, _, rfl, p, C, dx, [], rfl, e _ _ hp, T.cl, T.nM, by decide, ?_⟩
      have npq : sq ≠ p := ne_of hs hp fun z => nomatch z
      refine ⟨_, rfl, .inl ⟨sq, _, rfl, SqL.of ((upd_ne npq).trans (e _ _ hs)), fun t nt => ?_⟩⟩
      have hp2 : upd H1 p (.ins C dx (putF "many" (.int m) [])) p = some (.ins C dx (putF "many" (.int m) [])) := upd_same
      refine ⟨_, rfl, p, C, dx, _, rfl, (upd_ne (ne_of_none hp2 nt)).trans hp2, T.cl, T.nN, by show 1 < 1000; decide, q _ fun b o nb z => ?_⟩
      have z1 : upd H1 p (.ins C dx (putF "many" (.int m) [])) b = some o := (upd_ne nb).trans (e _ _ z)
      exact (upd_ne nb).trans ((upd_ne (ne_of_none z1 nt)).trans z1)
end
end K02
set_option Elab.async false
set_option linter.all false
set_option maxRecDepth 100001
set_option maxHeartbeats 3999999
namespace K02
open PySem L2
abbrev sPutIn : Stmt := sD 10
abbrev sStrike : Stmt := sD 11
abbrev sJoin : Stmt := sD 12
abbrev sMapTo : Stmt := sD 13
section
variable {X : Cx} {k j : Nat} {x : Str} {C : Addr} {sp : Sp} {p pos : Pos}
theorem pmk_x0 (c : Xc X.prog X.w X.K X.mg X.base k x C sp) (hr : Room j X.A) (hk : k + 1 ≤ j := by decide) (hg : Gl X x := by rfl) (hdb : (x == ("__debug__" : Str)) = false := by decide) : PMk X (.Call (.Name x p) [] [] pos) (tMkO0 C sp) := by
  obtain ⟨f, fd, ps, i1, i2, F, b⟩ := c.ex
  exact pmk_oex0 c.T i1 i2 F (hr.mono hk) b pass0 hg c.mgC hdb
end
def tmF (n : Int) : List (Str × V) := [("most", .int 2000), ("many", .int n), ("what", .str "words")]
/-- put_in(word) -/
def spPut (C CN CO CT : Addr) (Tb : List (Addr × Str)) : Sp := fun vs H Q E => ∃ p v ls ws, vs = [.ref p, v] ∧ IsD C H p ls ws ∧ OkD ls ws ∧ 0 < ws.length ∧ LamX.Tabs Tb H ∧
  ((∃ d, isW ls v = false ∧ (∀ x, v = .str x → x.length ≤ 10000) ∧ Odd H v d ∧ ∀ dd H', RsO H H' dd "word" d → E (.ref CN) (some dd) H') ∨
   (∃ w, v = .str (S w) ∧ w ∈ ws ∧ ∀ dd H', RsO H H' dd "word" (.str (S w)) → E (.ref CO) (some dd) H') ∨
   (∃ w, v = .str (S w) ∧ w.length ≤ 200 ∧ (∀ c ∈ w, c ∈ ls) ∧ w ∉ ws ∧ ((ws.length = 2000 ∧ ∀ dd H', Same H H' → H' dd = some (.xd (tmF 2001)) → E (.ref CT) (some dd) H') ∨ (ws.length < 2000 ∧ ws.length + 1 ≤ 2000 ∧ ∀ v' H', LamX.ExtN H H' → LamX.Tabs Tb H' → Q v' H'))))
/-- strike_out(word) that is refused -/
def spStrike (C CN : Addr) : Sp := fun vs H Q E => ∃ p v ls ws d, vs = [.ref p, v] ∧ IsD C H p ls ws ∧ ws.Nodup ∧ hasW ws v = false ∧ Odd H v d ∧ ∀ dd H', RsO H H' dd "word" d → E (.ref CN) (some dd) H'
/-- join_with(other) that is refused -/
def spJoin (C CO CT : Addr) : Sp := fun vs H Q E => ∃ p q ls ws ls2 ws2, vs = [.ref p, .ref q] ∧ IsD C H p ls ws ∧ OkD ls ws ∧ IsD C H q ls2 ws2 ∧ OkD ls2 ws2 ∧
  ((ls ≠ ls2 ∧ ∀ H', Same H H' → E (.ref CO) none H') ∨ (ls = ls2 ∧ 0 < ws.length ∧ isLs (.str (S ls)) = true ∧ (ws2.filter fun w => decide (w ∉ ws)) ≠ [] ∧ 2000 < ws.length + (ws2.filter fun w => decide (w ∉ ws)).length ∧
    ∀ dd H', Same H H' → H' dd = some (.xd (tmF ((ws.length + (ws2.filter fun w => decide (w ∉ ws)).length : Nat)))) → E (.ref CT) (some dd) H'))
/-- map_to(other) that is refused -/
def spMapTo (C CO : Addr) : Sp := fun vs H Q E => ∃ p q ls ws ls2 ws2, vs = [.ref p, .ref q] ∧ IsD C H p ls ws ∧ IsD C H q ls2 ws2 ∧ ls ≠ ls2 ∧ ∀ H', Same H H' → E (.ref CO) none H'
theorem isLs_of {ls : List Nat} (L : Lets ls) : isLs (.str (S ls)) = true := by
  show ((decide (2 ≤ (S ls).length ∧ (S ls).length ≤ 26)) && (((S ls).cps.toList.all fun c => decide (c ∈ abc)) && decide (SetAny.news (S ls) (S ls).cps.size = (S ls).cps.size))) = true
  rw [Bool.and_eq_true, Bool.and_eq_true]
  refine ⟨decide_eq_true ?_, List.all_eq_true.mpr fun c m => decide_eq_true (L.abc c m), decide_eq_true ((SetAny.news_nd (Nat.le_refl _)).mpr ?_)⟩
  · rw [S_len]
    exact ⟨L.lo, L.hi⟩
  · unfold SetAny.firsts
    rw [S_size, S_list, List.take_length]
    exact L.nd
section
variable {P : Program} {w : World} {K : PySem.W.Frag} {mg : Str → Option Value} {base : Heap}
theorem scStrike : FnScope ["self", "word", "struck", "less"] ["self", "word"] (defScope sStrike) := ⟨rfl, rfl, rfl, by decide +kernel, rfl, by decide +kernel, by decide +kernel⟩
theorem ok_strike {f C CN : Addr} {fd : FuncData} (F : Fun K "strike_out" "Dictionary.strike_out" sStrike f fd) (mN : Met (L2.CX P w) P w K mg base 5 C "number_of" (spNumOf C CN)) : FnOk P w K mg base (L2.CX P w) 6 f fd ["self", "word"] (spStrike C CN) := by
  refine F.okX scStrike (fun vs H Q E h => ?_) (fun cdv A outer s H vs Q E hr h => ?_)
  · obtain ⟨p, v, ls, ws, d, rfl, _⟩ := h
    rfl
  · obtain ⟨p, v, ls, ws, d, rfl, D, nd, hn, od, q⟩ := h
    obtain ⟨dx, pl, t, kk, nn, h1, h2, h3, h4, h5⟩ := id D
    refine ⟨_, pss_cons (ps_set (i := 2) scStrike.nd rfl (Or.inl rfl) (pe_mt mN hr (passes_call (takes_of rfl rfl rfl rfl) fun _ _ _ _ h => h) (pv 0) (pa_cons (pv 1) pa_nil))) pss_never, ?_⟩
    exact ⟨_, rfl, p, dx, _, rfl, h1, df_no, _, rfl, p, v, ls, ws, rfl, D, nd, .inr ⟨d, hn, od, q⟩⟩
theorem scMapTo : FnScope ["self", "other", "word"] ["self", "other"] (defScope sMapTo) := ⟨rfl, rfl, rfl, by decide +kernel, rfl, by decide +kernel, by decide +kernel⟩
theorem ok_mapTo {f C CO : Addr} {fd : FuncData} (F : Fun K "map_to" "Dictionary.map_to" sMapTo f fd) (T : Txd K C) (xO : Xc P w K mg base 1 "OtherLetters" CO spX0) : FnOk P w K mg base (L2.CX P w) 6 f fd ["self", "other"] (spMapTo C CO) := by
  refine F.okX scMapTo (fun vs H Q E h => ?_) (fun cdv A outer s H vs Q E hr h => ?_)
  · obtain ⟨p, q, ls, ws, ls2, ws2, rfl, _⟩ := h
    rfl
  · obtain ⟨p, q, ls, ws, ls2, ws2, rfl, D, D2, ne, k⟩ := h
    obtain ⟨dx, pl, t, kk, nn, h1, h2, h3, h4, h5⟩ := id D
    obtain ⟨dx', pl', t', kk', nn', g1, g2, g3, g4, g5⟩ := id D2
    refine ⟨_, pss_cons (ps_if (pt_cmpR op_ne (pe_fld (pv 0) rfl) (pe_fld (pv 1) rfl) (nomark _)) (pss_one (ps_raise rfl (takes_of rfl rfl rfl rfl) (pmk_x0 xO hr))) pss_nil) pss_never, ?_⟩
    refine ⟨_, rfl, p, C, dx, _, _, rfl, h1, T.cl, T.nL, df_letters _ _ _ _ _ _, _, rfl, q, C, dx', _, _, rfl, g1, T.cl, T.nL, df_letters _ _ _ _ _ _, ?_⟩
    refine ⟨rfl, _, rfl, ?_⟩
    rw [decS, decide_eq_false ne]
    exact iteT (raise0 (K := K) k)
theorem scJoin : FnScope ["self", "other", "added", "whole", "word"] ["self", "other"] (defScope sJoin) := ⟨rfl, rfl, rfl, by decide +kernel, rfl, by decide +kernel, by decide +kernel⟩
theorem ok_join {f C CO CL CW CT : Addr} {fd : FuncData} {Tb : List (Addr × Str)} (F : Fun K "join_with" "Dictionary.join_with" sJoin f fd) (B : Bi mg) (T : Txd K C) (xO : Xc P w K mg base 1 "OtherLetters" CO spX0) (mH : Met CX0 P w K mg base 1 C "has_word" (spHas C)) (mkD : Mak (L2.CX P w) P w K mg base 5 "Dictionary" C (spDic K C CL CW CT Tb)) :
    FnOk P w K mg base (L2.CX P w) 7 f fd ["self", "other"] (spJoin C CO CT) := by
  refine F.okX scJoin (fun vs H Q E h => ?_) (fun cdv A outer s H vs Q E hr h => ?_)
  · obtain ⟨p, q, ls, ws, ls2, ws2, rfl, _⟩ := h
    rfl
  · obtain ⟨p, q, ls, ws, ls2, ws2, rfl, D, O, D2, O2, k⟩ := h
    obtain ⟨dx, pl, t, kk, nn, h1, h2, h3, h4, h5⟩ := id D
    obtain ⟨dx', pl', t', kk', nn', g1, g2, g3, g4, g5⟩ := id D2
    refine ⟨_, pss_cons (ps_if (pt_cmpR op_ne (pe_fld (pv 0) rfl) (pe_fld (pv 1) rfl) (nomark _)) (pss_one (ps_raise rfl (takes_of rfl rfl rfl rfl) (pmk_x0 xO hr))) pss_nil)
      (pss_cons (ps_setLc (i := 2) (own := [("word", 4)]) rfl scJoin.nd rfl rfl (sw_true rfl rfl rfl (by decide +kernel)) (pi_sqA (pe_fld (pv 1) rfl)) (blkOk_by (N := ["self", "other", "added", "whole", "word"]) (sc := defScope sJoin) (by decide +kernel))
          (fun _ _ _ _ _ => pg_name (i := 4) scJoin.nd rfl (Or.inl rfl)) (fun _ _ _ _ _ => pts_one (pt_not (pt_val (pe_mt mH hr pass0 (pv 0) (pa_cons (pv 4) pa_nil))))) (fun _ _ _ _ _ => pv 4))
      (pss_cons (ps_set (i := 3) scJoin.nd rfl (Or.inl rfl) (pe_mk mkD hr (passes_call (takes_of rfl rfl rfl rfl) fun _ _ _ _ h => h) (pa_cons (pe_fld (pv 0) rfl) (pa_cons (pe_op op_catT (pe_fld (pv 0) rfl) (pe_tupleOf rfl B.tuple (pv 2))) pa_nil))))
      pss_never)), ?_⟩
    refine ⟨_, rfl, p, C, dx, _, _, rfl, h1, T.cl, T.nL, df_letters _ _ _ _ _ _, _, rfl, q, C, dx', _, _, rfl, g1, T.cl, T.nL, df_letters _ _ _ _ _ _, ?_⟩
    refine ⟨rfl, _, rfl, ?_⟩
    rcases k with ⟨ne, k⟩ | ⟨rfl, l0, il, nf, big, k⟩
    · rw [decS, decide_eq_false ne]
      exact iteT (raise0 (K := K) k)
    rw [decS, decide_eq_true rfl]
    refine iteF ?_
    refine ⟨_, rfl, q, C, dx', _, _, rfl, g1, T.cl, T.nW, df_words _ _ _ _ _ _, t', _, rfl, .inr (SqT.of g3), fun J G wk hG L nL => lc_it wk (fun i H' => Same H H' ∧ H' L = some (.lst (txs ((ws2.take i).filter fun o => decide (o ∉ ws))))) ⟨same_new nL, upd_same⟩ (fun i H' _ z => hG H' fun o z' => z.1 _ _ z') ?_ ?_⟩
    · rintro i y H3 H4 hi ⟨e3, hL⟩ ⟨rfl, hy⟩
      have hi2 : i < ws2.length := by rwa [strs_len] at hi
      have eu := List.getElem?_eq_getElem hi2
      have ey : y = .str (S ws2[i]) := by
        have hy : (ws2.map fun w => V.str (S w))[i]? = some y := hy
        rw [List.getElem?_map, eu] at hy
        exact (Option.some.inj hy).symm
      subst ey
      refine ⟨rfl, _, rfl, p, dx, _, rfl, e3 _ _ h1, df_no, _, rfl, p, _, ls, ws, rfl, D.same e3, O.nd, .str _, _, rfl, ?_⟩
      have tj : ws2.take (i + 1) = ws2.take i ++ [ws2[i]] := by rw [List.take_add_one, eu]; rfl
      have lf : ((ws2.take i).filter fun o => decide (o ∉ ws)).length ≤ i := Nat.le_trans (List.length_filter_le _ _) (by rw [List.length_take]; omega)
      have := O2.many
      show (if (!decide (ws2[i] ∈ ws)) = true then _ else _)
      by_cases c : ws2[i] ∈ ws
      · rw [decide_eq_true c]
        refine iteF ⟨e3, ?_⟩
        rw [tj, List.filter_append, hL]
        simp [c]
      · rw [decide_eq_false c]
        refine iteT ⟨_, rfl, _, hL, ?_, fun b o z => ?_, ?_⟩
        · rw [strs_len]
          exact small10 (by omega)
        · rw [upd_ne (ne_of_none z nL)]
          exact e3 _ _ z
        · rw [upd_same, tj, List.filter_append]
          unfold txs
          rw [List.map_append]
          simp [c]
    · rintro H3 ⟨e3, hL⟩
      rw [strs_len, List.take_length] at hL
      generalize ef : (ws2.filter fun o => decide (o ∉ ws)) = fs at hL nf big k
      have lf : fs.length ≤ 2000 := by
        rw [← ef]
        exact Nat.le_trans (List.length_filter_le _ _) O2.many
      have l1 := O.many
      have h13 := e3 _ _ h1
      refine ⟨_, rfl, p, C, dx, _, _, rfl, h13, T.cl, T.nL, df_letters _ _ _ _ _ _, _, rfl, p, C, dx, _, _, rfl, h13, T.cl, T.nW, df_words _ _ _ _ _ _, _, rfl, .inl ⟨L, _, rfl, SqL.of hL, fun tt ntt => ?_⟩⟩
      have e4 : Same H3 (upd H3 tt (.tup (txs fs))) := same_new ntt
      have htt : upd H3 tt (.tup (txs fs)) tt = some (.tup (txs fs)) := upd_same
      generalize upd H3 tt (.tup (txs fs)) = H4 at e4 htt ⊢
      refine ⟨t, tt, txs ws, txs fs, rfl, rfl, SqT.of (e4 _ _ (e3 _ _ h3)), SqT.of htt, ?_, ?_, ?_, ?_⟩
      · intro z
        have : ws.length = 0 := by rw [← strs_len ws, z]; rfl
        omega
      · rw [strs_len, strs_len]
        exact Nat.le_of_lt (small10 (by omega))
      · intro z
        exact absurd (List.map_eq_nil_iff.mp z) nf
      · intro _ u nu
        have e5 : Same H4 (upd H4 u (.tup (txs ws ++ txs fs))) := same_new nu
        have hu : upd H4 u (.tup (txs ws ++ txs fs)) u = some (.tup (txs ws ++ txs fs)) := upd_same
        generalize upd H4 u (.tup (txs ws ++ txs fs)) = H5 at e5 hu ⊢
        intro x dz nx nd ne
        have e6 : Same H5 (upd (upd H5 dz (.own x)) x (.ins C dz [])) := fun b o z => by
          rw [upd_ne (ne_of_none z nx), upd_ne (ne_of_none z nd)]
          exact z
        have ln : (txs ws ++ txs fs).length = ws.length + fs.length := by rw [List.length_append, strs_len, strs_len]
        refine .inr ⟨x, dz, u, ls, txs ws ++ txs fs, rfl, upd_same, .inr (e6 _ _ hu), il, by rw [ln]; exact big, fun dd H' r => k dd H' (e3.trans (e4.trans (e5.trans (e6.trans r.same)))) ?_⟩
        have := r.at_
        rw [ln] at this
        exact this
theorem upTo_moved (n c : Nat) : ∀ (k i : Nat) (l : Int), i + k = n → l ≤ (if (i : Int) < c then (i : Int) else (i : Int) + 1) → upTo ((n : Int) + 1) l ((List.range' i k).map fun (j : Nat) => if (j : Int) < c then (j : Int) else (j : Int) + 1)
  | 0, _, _, _, _ => True.intro
  | k + 1, i, l, h, hl => by
    rw [List.range'_succ, List.map_cons]
    refine ⟨hl, ?_, upTo_moved n c k (i + 1) _ (by omega) ?_⟩
    · split <;> omega
    · split <;> split <;> omega
theorem scPutIn : FnScope ["self", "word", "place", "more", "moved", "number"] ["self", "word"] (defScope sPutIn) := ⟨rfl, rfl, rfl, by decide +kernel, rfl, by decide +kernel, by decide +kernel⟩
theorem ok_put {f C CN CO CL CW CT CM : Addr} {fd : FuncData} {Tb : List (Addr × Str)} (F : Fun K "put_in" "Dictionary.put_in" sPutIn f fd) (B : Bi mg) (T : Txd K C) (mP : Met (L2.CX P w) P w K mg base 5 C "place_for" (spPlace C CN)) (mH : Met CX0 P w K mg base 1 C "has_word" (spHas C))
    (xO : Xc P w K mg base 3 "OldWord" CO (spXO K "word")) (nO : PySem.W.findIn K (.ref CO) "word" = some none) (mkD : Mak (L2.CX P w) P w K mg base 5 "Dictionary" C (spDic K C CL CW CT Tb)) (mkM : Mak CX0 P w K mg base 3 "NumberMap" CM (spMap CM)) :
    FnOk P w K mg base (L2.CX P w) 7 f fd ["self", "word"] (spPut C CN CO CT Tb) := by
  refine F.okX scPutIn (fun vs H Q E h => ?_) (fun cdv A outer s H vs Q E hr h => ?_)
  · obtain ⟨p, v, ls, ws, rfl, _⟩ := h
    rfl
  · obtain ⟨p, v, ls, ws, rfl, D, O, l0, tabs, k⟩ := h
    obtain ⟨dx, pl, t, kk, nn, h1, h2, h3, h4, h5⟩ := id D
    refine ⟨_, pss_cons (ps_set (i := 2) scPutIn.nd rfl (Or.inr rfl) (pe_mt mP hr (passes_call (takes_of rfl rfl rfl rfl) fun _ _ _ _ h => h) (pv 0) (pa_cons (pv 1) pa_nil)))
      (pss_cons (ps_if (pt_val (pe_mt mH hr pass0 (pv 0) (pa_cons (pv 1) pa_nil))) (pss_one (ps_raise rfl (takes_of rfl rfl rfl rfl) (pmk_x xO hr (pa_cons (pv 1) pa_nil)))) pss_nil)
      (pss_cons (ps_set (i := 3) scPutIn.nd rfl (Or.inl rfl) (pe_mk mkD hr (passes_call (takes_of rfl rfl rfl rfl) fun _ _ _ _ h => h) (pa_cons (pe_fld (pv 0) rfl) (pa_cons (pe_op op_catT (pe_fld (pv 0) rfl) (pe_tup (pa_cons (pv 1) pa_nil))) pa_nil))))
      (pss_cons (ps_setLc (i := 4) (own := [("number", 5)]) rfl scPutIn.nd rfl rfl (sw_true rfl rfl rfl (by decide +kernel)) (pi_range1 rfl B.range (pa_cons (pe_fld (pv 0) rfl) pa_nil)) (blkOk_by (N := ["self", "word", "place", "more", "moved", "number"]) (sc := defScope sPutIn) (by decide +kernel))
          (fun _ _ _ _ _ => pg_name (i := 5) scPutIn.nd rfl (Or.inl rfl)) (fun _ _ _ _ _ => pts_nil) (fun _ _ _ _ _ => pe_ifExp (pt_cmpR op_lt (pv 5) (pv 2) (nomark _)) (pv 5) (pe_op op_add (pv 5) pe_int)))
      (pss_one (ps_ret (pe_tup (pa_cons (pv 3) (pa_cons (pe_mk mkM hr pass0 (pa_cons (pe_fld (pv 3) rfl) (pa_cons (pv 4) pa_nil))) pa_nil)))))))), ?_⟩
    refine ⟨_, rfl, p, dx, _, rfl, h1, df_no, _, rfl, p, v, ls, ws, rfl, D, O, ?_⟩
    have lm := O.many
    rcases k with ⟨d, iw, lv, od, k⟩ | k
    · exact .inr ⟨d, iw, lv, od, k⟩
    obtain ⟨w, rfl, lw, hw, k⟩ : ∃ w, v = .str (S w) ∧ w.length ≤ 200 ∧ (∀ c ∈ w, c ∈ ls) ∧ ((w ∈ ws ∧ ∀ dd H', RsO H H' dd "word" (.str (S w)) → E (.ref CO) (some dd) H') ∨ (w ∉ ws ∧ ((ws.length = 2000 ∧ ∀ dd H', Same H H' → H' dd = some (.xd (tmF 2001)) → E (.ref CT) (some dd) H') ∨ (ws.length < 2000 ∧ ws.length + 1 ≤ 2000 ∧ ∀ v' H', LamX.ExtN H H' → LamX.Tabs Tb H' → Q v' H')))) := by
      rcases k with ⟨w, rfl, m, k⟩ | ⟨w, rfl, lw, hw, nm, k⟩
      · exact ⟨w, rfl, (O.word w m).1, (O.word w m).2, .inl ⟨m, k⟩⟩
      · exact ⟨w, rfl, lw, hw, .inr ⟨nm, k⟩⟩
    refine .inl ⟨w, rfl, lw, hw, fun H1 e1 => ?_⟩
    have h11 := e1 _ _ h1
    refine ⟨_, rfl, p, dx, _, rfl, h11, df_no, _, rfl, p, _, ls, ws, rfl, D.same e1, O.nd, .str _, _, rfl, ?_⟩
    show (if decide (w ∈ ws) = true then _ else _)
    rcases k with ⟨m, k⟩ | ⟨nm, k⟩
    · rw [decide_eq_true m]
      exact iteT ⟨_, rfl, raiseO xO.T nO (.flat (flat_S (O.nch w m))) fun dd H' r => k dd H' (r.back e1)⟩
    rw [decide_eq_false nm]
    refine iteF ?_
    refine ⟨_, rfl, p, C, dx, _, _, rfl, h11, T.cl, T.nL, df_letters _ _ _ _ _ _, _, rfl, p, C, dx, _, _, rfl, h11, T.cl, T.nW, df_words _ _ _ _ _ _, _, rfl, by show 1 ≤ sizeLine; decide, fun tt ntt => ?_⟩
    have e4 : Same H1 (upd H1 tt (.tup [.str (S w)])) := same_new ntt
    have htt : upd H1 tt (.tup [.str (S w)]) tt = some (.tup [.str (S w)]) := upd_same
    generalize upd H1 tt (.tup [.str (S w)]) = H4 at e4 htt ⊢
    refine ⟨t, tt, txs ws, [.str (S w)], rfl, rfl, SqT.of (e4 _ _ (e1 _ _ h3)), SqT.of htt, ?_, ?_, (fun z => nomatch z), fun _ u nu => ?_⟩
    · intro z
      have : ws.length = 0 := by rw [← strs_len ws, z]; rfl
      omega
    · rw [strs_len]
      exact Nat.le_of_lt (small10 (by show ws.length + 1 ≤ _; omega))
    have et : txs ws ++ [.str (S w)] = txs (ws ++ [w]) := by
      unfold txs
      rw [List.map_append]
      rfl
    rw [et]
    have e5 : Same H4 (upd H4 u (.tup (txs (ws ++ [w])))) := same_new nu
    have hu : upd H4 u (.tup (txs (ws ++ [w]))) u = some (.tup (txs (ws ++ [w]))) := upd_same
    generalize upd H4 u (.tup (txs (ws ++ [w]))) = H5 at e5 hu ⊢
    intro x dz nx nd ne
    have e6 : Same H5 (upd (upd H5 dz (.own x)) x (.ins C dz [])) := fun b o z => by
      rw [upd_ne (ne_of_none z nx), upd_ne (ne_of_none z nd)]
      exact z
    have e15 : Same H H5 := e1.trans (e4.trans e5)
    have ln : (ws ++ [w]).length = ws.length + 1 := by rw [List.length_append]; rfl
    rcases k with ⟨full, k⟩ | ⟨_, room, k⟩
    · refine .inr ⟨x, dz, u, ls, txs (ws ++ [w]), rfl, upd_same, .inr (e6 _ _ hu), isLs_of O.L, by rw [strs_len, ln]; omega, fun dd H' r => k dd H' (e15.trans (e6.trans r.same)) ?_⟩
      have := r.at_
      rw [strs_len, ln, full] at this
      exact this
    have nd2 : (ws ++ [w]).Nodup := List.nodup_append.mpr ⟨O.nd, by simp, fun a ha b hb => by
      rw [List.mem_singleton.mp hb]
      intro z
      exact nm (z ▸ ha)⟩
    have hw2 : ∀ u ∈ ws ++ [w], u.length ≤ 200 ∧ ∀ c ∈ u, c ∈ ls := fun u m => by
      rcases List.mem_append.mp m with m | m
      · exact O.word u m
      · rw [List.mem_singleton.mp m]
        exact ⟨lw, hw⟩
    refine .inl (.inl ⟨x, dz, u, ls, ws ++ [w], rfl, upd_same, .inr (e6 _ _ hu), O.L, nd2, by rw [ln]; exact room, hw2, tabs.ext (e15.trans e6), fun us H6 pu O6 keep D6 _ tab6 => ⟨rfl, ?_⟩⟩)
    have ext6 : LamX.ExtN H H6 := fun b o z n => keep b o (ne_of_none (e15 _ _ z) nx) (e6 _ _ (e15 _ _ z)) n
    have h16 := ext6 _ _ h1 fun _ z => nomatch z
    refine ⟨_, rfl, p, C, dx, _, _, rfl, h16, T.cl, T.nM, df_many _ _ _ _ _ _, _, rfl, by omega, by omega, fun L nL => ?_⟩
    have nxL : x ≠ L := ne_of_none (show H6 x = some _ from (D6.choose_spec.choose_spec.choose_spec.choose_spec.choose_spec).1) nL
    refine lc_range (n := ((ws.length : Nat) : Int).toNat) (fun i H' => Same H6 H' ∧ H' L = some (.lst (((List.range' 0 i).map fun (j : Nat) => if (j : Int) < (ahead ls ws (key ls w) : Nat) then (j : Int) else (j : Int) + 1).map V.int))) ⟨same_new nL, upd_same⟩ ?_ ?_
    · rintro i H7 hi ⟨e7, hL⟩
      have lt : i < ws.length := by simpa using hi
      rw [Int.zero_add]
      have sm : ((((List.range' 0 i).map fun (j : Nat) => if (j : Int) < (ahead ls ws (key ls w) : Nat) then (j : Int) else (j : Int) + 1).map V.int)).length < sizeLine := by
        rw [List.length_map, List.length_map, List.length_range']
        exact small10 (by omega)
      have fin : ∀ y : V, y = .int (if (i : Int) < (ahead ls ws (key ls w) : Nat) then (i : Int) else (i : Int) + 1) → Same H6 (upd H7 L (.lst ((((List.range' 0 i).map fun (j : Nat) => if (j : Int) < (ahead ls ws (key ls w) : Nat) then (j : Int) else (j : Int) + 1).map V.int) ++ [y]))) ∧ (upd H7 L (.lst ((((List.range' 0 i).map fun (j : Nat) => if (j : Int) < (ahead ls ws (key ls w) : Nat) then (j : Int) else (j : Int) + 1).map V.int) ++ [y]))) L = some (.lst (((List.range' 0 (i + 1)).map fun (j : Nat) => if (j : Int) < (ahead ls ws (key ls w) : Nat) then (j : Int) else (j : Int) + 1).map V.int)) := fun y ey => by
        refine ⟨fun b o z => ?_, ?_⟩
        · rw [upd_ne (ne_of_none z nL)]
          exact e7 _ _ z
        · rw [upd_same, ey, List.range'_concat, List.map_append, List.map_append]
          simp
      refine ⟨rfl, yesT ⟨_, rfl, _, rfl, _, _, rfl, rfl, _, rfl, ?_⟩⟩
      by_cases c : (i : Int) < (ahead ls ws (key ls w) : Nat)
      · rw [decide_eq_true c]
        exact iteT ⟨_, rfl, _, hL, sm, fin _ (by rw [if_pos c])⟩
      · rw [decide_eq_false c]
        exact iteF ⟨_, rfl, _, _, rfl, rfl, _, hL, sm, fin _ (by rw [if_neg c])⟩
    · rintro H7 ⟨e7, hL⟩
      rw [Int.toNat_natCast] at hL
      have D7 := D6.same e7
      obtain ⟨dx7, pl7, t7, kk7, nn7, i1, _⟩ := id D7
      refine ⟨_, rfl, _, rfl, x, C, dx7, _, _, rfl, i1, T.cl, T.nM, df_many _ _ _ _ _ _, _, rfl, fun y dy ny ndy ney => ?_⟩
      have e8 : Same H7 (upd (upd H7 dy (.own y)) y (.ins CM dy [])) := fun b o z => by
        rw [upd_ne (ne_of_none z ny), upd_ne (ne_of_none z ndy)]
        exact z
      have lus : us.length = ws.length + 1 := by rw [pu.length_eq, ln]
      refine ⟨y, dy, L, _, _, rfl, upd_same, e8 _ _ hL, by omega, by rw [lus]; omega, ?_, ?_, fun H9 k9 => ⟨rfl, by show 2 ≤ sizeLine; decide, fun tt ntt => ?_⟩⟩
      · rw [List.length_map, List.length_range']
        omega
      · rw [lus]
        exact upTo_moved ws.length (ahead ls ws (key ls w)) ws.length 0 0 (by omega) (by split <;> omega)
      · have k79 : ∀ b o, H7 b = some o → H9 b = some o := fun b o z => k9 b o (ne_of_none z ny) (e8 _ _ z)
        have ext9 : LamX.ExtN H6 (upd H9 tt (.tup [.ref x, .ref y])) := fun b o z n => (same_new ntt) _ _ (k79 _ _ (e7 _ _ z))
        exact k _ _ (ext6.trans ext9) (tab6.ext fun b o z => (same_new ntt) _ _ (k79 _ _ (e7 _ _ z)))
end
end K02
set_option Elab.async false
set_option linter.all false
set_option maxRecDepth 100001
set_option maxHeartbeats 3999999
namespace K02
open PySem L2
abbrev sCau : Stmt := topS 33
structure Ct (K : PySem.W.Frag) (mg : Str → Option Value) (x : Str) (C : Addr) : Prop where
  g : mg x = some (.ref C)
  T : XfC K C
  me : PySem.W.exmOne K (.ref C) (.ref C) = some true
def tC1 (C : Addr) (n f : Str) (o i : Nat) : Addr → Value → Option Addr → TS := fun a cls d => tAsg (tTup (tCons (tC (.str n)) (tCons (tXf a cls d C f (tVar o)) tNil))) (gName i)
def tC3 (C : Addr) (n f g h : Str) (o i : Nat) : Addr → Value → Option Addr → TS := fun a cls d => tAsg (tTup (tCons (tC (.str n)) (tCons (tXf a cls d C f (tVar o)) (tCons (tXf a cls d C g (tVar o)) (tCons (tXf a cls d C h (tVar o)) tNil))))) (gName i)
def tC0 (n : Str) (i : Nat) : TS := tAsg (tTup (tCons (tC (.str n)) tNil)) (gName i)
theorem takes_len {X : Cx} {W : WX} {n : Nat} (e : X.N.length = n) (tk : Takes X W) : Takes X (fun cls d σ H => σ.length = n → W cls d σ H) := fun u s' ⟨a, B, sI, pins, σ, H, cls, d, e1, I, nb, up, sky, na, os, ag, w⟩ =>
  tk u s' ⟨a, B, sI, pins, σ, H, cls, d, e1, I, nb, up, sky, na, os, ag, w (I.len.trans e)⟩
/-- a reading with a stronger end -/
theorem pe_mono {X : Cx} {e : Expr} {te : TE} (h : PE X e te) : PE X e fun σ H Q => ∃ Q' : VK, (∀ x H1, Q' x H1 → Q x H1) ∧ te σ H Q' :=
  ⟨fun pins s σ H Q I ⟨Q', m, k⟩ => wpAny_mono (h.run pins s σ H Q' I k) (fun u s1 ⟨v, H1, I1, r, q⟩ => ⟨v, H1, I1, r, m _ _ q⟩) fun _ _ z => z⟩
/-- what comes of a call that is refused -/
def rC (CL CW CT CN CO CM CX : Addr) (Q : VK) : XK := fun cls d H' =>
  (cls = .ref CL ∧ ∃ dd v, d = some dd ∧ H' dd = some (.xd [("letters", v)]) ∧ ∀ t, H' t = none → Q (.ref t) (upd H' t (.tup [.str "letters", v]))) ∨
  (cls = .ref CW ∧ ∃ dd v, d = some dd ∧ H' dd = some (.xd [("index", v)]) ∧ ∀ t, H' t = none → Q (.ref t) (upd H' t (.tup [.str "word", v]))) ∨
  (cls = .ref CT ∧ ∃ dd x y z, d = some dd ∧ H' dd = some (.xd [("most", z), ("many", y), ("what", x)]) ∧ ∀ t, H' t = none → Q (.ref t) (upd H' t (.tup [.str "many", x, y, z]))) ∨
  (cls = .ref CN ∧ ∃ dd v, d = some dd ∧ H' dd = some (.xd [("word", v)]) ∧ ∀ t, H' t = none → Q (.ref t) (upd H' t (.tup [.str "not", v]))) ∨
  (cls = .ref CO ∧ ∃ dd v, d = some dd ∧ H' dd = some (.xd [("word", v)]) ∧ ∀ t, H' t = none → Q (.ref t) (upd H' t (.tup [.str "old", v]))) ∨
  (cls = .ref CM ∧ ∃ dd v, d = some dd ∧ H' dd = some (.xd [("word", v)]) ∧ ∀ t, H' t = none → Q (.ref t) (upd H' t (.tup [.str "no", v]))) ∨
  (cls = .ref CX ∧ ∀ t, H' t = none → Q (.ref t) (upd H' t (.tup [.str "other"])))
def TTc (CL CW CT CN CO CM CX : Addr) : (XK → Hp → VK → Prop) → Hp → VK → Prop := fun tl H Q => tl (rC CL CW CT CN CO CM CX Q) H fun _ H' => ∀ t, H' t = none → Q (.ref t) (upd H' t (.tup [.str "done"]))
/-- the classes that are caught here -/
structure Cts (K : PySem.W.Frag) (mg : Str → Option Value) (CL CW CT CN CO CM CX : Addr) : Prop where
  xL : Ct K mg "BadLetters" CL
  xW : Ct K mg "BadWord" CW
  xT : Ct K mg "TooMany" CT
  xN : Ct K mg "NotWord" CN
  xO : Ct K mg "OldWord" CO
  xM : Ct K mg "NoWord" CM
  xX : Ct K mg "OtherLetters" CX
  nL_letters : PySem.W.findIn K (.ref CL) "letters" = some none
  nW_index : PySem.W.findIn K (.ref CW) "index" = some none
  nT_what : PySem.W.findIn K (.ref CT) "what" = some none
  nT_many : PySem.W.findIn K (.ref CT) "many" = some none
  nT_most : PySem.W.findIn K (.ref CT) "most" = some none
  nN_word : PySem.W.findIn K (.ref CN) "word" = some none
  nO_word : PySem.W.findIn K (.ref CO) "word" = some none
  nM_word : PySem.W.findIn K (.ref CM) "word" = some none
  e10 : PySem.W.exmOne K (.ref CW) (.ref CL) = some false
  e20 : PySem.W.exmOne K (.ref CT) (.ref CL) = some false
  e21 : PySem.W.exmOne K (.ref CT) (.ref CW) = some false
  e30 : PySem.W.exmOne K (.ref CN) (.ref CL) = some false
  e31 : PySem.W.exmOne K (.ref CN) (.ref CW) = some false
  e32 : PySem.W.exmOne K (.ref CN) (.ref CT) = some false
  e40 : PySem.W.exmOne K (.ref CO) (.ref CL) = some false
  e41 : PySem.W.exmOne K (.ref CO) (.ref CW) = some false
  e42 : PySem.W.exmOne K (.ref CO) (.ref CT) = some false
  e43 : PySem.W.exmOne K (.ref CO) (.ref CN) = some false
  e50 : PySem.W.exmOne K (.ref CM) (.ref CL) = some false
  e51 : PySem.W.exmOne K (.ref CM) (.ref CW) = some false
  e52 : PySem.W.exmOne K (.ref CM) (.ref CT) = some false
  e53 : PySem.W.exmOne K (.ref CM) (.ref CN) = some false
  e54 : PySem.W.exmOne K (.ref CM) (.ref CO) = some false
  e60 : PySem.W.exmOne K (.ref CX) (.ref CL) = some false
  e61 : PySem.W.exmOne K (.ref CX) (.ref CW) = some false
  e62 : PySem.W.exmOne K (.ref CX) (.ref CT) = some false
  e63 : PySem.W.exmOne K (.ref CX) (.ref CN) = some false
  e64 : PySem.W.exmOne K (.ref CX) (.ref CO) = some false
  e65 : PySem.W.exmOne K (.ref CX) (.ref CM) = some false
theorem scCau : FnScope ["_law_function", "_law_told", "e"] ["_law_function"] (defScope sCau) := ⟨rfl, rfl, rfl, by decide +kernel, rfl, by decide +kernel, by decide +kernel⟩
theorem cau_gives {X : Cx} {g CL CW CT CN CO CM CX : Addr} {cdg : Value} {q : Str} (T : Cts X.K X.mg CL CW CT CN CO CM CX) : LamX.GivesTo X ["_law_function", "_law_told", "e"] "_law_caught" (defScope sCau) g cdg (defBody sCau) "_law_function" q (TTc CL CW CT CN CO CM CX) := by
  intro f c' s H Q tl act hc h
  refine ⟨_, pss_cons (ps_set (i := 1) scCau.nd rfl (Or.inl rfl) pe_non) (pss_cons (ps_try_clauses
      (tb := fun W D σ H => ∃ (Ech : XK) (Qe : VK), (∀ cls d σ' H', Ech cls d H' → σ'.length = 3 → W cls d σ' H') ∧ (∀ x H', Qe x H' → ∀ t, H' t = none → D.nx (σ.set 1 (some (.ref t))) (upd H' t (.tup [.str "done"]))) ∧ σ[0]? = some (some (.ref f)) ∧ H c' = some (LamX.CodeO c' q) ∧ tl Ech H Qe) (Wout := fun _ _ _ _ => False)
        (l := [(.ref CL, some 2, tC1 CL "letters" "letters" 2 1), (.ref CW, some 2, tC1 CW "word" "index" 2 1), (.ref CT, some 2, tC3 CT "many" "what" "many" "most" 2 1), (.ref CN, some 2, tC1 CN "not" "word" 2 1), (.ref CO, some 2, tC1 CO "old" "word" 2 1), (.ref CM, some 2, tC1 CM "no" "word" 2 1), (.ref CX, none, fun _ _ _ => tC0 "other" 1)]) rfl rfl scCau.nd LamX.takes0
        (fun W pn xe tk _ => ?_)
        (.named ⟨rfl, by decide, .inl T.xL.g⟩ rfl rfl (fun a oe cls d pn hz hf => pss_one (ps_set (i := 1) scCau.nd rfl (Or.inl rfl) (pe_tup (pa_cons pe_str (pa_cons (pe_xf T.xL.T T.nL_letters hz hf (pv 2)) pa_nil)))))
        (.named ⟨rfl, by decide, .inl T.xW.g⟩ rfl rfl (fun a oe cls d pn hz hf => pss_one (ps_set (i := 1) scCau.nd rfl (Or.inl rfl) (pe_tup (pa_cons pe_str (pa_cons (pe_xf T.xW.T T.nW_index hz hf (pv 2)) pa_nil)))))
        (.named ⟨rfl, by decide, .inl T.xT.g⟩ rfl rfl (fun a oe cls d pn hz hf => pss_one (ps_set (i := 1) scCau.nd rfl (Or.inl rfl) (pe_tup (pa_cons pe_str (pa_cons (pe_xf T.xT.T T.nT_what hz hf (pv 2)) (pa_cons (pe_xf T.xT.T T.nT_many hz hf (pv 2)) (pa_cons (pe_xf T.xT.T T.nT_most hz hf (pv 2)) pa_nil)))))))
        (.named ⟨rfl, by decide, .inl T.xN.g⟩ rfl rfl (fun a oe cls d pn hz hf => pss_one (ps_set (i := 1) scCau.nd rfl (Or.inl rfl) (pe_tup (pa_cons pe_str (pa_cons (pe_xf T.xN.T T.nN_word hz hf (pv 2)) pa_nil)))))
        (.named ⟨rfl, by decide, .inl T.xO.g⟩ rfl rfl (fun a oe cls d pn hz hf => pss_one (ps_set (i := 1) scCau.nd rfl (Or.inl rfl) (pe_tup (pa_cons pe_str (pa_cons (pe_xf T.xO.T T.nO_word hz hf (pv 2)) pa_nil)))))
        (.named ⟨rfl, by decide, .inl T.xM.g⟩ rfl rfl (fun a oe cls d pn hz hf => pss_one (ps_set (i := 1) scCau.nd rfl (Or.inl rfl) (pe_tup (pa_cons pe_str (pa_cons (pe_xf T.xM.T T.nM_word hz hf (pv 2)) pa_nil)))))
        (.plain ⟨rfl, by decide, .inl T.xX.g⟩ (fun a oe cls d pn hz hf => pss_one (ps_set (i := 1) scCau.nd rfl (Or.inl rfl) (pe_tup (pa_cons pe_str pa_nil))))
        .nil))))))))
      (pss_one (ps_ret (pv 1)))), ?_⟩
  · refine ⟨fun pins s' σ H' D I h' => ?_⟩
    obtain ⟨Eq, Qe, hW, hQ, h1, h2, h3⟩ := h'
    have hp := fun p1 p2 => pe_mono (act _ pn xe Eq p1 p2 (takes_len (n := 3) rfl tk) fun cls d σ' H' e => hW cls d σ' H' e)
    refine (pss_cons (ps_expr (hp _ _)) (pss_one (ps_set (i := 1) scCau.nd rfl (Or.inl rfl) (pe_tup (pa_cons pe_str pa_nil))))).run pins s' σ H' D I ?_
    exact ⟨Qe, (fun x H1 z => ⟨by show 1 ≤ sizeLine; decide, fun t nt => hQ x H1 z t nt⟩), h1, h2, h3⟩
  · refine ⟨rC CL CW CT CN CO CM CX Q, _, fun cls d σ' H' e hl => ?_, fun x H' z t nt => ⟨_, rfl, z t nt⟩, rfl, hc, h⟩
    match σ', hl with
    | [u0, u1, u2], _ =>
      rcases e with ⟨rfl, dd, v, rfl, hd, k⟩ | ⟨rfl, dd, v, rfl, hd, k⟩ | ⟨rfl, dd, x, y, z, rfl, hd, k⟩ | ⟨rfl, dd, v, rfl, hd, k⟩ | ⟨rfl, dd, v, rfl, hd, k⟩ | ⟨rfl, dd, v, rfl, hd, k⟩ | ⟨rfl, k⟩
      · refine ⟨true, T.xL.me, fun _ a na => ?_, fun z => nomatch z⟩
        exact ⟨_, rfl, rfl, rfl, dd, _, _, rfl, hd, rfl, by show 2 ≤ sizeLine; decide, fun t nt => ⟨_, rfl, k t nt⟩⟩
      · refine ⟨false, T.e10, (fun z => nomatch z), fun _ => ⟨true, T.xW.me, fun _ a na => ?_, fun z => nomatch z⟩⟩
        exact ⟨_, rfl, rfl, rfl, dd, _, _, rfl, hd, rfl, by show 2 ≤ sizeLine; decide, fun t nt => ⟨_, rfl, k t nt⟩⟩
      · refine ⟨false, T.e20, (fun z => nomatch z), fun _ => ⟨false, T.e21, (fun z => nomatch z), fun _ => ⟨true, T.xT.me, fun _ a na => ?_, fun z => nomatch z⟩⟩⟩
        exact ⟨_, rfl, rfl, rfl, dd, _, _, rfl, hd, rfl, _, rfl, rfl, rfl, dd, _, _, rfl, hd, rfl, _, rfl, rfl, rfl, dd, _, _, rfl, hd, rfl, by show 4 ≤ sizeLine; decide, fun t nt => ⟨_, rfl, k t nt⟩⟩
      · refine ⟨false, T.e30, (fun z => nomatch z), fun _ => ⟨false, T.e31, (fun z => nomatch z), fun _ => ⟨false, T.e32, (fun z => nomatch z), fun _ => ⟨true, T.xN.me, fun _ a na => ?_, fun z => nomatch z⟩⟩⟩⟩
        exact ⟨_, rfl, rfl, rfl, dd, _, _, rfl, hd, rfl, by show 2 ≤ sizeLine; decide, fun t nt => ⟨_, rfl, k t nt⟩⟩
      · refine ⟨false, T.e40, (fun z => nomatch z), fun _ => ⟨false, T.e41, (fun z => nomatch z), fun _ => ⟨false, T.e42, (fun z => nomatch z), fun _ => ⟨false, T.e43, (fun z => nomatch z), fun _ => ⟨true, T.xO.me, fun _ a na => ?_, fun z => nomatch z⟩⟩⟩⟩⟩
        exact ⟨_, rfl, rfl, rfl, dd, _, _, rfl, hd, rfl, by show 2 ≤ sizeLine; decide, fun t nt => ⟨_, rfl, k t nt⟩⟩
      · refine ⟨false, T.e50, (fun z => nomatch z), fun _ => ⟨false, T.e51, (fun z => nomatch z), fun _ => ⟨false, T.e52, (fun z => nomatch z), fun _ => ⟨false, T.e53, (fun z => nomatch z), fun _ => ⟨false, T.e54, (fun z => nomatch z), fun _ => ⟨true, T.xM.me, fun _ a na => ?_, fun z => nomatch z⟩⟩⟩⟩⟩⟩
        exact ⟨_, rfl, rfl, rfl, dd, _, _, rfl, hd, rfl, by show 2 ≤ sizeLine; decide, fun t nt => ⟨_, rfl, k t nt⟩⟩
      · refine ⟨false, T.e60, (fun z => nomatch z), fun _ => ⟨false, T.e61, (fun z => nomatch z), fun _ => ⟨false, T.e62, (fun z => nomatch z), fun _ => ⟨false, T.e63, (fun z => nomatch z), fun _ => ⟨false, T.e64, (fun z => nomatch z), fun _ => ⟨false, T.e65, (fun z => nomatch z), fun _ => ⟨true, T.xX.me, fun _ a na => ?_, fun z => nomatch z⟩⟩⟩⟩⟩⟩⟩
        exact ⟨by show 1 ≤ sizeLine; decide, fun t nt => ⟨_, rfl, k t nt⟩⟩
section
variable {X : Cx}
/-- _law_caught(lambda: ..) -/
theorem pe_cau {Tb : List (Addr × Str)} {g c T CL CW CT CN CO CM CX : Addr} {fd : FuncData} {k j : Nat} {params : Arguments} {body : Expr} {scope : Scope} {t : XK → TE} {p lpos pos : Pos} (FA : Fun X.K "_law_caught" "_law_caught" sCau g fd) (bA : Binds X.K fd ["_law_function"] [])
    (gA : X.mg "_law_caught" = some (.ref g)) (C : Cts X.K X.mg CL CW CT CN CO CM CX) (TB : LamX.TabB X.base X.mg c T) (hmT : (T, X.env.qual ++ "<lambda>") ∈ Tb) (hu : ∀ p ∈ Tb, p.1 = T → p.2 = X.env.qual ++ "<lambda>") (hr : Room j X.A) (hk : k + 2 ≤ j) (L : LamX.LamS X.env.scope scope)
    (hbody : ∀ (A : Around) (outer : List Env) (s : Shared) (H : Hp) (E : XK) (f c' : Addr), Room k (A.deeper (LamX.lamEnv X scope s.heap.objs.size f c')) → PE (LamX.lamCx X A outer s H E scope f c') body (t E))
    (hg : Gl X "_law_caught" := by rfl) (hcode : X.env.code = .ref c := by rfl) (hdef : defaultsOf params X.env = ([], []) := by rfl)
    (hbind : ∀ (q : Str) (cl : List (Str × Addr)) (pm cv ctv : Value), bindArgs (PySem.W.kla_fn "<lambda>" q params body scope cl pm cv ctv) ⟨[], []⟩ = pure [] := by intros; rfl) :
    PE X (.Call (.Name "_law_caught" p) [.Lambda params body scope lpos] [] pos) (LamX.tLam Tb (TTc CL CW CT CN CO CM CX) t) := by
  obtain ⟨oc, od, kV, doc, pm, an, cdv, ct, osl, rfl, lk, hcd⟩ := FA.ex
  exact LamX.pe_lamcall (k := k) hg gA FA.kp lk hcd bA scCau rfl (.inl rfl) (cau_gives C) TB hcode hmT hu (hr.mono hk) L hdef hbind hbody
end
end K02
set_option Elab.async false
set_option linter.all false
set_option maxRecDepth 100001
set_option maxHeartbeats 3999999
namespace K02
open PySem L2
abbrev sMany : Stmt := topS 34
abbrev sFull : Stmt := topS 35
abbrev sLStr : Stmt := topS 36
theorem Odd.ext {H H' : Hp} {v : V} {d : PyData} (o : Odd H v d) (e : LamX.ExtN H H') : Odd H' v d := by
  cases o with
  | flat h => exact .flat h
  | tup h f => exact .tup (e _ _ h fun _ z => nomatch z) f
  | lst h f l => exact .lst (e _ _ h fun _ z => nomatch z) f l
theorem lay_dOf {v : V} (h : Flat v) : PyData.canLay0 (dOf v) = true ∧ PyData.depth (dOf v) ≤ 1 := by
  cases v <;> simp [dOf, PyData.canLay0, PyData.depth, Flat] at h ⊢
  exact h
theorem Odd.lay {H : Hp} {v : V} {d : PyData} (o : Odd H v d) : PyData.canLay0 d = true ∧ PyData.depth d ≤ 2 := by
  cases o with
  | flat h =>
    have := lay_dOf h
    exact ⟨this.1, by omega⟩
  | tup e f =>
    have := lay_dOf f
    simp only [PyData.canLay0, PyData.canLayAll0, PyData.depth, PyData.depthAll, this.1]
    exact ⟨rfl, by omega⟩
  | @lst a xs e f l =>
    have h1 := lay_flat f
    have h2 := depth_flat xs
    simp only [PyData.canLay0, PyData.depth]
    exact ⟨h1, by omega⟩
theorem Odd.shaped {H : Hp} {v : V} {d : PyData} {tag : Str} (o : Odd H v d) (ht : PyData.strOk tag = true) : SeqAt.shaped (.tuple [.str tag, d]) = true := by
  have h := o.lay
  show (PyData.canLay0 (.tuple [.str tag, d]) && decide (PyData.depth (.tuple [.str tag, d]) ≤ 64)) = true
  rw [Bool.and_eq_true]
  refine ⟨?_, decide_eq_true ?_⟩
  · simp only [PyData.canLay0, PyData.canLayAll0, h.1]
    simpa using ht
  · simp only [PyData.depth, PyData.depthAll]
    omega
/-- the answer to a question that is refused, and what it is compared with -/
theorem asked_end {K : PySem.W.Frag} {H H' : Hp} {dd : Addr} {f tag : Str} {d : PyData} {v : V} (ht : PyData.strOk tag = true) (od : Odd H v d) (sm : Same H H') (at_ : ∃ v', H' dd = some (.xd [(f, v')]) ∧ Odd H' v' d) : ∃ v', H' dd = some (.xd [(f, v')]) ∧ ∀ t, H' t = none → ∀ t2, upd H' t (.tup [.str tag, v']) t2 = none →
    ∃ D, Dp K (upd (upd H' t (.tup [.str tag, v'])) t2 (.tup [.str tag, v])) (.ref t) D ∧ Dp K (upd (upd H' t (.tup [.str tag, v'])) t2 (.tup [.str tag, v])) (.ref t2) D ∧ SeqAt.shaped D = true ∧ Same H (upd (upd H' t (.tup [.str tag, v'])) t2 (.tup [.str tag, v])) := by
  obtain ⟨v', hv, o'⟩ := at_
  refine ⟨v', hv, fun t nt t2 nt2 => ⟨.tuple [.str tag, d], ?_, ?_, od.shaped ht, (sm.trans (same_new nt)).trans (same_new nt2)⟩⟩
  · exact .tup (SqT.of (same_new nt2 _ _ upd_same)) (.cons (.str tag) (.cons ((o'.same (same_new nt)).same (same_new nt2)).dp .nil))
  · exact .tup (SqT.of upd_same) (.cons (.str tag) (.cons (od.same ((sm.trans (same_new nt)).trans (same_new nt2))).dp .nil))
theorem isW_has {ls : List Nat} {us : List (List Nat)} (O : OkD ls us) {v : V} (h : isW ls v = false) : hasW us v = false := by
  cases v with
  | str z =>
    refine decide_eq_false fun m => ?_
    obtain ⟨l, c⟩ := O.word _ m
    have : isW ls (.str z) = true := by
      show (decide (z.length ≤ 200) && z.cps.toList.all fun c => decide (c ∈ ls)) = true
      have e : z.length ≤ 200 := by
        have : z.length = z.cps.toList.length := by show z.cps.size = _; simp
        omega
      rw [decide_eq_true e, Bool.true_and]
      exact List.all_eq_true.mpr fun x hx => decide_eq_true (c x hx)
    rw [this] at h
    cases h
  | _ => rfl
def spLStr : Sp := fun vs H Q _ => ∃ ls, vs = [.str (S ls)] ∧ (97 ∉ ls ∨ 122 ∉ ls) ∧ ∀ c H', (c = 97 ∨ c = 122) → c ∉ ls → Same H H' → Q (.str (S [c])) H'
/-! ### Dictionary(letters, words), by what comes of it -/
section
variable {K : PySem.W.Frag} {C CL CW CT : Addr} {Tb : List (Addr × Str)} {H : Hp} {s : Addr} {ls : List Nat} {Qx : Addr → VK} {E : XK}
theorem made_new {x dx : Addr} (nx : H x = none) (nd : H dx = none) : Same H (upd (upd H dx (.own x)) x (.ins C dx [])) := fun b o z => by
  rw [upd_ne (ne_of_none z nx), upd_ne (ne_of_none z nd)]
  exact z
theorem mk_d {ws : List (List Nat)} (hs : Lt H s (txs ws)) (L : Lets ls) (nd : ws.Nodup) (lw : ws.length ≤ 2000) (hw : ∀ w ∈ ws, w.length ≤ 200 ∧ ∀ c ∈ w, c ∈ ls) (tabs : LamX.Tabs Tb H)
    (k : ∀ x us H', us.Perm ws → OkD ls us → LamX.ExtN H H' → IsD C H' x ls us → LamX.Tabs Tb H' → Qx x .non H') : ∀ x dx, H x = none → H dx = none → dx ≠ x → spDic K C CL CW CT Tb (.ref x :: ([.str (S ls), .ref s] ++ [])) (upd (upd H dx (.own x)) x (.ins C dx [])) (Qx x) E := by
  intro x dx nx nd' ne
  have e := made_new (C := C) nx nd'
  exact .inl (.inl ⟨x, dx, s, ls, ws, rfl, upd_same, hs.same e, L, nd, lw, hw, tabs.ext e, fun us H' pu O keep D wr t => k x us H' pu O (fun b o z nt => keep b o (ne_of_none z nx) (e _ _ z) nt) D t⟩)
theorem ref_l {xs : List V} {v : V} {d : PyData} (hs : Lt H s xs) (il : isLs v = false) (od : Odd H v d) (lv : ∀ x, v = .str x → x.length ≤ 200) (k : ∀ dd H', Same H H' → (∃ v', H' dd = some (.xd [("letters", v')]) ∧ Odd H' v' d) → E (.ref CL) (some dd) H') :
    ∀ x dx, H x = none → H dx = none → dx ≠ x → spDic K C CL CW CT Tb (.ref x :: ([v, .ref s] ++ [])) (upd (upd H dx (.own x)) x (.ins C dx [])) (Qx x) E := by
  intro x dx nx nd' ne
  have e := made_new (C := C) nx nd'
  exact .inl (.inr ⟨x, dx, s, v, xs, rfl, upd_same, hs.same e, .inl ⟨d, il, od.same e, lv, fun dd H' r => k dd H' (e.trans r.same) r.at_⟩⟩)
theorem ref_w {xs : List V} {ws : List (List Nat)} {y : V} (hs : Lt H s xs) (L : Lets ls) (lx : xs.length ≤ 2000) (nd : ws.Nodup) (hw : ∀ w ∈ ws, w.length ≤ 200 ∧ ∀ c ∈ w, c ∈ ls) (tk : xs.take ws.length = txs ws) (hy : xs[ws.length]? = some y) (ky : Kn H y) (ly : ∀ z, y = .str z → z.length ≤ 10000) (bad : isW ls y = false ∨ ∃ w ∈ ws, y = .str (S w))
    (k : ∀ dd H', Same H H' → (∃ v', H' dd = some (.xd [("index", v')]) ∧ Odd H' v' (.int (ws.length : Nat))) → E (.ref CW) (some dd) H') :
    ∀ x dx, H x = none → H dx = none → dx ≠ x → spDic K C CL CW CT Tb (.ref x :: ([.str (S ls), .ref s] ++ [])) (upd (upd H dx (.own x)) x (.ins C dx [])) (Qx x) E := by
  intro x dx nx nd' ne
  have e := made_new (C := C) nx nd'
  exact .inl (.inr ⟨x, dx, s, .str (S ls), xs, rfl, upd_same, hs.same e, .inr ⟨ls, ws, y, rfl, isLs_of L, lx, nd, hw, tk, hy, ky.same e, ly, bad, fun dd H' kp at_ => k dd H' (fun b o z => kp b o (ne_of_none z nx) (e _ _ z)) at_⟩⟩)
theorem ref_m {xs : List V} (hs : Lt H s xs) (L : Lets ls) (lx : 2000 < xs.length) (k : ∀ dd H', Same H H' → H' dd = some (.xd (tmF (xs.length : Nat))) → E (.ref CT) (some dd) H') :
    ∀ x dx, H x = none → H dx = none → dx ≠ x → spDic K C CL CW CT Tb (.ref x :: ([.str (S ls), .ref s] ++ [])) (upd (upd H dx (.own x)) x (.ins C dx [])) (Qx x) E := by
  intro x dx nx nd' ne
  have e := made_new (C := C) nx nd'
  exact .inr ⟨x, dx, s, ls, xs, rfl, upd_same, hs.same e, isLs_of L, lx, fun dd H' r => k dd H' (e.trans r.same) r.at_⟩
end
/-- the law's words of twelve signs -/
def bw (ls : List Nat) (n : Nat) : List Nat := (List.range 12).map fun a => ls.getD (n / 2 ^ a % 2) 0
theorem bw_len (ls : List Nat) (n : Nat) : (bw ls n).length = 12 := by simp [bw]
theorem bit_lt (n a : Nat) : n / 2 ^ a % 2 < 2 := Nat.mod_lt _ (by decide)
theorem bw_mem {ls : List Nat} (h : 2 ≤ ls.length) (n : Nat) : ∀ c ∈ bw ls n, c ∈ ls := fun c m => by
  obtain ⟨a, _, rfl⟩ := List.mem_map.mp m
  have : n / 2 ^ a % 2 < ls.length := Nat.lt_of_lt_of_le (bit_lt n a) h
  rw [List.getD_eq_getElem?_getD, List.getElem?_eq_getElem this]
  exact List.getElem_mem this
theorem bw_inj {ls : List Nat} (nd : ls.Nodup) (h : 2 ≤ ls.length) {n m : Nat} (hn : n < 4096) (hm : m < 4096) (e : bw ls n = bw ls m) : n = m := by
  refine Nat.eq_of_testBit_eq fun i => ?_
  by_cases c : i < 12
  · have e1 := congrArg (fun l => l.getD i 0) e
    unfold bw at e1
    simp only [List.getD_eq_getElem?_getD, List.getElem?_map, List.getElem?_range c, Option.map_some, Option.getD_some] at e1
    have e2 := nd_at (d := 0) nd (Nat.lt_of_lt_of_le (bit_lt n i) h) (Nat.lt_of_lt_of_le (bit_lt m i) h) (by simpa only [List.getD_eq_getElem?_getD] using e1)
    rw [Nat.testBit_eq_decide_div_mod_eq, Nat.testBit_eq_decide_div_mod_eq, e2]
  · have p : 4096 ≤ 2 ^ i := by
      have := Nat.pow_le_pow_right (show 0 < 2 by decide) (show 12 ≤ i by omega)
      exact this
    rw [Nat.testBit_lt_two_pow (by omega), Nat.testBit_lt_two_pow (by omega)]
def bws (ls : List Nat) (m : Nat) : List (List Nat) := (List.range m).map (bw ls)
theorem bws_nd {ls : List Nat} (nd : ls.Nodup) (h : 2 ≤ ls.length) {m : Nat} (hm : m ≤ 4096) : (bws ls m).Nodup := by
  unfold bws
  refine (List.pairwise_map).mpr (List.Pairwise.imp_of_mem (fun {a b} ha hb ne e => ?_) (List.nodup_range (n := m)))
  have := List.mem_range.mp ha
  have := List.mem_range.mp hb
  exact ne (bw_inj nd h (by omega) (by omega) e)
def spMany : Sp := fun vs H Q _ => ∃ (ls : List Nat) (m : Nat), vs = [.str (S ls), .int (m : Nat)] ∧ 2 ≤ ls.length ∧ ls.length ≤ 1000 ∧ m ≤ 4096 ∧ ∀ t H', Same H H' → H' t = some (.lst (txs (bws ls m))) → Q (.ref t) H'
section
variable {P : Program} {w : World} {K : PySem.W.Frag} {mg : Str → Option Value} {base : Heap}
theorem az_S : ("az" : Str) = S [97, 122] := by decide +kernel
theorem scLStr : FnScope ["_law_letters_here", "_law_sign"] ["_law_letters_here"] (defScope sLStr) := ⟨rfl, rfl, rfl, by decide +kernel, rfl, by decide +kernel, by decide +kernel⟩
theorem ok_lstr {f : Addr} {fd : FuncData} (F : Fun K "_law_stranger" "_law_stranger" sLStr f fd) : FnOk P w K mg base CX0 1 f fd ["_law_letters_here"] spLStr := by
  refine F.ok scLStr (fun vs H Q E h => ?_) (fun cdv A outer s H vs Q E hr h => ?_)
  · obtain ⟨ls, rfl, _⟩ := h
    rfl
  · obtain ⟨ls, rfl, no, q⟩ := h
    refine ⟨_, pss_one (ps_ret (pe_ix ix_list (pe_lc (own := [("_law_sign", 1)]) rfl scLStr.nd (pi_str pe_str) (blkOk_by (N := ["_law_letters_here", "_law_sign"]) (sc := defScope sLStr) (by decide +kernel))
        (fun _ _ _ _ _ => pg_name (i := 1) scLStr.nd rfl (Or.inl rfl)) (fun _ _ _ _ _ => pts_one (pt_cmpR op_notIn_sign (pv 1) (pv 0) rfl)) (fun _ _ _ _ _ => pv 1)) pe_int (fun _ _ => rfl))), ?_⟩
    rw [az_S]
    refine ⟨_, rfl, fun D nD => lc_it walk_str (fun j H' => Same H H' ∧ H' D = some (.lst (List.map sgn ((([97, 122] : List Nat).take j).filter fun c => decide (c ∉ ls))))) ⟨same_new nD, upd_same⟩ (fun _ _ _ _ => True.intro) ?_ ?_⟩
    · rintro j y H1 H2 hj ⟨e1, hD⟩ ⟨rfl, c, hc, rfl⟩
      rw [S_get] at hc
      rw [S_size] at hj
      refine ⟨rfl, _, rfl, _, rfl, c, S ls, rfl, rfl, _, rfl, ?_⟩
      have tj : ([97, 122] : List Nat).take (j + 1) = ([97, 122] : List Nat).take j ++ [c] := by rw [List.take_add_one, hc]; rfl
      rw [tj, List.filter_append, S_list]
      by_cases d : c ∈ ls
      · rw [decide_eq_true d]
        refine iteF ⟨e1, ?_⟩
        rw [hD, List.filter_cons_of_neg (p := fun (c : Nat) => decide (c ∉ ls)) (by simpa using d), List.filter_nil, List.append_nil]
      · rw [decide_eq_false d]
        refine iteT ⟨_, rfl, _, hD, ?_, fun b' o z => ?_, ?_⟩
        · rw [List.length_map]
          exact small10 (Nat.le_trans (List.length_filter_le _ _) (Nat.le_trans (List.length_take_le' _ _) (by decide)))
        · rw [upd_ne (ne_of_none z nD)]
          exact e1 _ _ z
        · rw [upd_same, List.filter_cons_of_pos (p := fun (c : Nat) => decide (c ∉ ls)) (decide_eq_true d), List.map_append]
          rfl
    · rintro H1 ⟨e1, hD⟩
      rw [S_size] at hD
      by_cases d : 97 ∈ ls
      · have d2 : 122 ∉ ls := no.elim (fun h => absurd d h) id
        have e : ((([97, 122] : List Nat).take ([97, 122] : List Nat).length).filter fun c => decide (c ∉ ls)).map sgn = [sgn 122] := by simp [d, d2]
        rw [e] at hD
        exact ⟨D, _, _, _, rfl, rfl, SqL.of hD, atI_nat (j := 0) rfl, q 122 H1 (.inr rfl) d2 e1⟩
      · have e : ∃ r, ((([97, 122] : List Nat).take ([97, 122] : List Nat).length).filter fun c => decide (c ∉ ls)).map sgn = sgn 97 :: r := ⟨_, by simp [List.filter_cons, d]; rfl⟩
        obtain ⟨r, e⟩ := e
        rw [e] at hD
        exact ⟨D, _, _, _, rfl, rfl, SqL.of hD, atI_nat (j := 0) rfl, q 97 H1 (.inl rfl) d e1⟩
abbrev NMa : List Str := ["_law_letters_here", "_law_many", "_law_found", "_law_number", "_law_at"]
theorem scMany : FnScope NMa ["_law_letters_here", "_law_many"] (defScope sMany) := ⟨rfl, rfl, rfl, by decide +kernel, rfl, by decide +kernel, by decide +kernel⟩
theorem ok_many {f : Addr} {fd : FuncData} (F : Fun K "_law_many_words" "_law_many_words" sMany f fd) (B : Bi mg) : FnOk P w K mg base CX0 1 f fd ["_law_letters_here", "_law_many"] spMany := by
  refine F.ok scMany (fun vs H Q E h => ?_) (fun cdv A outer s H vs Q E hr h => ?_)
  · obtain ⟨ls, m, rfl, _⟩ := h
    rfl
  · obtain ⟨ls, m, rfl, l2, l3, hm, q⟩ := h
    refine ⟨_, pss_cons (ps_set (i := 2) scMany.nd rfl (Or.inl rfl) (pe_lst pa_nil))
      (pss_cons (ps_for PassesOwn.never rfl (pi_range1 rfl B.range (pa_cons (pv 1) pa_nil)) (pg_name (i := 3) scMany.nd rfl (.inr rfl))
        (pss_one (ps_expr (pe_bm PySem.F.plainAttrs_list PySem.F.slot_list_append PySem.F.type_list_append mt_append (pv 2) (pa_cons (pe_join pe_str (pe_lc (own := [("_law_at", 4)]) rfl scMany.nd (pi_range1 rfl B.range (pa_cons pe_int pa_nil)) (blkOk_by (N := NMa) (sc := defScope sMany) (by decide +kernel))
          (fun _ _ _ _ _ => pg_name (i := 4) scMany.nd rfl (Or.inl rfl)) (fun _ _ _ _ _ => pts_nil) (fun _ _ _ _ _ => pe_ix ix_str (pv 0) (pe_op op_odd (pe_op op_shrN (pv 3) (pv 4)) pe_int) (fun _ _ => rfl)))) pa_nil)))))
      (pss_one (ps_ret (pv 2)))), ?_⟩
    refine ⟨by decide, fun fo nfo => ?_⟩
    refine ⟨_, rfl, (m : Nat), rfl, by omega, by omega, for_range (n := ((m : Nat) : Int).toNat) (fun i σ H' => ∃ a, σ = [some (.str (S ls)), some (.int (m : Nat)), some (.ref fo), a, none] ∧ Same H H' ∧ H' fo = some (.lst (txs (bws ls i)))) ⟨none, rfl, same_new nfo, upd_same⟩ ?_ ?_⟩
    · rintro i σ H1 hi ⟨a, rfl, e1, hfo⟩
      have im : i < m := by simpa using hi
      rw [Int.zero_add]
      refine ⟨_, rfl, .inl ⟨rfl, _, SqL.of hfo⟩, ⟨_, rfl⟩, _, rfl, by decide, by decide, fun D nD => ?_⟩
      refine lc_range (n := (12 : Int).toNat) (fun j H' => Same H1 H' ∧ H' D = some (.lst (((bw ls i).take j).map fun c => .str (S [c])))) ⟨same_new nD, upd_same⟩ ?_ ?_
      · rintro j H2 hj ⟨e2, hD⟩
        have hj : j < 12 := hj
        rw [Int.zero_add]
        have lt : i / 2 ^ j % 2 < ls.length := Nat.lt_of_lt_of_le (bit_lt i j) l2
        have h1 := List.getElem?_eq_getElem lt
        have h2 : (bw ls i)[j]? = some ls[i / 2 ^ j % 2] := by
          unfold bw
          rw [List.getElem?_map, List.getElem?_range hj, Option.map_some, List.getD_eq_getElem?_getD, h1]
          rfl
        refine ⟨rfl, yesT ⟨_, rfl, _, rfl, _, rfl, ((i : Nat) : Int), j, rfl, rfl, i / 2 ^ j, congrArg V.int (by simp), rfl, S ls, _, _, rfl, rfl, Nat.le_of_lt (small10 (by rw [S_len]; omega)), atI_nat (by rw [S_list]; exact h1), _, hD, ?_, fun b o z => ?_, ?_⟩⟩
        · rw [List.length_map, List.length_take]
          exact small10 (by omega)
        · rw [upd_ne (ne_of_none z nD)]
          exact e2 _ _ z
        · rw [upd_same, List.take_add_one, h2, List.map_append]
          rfl
      · rintro H2 ⟨e2, hD⟩
        have tk : (bw ls i).take (12 : Int).toNat = bw ls i := List.take_of_length_le (by rw [bw_len]; decide)
        rw [tk] at hD
        refine ⟨_, D, (bw ls i).map fun c => S [c], rfl, rfl, .inl ?_, ?_, ?_⟩
        · rw [List.map_map]
          exact SqL.of hD
        · have : ∀ l : List Nat, ((l.map fun c => S [c]).map (·.length)).sum = l.length := fun l => by
            induction l with
            | nil => rfl
            | cons c l ih =>
              simp only [List.map_cons, List.sum_cons, ih, S_len, List.length_cons, List.length_nil]
              omega
          rw [this, List.length_map, bw_len]
          show 12 + 12 * ("" : Str).length ≤ _
          rw [empty_S, S_len]
          simp only [List.length_nil]
          decide
        · have ej : Txt.join "" ((bw ls i).map fun c => S [c]) = S (bw ls i) := by
            rw [empty_S, joined]
          rw [ej]
          refine ⟨fo, _, _, rfl, rfl, e2 _ _ hfo, by rw [strs_len]; unfold bws; rw [List.length_map, List.length_range]; exact small10 (by omega), _, rfl, fun b o z => ?_, ?_⟩
          · rw [upd_ne (ne_of_none z nfo)]
            exact e2 _ _ (e1 _ _ z)
          · rw [upd_same]
            unfold bws txs
            rw [List.range_succ, List.map_append, List.map_append]
            rfl
    · rintro σ H1 ⟨a, rfl, e1, hfo⟩
      rw [Int.toNat_natCast] at hfo
      exact ⟨_, rfl, q _ _ e1 hfo⟩
end
end K02
set_option Elab.async false
set_option linter.all false
set_option maxRecDepth 100001
set_option maxHeartbeats 3999999
namespace K02
open PySem L2
theorem tm_flat (n : Int) : ∀ v ∈ [V.str "many", V.str "words", V.int n, V.int 2000], Flat v := fun v m => by
  simp only [List.mem_cons, List.not_mem_nil, or_false] at m
  rcases m with rfl | rfl | rfl | rfl
  · show PyData.strOk _ = true
    decide +kernel
  · show PyData.strOk _ = true
    decide +kernel
  · exact True.intro
  · exact True.intro
theorem rSm_of {b : Bool} {H : Hp} {t t2 : Addr} {us : List V} {Q : VK} (nt : H t = none) (nt2 : upd H t (.tup us) t2 = none) (fl : ∀ v ∈ us, Flat v) (q : ∀ H', Same H H' → Q (.bl b) H') : rSm b (.ref t) (.ref t2) (upd (upd H t (.tup us)) t2 (.tup us)) Q :=
  ⟨t, t2, us, rfl, rfl, (upd_ne (ne_of_none (show upd H t (.tup us) t = some (.tup us) from upd_same) nt2)).trans upd_same, upd_same, fl, q _ ((same_new nt).trans (same_new nt2))⟩
theorem bws_len (ls : List Nat) (m : Nat) : (bws ls m).length = m := by simp [bws]
theorem bws_take (ls : List Nat) {m n : Nat} (h : m ≤ n) : (bws ls n).take m = bws ls m := by
  unfold bws
  rw [← List.map_take, List.take_range, Nat.min_eq_left h]
theorem bws_at (ls : List Nat) {i m : Nat} (h : i < m) : (bws ls m)[i]? = some (bw ls i) := by
  unfold bws
  rw [List.getElem?_map, List.getElem?_range h]
  rfl
theorem bws_ok {ls : List Nat} (h : 2 ≤ ls.length) (m : Nat) : ∀ w ∈ bws ls m, w.length ≤ 200 ∧ ∀ c ∈ w, c ∈ ls := fun w hw => by
  obtain ⟨n, _, rfl⟩ := List.mem_map.mp hw
  exact ⟨by rw [bw_len]; decide, bw_mem h n⟩
theorem mem_bws {ls : List Nat} {i m : Nat} (h : i < m) : bw ls i ∈ bws ls m := List.mem_map.mpr ⟨i, List.mem_range.mpr h, rfl⟩
theorem not_bws {ls : List Nat} (nd : ls.Nodup) (h : 2 ≤ ls.length) {i m : Nat} (hi : m ≤ i) (hm : i < 4096) : bw ls i ∉ bws ls m := fun z => by
  obtain ⟨n, hn, e⟩ := List.mem_map.mp z
  have := List.mem_range.mp hn
  have := bw_inj nd h (by omega) hm e
  omega
/-- the one word that is new -/
theorem bws_new {ls : List Nat} (nd : ls.Nodup) (h : 2 ≤ ls.length) : ((bws ls 2001).drop 1).filter (fun w => decide (w ∉ bws ls 2000)) = [bw ls 2000] := by
  have e : (bws ls 2001).drop 1 = ((List.range' 1 1999).map (bw ls)) ++ [bw ls 2000] := by
    unfold bws
    rw [← List.map_drop, List.range_eq_range', List.drop_range', show 2001 - 1 = 1999 + 1 from rfl, List.range'_concat, List.map_append]
    rfl
  rw [e, List.filter_append, List.filter_eq_nil_iff.mpr fun w hw => ?_, List.filter_cons_of_pos (p := fun (w : List Nat) => decide (w ∉ bws ls 2000)) (decide_eq_true (not_bws nd h (Nat.le_refl _) (by decide)))]
  · rfl
  · obtain ⟨n, hn, rfl⟩ := List.mem_map.mp hw
    have := (List.mem_range'_1.mp hn).2
    simpa using mem_bws (ls := ls) (show n < 2000 by omega)
abbrev NFu : List Str := ["_law_letters_here", "_law_full", "_law_other", "_law_words"]
def spFull (Tb : List (Addr × Str)) : Sp := fun vs H Q _ => ∃ ls, vs = [.str (S ls)] ∧ LLet ls ∧ LamX.Tabs Tb H ∧ ∀ H', Q (.bl true) H'
section
variable {P : Program} {w : World} {K : PySem.W.Frag} {mg : Str → Option Value} {base : Heap}
theorem scFull : FnScope NFu ["_law_letters_here"] (defScope sFull) := ⟨rfl, rfl, rfl, by decide +kernel, rfl, by decide +kernel, by decide +kernel⟩
theorem ok_full {f c T g C CL CW CT CN CO CM CX : Addr} {fd fdA : FuncData} {Tb : List (Addr × Str)} (F : FunL K base mg "_law_full_right" "_law_full_right" sFull f c T fd) (T0 : Txd K C) (cM : Cal CX0 P w K mg base 1 "_law_many_words" spMany)
    (mkD : Mak (L2.CX P w) P w K mg base 5 "Dictionary" C (spDic K C CL CW CT Tb)) (mPut : Met (L2.CX P w) P w K mg base 7 C "put_in" (spPut C CN CO CT Tb)) (mJ : Met (L2.CX P w) P w K mg base 7 C "join_with" (spJoin C CX CT))
    (FA : Fun K "_law_caught" "_law_caught" sCau g fdA) (bA : Binds K fdA ["_law_function"] []) (gA : mg "_law_caught" = some (.ref g)) (Ts : Cts K mg CL CW CT CN CO CM CX)
    (hmT : (T, (("_law_full_right.<locals>.<lambda>" : String) : Str)) ∈ Tb) (hu : ∀ p ∈ Tb, p.1 = T → p.2 = (("_law_full_right.<locals>.<lambda>" : String) : Str)) :
    FnOk P w K mg base CX0 10 f fd ["_law_letters_here"] (spFull Tb) := by
  refine F.okX scFull (fun vs H Q E h => ?_) (fun A outer s H vs Q E hr h => ?_)
  · obtain ⟨ls, rfl, _⟩ := h
    rfl
  · obtain ⟨ls, rfl, LL, tabs, q⟩ := h
    refine ⟨_, pss_cons (ps_set (i := 3) scFull.nd rfl (Or.inr rfl) (pe_c cM hr pass0 (pa_cons (pv 0) (pa_cons pe_int pa_nil))))
      (pss_cons (ps_if (pt_cmpR (op_neSm (hu64 hr)) (by exact pe_cau (k := 6) (Tb := Tb) FA bA gA Ts F.tab hmT hu hr (by decide) (LamX.lamS_by (sc := defScope sFull) (by decide +kernel)) (fun A outer s H E f c' hr' => pe_mk mkD hr' (passes_call (takes_of rfl rfl rfl rfl) fun _ _ _ _ h => h) (pa_cons (pv 0) (pa_cons (pv 3) pa_nil))))
          (pe_tup (pa_cons pe_str (pa_cons pe_str (pa_cons pe_int (pa_cons pe_int pa_nil))))) (nomark _)) pss_never pss_nil)
      (pss_cons (ps_if (pt_cmpR (op_neSm (hu64 hr)) (by exact pe_cau (k := 6) (Tb := Tb) FA bA gA Ts F.tab hmT hu hr (by decide) (LamX.lamS_by (sc := defScope sFull) (by decide +kernel)) (fun A outer s H E f c' hr' => pe_mk mkD hr' (passes_call (takes_of rfl rfl rfl rfl) fun _ _ _ _ h => h) (pa_cons (pv 0) (pa_cons (pe_op op_rep (pe_lst (pa_cons (pv 0) pa_nil)) pe_int) pa_nil))))
          (pe_tup (pa_cons pe_str (pa_cons pe_str (pa_cons pe_int (pa_cons pe_int pa_nil))))) (nomark _)) pss_never pss_nil)
      (pss_cons (ps_set (i := 1) scFull.nd rfl (Or.inr rfl) (pe_mk mkD hr passL (pa_cons (pv 0) (pa_cons (pe_slice sl_list (pv 3) po_none (po_some pe_int)) pa_nil))))
      (pss_cons (ps_if (PW.pt (pw_or (pt_cmpR op_ne (pe_fld (pv 1) rfl) pe_int (nomark _)) (pw_or1 (pt_cmpR (op_neSmD (hu64 hr)) (by exact pe_cau (k := 7) (Tb := Tb) FA bA gA Ts F.tab hmT hu hr (by decide) (LamX.lamS_by (sc := defScope sFull) (by decide +kernel)) (fun A outer s H E f c' hr' => pe_mt mPut hr' (passes_call (takes_of rfl rfl rfl rfl) fun _ _ _ _ h => h) (pv 1) (pa_cons (pe_ix (ix_listK K rfl) (pv 3) pe_int (fun _ _ => rfl)) pa_nil)))
          (pe_tup (pa_cons pe_str (pa_cons (pe_ix ix_list (pv 3) pe_int (fun _ _ => rfl)) pa_nil))) (nomark _))))) pss_never pss_nil)
      (pss_cons (ps_if (pt_cmpR (op_neSm (hu64 hr)) (by exact pe_cau (k := 7) (Tb := Tb) FA bA gA Ts F.tab hmT hu hr (by decide) (LamX.lamS_by (sc := defScope sFull) (by decide +kernel)) (fun A outer s H E f c' hr' => pe_mt mPut hr' (passes_call (takes_of rfl rfl rfl rfl) fun _ _ _ _ h => h) (pv 1) (pa_cons (pe_ix (ix_listK K rfl) (pv 3) pe_int (fun _ _ => rfl)) pa_nil)))
          (pe_tup (pa_cons pe_str (pa_cons pe_str (pa_cons pe_int (pa_cons pe_int pa_nil))))) (nomark _)) pss_never pss_nil)
      (pss_cons (ps_set (i := 2) scFull.nd rfl (Or.inr rfl) (pe_mk mkD hr passL (pa_cons (pv 0) (pa_cons (pe_slice sl_list (pv 3) (po_some pe_int) po_none) pa_nil))))
      (pss_one (ps_ret (pe_cmpR (op_eqSm (hu64 hr)) (by exact pe_cau (k := 7) (Tb := Tb) FA bA gA Ts F.tab hmT hu hr (by decide) (LamX.lamS_by (sc := defScope sFull) (by decide +kernel)) (fun A outer s H E f c' hr' => pe_mt mJ hr' (passes_call (takes_of rfl rfl rfl rfl) fun _ _ _ _ h => h) (pv 1) (pa_cons (pv 2) pa_nil)))
          (pe_tup (pa_cons pe_str (pa_cons pe_str (pa_cons pe_int (pa_cons pe_int pa_nil))))) (nomark _)))))))))), ?_⟩
    have lo := LL.L.lo
    have few := LL.few
    refine ⟨_, rfl, ls, 2001, rfl, lo, by omega, by decide, fun L H1 e1 hL => ?_⟩
    have tab1 := tabs.ext e1
    clear tabs e1
    -- too many words
    refine ⟨tab1, fun H2 en2 tab2 => ?_⟩
    have hL2 := en2 _ _ hL fun _ z => nomatch z
    clear tab1 en2 hL
    refine ⟨_, rfl, _, rfl, ref_m (.inl hL2) LL.L (by rw [strs_len, bws_len]; decide) fun dd H3 e3 h3 => .inr <| .inr <| .inl ⟨rfl, dd, _, _, _, rfl, h3, fun t nt => ⟨by show 4 ≤ sizeLine; decide, fun t2 nt2 => ?_⟩⟩⟩
    rw [strs_len, bws_len] at nt2 ⊢
    refine rSm_of nt nt2 (tm_flat _) fun H4 e34 => ⟨_, rfl, iteF ?_⟩
    have e4 := e3.trans e34
    have hL4 := e4 _ _ hL2
    have tab4 := tab2.ext e4
    clear e4 e34 e3 h3 nt nt2 tab2 hL2
    -- one word so often
    refine ⟨tab4, fun H5 en5 tab5 => ?_⟩
    have hL5 := en5 _ _ hL4 fun _ z => nomatch z
    clear tab4 en5 hL4
    refine ⟨_, rfl, _, rfl, by show 1 ≤ sizeLine; decide, fun l nl => ⟨l, 2001, _, rfl, rfl, upd_same, by decide, by decide, by show 1 * 2001 ≤ sizeLine; decide, fun p np => ?_⟩⟩
    have e6 := (same_new (o := .lst [.str (S ls)]) nl).trans (same_new (o := .lst (List.replicate (2001 : Int).toNat [V.str (S ls)]).flatten) np)
    have hp : upd (upd H5 l (.lst [.str (S ls)])) p (.lst (List.replicate (2001 : Int).toNat [V.str (S ls)]).flatten) p = some (.lst (List.replicate 2001 (V.str (S ls)))) := by
      rw [upd_same, List.flatten_replicate_singleton]
      rfl
    generalize upd (upd H5 l _) p _ = H6 at e6 hp ⊢
    have hL6 := e6 _ _ hL5
    have tab6 := tab5.ext e6
    clear e6 hL5 tab5 nl np
    refine ref_m (.inl hp) LL.L (by rw [List.length_replicate]; decide) fun dd H7 e7 h7 => .inr <| .inr <| .inl ⟨rfl, dd, _, _, _, rfl, h7, fun t nt => ⟨by show 4 ≤ sizeLine; decide, fun t2 nt2 => ?_⟩⟩
    rw [List.length_replicate] at nt2 ⊢
    refine rSm_of nt nt2 (tm_flat _) fun H8 e78 => ⟨_, rfl, iteF ?_⟩
    have e8 := e7.trans e78
    have hL8 := e8 _ _ hL6
    have tab8 := tab6.ext e8
    clear e8 e78 e7 h7 nt nt2 tab6 hL6 hp
    -- the full one
    refine ⟨_, rfl, _, rfl, _, rfl, L, _, rfl, SqL.of hL8, fun p1 np1 => ?_⟩
    have ec : cutV (txs (bws ls 2001)) none (some (2000 : Int)) = txs (bws ls 2000) := by
      have := cut_to (xs := txs (bws ls 2001)) (k := 2000) (by rw [strs_len, bws_len]; decide)
      refine this.trans ?_
      unfold txs
      rw [← List.map_take, bws_take ls (by decide)]
    rw [ec]
    have e9 := same_new (o := .lst (txs (bws ls 2000))) np1
    have hp9 : upd H8 p1 (.lst (txs (bws ls 2000))) p1 = some (.lst (txs (bws ls 2000))) := upd_same
    generalize upd H8 p1 (.lst (txs (bws ls 2000))) = H9 at e9 hp9 ⊢
    have hL9 := e9 _ _ hL8
    refine mk_d (ws := bws ls 2000) (.inl hp9) LL.L (bws_nd LL.L.nd lo (by decide)) (by rw [bws_len]; decide) (bws_ok lo _) (tab8.ext e9) fun x us H10 pu O ext10 D10 tab10 => ⟨rfl, ?_⟩
    have hL10 := ext10 _ _ hL9 fun _ z => nomatch z
    have lus : us.length = 2000 := by rw [pu.length_eq, bws_len]
    clear ec e9 hp9 hL9 tab8 hL8 ext10
    -- it is full
    obtain ⟨dx10, _, _, _, _, i10, _⟩ := id D10
    refine ⟨_, rfl, x, C, dx10, _, _, rfl, i10, T0.cl, T0.nM, df_many _ _ _ _ _ _, rfl, _, rfl, ?_⟩
    rw [lus]
    refine iteF ?_
    -- an old word
    refine ⟨tab10, fun H11 en11 tab11 => ?_⟩
    have D11 := D10.ext en11
    have hL11 := en11 _ _ hL10 fun _ z => nomatch z
    obtain ⟨dx11, _, _, _, _, i11, _⟩ := id D11
    clear i10 tab10 D10 hL10 en11
    have g0 := List.getElem?_eq_getElem (show 0 < (txs (bws ls 2001)).length by rw [strs_len, bws_len]; decide)
    have a0 : (txs (bws ls 2001))[0]? = some (V.str (S (bw ls 0))) := by
      unfold txs
      rw [List.getElem?_map, bws_at ls (show 0 < 2001 by decide)]
      rfl
    have a2 : (txs (bws ls 2001))[2000]? = some (V.str (S (bw ls 2000))) := by
      unfold txs
      rw [List.getElem?_map, bws_at ls (show 2000 < 2001 by decide)]
      rfl
    refine ⟨_, rfl, x, dx11, _, rfl, i11, df_no, _, rfl, L, _, _, _, rfl, rfl, SqL.of hL11, atI_nat (j := 0) a0, ?_⟩
    dsimp only [tNil, List.append_nil]
    refine ⟨x, _, ls, us, rfl, D11, O, by omega, tab11, .inr <| .inl ⟨bw ls 0, rfl, pu.mem_iff.mpr (mem_bws (by decide)), fun dd H12 r => ?_⟩⟩
    have nch0 : Nch (bw ls 0) := LL.L.nch (bw_mem lo 0)
    obtain ⟨v', hv, k⟩ := asked_end (K := K) (tag := "old") (by decide +kernel) (.flat (flat_S nch0)) r.same r.at_
    refine .inr <| .inr <| .inr <| .inr <| .inl ⟨rfl, dd, v', rfl, hv, fun t nt => ⟨_, rfl, L, _, _, _, rfl, rfl, SqL.of ((same_new nt) _ _ (r.same _ _ hL11)), atI_nat (j := 0) a0, by show 2 ≤ sizeLine; decide, fun t2 nt2 => ?_⟩⟩
    obtain ⟨Dt, da, db, sh, ss⟩ := k t nt t2 nt2
    refine ⟨Dt, da, db, sh, _, rfl, iteF ?_⟩
    have D12 := D11.same ss
    have hL12 := ss _ _ hL11
    have tab12 := tab11.ext ss
    generalize upd (upd H12 t _) t2 _ = H13 at D12 hL12 tab12 ⊢
    clear ss sh da db k hv r nt nt2 i11 D11 hL11 tab11
    -- one word more
    refine ⟨tab12, fun H14 en14 tab14 => ?_⟩
    have D14 := D12.ext en14
    have hL14 := en14 _ _ hL12 fun _ z => nomatch z
    obtain ⟨dx14, _, _, _, _, i14, _⟩ := id D14
    clear tab12 D12 hL12 en14
    refine ⟨_, rfl, x, dx14, _, rfl, i14, df_no, _, rfl, L, _, _, _, rfl, rfl, SqL.of hL14, atI_nat (j := 2000) a2, ?_⟩
    dsimp only [tNil, List.append_nil]
    refine ⟨x, _, ls, us, rfl, D14, O, by omega, tab14, .inr <| .inr ⟨bw ls 2000, rfl, by rw [bw_len]; decide, bw_mem lo _, fun z => not_bws LL.L.nd lo (Nat.le_refl 2000) (by decide) (pu.mem_iff.mp z), .inl ⟨lus, fun dd H15 e15 h15 => ?_⟩⟩⟩
    refine .inr <| .inr <| .inl ⟨rfl, dd, _, _, _, rfl, h15, fun t nt => ⟨by show 4 ≤ sizeLine; decide, fun t2 nt2 => ?_⟩⟩
    refine rSm_of nt nt2 (tm_flat _) fun H16 e16 => ⟨_, rfl, iteF ?_⟩
    have e146 := e15.trans e16
    have D16 := D14.same e146
    have hL16 := e146 _ _ hL14
    have tab16 := tab14.ext e146
    clear e146 e15 e16 h15 nt nt2 i14 D14 hL14 tab14
    -- the other one
    refine ⟨_, rfl, _, rfl, _, rfl, L, _, rfl, SqL.of hL16, fun p1 np1 => ?_⟩
    have ec : cutV (txs (bws ls 2001)) (some (1 : Int)) none = txs ((bws ls 2001).drop 1) := by
      have := cut_from (xs := txs (bws ls 2001)) (k := 1) (by rw [strs_len, bws_len]; decide)
      refine this.trans ?_
      unfold txs
      rw [← List.map_drop]
    rw [ec]
    have e17 := same_new (o := .lst (txs ((bws ls 2001).drop 1))) np1
    have hp17 : upd H16 p1 (.lst (txs ((bws ls 2001).drop 1))) p1 = some (.lst (txs ((bws ls 2001).drop 1))) := upd_same
    generalize upd H16 p1 (.lst (txs ((bws ls 2001).drop 1))) = H17 at e17 hp17 ⊢
    have D17 := D16.same e17
    refine mk_d (ws := (bws ls 2001).drop 1) (.inl hp17) LL.L ((List.drop_sublist _ _).nodup (bws_nd LL.L.nd lo (by decide))) (by rw [List.length_drop, bws_len]; decide) (fun w m => bws_ok lo _ w (List.mem_of_mem_drop m)) (tab16.ext e17) fun y us2 H18 pu2 O2 ext18 D2 tab18 => ⟨rfl, ?_⟩
    have D18 := D17.ext ext18
    clear ec e17 hp17 D17 tab16 D16 hL16 ext18
    refine ⟨tab18, fun H19 en19 tab19 => ?_⟩
    have D19 := D18.ext en19
    have D29 := D2.ext en19
    obtain ⟨dx19, _, _, _, _, i19, _⟩ := id D19
    have nw : (us2.filter fun w => decide (w ∉ us)).Perm [bw ls 2000] := by
      have p1 := pu2.filter fun w => decide (w ∉ us)
      have e1 : ((bws ls 2001).drop 1).filter (fun w => decide (w ∉ us)) = ((bws ls 2001).drop 1).filter (fun w => decide (w ∉ bws ls 2000)) := List.filter_congr fun w _ => by
        rw [decide_eq_decide]
        exact not_congr pu.mem_iff
      rw [e1, bws_new LL.L.nd lo] at p1
      exact p1
    have nl : (us2.filter fun w => decide (w ∉ us)).length = 1 := nw.length_eq
    refine ⟨_, rfl, x, dx19, _, rfl, i19, df_no, _, rfl, ?_⟩
    dsimp only [tNil, List.append_nil]
    refine ⟨x, y, ls, us, ls, us2, rfl, D19, O, D29, O2, .inr ⟨rfl, by omega, isLs_of LL.L, ?_, by omega, fun dd H20 e20 h20 => ?_⟩⟩
    · intro z
      rw [z] at nl
      cases nl
    · rw [lus, nl] at h20
      refine .inr <| .inr <| .inl ⟨rfl, dd, _, _, _, rfl, h20, fun t nt => ⟨by show 4 ≤ sizeLine; decide, fun t2 nt2 => ?_⟩⟩
      exact rSm_of nt nt2 (tm_flat _) fun H21 e21 => q H21
end
end K02
set_option Elab.async false
set_option linter.all false
set_option maxRecDepth 100001
set_option maxHeartbeats 8000000
namespace K02
open PySem L2
abbrev sLaw : Stmt := topS 37
theorem sl_listK {X : Cx} (K : PySem.W.Frag) (hK : X.K = K) : SlR X (rSlL K) := by
  subst hK
  exact sl_list
/-- as data, an odd word -/
def OddS (ls : List Nat) (H : Hp) (v : V) : Prop := ∃ d, Odd H v d ∧ isW ls v = false ∧ ∀ x, v = .str x → x.length ≤ 10000
def OddL (H : Hp) (v : V) : Prop := ∃ d, isLs v = false ∧ Odd H v d ∧ ∀ x, v = .str x → x.length ≤ 200
theorem Kn.ext {H H' : Hp} {v : V} (k : Kn H v) (e : LamX.ExtN H H') : Kn H' v := by
  cases k with
  | non => exact .non
  | bl b => exact .bl b
  | int i => exact .int i
  | str x => exact .str x
  | lst h => exact .lst (e _ _ h fun _ z => nomatch z)
  | tup h => exact .tup (e _ _ h fun _ z => nomatch z)
theorem ord_eq {ls : List Nat} : ∀ {us vs : List (List Nat)}, us.Perm vs → (us.Pairwise fun a b => key ls a < key ls b) → (vs.Pairwise fun a b => key ls a < key ls b) → us = vs
  | [], vs, h, _, _ => (List.Perm.nil_eq h)
  | u :: us, [], h, _, _ => absurd h.length_eq (by simp)
  | u :: us, v :: vs, h, h1, h2 => by
    obtain ⟨a1, a2⟩ := List.pairwise_cons.mp h1
    obtain ⟨b1, b2⟩ := List.pairwise_cons.mp h2
    have e : u = v := by
      have m1 := h.mem_iff.mp (List.mem_cons_self (a := u) (l := us))
      have m2 := h.mem_iff.mpr (List.mem_cons_self (a := v) (l := vs))
      rcases List.mem_cons.mp m1 with z | z
      · exact z
      · rcases List.mem_cons.mp m2 with y | y
        · exact y.symm
        · exact (lt_irr (List.lt_trans (b1 u z) (a1 v y))).elim
    subst e
    rw [ord_eq h.cons_inv a2 b2]
theorem asc_pen {kf : Nat → Key} {vf : Nat → V} {n : Nat} {cl : Addr} {k l : Int} (h : ∀ j, vf j ≠ .ref cl) : asc kf vf n ≠ penK cl k l := fun e => by
  have e2 := congrArg (fun l => l[0]?.map Prod.snd) e
  unfold asc at e2
  cases n with
  | zero => simp [penK] at e2
  | succ n =>
    simp only [List.getElem?_map, List.getElem?_range (Nat.succ_pos n), penK] at e2
    exact h 0 (by simpa using e2)
theorem IsD.but {C : Addr} {H H' : Hp} {p pn cl : Addr} {b : Nat} {ls : List Nat} {ws : List (List Nat)} (h : IsD C H p ls ws) (pen : Pen H pn cl b) (e : But pn H H') : IsD C H' p ls ws := by
  obtain ⟨dx, pl, t, kk, nn, h1, h2, h3, h4, h5⟩ := h
  obtain ⟨k, l, cs, p1, p2, p3, p4⟩ := pen
  exact ⟨dx, pl, t, kk, nn, e _ _ (ne_of h1 p1 fun z => nomatch z) h1, e _ _ (ne_of h2 p1 fun z => asc_pen (kf := plainF ls) (vf := fun j => .str (S [97 + j])) (fun j y => nomatch y) (HO.dK.inj z)) h2, e _ _ (ne_of h3 p1 fun z => nomatch z) h3, e _ _ (ne_of h4 p1 fun z => nomatch z) h4, e _ _ (ne_of h5 p1 fun z => asc_pen (kf := numF ws) (vf := fun j => .int (j : Nat)) (fun j y => nomatch y) (HO.dK.inj z)) h5⟩
theorem tabs_but {Tb : List (Addr × Str)} {H H' : Hp} {pn cl : Addr} {b : Nat} (tabs : LamX.Tabs Tb H) (pen : Pen H pn cl b) (bt : But pn H H') : LamX.Tabs Tb H' := by
  obtain ⟨k, l, cs, p1, _⟩ := pen
  exact tabs_at tabs p1 (fun _ z => nomatch z) (fun _ z => nomatch z) bt
theorem lst_but {H H' : Hp} {pn cl a : Addr} {b : Nat} {xs : List V} (h : H a = some (.lst xs)) (pen : Pen H pn cl b) (bt : But pn H H') : H' a = some (.lst xs) := bt _ _ (pen.ne h fun _ z => by cases z) h
theorem rep_one (c k : Nat) : repS (S [c]) k = S (List.replicate k c) := by
  unfold repS
  rw [S_list, List.flatten_replicate_singleton]
  rfl
theorem A_S : ("A" : Str) = S [65] := by decide +kernel
abbrev NLa : List Str := ["_law_script", "_law_pen_here", "_law_other", "_law_beside", "_law_found", "_law_letters_here", "_law_odd", "_law_spot", "_law_word_here", "_law_words", "_law_k"]
def spLaw (K : PySem.W.Frag) (Tb : List (Addr × Str)) : Sp := fun vs H Q _ => ∃ (a : Addr) (is : List Int), vs = [.ref a] ∧ SqL K H a (is.map V.int) ∧ LamX.Tabs Tb H ∧ ∀ H', Q (.bl true) H'
section
variable {P : Program} {w : World} {K : PySem.W.Frag} {mg : Str → Option Value} {base : Heap}
theorem scLaw : FnScope NLa ["_law_script"] (defScope sLaw) := ⟨rfl, rfl, rfl, by decide +kernel, rfl, by decide +kernel, by decide +kernel⟩
theorem ok_law {f c T g C CL CW CT CN CO CM CX : Addr} {fd fdA : FuncData} {Tb : List (Addr × Str)} (F : FunL K base mg "law" "law" sLaw f c T fd) (B : Bi mg) (T0 : Txd K C)
    (cPen : Cal CX0 P w K mg base 1 "_law_pen" (spPen K)) (cD : Cal CX0 P w K mg base 1 "_law_draw" spDraw) (cP : Cal CX0 P w K mg base 2 "_law_pick" spPick) (cL : Cal CX0 P w K mg base 3 "_law_letters" spLLet) (cW : Cal CX0 P w K mg base 3 "_law_word" spLWord)
    (cO : Cal CX0 P w K mg base 2 "_law_ordered" spLOrd) (cS : Cal CX0 P w K mg base 1 "_law_stranger" spLStr) (cF : Cal CX0 P w K mg base 10 "_law_full_right" (spFull Tb))
    (mkD : Mak (L2.CX P w) P w K mg base 5 "Dictionary" C (spDic K C CL CW CT Tb)) (mPut : Met (L2.CX P w) P w K mg base 7 C "put_in" (spPut C CN CO CT Tb)) (mStk : Met (L2.CX P w) P w K mg base 6 C "strike_out" (spStrike C CM))
    (mJ : Met (L2.CX P w) P w K mg base 7 C "join_with" (spJoin C CX CT)) (mM : Met (L2.CX P w) P w K mg base 6 C "map_to" (spMapTo C CX))
    (FA : Fun K "_law_caught" "_law_caught" sCau g fdA) (bA : Binds K fdA ["_law_function"] []) (gA : mg "_law_caught" = some (.ref g)) (Ts : Cts K mg CL CW CT CN CO CM CX)
    (hmT : (T, (("law.<locals>.<lambda>" : String) : Str)) ∈ Tb) (hu : ∀ p ∈ Tb, p.1 = T → p.2 = (("law.<locals>.<lambda>" : String) : Str)) :
    FnOk P w K mg base CX0 11 f fd ["_law_script"] (spLaw K Tb) := by
  refine F.okX scLaw (fun vs H Q E h => ?_) (fun A outer s H vs Q E hr h => ?_)
  · obtain ⟨a, is, rfl, _⟩ := h
    rfl
  · obtain ⟨a0, is, rfl, hsc, tabs, q⟩ := h
    refine ⟨_, pss_cons (ps_set (i := 1) scLaw.nd rfl (Or.inr rfl) (pe_c cPen hr pass0 (pa_cons (pv 0) pa_nil)))
      (pss_cons (ps_set (i := 5) scLaw.nd rfl (Or.inr rfl) (pe_c cL hr pass0 (pa_cons (pv 1) (pa_cons pe_int pa_nil))))
      (pss_cons (ps_set (i := 9) scLaw.nd rfl (Or.inr rfl) (pe_c cO hr pass0 (pa_cons (pv 5) (pa_cons (pe_lc (own := [("_law_k", 10)]) rfl scLaw.nd (pi_range1 rfl B.range (pa_cons (pe_op op_add pe_int (pe_c cD hr pass0 (pa_cons (pv 1) (pa_cons pe_int pa_nil)))) pa_nil)) (blkOk_by (N := NLa) (sc := defScope sLaw) (by decide +kernel))
          (fun _ _ _ _ _ => pg_name (i := 10) scLaw.nd rfl (Or.inl rfl)) (fun _ _ _ _ _ => pts_nil) (fun _ _ _ _ _ => pe_c cW hr pass0 (pa_cons (pv 1) (pa_cons (pv 5) (pa_cons pe_int pa_nil))))) pa_nil))))
      (pss_cons (ps_for PassesOwn.never rfl (pi_sqA (pe_lst (pa_cons pe_str (pa_cons pe_str (pa_cons pe_str (pa_cons pe_str (pa_cons pe_str (pa_cons pe_str (pa_cons pe_non (pa_cons pe_int (pa_cons (pe_lst (pa_cons pe_str (pa_cons pe_str pa_nil))) (pa_cons pe_str pa_nil)))))))))))) (pg_name (i := 6) scLaw.nd rfl (.inr rfl)) (pss_one (ps_if (pt_cmpR (op_neSmD (hu64 hr)) (by exact pe_cau (k := 6) (Tb := Tb) FA bA gA Ts F.tab hmT hu hr (by decide) (LamX.lamS_by (sc := defScope sLaw) (by decide +kernel)) (fun A outer s H E f c' hr' => pe_mk mkD hr' (passes_call (takes_of rfl rfl rfl rfl) fun _ _ _ _ h => h) (pa_cons (pv 6) (pa_cons (pv 9) pa_nil)))) (pe_tup (pa_cons pe_str (pa_cons (pv 6) pa_nil))) (nomark _)) pss_never pss_nil)))
      (pss_cons (ps_set (i := 7) scLaw.nd rfl (Or.inr rfl) (pe_op op_add pe_int (pe_c cD hr pass0 (pa_cons (pv 1) (pa_cons (pe_len B.len (pa_cons (pv 9) pa_nil)) pa_nil)))))
      (pss_cons (ps_set (i := 2) scLaw.nd rfl (Or.inl rfl) (pe_c cS hr pass0 (pa_cons (pv 5) pa_nil)))
      (pss_cons (ps_for PassesOwn.never rfl (pi_sqA (pe_lst (pa_cons (pe_ix ix_list (pv 9) pe_int (fun _ _ => rfl)) (pa_cons pe_str (pa_cons (pe_op op_add_str (pe_ix ix_str (pv 5) pe_int (fun _ _ => rfl)) (pv 2)) (pa_cons (pe_op op_mulS (pe_ix ix_str (pv 5) pe_int (fun _ _ => rfl)) pe_int) (pa_cons pe_non (pa_cons pe_int (pa_cons (pe_tup (pa_cons (pe_ix ix_list (pv 9) pe_int (fun _ _ => rfl)) pa_nil)) pa_nil))))))))) (pg_name (i := 6) scLaw.nd rfl (.inr rfl)) (pss_one (ps_if (pt_cmpR (op_neSmD (hu64 hr)) (by exact pe_cau (k := 6) (Tb := Tb) FA bA gA Ts F.tab hmT hu hr (by decide) (LamX.lamS_by (sc := defScope sLaw) (by decide +kernel)) (fun A outer s H E f c' hr' => pe_mk mkD hr' (passes_call (takes_of rfl rfl rfl rfl) fun _ _ _ _ h => h) (pa_cons (pv 5) (pa_cons (pe_op op_cat (pe_op op_cat (pe_slice (sl_listK K rfl) (pv 9) po_none (po_some (pv 7))) (pe_lst (pa_cons (pv 6) pa_nil))) (pe_slice (sl_listK K rfl) (pv 9) (po_some (pv 7)) po_none)) pa_nil)))) (pe_tup (pa_cons pe_str (pa_cons (pv 7) pa_nil))) (nomark _)) pss_never pss_nil)))
      (pss_cons (ps_set (i := 4) scLaw.nd rfl (Or.inr rfl) (pe_mk mkD hr passL (pa_cons (pv 5) (pa_cons (pv 9) pa_nil))))
      (pss_cons (ps_for PassesOwn.never rfl (pi_sqA (pe_lst (pa_cons pe_str (pa_cons (pv 2) (pa_cons (pe_op op_mulS (pe_ix ix_str (pv 5) pe_int (fun _ _ => rfl)) pe_int) (pa_cons pe_non (pa_cons (pe_lst (pa_cons (pe_ix ix_list (pv 9) pe_int (fun _ _ => rfl)) pa_nil)) pa_nil))))))) (pg_name (i := 6) scLaw.nd rfl (.inr rfl)) (pss_cons (ps_if (pt_cmpR (op_neSmD (hu64 hr)) (by exact pe_cau (k := 7) (Tb := Tb) FA bA gA Ts F.tab hmT hu hr (by decide) (LamX.lamS_by (sc := defScope sLaw) (by decide +kernel)) (fun A outer s H E f c' hr' => pe_mt mPut hr' (passes_call (takes_of rfl rfl rfl rfl) fun _ _ _ _ h => h) (pv 4) (pa_cons (pv 6) pa_nil))) (pe_tup (pa_cons pe_str (pa_cons (pv 6) pa_nil))) (nomark _)) pss_never pss_nil)
        (pss_one (ps_if (pt_cmpR (op_neSmD (hu64 hr)) (by exact pe_cau (k := 6) (Tb := Tb) FA bA gA Ts F.tab hmT hu hr (by decide) (LamX.lamS_by (sc := defScope sLaw) (by decide +kernel)) (fun A outer s H E f c' hr' => pe_mt mStk hr' (passes_call (takes_of rfl rfl rfl rfl) fun _ _ _ _ h => h) (pv 4) (pa_cons (pv 6) pa_nil))) (pe_tup (pa_cons pe_str (pa_cons (pv 6) pa_nil))) (nomark _)) pss_never pss_nil))))
      (pss_cons (ps_set (i := 8) scLaw.nd rfl (Or.inr rfl) (pe_c cP hr pass0 (pa_cons (pv 1) (pa_cons (pv 9) pa_nil))))
      (pss_cons (ps_if (pt_cmpR (op_neSmD (hu64 hr)) (by exact pe_cau (k := 7) (Tb := Tb) FA bA gA Ts F.tab hmT hu hr (by decide) (LamX.lamS_by (sc := defScope sLaw) (by decide +kernel)) (fun A outer s H E f c' hr' => pe_mt mPut hr' (passes_call (takes_of rfl rfl rfl rfl) fun _ _ _ _ h => h) (pv 4) (pa_cons (pv 8) pa_nil))) (pe_tup (pa_cons pe_str (pa_cons (pv 8) pa_nil))) (nomark _)) pss_never pss_nil)
      (pss_cons (ps_if (pt_cmpR (op_neSmD (hu64 hr)) (by exact pe_cau (k := 6) (Tb := Tb) FA bA gA Ts F.tab hmT hu hr (by decide) (LamX.lamS_by (sc := defScope sLaw) (by decide +kernel)) (fun A outer s H E f c' hr' => pe_mt mStk hr' (passes_call (takes_of rfl rfl rfl rfl) fun _ _ _ _ h => h) (pv 4) (pa_cons (pe_op op_add_str (pv 8) (pe_op op_mulS (pe_ix ix_str (pv 5) pe_int (fun _ _ => rfl)) pe_int)) pa_nil))) (pe_tup (pa_cons pe_str (pa_cons (pe_op op_add_str (pv 8) (pe_op op_mulS (pe_ix ix_str (pv 5) pe_int (fun _ _ => rfl)) pe_int)) pa_nil))) (nomark _)) pss_never pss_nil)
      (pss_cons (ps_set (i := 3) scLaw.nd rfl (Or.inr rfl) (pe_mk mkD hr passL (pa_cons (pe_revS (pv 5)) (pa_cons (pv 9) pa_nil))))
      (pss_cons (ps_if (pt_cmpR (op_neSm (hu64 hr)) (by exact pe_cau (k := 7) (Tb := Tb) FA bA gA Ts F.tab hmT hu hr (by decide) (LamX.lamS_by (sc := defScope sLaw) (by decide +kernel)) (fun A outer s H E f c' hr' => pe_mt mJ hr' (passes_call (takes_of rfl rfl rfl rfl) fun _ _ _ _ h => h) (pv 4) (pa_cons (pv 3) pa_nil))) (pe_tup (pa_cons pe_str pa_nil)) (nomark _)) pss_never pss_nil)
      (pss_cons (ps_if (pt_cmpR (op_neSm (hu64 hr)) (by exact pe_cau (k := 6) (Tb := Tb) FA bA gA Ts F.tab hmT hu hr (by decide) (LamX.lamS_by (sc := defScope sLaw) (by decide +kernel)) (fun A outer s H E f c' hr' => pe_mt mM hr' (passes_call (takes_of rfl rfl rfl rfl) fun _ _ _ _ h => h) (pv 4) (pa_cons (pv 3) pa_nil))) (pe_tup (pa_cons pe_str pa_nil)) (nomark _)) pss_never pss_nil)
      (pss_cons (ps_if (PW.pt (pw_or (pt_cmpR (op_neT (hu64 hr)) (pe_fld (pv 4) rfl) (pe_tupleOf rfl B.tuple (pv 9)) (nomark _)) (pw_or1 (pt_cmpR (op_neSm (hu64 hr)) (by exact pe_cau (k := 7) (Tb := Tb) FA bA gA Ts F.tab hmT hu hr (by decide) (LamX.lamS_by (sc := defScope sLaw) (by decide +kernel)) (fun A outer s H E f c' hr' => pe_mt mPut hr' (passes_call (takes_of rfl rfl rfl rfl) fun _ _ _ _ h => h) (pv 4) (pa_cons (pe_op op_mulS (pe_ix ix_str (pv 5) pe_int (fun _ _ => rfl)) pe_int) pa_nil))) (pe_tup (pa_cons pe_str pa_nil)) (nomark _))))) pss_never pss_nil)
      (pss_one (ps_ret (pe_or (pe_cmpR op_gt (pe_c cD hr pass0 (pa_cons (pv 1) (pa_cons pe_int pa_nil))) pe_int rfl) (pe_one (pe_c cF hr pass0 (pa_cons (pv 5) pa_nil))))))))))))))))))))), ?_⟩
    refine ⟨_, rfl, a0, is, rfl, hsc, fun pn cl H1 npn ncl e1 pen1 => ?_⟩
    have tab1 := tabs.ext e1
    clear tabs e1 hsc npn ncl
    refine ⟨_, rfl, pn, cl, 0, rfl, pen1, by decide, fun ls H2 LL b2 pen2 => ?_⟩
    have tab2 := tabs_but tab1 pen1 b2
    clear tab1 pen1 b2
    refine ⟨_, rfl, _, rfl, pn, cl, _, 6, rfl, pen2, by decide, by decide, by decide, fun r H3 r0 r1 b3 pen3 => ⟨_, _, rfl, rfl, _, rfl, by omega, by omega, ?_⟩⟩
    have tab3 := tabs_but tab2 pen2 b3
    obtain ⟨n, rfl⟩ := Int.eq_ofNat_of_zero_le r0
    have n8 : n < 8 := by omega
    rw [show ((1 : Int) + (n : Nat)).toNat = n + 1 by omega]
    clear tab2 pen2 b3
    intro D nD
    have npD : pn ≠ D := (pen3.off nD).1
    have ncD : cl ≠ D := (pen3.off nD).2
    refine lc_it walk_range (fun i H' => ∃ ws : List (List Nat), ws.length = i ∧ (∀ w ∈ ws, w.length ≤ 4 ∧ ∀ c ∈ w, c ∈ ls) ∧ Pen H' pn cl (7 + 6 * i) ∧ H' D = some (.lst (txs ws)) ∧ LamX.Tabs Tb H') ⟨[], rfl, (fun _ h => nomatch h), pen3.upd npD ncD, upd_same, tab3.ext (same_new nD)⟩ (fun _ _ _ _ => True.intro) ?_ ?_
    · rintro i x H4 H5 hi ⟨ws, lw, hw, pen4, hD, tab4⟩ ⟨rfl, hx⟩
      refine ⟨rfl, yesT ⟨_, rfl, _, rfl, pn, cl, ls, _, rfl, pen4, by omega, LL, fun w H6 w5 wl b6 pen6 => ?_⟩⟩
      have hD6 := lst_but hD pen4 b6
      have tab6 := tabs_but tab4 pen4 b6
      refine ⟨_, hD6, by rw [strs_len]; exact small10 (by omega), ws ++ [w], by rw [List.length_append, lw]; rfl, fun u hu => ?_, (pen6.mono (by omega)).upd npD ncD, ?_, tabs_at tab6 hD6 (fun _ z => nomatch z) (fun _ z => nomatch z) fun c o n z => (upd_ne n).trans z⟩
      · rcases List.mem_append.mp hu with h | h
        · exact hw u h
        · rw [List.mem_singleton.mp h]
          exact ⟨w5, wl⟩
      · rw [upd_same]
        unfold txs
        rw [List.map_append]
        rfl
    rintro H4 ⟨ws, lw, hw, pen4, hD, tab4⟩
    clear tab3 pen3 nD npD ncD
    -- in their order
    refine ⟨D, ls, ws, rfl, hD, LL, ⟨by omega, fun w m => ⟨by have := (hw w m).1; omega, (hw w m).2⟩⟩, fun t us H5 ord e5 ht => ?_⟩
    have pen5 := (pen4.same e5).mono (c := 100) (by omega)
    have tab5 := tab4.ext e5
    have wu : ∀ u ∈ us, u.length ≤ 4 ∧ ∀ c ∈ u, c ∈ ls := fun u m => hw u ((ord.mem u).mp m)
    have um := ord.many
    have up := ord.up
    have pos : 0 < us.length := by
      have m0 := List.getElem_mem (l := ws) (n := 0) (by omega)
      exact List.length_pos_of_mem ((ord.mem _).mpr m0)
    have lus : us.length ≤ 8 := by omega
    clear ord hw lw e5 hD pen4 tab4 um
    have O : OkD ls us := ⟨LL.L, by omega, fun u m => ⟨by have := (wu u m).1; omega, (wu u m).2⟩, up⟩
    -- letters that are none
    refine ⟨by show 2 ≤ sizeLine; decide, fun a1 na1 => ?_⟩
    have x1 := same_new (o := .lst [.str "a", .str "b"]) na1
    have o1 : Odd (upd H5 a1 (.lst [.str "a", .str "b"])) (.ref a1) (.list (List.map dOf [.str "a", .str "b"])) := .lst upd_same (fun v m => by
      simp only [List.mem_cons, List.not_mem_nil, or_false] at m
      rcases m with rfl | rfl
      · show PyData.strOk _ = true
        decide +kernel
      · show PyData.strOk _ = true
        decide +kernel) (by decide)
    generalize upd H5 a1 (.lst [.str "a", .str "b"]) = H6 at x1 o1 ⊢
    refine ⟨by show 10 ≤ sizeLine; decide, fun L1 nL1 => ⟨L1, _, rfl, .inl (SqL.of upd_same), ?_⟩⟩
    generalize eit : [V.str "", .str "a", .str "abca", .str "aB", .str "a b", .str "a1", .non, .int 3, .ref a1, .str "abcdefghijklmnopqrstuvwxyzA"] = items
    have x2 := same_new (o := .lst items) nL1
    have hL1 : upd H6 L1 (.lst items) L1 = some (.lst items) := upd_same
    generalize upd H6 L1 (.lst items) = H7 at x2 hL1 ⊢
    have odds : ∀ x ∈ items, OddL H7 x := by
      intro x hx
      rw [← eit] at hx
      have fl : ∀ z : Str, PyData.strOk z = true → isLs (.str z) = false → z.length ≤ 200 → OddL H7 (.str z) := fun z h1 h2 h3 => ⟨_, h2, .flat h1, fun y e => by cases e; exact h3⟩
      simp only [List.mem_cons, List.not_mem_nil, or_false] at hx
      rcases hx with rfl | rfl | rfl | rfl | rfl | rfl | rfl | rfl | rfl | rfl
      · exact fl _ (by decide +kernel) (by decide +kernel) (by decide +kernel)
      · exact fl _ (by decide +kernel) (by decide +kernel) (by decide +kernel)
      · exact fl _ (by decide +kernel) (by decide +kernel) (by decide +kernel)
      · exact fl _ (by decide +kernel) (by decide +kernel) (by decide +kernel)
      · exact fl _ (by decide +kernel) (by decide +kernel) (by decide +kernel)
      · exact fl _ (by decide +kernel) (by decide +kernel) (by decide +kernel)
      · exact ⟨_, rfl, .flat True.intro, fun _ z => nomatch z⟩
      · exact ⟨_, rfl, .flat True.intro, fun _ z => nomatch z⟩
      · exact ⟨_, rfl, o1.same x2, fun _ z => nomatch z⟩
      · exact fl _ (by decide +kernel) (by decide +kernel) (by decide +kernel)
    have pen7 := (pen5.same x1).same x2
    have tab7 := (tab5.ext x1).ext x2
    have ht7 := x2 _ _ (x1 _ _ ht)
    clear pen5 tab5 ht x1 x2 o1 na1 nL1 eit
    refine fun J G1 wk hG => for_it wk (fun i σ H' => ∃ a : Option V, σ = [some (.ref a0), some (.ref pn), none, none, none, some (.str (S ls)), a, none, none, some (.ref t), none] ∧ LamX.ExtN H7 H' ∧ LamX.Tabs Tb H') ⟨_, rfl, LamX.ExtN.refl _, tab7⟩ (fun i σ H' _ ⟨_, _, e, _⟩ => hG H' fun o z => ?_) ?_ ?_
    · have e0 := Option.some.inj (hL1.symm.trans z)
      subst e0
      exact e _ _ hL1 (fun _ w => nomatch w)
    · rintro i x σ H8 H9 hi ⟨a, rfl, e8, tab8⟩ ⟨rfl, hx⟩
      obtain ⟨d, il, od0, lv⟩ := odds x (List.mem_of_getElem? hx)
      refine ⟨tab8, fun H10 en10 tab10 => ?_⟩
      have e10 := e8.trans en10
      have od10 := od0.ext e10
      have ht10 := e10 _ _ ht7 fun _ z => nomatch z
      refine ⟨_, rfl, _, rfl, ref_l (.inl ht10) il od10 lv fun dd H11 s11 at11 => ?_⟩
      obtain ⟨v', hv, k⟩ := asked_end (K := K) (tag := "letters") (by decide +kernel) od10 s11 at11
      refine .inl ⟨rfl, dd, v', rfl, hv, fun t1 nt1 => ⟨_, rfl, by show 2 ≤ sizeLine; decide, fun t2 nt2 => ?_⟩⟩
      obtain ⟨Dt, da, db, sh, ss⟩ := k t1 nt1 t2 nt2
      exact ⟨Dt, da, db, sh, _, rfl, iteF ⟨some x, rfl, e10.trans (ext_of ss), tab10.ext ss⟩⟩
    rintro σ H8 ⟨a, rfl, e8, tab8⟩
    have pen8 := pen7.ext e8
    have ht8 := e8 _ _ ht7 fun _ z => nomatch z
    clear pen7 ht7 tab7 e8 hL1 odds
    -- the place
    refine ⟨_, rfl, _, rfl, t, _, rfl, .inl (SqL.of ht8), pn, cl, _, 100, rfl, pen8, by decide, by rw [strs_len]; omega, by rw [strs_len]; omega, fun r H9 r0 r1 b9 pen9 => ⟨_, _, rfl, rfl, ?_⟩⟩
    obtain ⟨k0, rfl⟩ := Int.eq_ofNat_of_zero_le r0
    rw [strs_len] at r1
    have ek : (1 : Int) + (k0 : Nat) = ((k0 + 1 : Nat) : Int) := by omega
    show gName 7 (V.int ((1 : Int) + ((k0 : Nat) : Int))) _ _ _
    rw [ek]
    have sp1 : k0 + 1 ≤ us.length := by omega
    have sp0 : 0 < k0 + 1 := by omega
    generalize k0 + 1 = sp at sp1 sp0 ⊢
    clear ek r0 r1
    have ht9 := lst_but ht8 pen8 b9
    have tab9 := tabs_but tab8 pen8 b9
    clear b9 pen8 tab8 ht8
    -- a sign that is no letter
    refine ⟨_, rfl, ls, rfl, LL.str, fun cc H10 hc nc e10 => ?_⟩
    have pen10 := pen9.same e10
    have ht10 := e10 _ _ ht9
    have tab10 := tab9.ext e10
    clear e10 pen9 ht9 tab9
    have lo := LL.L.lo
    have few := LL.few
    have sl0 : 0 < ls.length := by omega
    have sl1 : 1 < ls.length := by omega
    have hl0 := List.getElem?_eq_getElem sl0
    have hl1 := List.getElem?_eq_getElem sl1
    have ml0 : ls[0] ∈ ls := List.getElem_mem sl0
    have ml1 : ls[1] ∈ ls := List.getElem_mem sl1
    have nls : Nch ls := LL.L.nch fun c h => h
    have nl0 : ls[0] < 1114112 := nls _ ml0
    have nl1 : ls[1] < 1114112 := nls _ ml1
    have ncc : cc < 1114112 := by omega
    have sS : (S ls).length ≤ sizeLine := Nat.le_of_lt (small10 (by rw [S_len]; omega))
    have u0 := List.getElem?_eq_getElem pos
    have m0 : us[0] ∈ us := List.getElem_mem pos
    generalize us[0] = w0 at u0 m0
    have a0' : (txs us)[0]? = some (V.str (S w0)) := by
      unfold txs
      rw [List.getElem?_map, u0]
      rfl
    have nw0 : Nch w0 := O.nch w0 m0
    have wOut : ∀ (w : List Nat) (c : Nat), c ∈ w → c ∉ ls → isW ls (.str (S w)) = false := fun w c h1 h2 => by
      show (decide ((S w).length ≤ 200) && (S w).cps.toList.all fun c => decide (c ∈ ls)) = false
      rw [Bool.and_eq_false_iff]
      exact .inr (List.all_eq_false.mpr ⟨c, h1, by simpa using h2⟩)
    have wLong : ∀ c : Nat, isW ls (.str (S (List.replicate 201 c))) = false := fun c => by
      show (decide ((S (List.replicate 201 c)).length ≤ 200) && (S (List.replicate 201 c)).cps.toList.all fun c => decide (c ∈ ls)) = false
      rw [S_len, List.length_replicate, decide_eq_false (by decide), Bool.false_and]
    have n65 : 65 ∉ ls := fun h => absurd (LL.L.abc _ h) (by decide)
    have slen : ∀ (w : List Nat), w.length ≤ 10000 → ∀ x, V.str (S w) = .str x → x.length ≤ 10000 := fun w h x e => by
      cases e
      rw [S_len]
      exact h
    -- odd words among the right ones
    refine ⟨_, rfl, t, _, _, _, rfl, rfl, SqL.of ht10, atI_nat (j := 0) a0', ?_⟩
    refine ⟨_, rfl, S ls, _, _, rfl, rfl, sS, atI_nat (j := 0) hl0, _, rfl, S [ls[0]], S [cc], rfl, rfl, Nat.le_of_lt (small10 (by rw [S_len, S_len]; show 1 + 1 ≤ 10000; decide)), ?_⟩
    rw [S_app]
    refine ⟨_, rfl, S ls, _, _, rfl, rfl, sS, atI_nat (j := 0) hl0, S [ls[0]], 201, rfl, rfl, by decide, by decide, by rw [S_len]; show 1 ≤ 1; decide, by rw [S_len]; show 1 ≤ 1000; decide, ?_⟩
    rw [rep_one]
    refine ⟨_, rfl, t, _, _, _, rfl, rfl, SqL.of ht10, atI_nat (j := 0) a0', by show 1 ≤ sizeLine; decide, fun a1 na1 => ?_⟩
    have x1 := same_new (o := .tup [.str (S w0)]) na1
    have k1 : Kn (upd H10 a1 (.tup [.str (S w0)])) (.ref a1) := .tup upd_same
    generalize upd H10 a1 (.tup [.str (S w0)]) = H11 at x1 k1 ⊢
    refine ⟨by show 7 ≤ sizeLine; decide, fun L1 nL1 => ⟨L1, _, rfl, .inl (SqL.of upd_same), ?_⟩⟩
    generalize eit : [V.str (S w0), .str "A", .str (S ([ls[0]] ++ [cc])), .str (S (List.replicate 201 ls[0])), .non, .int 7, .ref a1] = items
    have x2 := same_new (o := .lst items) nL1
    have hL1 : upd H11 L1 (.lst items) L1 = some (.lst items) := upd_same
    generalize upd H11 L1 (.lst items) = H12 at x2 hL1 ⊢
    have odds : ∀ x ∈ items, Kn H12 x ∧ (∀ z, x = .str z → z.length ≤ 10000) ∧ (isW ls x = false ∨ ∃ w ∈ us.take sp, x = .str (S w)) := by
      intro x hx
      rw [← eit] at hx
      simp only [List.mem_cons, List.not_mem_nil, or_false] at hx
      rcases hx with rfl | rfl | rfl | rfl | rfl | rfl | rfl
      · refine ⟨.str _, slen _ (by have := (wu _ m0).1; omega), .inr ⟨w0, ?_, rfl⟩⟩
        refine List.mem_of_getElem? (i := 0) ?_
        rw [List.getElem?_take_of_lt sp0]
        exact u0
      · rw [A_S]
        exact ⟨.str _, slen _ (by decide), .inl (wOut _ 65 List.mem_cons_self n65)⟩
      · exact ⟨.str _, slen _ (by simp), .inl (wOut _ cc (by simp) nc)⟩
      · exact ⟨.str _, slen _ (by rw [List.length_replicate]; decide), .inl (wLong _)⟩
      · exact ⟨.non, (fun _ z => nomatch z), .inl rfl⟩
      · exact ⟨.int _, (fun _ z => nomatch z), .inl rfl⟩
      · exact ⟨k1.same x2, (fun _ z => nomatch z), .inl rfl⟩
    have pen12 := (pen10.same x1).same x2
    have tab12 := (tab10.ext x1).ext x2
    have ht12 := x2 _ _ (x1 _ _ ht10)
    clear pen10 tab10 ht10 x1 x2 k1 na1 nL1 eit
    refine fun J G1 wk hG => for_it wk (fun i σ H' => ∃ a : Option V, σ = [some (.ref a0), some (.ref pn), some (.str (S [cc])), none, none, some (.str (S ls)), a, some (.int (sp : Nat)), none, some (.ref t), none] ∧ LamX.ExtN H12 H' ∧ LamX.Tabs Tb H') ⟨_, rfl, LamX.ExtN.refl _, tab12⟩ (fun i σ H' _ ⟨_, _, e, _⟩ => hG H' fun o z => ?_) ?_ ?_
    · have e0 := Option.some.inj (hL1.symm.trans z)
      subst e0
      exact e _ _ hL1 (fun _ w => nomatch w)
    · rintro i x σ H13 H14 hi ⟨a, rfl, e13, tab13⟩ ⟨rfl, hx⟩
      obtain ⟨kx, lx, bad⟩ := odds x (List.mem_of_getElem? hx)
      refine ⟨tab13, fun H15 en15 tab15 => ?_⟩
      have e15 := e13.trans en15
      have kx15 := kx.ext e15
      have ht15 := e15 _ _ ht12 fun _ z => nomatch z
      have lt1 : ((txs us).take sp).length = sp := by rw [List.length_take, strs_len]; omega
      have lt2 : ((txs us).drop sp).length = us.length - sp := by rw [List.length_drop, strs_len]
      have lt3 : (us.take sp).length = sp := by rw [List.length_take]; omega
      refine ⟨_, rfl, _, rfl, _, rfl, ((sp : Nat) : Int), rfl, t, _, rfl, SqL.of ht15, fun p1 np1 => ?_⟩
      rw [cut_to (by rw [strs_len]; exact sp1)]
      have y1 := same_new (o := .lst ((txs us).take sp)) np1
      have h1 : upd H15 p1 (.lst ((txs us).take sp)) p1 = some (.lst ((txs us).take sp)) := upd_same
      generalize upd H15 p1 (.lst ((txs us).take sp)) = H16 at y1 h1 ⊢
      refine ⟨_, rfl, by show 1 ≤ sizeLine; decide, fun p2 np2 => ⟨p1, p2, _, _, rfl, rfl, (same_new np2) _ _ h1, upd_same, Nat.le_of_lt (small10 (by rw [lt1]; show sp + 1 ≤ _; omega)), fun p3 np3 => ?_⟩⟩
      have y2 := (same_new (o := .lst [x]) np2).trans (same_new (o := .lst ((txs us).take sp ++ [x])) np3)
      have h3 : upd (upd H16 p2 (.lst [x])) p3 (.lst ((txs us).take sp ++ [x])) p3 = some (.lst ((txs us).take sp ++ [x])) := upd_same
      generalize upd (upd H16 p2 (.lst [x])) p3 (.lst ((txs us).take sp ++ [x])) = H17 at y2 h3 ⊢
      refine ⟨_, rfl, _, rfl, ((sp : Nat) : Int), rfl, t, _, rfl, SqL.of (y2 _ _ (y1 _ _ ht15)), fun p4 np4 => ?_⟩
      rw [cut_from (by rw [strs_len]; exact sp1)]
      refine ⟨p3, p4, _, _, rfl, rfl, (same_new np4) _ _ h3, upd_same, Nat.le_of_lt (small10 (by rw [List.length_append, lt1, lt2]; show sp + 1 + _ ≤ _; omega)), fun p5 np5 => ?_⟩
      have y3 := (same_new (o := .lst ((txs us).drop sp)) np4).trans (same_new (o := .lst ((txs us).take sp ++ [x] ++ (txs us).drop sp)) np5)
      have h5 : upd (upd H17 p4 (.lst ((txs us).drop sp))) p5 (.lst ((txs us).take sp ++ [x] ++ (txs us).drop sp)) p5 = some (.lst ((txs us).take sp ++ [x] ++ (txs us).drop sp)) := upd_same
      generalize upd (upd H17 p4 (.lst ((txs us).drop sp))) p5 (.lst ((txs us).take sp ++ [x] ++ (txs us).drop sp)) = H18 at y3 h5 ⊢
      have y := y1.trans (y2.trans y3)
      clear y1 y2 y3 h1 h3 np1 np2 np3 np4 np5
      have kx18 := kx15.same y
      have tab18 := tab15.ext y
      have app : (txs us).take sp ++ [x] ++ (txs us).drop sp = (txs us).take sp ++ ([x] ++ (txs us).drop sp) := List.append_assoc ..
      refine ref_w (ws := us.take sp) (y := x) (.inl h5) LL.L (by rw [List.length_append, List.length_append, lt1, lt2]; show sp + 1 + _ ≤ _; omega) ((List.take_sublist _ _).nodup O.nd) (fun w m => O.word w (List.mem_of_mem_take m)) ?_ ?_ kx18 lx bad fun dd H19 s19 at19 => ?_
      · rw [lt3, app, List.take_append_of_le_length (by rw [lt1]; exact Nat.le_refl _), List.take_take, Nat.min_self]
        unfold txs
        rw [List.map_take]
      · rw [lt3, app, List.getElem?_append_right (by omega), lt1, Nat.sub_self]
        rfl
      rw [lt3] at at19
      obtain ⟨v', hv, k⟩ := asked_end (K := K) (tag := "word") (v := .int (sp : Nat)) (by decide +kernel) (.flat True.intro) s19 at19
      refine .inr <| .inl ⟨rfl, dd, v', rfl, hv, fun t1 nt1 => ⟨_, rfl, by show 2 ≤ sizeLine; decide, fun t2 nt2 => ?_⟩⟩
      obtain ⟨Dt, da, db, sh, ss⟩ := k t1 nt1 t2 nt2
      exact ⟨Dt, da, db, sh, _, rfl, iteF ⟨some x, rfl, e15.trans (ext_of (y.trans ss)), tab18.ext ss⟩⟩
    rintro σ H13 ⟨a, rfl, e13, tab13⟩
    have pen13 := pen12.ext e13
    have ht13 := e13 _ _ ht12 fun _ z => nomatch z
    clear pen12 ht12 tab12 e13 hL1 odds
    -- the dictionary
    refine ⟨_, rfl, _, rfl, mk_d (ws := us) (.inl ht13) LL.L O.nd O.many O.word tab13 fun x us' H14 pu O' ext D14 tab14 => ⟨rfl, ?_⟩⟩
    obtain rfl : us' = us := ord_eq pu O'.up O.up
    have pen14 := pen13.ext ext
    have ht14 := ext _ _ ht13 fun _ z => nomatch z
    clear pen13 ht13 tab13 ext pu O'
    -- what put_in and strike_out refuse
    refine ⟨_, rfl, _, rfl, S ls, _, _, rfl, rfl, sS, atI_nat (j := 1) hl1, S [ls[1]], 201, rfl, rfl, by decide, by decide, by rw [S_len]; show 1 ≤ 1; decide, by rw [S_len]; show 1 ≤ 1000; decide, ?_⟩
    rw [rep_one]
    refine ⟨_, rfl, t, _, _, _, rfl, rfl, SqL.of ht14, atI_nat (j := 0) a0', by show 1 ≤ sizeLine; decide, fun a1 na1 => ?_⟩
    have x1 := same_new (o := .lst [.str (S w0)]) na1
    have o1 : Odd (upd H14 a1 (.lst [.str (S w0)])) (.ref a1) (.list (List.map dOf [.str (S w0)])) := .lst upd_same (fun v m => by
      rw [List.mem_singleton.mp m]
      exact flat_S nw0) (by show 1 ≤ 1000; decide)
    generalize upd H14 a1 (.lst [.str (S w0)]) = H15 at x1 o1 ⊢
    refine ⟨by show 5 ≤ sizeLine; decide, fun L1 nL1 => ⟨L1, _, rfl, .inl (SqL.of upd_same), ?_⟩⟩
    generalize eit : [V.str "A", .str (S [cc]), .str (S (List.replicate 201 ls[1])), .non, .ref a1] = items
    have x2 := same_new (o := .lst items) nL1
    have hL1 : upd H15 L1 (.lst items) L1 = some (.lst items) := upd_same
    generalize upd H15 L1 (.lst items) = H16 at x2 hL1 ⊢
    have odds : ∀ x ∈ items, OddS ls H16 x := by
      intro x hx
      rw [← eit] at hx
      simp only [List.mem_cons, List.not_mem_nil, or_false] at hx
      rcases hx with rfl | rfl | rfl | rfl | rfl
      · rw [A_S]
        exact ⟨_, .flat (flat_S fun c h => by rw [List.mem_singleton.mp h]; decide), wOut _ 65 List.mem_cons_self n65, slen _ (by decide)⟩
      · exact ⟨_, .flat (flat_S fun c h => by rw [List.mem_singleton.mp h]; exact ncc), wOut _ cc List.mem_cons_self nc, slen _ (by show 1 ≤ 10000; decide)⟩
      · exact ⟨_, .flat (flat_S fun c h => by rw [List.eq_of_mem_replicate h]; exact nl1), wLong _, slen _ (by rw [List.length_replicate]; decide)⟩
      · exact ⟨_, .flat True.intro, rfl, fun _ z => nomatch z⟩
      · exact ⟨_, o1.same x2, rfl, fun _ z => nomatch z⟩
    have pen16 := (pen14.same x1).same x2
    have tab16 := (tab14.ext x1).ext x2
    have ht16 := x2 _ _ (x1 _ _ ht14)
    have D16 := (D14.same x1).same x2
    clear pen14 tab14 ht14 D14 x1 x2 o1 na1 nL1 eit
    refine fun J G1 wk hG => for_it wk (fun i σ H' => ∃ a : Option V, σ = [some (.ref a0), some (.ref pn), some (.str (S [cc])), none, some (.ref x), some (.str (S ls)), a, some (.int (sp : Nat)), none, some (.ref t), none] ∧ LamX.ExtN H16 H' ∧ LamX.Tabs Tb H') ⟨_, rfl, LamX.ExtN.refl _, tab16⟩ (fun i σ H' _ ⟨_, _, e, _⟩ => hG H' fun o z => ?_) ?_ ?_
    · have e0 := Option.some.inj (hL1.symm.trans z)
      subst e0
      exact e _ _ hL1 (fun _ w => nomatch w)
    · rintro i y σ H17 H18 hi ⟨a, rfl, e17, tab17⟩ ⟨rfl, hy⟩
      obtain ⟨d, od0, iw, ly⟩ := odds y (List.mem_of_getElem? hy)
      refine ⟨tab17, fun H19 en19 tab19 => ?_⟩
      have e19 := e17.trans en19
      have D19 := D16.ext e19
      obtain ⟨dx19, _, _, _, _, i19, _⟩ := id D19
      refine ⟨_, rfl, x, dx19, _, rfl, i19, df_no, _, rfl, ?_⟩
      have od19 := od0.ext e19
      dsimp only [tNil, List.append_nil]
      refine ⟨x, y, ls, us', rfl, D19, O, pos, tab19, .inl ⟨d, iw, ly, od19, fun dd H20 r => ?_⟩⟩
      obtain ⟨v', hv, k⟩ := asked_end (K := K) (tag := "not") (by decide +kernel) od19 r.same r.at_
      refine .inr <| .inr <| .inr <| .inl ⟨rfl, dd, v', rfl, hv, fun t1 nt1 => ⟨_, rfl, by show 2 ≤ sizeLine; decide, fun t2 nt2 => ?_⟩⟩
      obtain ⟨Dt, da, db, sh, ss⟩ := k t1 nt1 t2 nt2
      refine ⟨Dt, da, db, sh, _, rfl, iteF ?_⟩
      have e21 := e19.trans (ext_of ss)
      have tab21 := tab19.ext ss
      generalize upd (upd H20 t1 _) t2 _ = H21 at e21 tab21 ⊢
      clear ss da db k hv r D19 i19 e19 tab19
      refine ⟨tab21, fun H22 en22 tab22 => ?_⟩
      have e22 := e21.trans en22
      have D22 := D16.ext e22
      obtain ⟨dx22, _, _, _, _, i22, _⟩ := id D22
      refine ⟨_, rfl, x, dx22, _, rfl, i22, df_no, _, rfl, ?_⟩
      have od22 := od0.ext e22
      dsimp only [tNil, List.append_nil]
      refine ⟨x, y, ls, us', d, rfl, D22, O.nd, isW_has O iw, od22, fun dd H23 r => ?_⟩
      obtain ⟨v', hv, k⟩ := asked_end (K := K) (tag := "no") (by decide +kernel) od22 r.same r.at_
      refine .inr <| .inr <| .inr <| .inr <| .inr <| .inl ⟨rfl, dd, v', rfl, hv, fun t1 nt1 => ⟨_, rfl, by show 2 ≤ sizeLine; decide, fun t2 nt2 => ?_⟩⟩
      obtain ⟨Dt, da, db, sh, ss⟩ := k t1 nt1 t2 nt2
      exact ⟨Dt, da, db, sh, _, rfl, iteF ⟨some y, rfl, e22.trans (ext_of ss), tab22.ext ss⟩⟩
    rintro σ H17 ⟨a, rfl, e17, tab17⟩
    have pen17 := pen16.ext e17
    have ht17 := e17 _ _ ht16 fun _ z => nomatch z
    have D17 := D16.ext e17
    clear pen16 ht16 tab16 D16 e17 hL1 odds
    -- a word that is there
    refine ⟨_, rfl, _, rfl, pn, cl, t, _, _, rfl, pen17, by omega, ht17, by rw [strs_len]; exact pos, by rw [strs_len]; omega, fun y H18 my b18 pen18 => ?_⟩
    obtain ⟨wd, mw, rfl⟩ := List.mem_map.mp my
    have tab18 := tabs_but tab17 pen17 b18
    have ht18 := lst_but ht17 pen17 b18
    have D18 := D17.but pen17 b18
    clear tab17 ht17 D17 pen17 b18
    have lwd := (wu wd mw).1
    have nwd : Nch wd := O.nch wd mw
    refine ⟨tab18, fun H19 en19 tab19 => ?_⟩
    have D19 := D18.ext en19
    have pen19 := pen18.ext en19
    have ht19 := en19 _ _ ht18 fun _ z => nomatch z
    clear tab18 D18 pen18 ht18 en19
    obtain ⟨dx19, _, _, _, _, i19, _⟩ := id D19
    refine ⟨_, rfl, x, dx19, _, rfl, i19, df_no, _, rfl, ?_⟩
    dsimp only [tNil, List.append_nil]
    refine ⟨x, _, ls, us', rfl, D19, O, pos, tab19, .inr <| .inl ⟨wd, rfl, mw, fun dd H20 r => ?_⟩⟩
    obtain ⟨v', hv, k⟩ := asked_end (K := K) (tag := "old") (by decide +kernel) (.flat (flat_S nwd)) r.same r.at_
    refine .inr <| .inr <| .inr <| .inr <| .inl ⟨rfl, dd, v', rfl, hv, fun t1 nt1 => ⟨_, rfl, by show 2 ≤ sizeLine; decide, fun t2 nt2 => ?_⟩⟩
    obtain ⟨Dt, da, db, sh, ss⟩ := k t1 nt1 t2 nt2
    refine ⟨Dt, da, db, sh, _, rfl, iteF ?_⟩
    have D21 := D19.same ss
    have tab21 := tab19.ext ss
    have pen21 := pen19.same ss
    have ht21 := ss _ _ ht19
    generalize upd (upd H20 t1 _) t2 _ = H21 at D21 tab21 pen21 ht21 ⊢
    clear ss sh da db k hv r nt1 nt2 i19 D19 tab19 pen19 ht19
    -- one that is not there
    refine ⟨tab21, fun H22 en22 tab22 => ?_⟩
    have D22 := D21.ext en22
    have pen22 := pen21.ext en22
    have ht22 := en22 _ _ ht21 fun _ z => nomatch z
    clear tab21 D21 pen21 ht21 en22
    obtain ⟨dx22, _, _, _, _, i22, _⟩ := id D22
    refine ⟨_, rfl, x, dx22, _, rfl, i22, df_no, _, rfl, _, rfl, S ls, _, _, rfl, rfl, sS, atI_nat (j := 0) hl0, S [ls[0]], 5, rfl, rfl, by decide, by decide, by rw [S_len]; show 1 ≤ 1; decide, by rw [S_len]; show 1 ≤ 1000; decide, ?_⟩
    rw [rep_one]
    refine ⟨_, _, rfl, rfl, Nat.le_of_lt (small10 (by rw [S_len, S_len, List.length_replicate]; show wd.length + 5 ≤ _; omega)), ?_⟩
    rw [S_app]
    have eno : hasW us' (.str (S (wd ++ List.replicate 5 ls[0]))) = false := decide_eq_false fun m => by
      have : (wd ++ List.replicate 5 ls[0]).length ≤ 4 := (wu _ m).1
      rw [List.length_append, List.length_replicate] at this
      omega
    have nwl : Nch (wd ++ List.replicate 5 ls[0]) := fun c h => by
      rcases List.mem_append.mp h with h | h
      · exact nwd c h
      · rw [List.eq_of_mem_replicate h]
        exact nl0
    dsimp only [tNil, List.append_nil]
    refine ⟨x, _, ls, us', _, rfl, D22, O.nd, eno, .flat (flat_S nwl), fun dd H23 r => ?_⟩
    obtain ⟨v', hv, k⟩ := asked_end (K := K) (tag := "no") (by decide +kernel) (.flat (flat_S nwl)) r.same r.at_
    refine .inr <| .inr <| .inr <| .inr <| .inr <| .inl ⟨rfl, dd, v', rfl, hv, fun t1 nt1 => ?_⟩
    refine ⟨_, rfl, _, rfl, S ls, _, _, rfl, rfl, sS, atI_nat (j := 0) hl0, S [ls[0]], 5, rfl, rfl, by decide, by decide, by rw [S_len]; show 1 ≤ 1; decide, by rw [S_len]; show 1 ≤ 1000; decide, ?_⟩
    rw [rep_one]
    refine ⟨_, _, rfl, rfl, Nat.le_of_lt (small10 (by rw [S_len, S_len, List.length_replicate]; show wd.length + 5 ≤ _; omega)), ?_⟩
    rw [S_app]
    refine ⟨by show 2 ≤ sizeLine; decide, fun t2 nt2 => ?_⟩
    obtain ⟨Dt, da, db, sh, ss⟩ := k t1 nt1 t2 nt2
    refine ⟨Dt, da, db, sh, _, rfl, iteF ?_⟩
    have D24 := D22.same ss
    have tab24 := tab22.ext ss
    have pen24 := pen22.same ss
    have ht24 := ss _ _ ht22
    generalize upd (upd H23 t1 _) t2 _ = H24 at D24 tab24 pen24 ht24 ⊢
    clear ss sh da db k hv r nt1 nt2 i22 D22 tab22 pen22 ht22 nwl eno
    -- the one of letters turned about
    have Lr : Lets ls.reverse := ⟨(List.reverse_perm ls).nodup_iff.mpr LL.L.nd, by rw [List.length_reverse]; omega, by rw [List.length_reverse]; omega, fun c h => LL.L.abc c (List.mem_reverse.mp h)⟩
    have nr : ls ≠ ls.reverse := fun z => by
      have g := nd_at (d := 0) LL.L.nd (i := 0) (j := ls.length - 1) (by omega) (by omega) (by
        rw [List.getD_eq_getElem?_getD, List.getD_eq_getElem?_getD]
        have : ls[ls.length - 1]? = ls.reverse[0]? := by
          rw [List.getElem?_reverse (by omega)]
          rfl
        rw [this, ← z])
      omega
    refine ⟨_, rfl, S ls, rfl, sS, _, rfl, mk_d (ls := ls.reverse) (ws := us') (.inl ht24) Lr O.nd O.many (fun u m => ⟨(O.word u m).1, fun c h => List.mem_reverse.mpr ((O.word u m).2 c h)⟩) tab24 fun x3 us3 H25 pu3 O3 ext D3 tab25 => ⟨rfl, ?_⟩⟩
    have D25 := D24.ext ext
    have pen25 := pen24.ext ext
    have ht25 := ext _ _ ht24 fun _ z => nomatch z
    clear D24 pen24 ht24 tab24 ext
    have fO : ∀ v ∈ [V.str "other"], Flat v := fun v m => by
      rw [List.mem_singleton.mp m]
      show PyData.strOk _ = true
      decide +kernel
    refine ⟨tab25, fun H26 en26 tab26 => ?_⟩
    have D26 := D25.ext en26
    have D36 := D3.ext en26
    have pen26 := pen25.ext en26
    have ht26 := en26 _ _ ht25 fun _ z => nomatch z
    clear D25 D3 pen25 ht25 tab25 en26
    obtain ⟨dx26, _, _, _, _, i26, _⟩ := id D26
    refine ⟨_, rfl, x, dx26, _, rfl, i26, df_no, _, rfl, ?_⟩
    dsimp only [tNil, List.append_nil]
    refine ⟨x, x3, ls, us', ls.reverse, us3, rfl, D26, O, D36, O3, .inl ⟨nr, fun H27 e27 => ?_⟩⟩
    refine .inr <| .inr <| .inr <| .inr <| .inr <| .inr ⟨rfl, fun t1 nt1 => ⟨by show 1 ≤ sizeLine; decide, fun t2 nt2 => ?_⟩⟩
    refine rSm_of nt1 nt2 fO fun H28 e28 => ⟨_, rfl, iteF ?_⟩
    have e268 := e27.trans e28
    have D28 := D26.same e268
    have D38 := D36.same e268
    have pen28 := pen26.same e268
    have ht28 := e268 _ _ ht26
    have tab28 := tab26.ext e268
    clear e268 e27 e28 nt1 nt2 i26 D26 D36 pen26 ht26 tab26
    refine ⟨tab28, fun H29 en29 tab29 => ?_⟩
    have D29 := D28.ext en29
    have D39 := D38.ext en29
    have pen29 := pen28.ext en29
    have ht29 := en29 _ _ ht28 fun _ z => nomatch z
    clear D28 D38 pen28 ht28 tab28 en29
    obtain ⟨dx29, _, _, _, _, i29, _⟩ := id D29
    refine ⟨_, rfl, x, dx29, _, rfl, i29, df_no, _, rfl, ?_⟩
    dsimp only [tNil, List.append_nil]
    refine ⟨x, x3, ls, us', ls.reverse, us3, rfl, D29, D39, nr, fun H30 e30 => ?_⟩
    refine .inr <| .inr <| .inr <| .inr <| .inr <| .inr ⟨rfl, fun t1 nt1 => ⟨by show 1 ≤ sizeLine; decide, fun t2 nt2 => ?_⟩⟩
    refine rSm_of nt1 nt2 fO fun H31 e31 => ⟨_, rfl, iteF ?_⟩
    have e291 := e30.trans e31
    have D31 := D29.same e291
    have pen31 := pen29.same e291
    have ht31 := e291 _ _ ht29
    have tab31 := tab29.ext e291
    clear e291 e30 e31 nt1 nt2 i29 D29 D39 pen29 ht29 tab29
    -- its words, and one that fits
    obtain ⟨dx31, pl, wt, kk, nn, i31, _, i33, _⟩ := id D31
    refine ⟨_, rfl, x, C, dx31, _, _, rfl, i31, T0.cl, T0.nW, df_words _ _ _ _ _ _, _, rfl, .inl ⟨t, _, rfl, SqL.of ht31, fun tt ntt => ?_⟩⟩
    have e32 : Same H31 (upd H31 tt (.tup (txs us'))) := same_new ntt
    have htt : upd H31 tt (.tup (txs us')) tt = some (.tup (txs us')) := upd_same
    generalize upd H31 tt (.tup (txs us')) = H32 at e32 htt ⊢
    refine ⟨wt, tt, us', us', rfl, rfl, .inr ⟨SqT.of (e32 _ _ i33), SqT.of htt⟩, O.nch, O.nch, _, rfl, ?_⟩
    rw [decide_eq_true (rfl : us' = us')]
    refine iteF ?_
    have D32 := D31.same e32
    have pen32 := pen31.same e32
    have tab32 := tab31.ext e32
    clear i31 i33 D31 pen31 ht31 tab31 e32 htt ntt
    refine ⟨tab32, fun H33 en33 tab33 => ?_⟩
    have D33 := D32.ext en33
    have pen33 := pen32.ext en33
    clear D32 pen32 tab32 en33
    obtain ⟨dx33, _, _, _, _, i33, _⟩ := id D33
    refine ⟨_, rfl, x, dx33, _, rfl, i33, df_no, _, rfl, S ls, _, _, rfl, rfl, sS, atI_nat (j := 0) hl0, S [ls[0]], 200, rfl, rfl, by decide, by decide, by rw [S_len]; show 1 ≤ 1; decide, by rw [S_len]; show 1 ≤ 1000; decide, ?_⟩
    rw [rep_one]
    dsimp only [tNil, List.append_nil]
    refine ⟨x, _, ls, us', rfl, D33, O, pos, tab33, .inr <| .inr ⟨List.replicate 200 ls[0], rfl, by rw [List.length_replicate]; decide, fun c h => by rw [List.eq_of_mem_replicate h]; exact ml0, fun m => ?_, .inr ⟨by omega, by omega, fun v' H34 ext34 tab34 => ?_⟩⟩⟩
    · have := (wu _ m).1
      rw [List.length_replicate] at this
      omega
    have fD : ∀ v ∈ [V.str "done"], Flat v := fun v m => by
      rw [List.mem_singleton.mp m]
      show PyData.strOk _ = true
      decide +kernel
    intro t1 nt1
    refine ⟨by show 1 ≤ sizeLine; decide, fun t2 nt2 => ?_⟩
    refine rSm_of nt1 nt2 fD fun H35 e35 => ⟨_, rfl, iteF ?_⟩
    have pen35 := (pen33.ext ext34).same e35
    have tab35 := tab34.ext e35
    clear nt1 nt2 pen33 ext34 e35 tab34 tab33 i33 D33
    refine ⟨_, rfl, pn, cl, _, _, rfl, pen35, by omega, by decide, by decide, fun r H36 r0 r1 b36 pen36 => ⟨_, _, rfl, rfl, _, rfl, ?_⟩⟩
    have tab36 := tabs_but tab35 pen35 b36
    cases decide (r > 0) with
    | true => exact q H36
    | false => exact ⟨_, rfl, ls, rfl, LL, tab36, fun H' => q H'⟩
end
end K02
set_option Elab.async false
set_option linter.all false
set_option maxRecDepth 100001
set_option maxHeartbeats 3999999
namespace K02
open PySem L2
/-! ### what the top leaves -/
/-- an own exception class as the rules want it -/
def oexB (K : PySem.W.Frag) (C : Addr) : Bool := (match K.lookup C with
  | some ⟨.type "type", _, .cls cd, sl⟩ => (match sl.toList, cd.mro with
    | [_, _, _, _, some (.builtin nw), _], .ref D :: bm => decide (D = C) && (decide (nw = "ValueError.__new__") && (!cd.hasDel && (cd.hasDict && PySem.HandSPX.refsVE bm)))
    | _, _ => false)
  | _ => false) && (He.eqO (PySem.W.findIn K (.ref C) "__setattr__") (some (some (.builtin "object.__setattr__"))) && (decide (PySem.W.subIn K (.ref C) (.type "BaseException") = some true) && (decide (PySem.W.typeIn K (.ref C) = some (.type "type")) && PySem.W.keepIn K (.ref C))))
theorem oexB_ok {K : PySem.W.Frag} {C : Addr} (h : oexB K C = true) : OexC K C := by
  obtain ⟨h1, h⟩ := He.ba h
  obtain ⟨h2, h⟩ := He.ba h
  obtain ⟨h3, h⟩ := He.ba h
  obtain ⟨h4, h5⟩ := He.ba h
  refine ⟨?_, He.eqO_ok h2, of_decide_eq_true h3, of_decide_eq_true h4, h5⟩
  split at h1
  · rename_i dd cd sl ho
    split at h1
    · rename_i x0 x1 x2 x3 nw x5 D bm hs hm
      obtain ⟨g1, g⟩ := He.ba h1
      obtain ⟨g2, g⟩ := He.ba g
      obtain ⟨g3, g⟩ := He.ba g
      obtain ⟨g4, g5⟩ := He.ba g
      have e1 := of_decide_eq_true g1
      have e2 := of_decide_eq_true g2
      subst e1 e2
      obtain ⟨nm, bs, mro, ns, qn, hd, sn, sub, ab, col, del⟩ := cd
      dsimp only at hm g3 g4
      subst hm g4
      have e3 : del = false := by
        cases del with
        | false => rfl
        | true => cases g3
      subst e3
      have hsl : sl = #[x0, x1, x2, x3, some (.builtin "ValueError.__new__"), x5] := by
        obtain ⟨l⟩ := sl
        have h' : l = _ := hs
        rw [h']
      subst hsl
      exact ⟨nm, qn, ns, bs, bm, sn, sub, ab, col, dd, x0, x1, x2, x3, x5, ho, g5⟩
    · cases h1
  · cases h1
def fa0 : List He.Fa := [.glo "is_whole", .glo "is_between", .glo "copied", .glo "are_letters", .glo "is_word", .glo "_law_pen", .glo "_law_draw", .glo "_law_pick", .glo "_law_letters", .glo "_law_word", .glo "_law_key", .glo "_law_ordered", .glo "_law_caught", .glo "_law_many_words", .glo "_law_full_right", .glo "_law_stranger", .glo "law", .glo "BadLetters", .glo "BadWord", .glo "TooMany", .glo "NotWord", .glo "OldWord", .glo "NoWord", .glo "OtherLetters", .glo "NumberMap", .glo "Dictionary", .free "isinstance", .free "int", .free "bool", .free "tuple"]
def fa1 : List He.Fa := [.free "list", .free "dict", .free "len", .free "enumerate", .free "range", .free "abs", .free "max", .free "min", .free "str", .free "all", .free "set", .free "sorted", .str "ALPHABET" (S abc), .int "LONGEST" 200, .cls "Dictionary", .mkr "Dictionary", .cls "NumberMap", .mkr "NumberMap", .noat "BadLetters" "letters", .noat "BadWord" "index", .noat "TooMany" "what", .noat "TooMany" "many", .noat "TooMany" "most", .noat "NotWord" "word", .noat "OldWord" "word", .noat "NoWord" "word", .noat "Dictionary" "letters", .noat "Dictionary" "_plain", .noat "Dictionary" "words", .noat "Dictionary" "many"]
def fa2 : List He.Fa := [.noat "Dictionary" "_keys", .noat "Dictionary" "_numbers", .noat "NumberMap" "many", .noat "NumberMap" "numbers", .meth "BadLetters" "__init__", .meth "BadWord" "__init__", .meth "TooMany" "__init__", .meth "NotWord" "__init__", .meth "OldWord" "__init__", .meth "NoWord" "__init__", .meth "OtherLetters" "__init__", .meth "NumberMap" "__init__", .meth "Dictionary" "__init__", .meth "Dictionary" "_key_of", .meth "Dictionary" "_keys_ahead", .meth "Dictionary" "has_word", .meth "Dictionary" "number_of", .meth "Dictionary" "place_for", .meth "Dictionary" "put_in", .meth "Dictionary" "strike_out", .meth "Dictionary" "join_with", .meth "Dictionary" "map_to", .exm "BadLetters" "BadLetters" true, .exm "BadWord" "BadWord" true, .exm "TooMany" "TooMany" true, .exm "NotWord" "NotWord" true, .exm "OldWord" "OldWord" true, .exm "NoWord" "NoWord" true, .exm "OtherLetters" "OtherLetters" true, .exm "BadWord" "BadLetters" false]
def fa3 : List He.Fa := [.exm "TooMany" "BadLetters" false, .exm "TooMany" "BadWord" false, .exm "NotWord" "BadLetters" false, .exm "NotWord" "BadWord" false, .exm "NotWord" "TooMany" false, .exm "OldWord" "BadLetters" false, .exm "OldWord" "BadWord" false, .exm "OldWord" "TooMany" false, .exm "OldWord" "NotWord" false, .exm "NoWord" "BadLetters" false, .exm "NoWord" "BadWord" false, .exm "NoWord" "TooMany" false, .exm "NoWord" "NotWord" false, .exm "NoWord" "OldWord" false, .exm "OtherLetters" "BadLetters" false, .exm "OtherLetters" "BadWord" false, .exm "OtherLetters" "TooMany" false, .exm "OtherLetters" "NotWord" false, .exm "OtherLetters" "OldWord" false, .exm "OtherLetters" "NoWord" false]
def faA : List He.Fa := fa0 ++ fa1 ++ fa2 ++ fa3
def dd0 : He.DefD := ⟨("is_whole", none), "is_whole", "is_whole", defArgs sWhole, defBody sWhole, defScope sWhole, [], []⟩
def dd1 : He.DefD := ⟨("is_between", none), "is_between", "is_between", defArgs sBetween, defBody sBetween, defScope sBetween, [], []⟩
def dd2 : He.DefD := ⟨("copied", none), "copied", "copied", defArgs sCopied, defBody sCopied, defScope sCopied, [], []⟩
def dd3 : He.DefD := ⟨("are_letters", none), "are_letters", "are_letters", defArgs sLetters, defBody sLetters, defScope sLetters, [], []⟩
def dd4 : He.DefD := ⟨("is_word", none), "is_word", "is_word", defArgs sIsWord, defBody sIsWord, defScope sIsWord, [], []⟩
def dd5 : He.DefD := ⟨("_law_pen", none), "_law_pen", "_law_pen", defArgs sPen, defBody sPen, defScope sPen, [], []⟩
def dd6 : He.DefD := ⟨("_law_draw", none), "_law_draw", "_law_draw", defArgs sDraw, defBody sDraw, defScope sDraw, [], []⟩
def dd7 : He.DefD := ⟨("_law_pick", none), "_law_pick", "_law_pick", defArgs sPick, defBody sPick, defScope sPick, [], []⟩
def dd8 : He.DefD := ⟨("_law_letters", none), "_law_letters", "_law_letters", defArgs sLLet, defBody sLLet, defScope sLLet, [], []⟩
def dd9 : He.DefD := ⟨("_law_word", none), "_law_word", "_law_word", defArgs sLWord, defBody sLWord, defScope sLWord, [], []⟩
def dd10 : He.DefD := ⟨("_law_key", none), "_law_key", "_law_key", defArgs sLKey, defBody sLKey, defScope sLKey, [], []⟩
def dd11 : He.DefD := ⟨("_law_ordered", none), "_law_ordered", "_law_ordered", defArgs sLOrd, defBody sLOrd, defScope sLOrd, [], []⟩
def dd12 : He.DefD := ⟨("_law_caught", none), "_law_caught", "_law_caught", defArgs sCau, defBody sCau, defScope sCau, [], []⟩
def dd13 : He.DefD := ⟨("_law_many_words", none), "_law_many_words", "_law_many_words", defArgs sMany, defBody sMany, defScope sMany, [], []⟩
def dd14 : He.DefD := ⟨("_law_full_right", none), "_law_full_right", "_law_full_right", defArgs sFull, defBody sFull, defScope sFull, [], []⟩
def dd15 : He.DefD := ⟨("_law_stranger", none), "_law_stranger", "_law_stranger", defArgs sLStr, defBody sLStr, defScope sLStr, [], []⟩
def dd16 : He.DefD := ⟨("law", none), "law", "law", defArgs sLaw, defBody sLaw, defScope sLaw, [], []⟩
def dd17 : He.DefD := ⟨("BadLetters", some "__init__"), "__init__", "BadLetters.__init__", defArgs sBadLet, defBody sBadLet, defScope sBadLet, [], []⟩
def dd18 : He.DefD := ⟨("BadWord", some "__init__"), "__init__", "BadWord.__init__", defArgs sBadWrd, defBody sBadWrd, defScope sBadWrd, [], []⟩
def dd19 : He.DefD := ⟨("TooMany", some "__init__"), "__init__", "TooMany.__init__", defArgs sTMany, defBody sTMany, defScope sTMany, [], []⟩
def dd20 : He.DefD := ⟨("NotWord", some "__init__"), "__init__", "NotWord.__init__", defArgs sNotWord, defBody sNotWord, defScope sNotWord, [], []⟩
def dd21 : He.DefD := ⟨("OldWord", some "__init__"), "__init__", "OldWord.__init__", defArgs sBadOld, defBody sBadOld, defScope sBadOld, [], []⟩
def dd22 : He.DefD := ⟨("NoWord", some "__init__"), "__init__", "NoWord.__init__", defArgs sNoWord, defBody sNoWord, defScope sNoWord, [], []⟩
def dd23 : He.DefD := ⟨("OtherLetters", some "__init__"), "__init__", "OtherLetters.__init__", defArgs sOLet, defBody sOLet, defScope sOLet, [], []⟩
def dd24 : He.DefD := ⟨("NumberMap", some "__init__"), "__init__", "NumberMap.__init__", defArgs sNMap, defBody sNMap, defScope sNMap, [], []⟩
def dd25 : He.DefD := ⟨("Dictionary", some "__init__"), "__init__", "Dictionary.__init__", defArgs sInit, defBody sInit, defScope sInit, [], []⟩
def dd26 : He.DefD := ⟨("Dictionary", some "_key_of"), "_key_of", "Dictionary._key_of", defArgs sKeyOf, defBody sKeyOf, defScope sKeyOf, [], []⟩
def dd27 : He.DefD := ⟨("Dictionary", some "_keys_ahead"), "_keys_ahead", "Dictionary._keys_ahead", defArgs sAhead, defBody sAhead, defScope sAhead, [], []⟩
def dd28 : He.DefD := ⟨("Dictionary", some "has_word"), "has_word", "Dictionary.has_word", defArgs sHasW, defBody sHasW, defScope sHasW, [], []⟩
def dd29 : He.DefD := ⟨("Dictionary", some "number_of"), "number_of", "Dictionary.number_of", defArgs sNumOf, defBody sNumOf, defScope sNumOf, [], []⟩
def dd30 : He.DefD := ⟨("Dictionary", some "place_for"), "place_for", "Dictionary.place_for", defArgs sPlace, defBody sPlace, defScope sPlace, [], []⟩
def dd31 : He.DefD := ⟨("Dictionary", some "put_in"), "put_in", "Dictionary.put_in", defArgs sPutIn, defBody sPutIn, defScope sPutIn, [], []⟩
def dd32 : He.DefD := ⟨("Dictionary", some "strike_out"), "strike_out", "Dictionary.strike_out", defArgs sStrike, defBody sStrike, defScope sStrike, [], []⟩
def dd33 : He.DefD := ⟨("Dictionary", some "join_with"), "join_with", "Dictionary.join_with", defArgs sJoin, defBody sJoin, defScope sJoin, [], []⟩
def dd34 : He.DefD := ⟨("Dictionary", some "map_to"), "map_to", "Dictionary.map_to", defArgs sMapTo, defBody sMapTo, defScope sMapTo, [], []⟩
def fnA : List He.DefD := [dd0, dd1, dd2, dd3, dd4, dd5, dd6, dd7, dd8, dd9, dd10, dd11, dd12, dd13, dd14, dd15, dd16, dd17, dd18, dd19, dd20, dd21, dd22, dd23, dd24, dd25, dd26, dd27, dd28, dd29, dd30, dd31, dd32, dd33, dd34]
abbrev iniD : Str × Option Str := ("Dictionary", some "__init__")
abbrev fulD : Str × Option Str := ("_law_full_right", none)
abbrev lawD : Str × Option Str := ("law", none)
/-- what else is asked of K, and of the tables ts -/
def exA (K : PySem.W.Frag) (ts : List Addr) : Bool := ((oexB K (He.ga K "BadLetters") && xfB K (He.ga K "BadLetters")) && (oexB K (He.ga K "BadWord") && xfB K (He.ga K "BadWord")) && (oexB K (He.ga K "TooMany") && xfB K (He.ga K "TooMany")) && (oexB K (He.ga K "NotWord") && xfB K (He.ga K "NotWord")) && (oexB K (He.ga K "OldWord") && xfB K (He.ga K "OldWord")) && (oexB K (He.ga K "NoWord") && xfB K (He.ga K "NoWord")) && (oexB K (He.ga K "OtherLetters") && xfB K (He.ga K "OtherLetters"))) && (decide ((He.cT K iniD).2 ∈ ts) && (decide ((He.cT K fulD).2 ∈ ts) && (decide ((He.cT K lawD).2 ∈ ts) && (decide ((He.cT K iniD).2 ≠ (He.cT K fulD).2) && (decide ((He.cT K iniD).2 ≠ (He.cT K lawD).2) && (decide ((He.cT K fulD).2 ≠ (He.cT K lawD).2) && (PySem.W.codeHdIn K (He.cT K iniD).1 (He.cT K iniD).2 && (PySem.W.codeHdIn K (He.cT K fulD).1 (He.cT K fulD).2 && (PySem.W.codeHdIn K (He.cT K lawD).1 (He.cT K lawD).2 && ((K.lookup (He.cT K iniD).2).isNone && ((K.lookup (He.cT K fulD).2).isNone && (K.lookup (He.cT K lawD).2).isNone)))))))))))
theorem fun_ofD {K : PySem.W.Frag} {x qual : Str} {st : Stmt} {f : Addr} {fd : FuncData} (F : FunD K x qual (defArgs st) (defBody st) (defScope st) [] [] f fd) : Fun K x qual st f fd := by
  obtain ⟨oc, od, dV, kV, doc, pm, an, cdv, ct, osl, e, lk, hcd, dv, _⟩ := F.ex
  rcases dv with ⟨_, rfl⟩ | ⟨h, _⟩
  · exact ⟨⟨oc, od, kV, doc, pm, an, cdv, ct, osl, e, lk, hcd⟩, F.kp⟩
  · exact absurd rfl h
theorem funL_of {K : PySem.W.Frag} {base : Heap} {mg : Str → Option Value} {x q : Str} {kq : Str × Option Str} {st : Stmt} {fd : FuncData} (F : Fun K x q st (He.fAd K kq) fd) (T : LamX.TabB base mg (He.cT K kq).1 (He.cT K kq).2) :
    FunL K base mg x q st (He.fAd K kq) (He.cT K kq).1 (He.cT K kq).2 fd := by
  obtain ⟨oc, od, kV, doc, pm, an, cdv, ct, osl, e, lk, hcd⟩ := F.ex
  obtain ⟨c, rfl⟩ := He.codeIn_ref hcd
  have e2 : (He.cT K kq).1 = c := by
    refine He.codeOf_eq lk ?_
    rw [e] <;> rfl
  exact ⟨⟨oc, od, kV, doc, pm, an, ct, osl, by rw [e2]; exact e, lk, by rw [e2]; exact hcd⟩, T⟩
theorem isNone_of {α : Type} {o : Option α} (h : o.isNone = true) : o = none := by
  cases o with
  | none => rfl
  | some _ => cases h
abbrev TbK (K : PySem.W.Frag) : List (Addr × Str) := [((He.cT K iniD).2, (("Dictionary.__init__.<locals>.<lambda>" : String) : Str)), ((He.cT K fulD).2, (("_law_full_right.<locals>.<lambda>" : String) : Str)), ((He.cT K lawD).2, (("law.<locals>.<lambda>" : String) : Str))]
/-- the law's promise, of what the top leaves -/
theorem at_law {l : PySem.W.OpenLaw} {w : World} {K : PySem.W.Frag} {h : Heap} {mg : Str → Option Value} {fl : Addr} {ts : List Addr} (KX : K.In h) (G : h.Ns mainGlobals mg) (hfl : mg ("law" : Str) = some (.ref fl)) (c : He.SaysD faA fnA K) (ex : exA K ts = true) (hT : ∀ P ∈ ts, h.get? P = some { cls := .none, data := .fields #[] }) :
    LamX.LawAtS l w K CX0 11 63 "_law_script" mg fl h := by
  obtain ⟨xE, ex⟩ := He.ba ex
  obtain ⟨t1, ex⟩ := He.ba ex
  obtain ⟨t2, ex⟩ := He.ba ex
  obtain ⟨t3, ex⟩ := He.ba ex
  obtain ⟨t4, ex⟩ := He.ba ex
  obtain ⟨t5, ex⟩ := He.ba ex
  obtain ⟨t6, ex⟩ := He.ba ex
  obtain ⟨t7, ex⟩ := He.ba ex
  obtain ⟨t8, ex⟩ := He.ba ex
  obtain ⟨t9, ex⟩ := He.ba ex
  obtain ⟨t10, ex⟩ := He.ba ex
  obtain ⟨t11, t12⟩ := He.ba ex
  obtain ⟨xE, z6⟩ := He.ba xE
  obtain ⟨xE, z5⟩ := He.ba xE
  obtain ⟨xE, z4⟩ := He.ba xE
  obtain ⟨xE, z3⟩ := He.ba xE
  obtain ⟨xE, z2⟩ := He.ba xE
  obtain ⟨xE, z1⟩ := He.ba xE
  obtain ⟨o0, f0⟩ := He.ba xE
  obtain ⟨o1, f1⟩ := He.ba z1
  obtain ⟨o2, f2⟩ := He.ba z2
  obtain ⟨o3, f3⟩ := He.ba z3
  obtain ⟨o4, f4⟩ := He.ba z4
  obtain ⟨o5, f5⟩ := He.ba z5
  obtain ⟨o6, f6⟩ := He.ba z6
  have B : Bi mg := ⟨He.free_ok KX G (c.fact 26 (f := .free "isinstance") rfl), He.free_ok KX G (c.fact 27 (f := .free "int") rfl), He.free_ok KX G (c.fact 28 (f := .free "bool") rfl), He.free_ok KX G (c.fact 29 (f := .free "tuple") rfl), He.free_ok KX G (c.fact 30 (f := .free "list") rfl), He.free_ok KX G (c.fact 31 (f := .free "dict") rfl), He.free_ok KX G (c.fact 32 (f := .free "len") rfl), He.free_ok KX G (c.fact 33 (f := .free "enumerate") rfl), He.free_ok KX G (c.fact 34 (f := .free "range") rfl), He.free_ok KX G (c.fact 35 (f := .free "abs") rfl), He.free_ok KX G (c.fact 36 (f := .free "max") rfl), He.free_ok KX G (c.fact 37 (f := .free "min") rfl)⟩
  have Bz : Bs mg := ⟨He.free_ok KX G (c.fact 38 (f := .free "str") rfl), He.free_ok KX G (c.fact 39 (f := .free "all") rfl), He.free_ok KX G (c.fact 40 (f := .free "set") rfl), He.free_ok KX G (c.fact 41 (f := .free "sorted") rfl)⟩
  obtain ⟨u1, g1⟩ := He.str_ok KX G (c.fact 42 (f := .str "ALPHABET" (S abc)) rfl)
  obtain ⟨u2, g2⟩ := He.int_ok KX G (c.fact 43 (f := .int "LONGEST" 200) rfl)
  have N : Cn mg := ⟨⟨_, g1, ⟨_, rfl⟩⟩, ⟨_, g2, ⟨_, rfl⟩⟩⟩
  obtain ⟨d0, D0⟩ := c.def_ 0 (d := dd0) rfl
  have F0 : Fun K "is_whole" "is_whole" sWhole (He.ga K "is_whole") d0 := fun_ofD D0
  have b0 : Binds K d0 ["value"] [] := F0.binds fun _ _ _ _ _ _ us hl => match us, hl with | [_], _ => rfl
  obtain ⟨d1, D1⟩ := c.def_ 1 (d := dd1) rfl
  have F1 : Fun K "is_between" "is_between" sBetween (He.ga K "is_between") d1 := fun_ofD D1
  have b1 : Binds K d1 ["value", "low", "high"] [] := F1.binds fun _ _ _ _ _ _ us hl => match us, hl with | [_, _, _], _ => rfl
  obtain ⟨d2, D2⟩ := c.def_ 2 (d := dd2) rfl
  have F2 : Fun K "copied" "copied" sCopied (He.ga K "copied") d2 := fun_ofD D2
  have b2 : Binds K d2 ["value"] [] := F2.binds fun _ _ _ _ _ _ us hl => match us, hl with | [_], _ => rfl
  obtain ⟨d3, D3⟩ := c.def_ 3 (d := dd3) rfl
  have F3 : Fun K "are_letters" "are_letters" sLetters (He.ga K "are_letters") d3 := fun_ofD D3
  have b3 : Binds K d3 ["value"] [] := F3.binds fun _ _ _ _ _ _ us hl => match us, hl with | [_], _ => rfl
  obtain ⟨d4, D4⟩ := c.def_ 4 (d := dd4) rfl
  have F4 : Fun K "is_word" "is_word" sIsWord (He.ga K "is_word") d4 := fun_ofD D4
  have b4 : Binds K d4 ["value", "letters"] [] := F4.binds fun _ _ _ _ _ _ us hl => match us, hl with | [_, _], _ => rfl
  obtain ⟨d5, D5⟩ := c.def_ 5 (d := dd5) rfl
  have F5 : Fun K "_law_pen" "_law_pen" sPen (He.ga K "_law_pen") d5 := fun_ofD D5
  have b5 : Binds K d5 ["_law_script"] [] := F5.binds fun _ _ _ _ _ _ us hl => match us, hl with | [_], _ => rfl
  obtain ⟨d6, D6⟩ := c.def_ 6 (d := dd6) rfl
  have F6 : Fun K "_law_draw" "_law_draw" sDraw (He.ga K "_law_draw") d6 := fun_ofD D6
  have b6 : Binds K d6 ["_law_pen_here", "_law_many"] [] := F6.binds fun _ _ _ _ _ _ us hl => match us, hl with | [_, _], _ => rfl
  obtain ⟨d7, D7⟩ := c.def_ 7 (d := dd7) rfl
  have F7 : Fun K "_law_pick" "_law_pick" sPick (He.ga K "_law_pick") d7 := fun_ofD D7
  have b7 : Binds K d7 ["_law_pen_here", "_law_some"] [] := F7.binds fun _ _ _ _ _ _ us hl => match us, hl with | [_, _], _ => rfl
  obtain ⟨d8, D8⟩ := c.def_ 8 (d := dd8) rfl
  have F8 : Fun K "_law_letters" "_law_letters" sLLet (He.ga K "_law_letters") d8 := fun_ofD D8
  have b8 : Binds K d8 ["_law_pen_here", "_law_most"] [] := F8.binds fun _ _ _ _ _ _ us hl => match us, hl with | [_, _], _ => rfl
  obtain ⟨d9, D9⟩ := c.def_ 9 (d := dd9) rfl
  have F9 : Fun K "_law_word" "_law_word" sLWord (He.ga K "_law_word") d9 := fun_ofD D9
  have b9 : Binds K d9 ["_law_pen_here", "_law_letters_here", "_law_most"] [] := F9.binds fun _ _ _ _ _ _ us hl => match us, hl with | [_, _, _], _ => rfl
  obtain ⟨d10, D10⟩ := c.def_ 10 (d := dd10) rfl
  have F10 : Fun K "_law_key" "_law_key" sLKey (He.ga K "_law_key") d10 := fun_ofD D10
  have b10 : Binds K d10 ["_law_letters_here", "_law_word_here"] [] := F10.binds fun _ _ _ _ _ _ us hl => match us, hl with | [_, _], _ => rfl
  obtain ⟨d11, D11⟩ := c.def_ 11 (d := dd11) rfl
  have F11 : Fun K "_law_ordered" "_law_ordered" sLOrd (He.ga K "_law_ordered") d11 := fun_ofD D11
  have b11 : Binds K d11 ["_law_letters_here", "_law_words"] [] := F11.binds fun _ _ _ _ _ _ us hl => match us, hl with | [_, _], _ => rfl
  obtain ⟨d12, D12⟩ := c.def_ 12 (d := dd12) rfl
  have F12 : Fun K "_law_caught" "_law_caught" sCau (He.ga K "_law_caught") d12 := fun_ofD D12
  have b12 : Binds K d12 ["_law_function"] [] := F12.binds fun _ _ _ _ _ _ us hl => match us, hl with | [_], _ => rfl
  obtain ⟨d13, D13⟩ := c.def_ 13 (d := dd13) rfl
  have F13 : Fun K "_law_many_words" "_law_many_words" sMany (He.ga K "_law_many_words") d13 := fun_ofD D13
  have b13 : Binds K d13 ["_law_letters_here", "_law_many"] [] := F13.binds fun _ _ _ _ _ _ us hl => match us, hl with | [_, _], _ => rfl
  obtain ⟨d14, D14⟩ := c.def_ 14 (d := dd14) rfl
  have F14 : Fun K "_law_full_right" "_law_full_right" sFull (He.ga K "_law_full_right") d14 := fun_ofD D14
  have b14 : Binds K d14 ["_law_letters_here"] [] := F14.binds fun _ _ _ _ _ _ us hl => match us, hl with | [_], _ => rfl
  obtain ⟨d15, D15⟩ := c.def_ 15 (d := dd15) rfl
  have F15 : Fun K "_law_stranger" "_law_stranger" sLStr (He.ga K "_law_stranger") d15 := fun_ofD D15
  have b15 : Binds K d15 ["_law_letters_here"] [] := F15.binds fun _ _ _ _ _ _ us hl => match us, hl with | [_], _ => rfl
  obtain ⟨d16, D16⟩ := c.def_ 16 (d := dd16) rfl
  have F16 : Fun K "law" "law" sLaw (He.ga K "law") d16 := fun_ofD D16
  have b16 : Binds K d16 ["_law_script"] [] := F16.binds fun _ _ _ _ _ _ us hl => match us, hl with | [_], _ => rfl
  obtain ⟨d17, D17⟩ := c.def_ 17 (d := dd17) rfl
  have F17 : Fun K "__init__" "BadLetters.__init__" sBadLet (He.ma K (He.ga K "BadLetters") "__init__") d17 := fun_ofD D17
  have b17 : Binds K d17 ["self", "letters"] [] := F17.binds fun _ _ _ _ _ _ us hl => match us, hl with | [_, _], _ => rfl
  have m17 : Meth K (He.ga K "BadLetters") "__init__" (He.ma K (He.ga K "BadLetters") "__init__") := He.meth_ok (c.fact 64 (f := .meth "BadLetters" "__init__") rfl)
  obtain ⟨d18, D18⟩ := c.def_ 18 (d := dd18) rfl
  have F18 : Fun K "__init__" "BadWord.__init__" sBadWrd (He.ma K (He.ga K "BadWord") "__init__") d18 := fun_ofD D18
  have b18 : Binds K d18 ["self", "index"] [] := F18.binds fun _ _ _ _ _ _ us hl => match us, hl with | [_, _], _ => rfl
  have m18 : Meth K (He.ga K "BadWord") "__init__" (He.ma K (He.ga K "BadWord") "__init__") := He.meth_ok (c.fact 65 (f := .meth "BadWord" "__init__") rfl)
  obtain ⟨d19, D19⟩ := c.def_ 19 (d := dd19) rfl
  have F19 : Fun K "__init__" "TooMany.__init__" sTMany (He.ma K (He.ga K "TooMany") "__init__") d19 := fun_ofD D19
  have b19 : Binds K d19 ["self", "what", "many", "most"] [] := F19.binds fun _ _ _ _ _ _ us hl => match us, hl with | [_, _, _, _], _ => rfl
  have m19 : Meth K (He.ga K "TooMany") "__init__" (He.ma K (He.ga K "TooMany") "__init__") := He.meth_ok (c.fact 66 (f := .meth "TooMany" "__init__") rfl)
  obtain ⟨d20, D20⟩ := c.def_ 20 (d := dd20) rfl
  have F20 : Fun K "__init__" "NotWord.__init__" sNotWord (He.ma K (He.ga K "NotWord") "__init__") d20 := fun_ofD D20
  have b20 : Binds K d20 ["self", "word"] [] := F20.binds fun _ _ _ _ _ _ us hl => match us, hl with | [_, _], _ => rfl
  have m20 : Meth K (He.ga K "NotWord") "__init__" (He.ma K (He.ga K "NotWord") "__init__") := He.meth_ok (c.fact 67 (f := .meth "NotWord" "__init__") rfl)
  obtain ⟨d21, D21⟩ := c.def_ 21 (d := dd21) rfl
  have F21 : Fun K "__init__" "OldWord.__init__" sBadOld (He.ma K (He.ga K "OldWord") "__init__") d21 := fun_ofD D21
  have b21 : Binds K d21 ["self", "word"] [] := F21.binds fun _ _ _ _ _ _ us hl => match us, hl with | [_, _], _ => rfl
  have m21 : Meth K (He.ga K "OldWord") "__init__" (He.ma K (He.ga K "OldWord") "__init__") := He.meth_ok (c.fact 68 (f := .meth "OldWord" "__init__") rfl)
  obtain ⟨d22, D22⟩ := c.def_ 22 (d := dd22) rfl
  have F22 : Fun K "__init__" "NoWord.__init__" sNoWord (He.ma K (He.ga K "NoWord") "__init__") d22 := fun_ofD D22
  have b22 : Binds K d22 ["self", "word"] [] := F22.binds fun _ _ _ _ _ _ us hl => match us, hl with | [_, _], _ => rfl
  have m22 : Meth K (He.ga K "NoWord") "__init__" (He.ma K (He.ga K "NoWord") "__init__") := He.meth_ok (c.fact 69 (f := .meth "NoWord" "__init__") rfl)
  obtain ⟨d23, D23⟩ := c.def_ 23 (d := dd23) rfl
  have F23 : Fun K "__init__" "OtherLetters.__init__" sOLet (He.ma K (He.ga K "OtherLetters") "__init__") d23 := fun_ofD D23
  have b23 : Binds K d23 ["self"] [] := F23.binds fun _ _ _ _ _ _ us hl => match us, hl with | [_], _ => rfl
  have m23 : Meth K (He.ga K "OtherLetters") "__init__" (He.ma K (He.ga K "OtherLetters") "__init__") := He.meth_ok (c.fact 70 (f := .meth "OtherLetters" "__init__") rfl)
  obtain ⟨d24, D24⟩ := c.def_ 24 (d := dd24) rfl
  have F24 : Fun K "__init__" "NumberMap.__init__" sNMap (He.ma K (He.ga K "NumberMap") "__init__") d24 := fun_ofD D24
  have b24 : Binds K d24 ["self", "many", "numbers"] [] := F24.binds fun _ _ _ _ _ _ us hl => match us, hl with | [_, _, _], _ => rfl
  have m24 : Meth K (He.ga K "NumberMap") "__init__" (He.ma K (He.ga K "NumberMap") "__init__") := He.meth_ok (c.fact 71 (f := .meth "NumberMap" "__init__") rfl)
  obtain ⟨d25, D25⟩ := c.def_ 25 (d := dd25) rfl
  have F25 : Fun K "__init__" "Dictionary.__init__" sInit (He.ma K (He.ga K "Dictionary") "__init__") d25 := fun_ofD D25
  have b25 : Binds K d25 ["self", "letters", "words"] [] := F25.binds fun _ _ _ _ _ _ us hl => match us, hl with | [_, _, _], _ => rfl
  have m25 : Meth K (He.ga K "Dictionary") "__init__" (He.ma K (He.ga K "Dictionary") "__init__") := He.meth_ok (c.fact 72 (f := .meth "Dictionary" "__init__") rfl)
  obtain ⟨d26, D26⟩ := c.def_ 26 (d := dd26) rfl
  have F26 : Fun K "_key_of" "Dictionary._key_of" sKeyOf (He.ma K (He.ga K "Dictionary") "_key_of") d26 := fun_ofD D26
  have b26 : Binds K d26 ["self", "word"] [] := F26.binds fun _ _ _ _ _ _ us hl => match us, hl with | [_, _], _ => rfl
  have m26 : Meth K (He.ga K "Dictionary") "_key_of" (He.ma K (He.ga K "Dictionary") "_key_of") := He.meth_ok (c.fact 73 (f := .meth "Dictionary" "_key_of") rfl)
  obtain ⟨d27, D27⟩ := c.def_ 27 (d := dd27) rfl
  have F27 : Fun K "_keys_ahead" "Dictionary._keys_ahead" sAhead (He.ma K (He.ga K "Dictionary") "_keys_ahead") d27 := fun_ofD D27
  have b27 : Binds K d27 ["self", "key"] [] := F27.binds fun _ _ _ _ _ _ us hl => match us, hl with | [_, _], _ => rfl
  have m27 : Meth K (He.ga K "Dictionary") "_keys_ahead" (He.ma K (He.ga K "Dictionary") "_keys_ahead") := He.meth_ok (c.fact 74 (f := .meth "Dictionary" "_keys_ahead") rfl)
  obtain ⟨d28, D28⟩ := c.def_ 28 (d := dd28) rfl
  have F28 : Fun K "has_word" "Dictionary.has_word" sHasW (He.ma K (He.ga K "Dictionary") "has_word") d28 := fun_ofD D28
  have b28 : Binds K d28 ["self", "word"] [] := F28.binds fun _ _ _ _ _ _ us hl => match us, hl with | [_, _], _ => rfl
  have m28 : Meth K (He.ga K "Dictionary") "has_word" (He.ma K (He.ga K "Dictionary") "has_word") := He.meth_ok (c.fact 75 (f := .meth "Dictionary" "has_word") rfl)
  obtain ⟨d29, D29⟩ := c.def_ 29 (d := dd29) rfl
  have F29 : Fun K "number_of" "Dictionary.number_of" sNumOf (He.ma K (He.ga K "Dictionary") "number_of") d29 := fun_ofD D29
  have b29 : Binds K d29 ["self", "word"] [] := F29.binds fun _ _ _ _ _ _ us hl => match us, hl with | [_, _], _ => rfl
  have m29 : Meth K (He.ga K "Dictionary") "number_of" (He.ma K (He.ga K "Dictionary") "number_of") := He.meth_ok (c.fact 76 (f := .meth "Dictionary" "number_of") rfl)
  obtain ⟨d30, D30⟩ := c.def_ 30 (d := dd30) rfl
  have F30 : Fun K "place_for" "Dictionary.place_for" sPlace (He.ma K (He.ga K "Dictionary") "place_for") d30 := fun_ofD D30
  have b30 : Binds K d30 ["self", "word"] [] := F30.binds fun _ _ _ _ _ _ us hl => match us, hl with | [_, _], _ => rfl
  have m30 : Meth K (He.ga K "Dictionary") "place_for" (He.ma K (He.ga K "Dictionary") "place_for") := He.meth_ok (c.fact 77 (f := .meth "Dictionary" "place_for") rfl)
  obtain ⟨d31, D31⟩ := c.def_ 31 (d := dd31) rfl
  have F31 : Fun K "put_in" "Dictionary.put_in" sPutIn (He.ma K (He.ga K "Dictionary") "put_in") d31 := fun_ofD D31
  have b31 : Binds K d31 ["self", "word"] [] := F31.binds fun _ _ _ _ _ _ us hl => match us, hl with | [_, _], _ => rfl
  have m31 : Meth K (He.ga K "Dictionary") "put_in" (He.ma K (He.ga K "Dictionary") "put_in") := He.meth_ok (c.fact 78 (f := .meth "Dictionary" "put_in") rfl)
  obtain ⟨d32, D32⟩ := c.def_ 32 (d := dd32) rfl
  have F32 : Fun K "strike_out" "Dictionary.strike_out" sStrike (He.ma K (He.ga K "Dictionary") "strike_out") d32 := fun_ofD D32
  have b32 : Binds K d32 ["self", "word"] [] := F32.binds fun _ _ _ _ _ _ us hl => match us, hl with | [_, _], _ => rfl
  have m32 : Meth K (He.ga K "Dictionary") "strike_out" (He.ma K (He.ga K "Dictionary") "strike_out") := He.meth_ok (c.fact 79 (f := .meth "Dictionary" "strike_out") rfl)
  obtain ⟨d33, D33⟩ := c.def_ 33 (d := dd33) rfl
  have F33 : Fun K "join_with" "Dictionary.join_with" sJoin (He.ma K (He.ga K "Dictionary") "join_with") d33 := fun_ofD D33
  have b33 : Binds K d33 ["self", "other"] [] := F33.binds fun _ _ _ _ _ _ us hl => match us, hl with | [_, _], _ => rfl
  have m33 : Meth K (He.ga K "Dictionary") "join_with" (He.ma K (He.ga K "Dictionary") "join_with") := He.meth_ok (c.fact 80 (f := .meth "Dictionary" "join_with") rfl)
  obtain ⟨d34, D34⟩ := c.def_ 34 (d := dd34) rfl
  have F34 : Fun K "map_to" "Dictionary.map_to" sMapTo (He.ma K (He.ga K "Dictionary") "map_to") d34 := fun_ofD D34
  have b34 : Binds K d34 ["self", "other"] [] := F34.binds fun _ _ _ _ _ _ us hl => match us, hl with | [_, _], _ => rfl
  have m34 : Meth K (He.ga K "Dictionary") "map_to" (He.ma K (He.ga K "Dictionary") "map_to") := He.meth_ok (c.fact 81 (f := .meth "Dictionary" "map_to") rfl)
  have q_BadLetters_letters : PySem.W.findIn K (.ref (He.ga K "BadLetters")) "letters" = some none := He.noat_ok (c.fact 48 (f := .noat "BadLetters" "letters") rfl)
  have q_BadWord_index : PySem.W.findIn K (.ref (He.ga K "BadWord")) "index" = some none := He.noat_ok (c.fact 49 (f := .noat "BadWord" "index") rfl)
  have q_TooMany_what : PySem.W.findIn K (.ref (He.ga K "TooMany")) "what" = some none := He.noat_ok (c.fact 50 (f := .noat "TooMany" "what") rfl)
  have q_TooMany_many : PySem.W.findIn K (.ref (He.ga K "TooMany")) "many" = some none := He.noat_ok (c.fact 51 (f := .noat "TooMany" "many") rfl)
  have q_TooMany_most : PySem.W.findIn K (.ref (He.ga K "TooMany")) "most" = some none := He.noat_ok (c.fact 52 (f := .noat "TooMany" "most") rfl)
  have q_NotWord_word : PySem.W.findIn K (.ref (He.ga K "NotWord")) "word" = some none := He.noat_ok (c.fact 53 (f := .noat "NotWord" "word") rfl)
  have q_OldWord_word : PySem.W.findIn K (.ref (He.ga K "OldWord")) "word" = some none := He.noat_ok (c.fact 54 (f := .noat "OldWord" "word") rfl)
  have q_NoWord_word : PySem.W.findIn K (.ref (He.ga K "NoWord")) "word" = some none := He.noat_ok (c.fact 55 (f := .noat "NoWord" "word") rfl)
  have q_Dictionary_letters : PySem.W.findIn K (.ref (He.ga K "Dictionary")) "letters" = some none := He.noat_ok (c.fact 56 (f := .noat "Dictionary" "letters") rfl)
  have q_Dictionary__plain : PySem.W.findIn K (.ref (He.ga K "Dictionary")) "_plain" = some none := He.noat_ok (c.fact 57 (f := .noat "Dictionary" "_plain") rfl)
  have q_Dictionary_words : PySem.W.findIn K (.ref (He.ga K "Dictionary")) "words" = some none := He.noat_ok (c.fact 58 (f := .noat "Dictionary" "words") rfl)
  have q_Dictionary_many : PySem.W.findIn K (.ref (He.ga K "Dictionary")) "many" = some none := He.noat_ok (c.fact 59 (f := .noat "Dictionary" "many") rfl)
  have q_Dictionary__keys : PySem.W.findIn K (.ref (He.ga K "Dictionary")) "_keys" = some none := He.noat_ok (c.fact 60 (f := .noat "Dictionary" "_keys") rfl)
  have q_Dictionary__numbers : PySem.W.findIn K (.ref (He.ga K "Dictionary")) "_numbers" = some none := He.noat_ok (c.fact 61 (f := .noat "Dictionary" "_numbers") rfl)
  have q_NumberMap_many : PySem.W.findIn K (.ref (He.ga K "NumberMap")) "many" = some none := He.noat_ok (c.fact 62 (f := .noat "NumberMap" "many") rfl)
  have q_NumberMap_numbers : PySem.W.findIn K (.ref (He.ga K "NumberMap")) "numbers" = some none := He.noat_ok (c.fact 63 (f := .noat "NumberMap" "numbers") rfl)
  have TX : Txd K (He.ga K "Dictionary") := ⟨He.cls_ok (c.fact 44 (f := .cls "Dictionary") rfl), q_Dictionary_letters, q_Dictionary__plain, q_Dictionary_words, q_Dictionary_many, q_Dictionary__keys, q_Dictionary__numbers⟩
  have MK : Mk K (He.ga K "Dictionary") (He.ma K (He.ga K "Dictionary") "__init__") := He.mkr_ok (c.fact 45 (f := .mkr "Dictionary") rfl)
  have ct_BadLetters : Ct K mg "BadLetters" (He.ga K "BadLetters") := ⟨(He.glo_ok KX G (c.fact 17 (f := .glo "BadLetters") rfl)), xfB_ok f0, He.exm_ok (c.fact 82 (f := .exm "BadLetters" "BadLetters" true) rfl)⟩
  have ct_BadWord : Ct K mg "BadWord" (He.ga K "BadWord") := ⟨(He.glo_ok KX G (c.fact 18 (f := .glo "BadWord") rfl)), xfB_ok f1, He.exm_ok (c.fact 83 (f := .exm "BadWord" "BadWord" true) rfl)⟩
  have ct_TooMany : Ct K mg "TooMany" (He.ga K "TooMany") := ⟨(He.glo_ok KX G (c.fact 19 (f := .glo "TooMany") rfl)), xfB_ok f2, He.exm_ok (c.fact 84 (f := .exm "TooMany" "TooMany" true) rfl)⟩
  have ct_NotWord : Ct K mg "NotWord" (He.ga K "NotWord") := ⟨(He.glo_ok KX G (c.fact 20 (f := .glo "NotWord") rfl)), xfB_ok f3, He.exm_ok (c.fact 85 (f := .exm "NotWord" "NotWord" true) rfl)⟩
  have ct_OldWord : Ct K mg "OldWord" (He.ga K "OldWord") := ⟨(He.glo_ok KX G (c.fact 21 (f := .glo "OldWord") rfl)), xfB_ok f4, He.exm_ok (c.fact 86 (f := .exm "OldWord" "OldWord" true) rfl)⟩
  have ct_NoWord : Ct K mg "NoWord" (He.ga K "NoWord") := ⟨(He.glo_ok KX G (c.fact 22 (f := .glo "NoWord") rfl)), xfB_ok f5, He.exm_ok (c.fact 87 (f := .exm "NoWord" "NoWord" true) rfl)⟩
  have ct_OtherLetters : Ct K mg "OtherLetters" (He.ga K "OtherLetters") := ⟨(He.glo_ok KX G (c.fact 23 (f := .glo "OtherLetters") rfl)), xfB_ok f6, He.exm_ok (c.fact 88 (f := .exm "OtherLetters" "OtherLetters" true) rfl)⟩
  have MM : Mk K (He.ga K "NumberMap") (He.ma K (He.ga K "NumberMap") "__init__") := He.mkr_ok (c.fact 47 (f := .mkr "NumberMap") rfl)
  have TM : TxM K (He.ga K "NumberMap") := ⟨He.cls_ok (c.fact 46 (f := .cls "NumberMap") rfl), q_NumberMap_many, q_NumberMap_numbers⟩
  have Ts : Cts K mg (He.ga K "BadLetters") (He.ga K "BadWord") (He.ga K "TooMany") (He.ga K "NotWord") (He.ga K "OldWord") (He.ga K "NoWord") (He.ga K "OtherLetters") := ⟨ct_BadLetters, ct_BadWord, ct_TooMany, ct_NotWord, ct_OldWord, ct_NoWord, ct_OtherLetters, q_BadLetters_letters, q_BadWord_index, q_TooMany_what, q_TooMany_many, q_TooMany_most, q_NotWord_word, q_OldWord_word, q_NoWord_word, He.exm_ok (c.fact 89 (f := .exm "BadWord" "BadLetters" false) rfl), He.exm_ok (c.fact 90 (f := .exm "TooMany" "BadLetters" false) rfl), He.exm_ok (c.fact 91 (f := .exm "TooMany" "BadWord" false) rfl), He.exm_ok (c.fact 92 (f := .exm "NotWord" "BadLetters" false) rfl), He.exm_ok (c.fact 93 (f := .exm "NotWord" "BadWord" false) rfl), He.exm_ok (c.fact 94 (f := .exm "NotWord" "TooMany" false) rfl), He.exm_ok (c.fact 95 (f := .exm "OldWord" "BadLetters" false) rfl), He.exm_ok (c.fact 96 (f := .exm "OldWord" "BadWord" false) rfl), He.exm_ok (c.fact 97 (f := .exm "OldWord" "TooMany" false) rfl), He.exm_ok (c.fact 98 (f := .exm "OldWord" "NotWord" false) rfl), He.exm_ok (c.fact 99 (f := .exm "NoWord" "BadLetters" false) rfl), He.exm_ok (c.fact 100 (f := .exm "NoWord" "BadWord" false) rfl), He.exm_ok (c.fact 101 (f := .exm "NoWord" "TooMany" false) rfl), He.exm_ok (c.fact 102 (f := .exm "NoWord" "NotWord" false) rfl), He.exm_ok (c.fact 103 (f := .exm "NoWord" "OldWord" false) rfl), He.exm_ok (c.fact 104 (f := .exm "OtherLetters" "BadLetters" false) rfl), He.exm_ok (c.fact 105 (f := .exm "OtherLetters" "BadWord" false) rfl), He.exm_ok (c.fact 106 (f := .exm "OtherLetters" "TooMany" false) rfl), He.exm_ok (c.fact 107 (f := .exm "OtherLetters" "NotWord" false) rfl), He.exm_ok (c.fact 108 (f := .exm "OtherLetters" "OldWord" false) rfl), He.exm_ok (c.fact 109 (f := .exm "OtherLetters" "NoWord" false) rfl)⟩
  have el : fl = He.ga K "law" := by
    have e := hfl.symm.trans (He.glo_ok KX G (c.fact 16 (f := .glo "law") rfl))
    cases e
    rfl
  subst el
  have n12 : (He.cT K iniD).2 ≠ (He.cT K fulD).2 := of_decide_eq_true t4
  have n13 : (He.cT K iniD).2 ≠ (He.cT K lawD).2 := of_decide_eq_true t5
  have n23 : (He.cT K fulD).2 ≠ (He.cT K lawD).2 := of_decide_eq_true t6
  refine ⟨d16, [He.cT K iniD, He.cT K fulD, He.cT K lawD], spLaw K (TbK K), ?_, ?_, ?_, ?_, ?_, ?_⟩
  · intro p hp
    simp only [List.mem_cons, List.not_mem_nil, or_false] at hp
    rcases hp with rfl | rfl | rfl
    · exact hT _ (of_decide_eq_true t1)
    · exact hT _ (of_decide_eq_true t2)
    · exact hT _ (of_decide_eq_true t3)
  · intro p hp
    simp only [List.mem_cons, List.not_mem_nil, or_false] at hp
    rcases hp with rfl | rfl | rfl
    · exact isNone_of t10
    · exact isNone_of t11
    · exact isNone_of t12
  · intro p hp
    simp only [List.mem_cons, List.not_mem_nil, or_false] at hp
    rcases hp with rfl | rfl | rfl
    · exact PySem.W.codeHd_of_K KX t7
    · exact PySem.W.codeHd_of_K KX t8
    · exact PySem.W.codeHd_of_K KX t9
  · exact fun s u => FunD.bindsA (ps := ["_law_script"]) D16 (fun _ _ _ _ _ _ us hl => match us, hl with | [_], _ => rfl) s [u] rfl
  · intro H a ns hl hb hH hS
    refine ⟨a, ns, rfl, hS, fun p hp => ?_, fun _ => rfl⟩
    simp only [List.mem_cons, List.not_mem_nil, or_false] at hp
    rcases hp with rfl | rfl | rfl
    · exact LamX.TabS.nil (hH (He.cT K iniD) List.mem_cons_self)
    · exact LamX.TabS.nil (hH (He.cT K fulD) (List.mem_cons_of_mem _ List.mem_cons_self))
    · exact LamX.TabS.nil (hH (He.cT K lawD) (List.mem_cons_of_mem _ (List.mem_cons_of_mem _ List.mem_cons_self)))
  · intro base KB GB TB
    have cWh : Cal CX0 l.prog w K mg base 1 "is_whole" spWhole := ⟨_, d0, _, ok_whole F0 B, (He.glo_ok KX G (c.fact 0 (f := .glo "is_whole") rfl)), F0.kp, b0⟩
    have cB : Cal CX0 l.prog w K mg base 2 "is_between" spBetween := ⟨_, d1, _, ok_between F1 cWh, (He.glo_ok KX G (c.fact 1 (f := .glo "is_between") rfl)), F1.kp, b1⟩
    have cC1 : Cal CX0 l.prog w K mg base 1 "copied" spCopied := ⟨_, d2, _, ok_copied F2 B, (He.glo_ok KX G (c.fact 2 (f := .glo "copied") rfl)), F2.kp, b2⟩
    have cC : Cal CX0 l.prog w K mg base 2 "copied" spCopy2 := ⟨_, d2, _, ok_copy2 F2 B cC1, (He.glo_ok KX G (c.fact 2 (f := .glo "copied") rfl)), F2.kp, b2⟩
    have xBadLetters : Xc l.prog w K mg base 3 "BadLetters" (He.ga K "BadLetters") (spXO K "letters") := ⟨oexB_ok o0, (He.glo_ok KX G (c.fact 17 (f := .glo "BadLetters") rfl)), _, d17, _, m17.at_, beq_iff_eq.mp m17.fn, ok_badLet F17 cC, b17⟩
    have xBadWord : Xc l.prog w K mg base 3 "BadWord" (He.ga K "BadWord") (spXO K "index") := ⟨oexB_ok o1, (He.glo_ok KX G (c.fact 18 (f := .glo "BadWord") rfl)), _, d18, _, m18.at_, beq_iff_eq.mp m18.fn, ok_badWrd F18 cC, b18⟩
    have xTooMany : Xc l.prog w K mg base 2 "TooMany" (He.ga K "TooMany") (spX3 K "what" "many" "most") := ⟨oexB_ok o2, (He.glo_ok KX G (c.fact 19 (f := .glo "TooMany") rfl)), _, d19, _, m19.at_, beq_iff_eq.mp m19.fn, ok_TMany F19 cC1, b19⟩
    have xNotWord : Xc l.prog w K mg base 3 "NotWord" (He.ga K "NotWord") (spXO K "word") := ⟨oexB_ok o3, (He.glo_ok KX G (c.fact 20 (f := .glo "NotWord") rfl)), _, d20, _, m20.at_, beq_iff_eq.mp m20.fn, ok_notWord F20 cC, b20⟩
    have xOldWord : Xc l.prog w K mg base 3 "OldWord" (He.ga K "OldWord") (spXO K "word") := ⟨oexB_ok o4, (He.glo_ok KX G (c.fact 21 (f := .glo "OldWord") rfl)), _, d21, _, m21.at_, beq_iff_eq.mp m21.fn, ok_badOld F21 cC, b21⟩
    have xNoWord : Xc l.prog w K mg base 3 "NoWord" (He.ga K "NoWord") (spXO K "word") := ⟨oexB_ok o5, (He.glo_ok KX G (c.fact 22 (f := .glo "NoWord") rfl)), _, d22, _, m22.at_, beq_iff_eq.mp m22.fn, ok_noWord F22 cC, b22⟩
    have xOtherLetters : Xc l.prog w K mg base 1 "OtherLetters" (He.ga K "OtherLetters") spX0 := ⟨oexB_ok o6, (He.glo_ok KX G (c.fact 23 (f := .glo "OtherLetters") rfl)), _, d23, _, m23.at_, beq_iff_eq.mp m23.fn, ok_OLet F23, b23⟩
    have cLt : Cal CX0 l.prog w K mg base 1 "are_letters" spLets := ⟨_, d3, _, ok_letters F3 B Bz N, (He.glo_ok KX G (c.fact 3 (f := .glo "are_letters") rfl)), F3.kp, b3⟩
    have cLv : Cal CX0 l.prog w K mg base 1 "are_letters" spLetsV := ⟨_, d3, _, ok_lettersV F3 B Bz N, (He.glo_ok KX G (c.fact 3 (f := .glo "are_letters") rfl)), F3.kp, b3⟩
    have cIw : Cal CX0 l.prog w K mg base 1 "is_word" spIsW := ⟨_, d4, _, ok_isWord F4 B Bz N, (He.glo_ok KX G (c.fact 4 (f := .glo "is_word") rfl)), F4.kp, b4⟩
    have mK : Met CX0 l.prog w K mg base 1 (He.ga K "Dictionary") "_key_of" (spKeyOf (He.ga K "Dictionary")) := ⟨_, d26, _, TX.cl, m26, ok_keyOf F26 TX, b26⟩
    have mA : Met CX0 l.prog w K mg base 1 (He.ga K "Dictionary") "_keys_ahead" (spAhead (He.ga K "Dictionary")) := ⟨_, d27, _, TX.cl, m27, ok_ahead F27 TX, b27⟩
    have mH : Met CX0 l.prog w K mg base 1 (He.ga K "Dictionary") "has_word" (spHas (He.ga K "Dictionary")) := ⟨_, d28, _, TX.cl, m28, ok_hasW F28 B Bz TX, b28⟩
    have mN : Met (L2.CX l.prog w) l.prog w K mg base 5 (He.ga K "Dictionary") "number_of" (spNumOf (He.ga K "Dictionary") (He.ga K "NoWord")) := ⟨_, d29, _, TX.cl, m29, ok_numOf F29 TX mH xNoWord q_NoWord_word, b29⟩
    have mP : Met (L2.CX l.prog w) l.prog w K mg base 5 (He.ga K "Dictionary") "place_for" (spPlace (He.ga K "Dictionary") (He.ga K "NotWord")) := ⟨_, d30, _, TX.cl, m30, ok_place F30 TX cIw mK mA xNotWord q_NotWord_word, b30⟩
    have L1 : FunL K base mg "__init__" "Dictionary.__init__" sInit (He.ma K (He.ga K "Dictionary") "__init__") (He.cT K iniD).1 (He.cT K iniD).2 d25 := funL_of (kq := iniD) F25 (TB _ List.mem_cons_self)
    have L2' : FunL K base mg "_law_full_right" "_law_full_right" sFull (He.ga K "_law_full_right") (He.cT K fulD).1 (He.cT K fulD).2 d14 := funL_of (kq := fulD) F14 (TB _ (List.mem_cons_of_mem _ List.mem_cons_self))
    have L3' : FunL K base mg "law" "law" sLaw (He.ga K "law") (He.cT K lawD).1 (He.cT K lawD).2 d16 := funL_of (kq := lawD) F16 (TB _ (List.mem_cons_of_mem _ (List.mem_cons_of_mem _ List.mem_cons_self)))
    have hu1 : ∀ p ∈ TbK K, p.1 = (He.cT K iniD).2 → p.2 = (("Dictionary.__init__.<locals>.<lambda>" : String) : Str) := fun p hp e => by
      simp only [List.mem_cons, List.not_mem_nil, or_false] at hp
      rcases hp with rfl | rfl | rfl
      · exact rfl
      · exact absurd e.symm n12
      · exact absurd e.symm n13
    have hu2 : ∀ p ∈ TbK K, p.1 = (He.cT K fulD).2 → p.2 = (("_law_full_right.<locals>.<lambda>" : String) : Str) := fun p hp e => by
      simp only [List.mem_cons, List.not_mem_nil, or_false] at hp
      rcases hp with rfl | rfl | rfl
      · exact absurd e n12
      · exact rfl
      · exact absurd e.symm n23
    have hu3 : ∀ p ∈ TbK K, p.1 = (He.cT K lawD).2 → p.2 = (("law.<locals>.<lambda>" : String) : Str) := fun p hp e => by
      simp only [List.mem_cons, List.not_mem_nil, or_false] at hp
      rcases hp with rfl | rfl | rfl
      · exact absurd e n13
      · exact absurd e n23
      · exact rfl
    have fD : FnOk l.prog w K mg base (L2.CX l.prog w) 5 (He.ma K (He.ga K "Dictionary") "__init__") d25 ["self", "letters", "words"] (spDic K (He.ga K "Dictionary") (He.ga K "BadLetters") (He.ga K "BadWord") (He.ga K "TooMany") (TbK K)) := FnOk.orr (FnOk.orr (FnOk.up (ok_init L1 B Bz N TX cLt cIw mK List.mem_cons_self hu1)) (ok_initE L1 B Bz N TX cLv cIw mK xBadLetters q_BadLetters_letters xBadWord q_BadWord_index List.mem_cons_self hu1)) (ok_initM L1 B cLv xTooMany ⟨q_TooMany_what, q_TooMany_many, q_TooMany_most⟩)
    have mk : Mak (L2.CX l.prog w) l.prog w K mg base 5 "Dictionary" (He.ga K "Dictionary") (spDic K (He.ga K "Dictionary") (He.ga K "BadLetters") (He.ga K "BadWord") (He.ga K "TooMany") (TbK K)) := ⟨_, d25, _, MK, fD, (He.glo_ok KX G (c.fact 25 (f := .glo "Dictionary") rfl)), b25⟩
    have mkM : Mak CX0 l.prog w K mg base 3 "NumberMap" (He.ga K "NumberMap") (spMap (He.ga K "NumberMap")) := ⟨_, d24, _, MM, ok_map F24 B TM cB, (He.glo_ok KX G (c.fact 24 (f := .glo "NumberMap") rfl)), b24⟩
    have mPut : Met (L2.CX l.prog w) l.prog w K mg base 7 (He.ga K "Dictionary") "put_in" (spPut (He.ga K "Dictionary") (He.ga K "NotWord") (He.ga K "OldWord") (He.ga K "TooMany") (TbK K)) := ⟨_, d31, _, TX.cl, m31, ok_put F31 B TX mP mH xOldWord q_OldWord_word mk mkM, b31⟩
    have mStk : Met (L2.CX l.prog w) l.prog w K mg base 6 (He.ga K "Dictionary") "strike_out" (spStrike (He.ga K "Dictionary") (He.ga K "NoWord")) := ⟨_, d32, _, TX.cl, m32, ok_strike F32 mN, b32⟩
    have mJ : Met (L2.CX l.prog w) l.prog w K mg base 7 (He.ga K "Dictionary") "join_with" (spJoin (He.ga K "Dictionary") (He.ga K "OtherLetters") (He.ga K "TooMany")) := ⟨_, d33, _, TX.cl, m33, ok_join F33 B TX xOtherLetters mH mk, b33⟩
    have mM : Met (L2.CX l.prog w) l.prog w K mg base 6 (He.ga K "Dictionary") "map_to" (spMapTo (He.ga K "Dictionary") (He.ga K "OtherLetters")) := ⟨_, d34, _, TX.cl, m34, ok_mapTo F34 TX xOtherLetters, b34⟩
    have cPn : Cal CX0 l.prog w K mg base 1 "_law_pen" (spPen K) := ⟨_, d5, _, ok_pen F5 B, (He.glo_ok KX G (c.fact 5 (f := .glo "_law_pen") rfl)), F5.kp, b5⟩
    have cD : Cal CX0 l.prog w K mg base 1 "_law_draw" spDraw := ⟨_, d6, _, ok_draw F6 B, (He.glo_ok KX G (c.fact 6 (f := .glo "_law_draw") rfl)), F6.kp, b6⟩
    have cP : Cal CX0 l.prog w K mg base 2 "_law_pick" spPick := ⟨_, d7, _, ok_pick F7 B cD, (He.glo_ok KX G (c.fact 7 (f := .glo "_law_pick") rfl)), F7.kp, b7⟩
    have cPk : Cal CX0 l.prog w K mg base 2 "_law_pick" spPickS := ⟨_, d7, _, ok_pickS F7 B cD, (He.glo_ok KX G (c.fact 7 (f := .glo "_law_pick") rfl)), F7.kp, b7⟩
    have cL : Cal CX0 l.prog w K mg base 3 "_law_letters" spLLet := ⟨_, d8, _, ok_llet F8 B cD, (He.glo_ok KX G (c.fact 8 (f := .glo "_law_letters") rfl)), F8.kp, b8⟩
    have cW : Cal CX0 l.prog w K mg base 3 "_law_word" spLWord := ⟨_, d9, _, ok_lword F9 B cD cPk, (He.glo_ok KX G (c.fact 9 (f := .glo "_law_word") rfl)), F9.kp, b9⟩
    have cKy : Cal CX0 l.prog w K mg base 1 "_law_key" spLKey := ⟨_, d10, _, ok_lkey F10, (He.glo_ok KX G (c.fact 10 (f := .glo "_law_key") rfl)), F10.kp, b10⟩
    have cO : Cal CX0 l.prog w K mg base 2 "_law_ordered" spLOrd := ⟨_, d11, _, ok_lord F11 B cKy, (He.glo_ok KX G (c.fact 11 (f := .glo "_law_ordered") rfl)), F11.kp, b11⟩
    have cS : Cal CX0 l.prog w K mg base 1 "_law_stranger" spLStr := ⟨_, d15, _, ok_lstr F15, (He.glo_ok KX G (c.fact 15 (f := .glo "_law_stranger") rfl)), F15.kp, b15⟩
    have cMw : Cal CX0 l.prog w K mg base 1 "_law_many_words" spMany := ⟨_, d13, _, ok_many F13 B, (He.glo_ok KX G (c.fact 13 (f := .glo "_law_many_words") rfl)), F13.kp, b13⟩
    have cF : Cal CX0 l.prog w K mg base 10 "_law_full_right" (spFull (TbK K)) := ⟨_, d14, _, ok_full L2' TX cMw mk mPut mJ F12 b12 (He.glo_ok KX G (c.fact 12 (f := .glo "_law_caught") rfl)) Ts (List.mem_cons_of_mem _ List.mem_cons_self) hu2, (He.glo_ok KX G (c.fact 14 (f := .glo "_law_full_right") rfl)), F14.kp, b14⟩
    exact ok_law L3' B TX cPn cD cP cL cW cO cS cF mk mPut mStk mJ mM F12 b12 (He.glo_ok KX G (c.fact 12 (f := .glo "_law_caught") rfl)) Ts (List.mem_cons_of_mem _ (List.mem_cons_of_mem _ List.mem_cons_self)) hu3
end K02
set_option Elab.async false
open PySem.W PySem PyProof.Rows in
set_option maxRecDepth 100001 in
set_option maxHeartbeats 0 in
theorem PySem.Challenge.cw_wordvault_k02_dictionaries_refused_holds : PySem.Challenge.rw_wordvault_k02_dictionaries_refused.Holds := by
  w_on; o_law
  k_head
  case hw => w_witness2
  k_fill
  refine LamX.walk_ofTs (l := PySem.Challenge.rw_wordvault_k02_dictionaries_refused) (n := 63) (k := 11) (x := "_law_script") (CX := fun _ => L2.CX0) rfl (by decide) rfl ⟨rfl, by decide, by decide⟩ (fun w h Y => PySem.W.km_in_of Y) ?F (fun _ _ _ _ _ z => z)
  case F =>
    intro w mg fa h Y KX G hmg
    refine K02.at_law KX G hmg ?c ?e (PySem.W.km_tabs_of Y)
    case c =>
      show He.obsD K02.faA K02.fnA _ = He.valD K02.fnA
      kernel_rfl
    case e => kernel_rfl
