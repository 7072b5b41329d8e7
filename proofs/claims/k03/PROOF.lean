import PyProof.Rows.All
import Wide.All
import OpenK.AllK
import Wide.FinOn
import HandS.ForExc
import HandS.ExcInit
import HandS.TryMany
import KE.GoesEnum
import HandS.ForMost
import HandS.Walk
import HandS.Lambda
import HandS.SortKw
import KE.KSortKey
import PyProof.Rows.SortStr
import PyProof.Rows.SortKeyStr
import HandS.Text
import KE.LtSeq
import KE.KRevSl
import PyProof.ListStr
import PyProof.StrOps2
import PyProof.SliceStr2
import PyProof.Rows.StrJoinStr
import HandS.Strs
import PyProof.StrWalks
import PyProof.CollectStr
import PyProof.Rows.StrOver
import KE.GoesMore
import HandS.DictComp
import HandS.NoneIn
import HandS.IsInst
import HandS.Conv
import HandS.Flow
import HandS.Deep
import HandS.Codes
import HandS.Wide
import HandS.TupAny
import HandS.EndTab
import HandS.ExcField
import HandS.Replace
import PyProof.StrLawsFirst
import HandS.WideBits
import HandS.Style
import HandS.Small
import HandS.HeadHook4
import KE.KNestM
import PySem.Challenge.RW_wordvault_k03_whole_histories_of_words
set_option Elab.async false
set_option maxRecDepth 100001
set_option maxHeartbeats 3999999
/-! raise C(), C an own class whose own __init__ stores nothing. -/
namespace L2
open PySem.Spec PySem PyProof.Rows
section
variable {X : Cx}
theorem mk_bare {pins : List (Addr × Obj)} {σ : St} {H1 H2 : Hp} {Q : XK} {hp hp2 h2 : Heap} {g1 g2 : Array GenState} {d1 d2 : Drawn} {t1 t2 : Nat} {o1 o2 : OsState} {a C : Addr} (T : Raises X (.ref C))
    (I1 : Inv X pins σ H1 ⟨hp, g1, d1, t1, o1⟩) (big : hp.objs.size ≤ a) (k : ∀ b o, hp.get? b = some o → hp2.get? b = some o) (un : Un (frs X.stack) [] (upd H1 a (exo a C none)) H2 hp2 h2)
    (hok : HOk X.prog X.w H2 h2) (ho : o2 = o1) (hb : AllBare g2) (ea : H2 a = some (exo a C none)) (q : Q (.ref C) none (del H2 a)) : MkP X pins σ Q (.ref a) ⟨h2, g2, d2, t2, o2⟩ := by
  obtain ⟨t0, he⟩ := exo_at hok ea
  have na : H1 a = none := I1.hok.fresh big
  obtain ⟨G, gyes, gno⟩ := restrict h2 fun b => decide (b ≠ a)
  have gk : ∀ b, b ≠ a → G.get? b = h2.get? b := fun b z => gyes b (decide_eq_true z)
  have ga : G.get? a = none := gno a (by simp)
  have ne : ∀ {b : Addr} {o : Obj}, hp.get? b = some o → b ≠ a := fun z => Nat.ne_of_lt (Nat.lt_of_lt_of_le (Heap.lt_size z) big)
  have free : ∀ {b : Addr}, b ≠ a → H1 b = none → upd H1 a (exo a C none) b = none := fun z n => (upd_ne z).trans n
  have U : Un (frs X.stack) [] H1 (del H2 a) hp G := {
    keep := fun b o z n hf hx => (gk b (ne z)).trans (un.keep b o (k b o z) (free (ne z) n) hf hx)
    slot := fun b o z n hf hx => let ⟨sl, e⟩ := un.slot b o (k b o z) (free (ne z) n) hf hx; ⟨sl, (gk b (ne z)).trans e⟩
    free := fun b o z n hx => (del_ne (ne z)).trans (un.free b o (k b o z) (free (ne z) n) hx)
    there := fun b o z hx => let ⟨o', e⟩ := un.there b o (k b o z) hx; ⟨o', (gk b (ne z)).trans e⟩
    tups := fun b xs z => (del_ne (ne_of_none z na)).trans (un.tups b xs ((upd_ne (ne_of_none z na)).trans z))
    frzs := fun b o v z => (del_ne (ne_of_none z na)).trans (un.frzs b o v ((upd_ne (ne_of_none z na)).trans z))
    tbls := fun b ps z => let ⟨m, e⟩ := un.tbls b ps ((upd_ne (ne_of_none z na)).trans z); ⟨m, (del_ne (ne_of_none z na)).trans e⟩ }
  have hG : HOk X.prog X.w (del H2 a) G := fun b o z => by
    have hba : b ≠ a := fun e => by
      rw [e, del_same] at z
      cases z
    rw [del_ne hba] at z
    have own : ∀ {c : Addr}, H2 c = some (.own b) → c ≠ a := fun hc => at_ne ea hc exo_own
    refine (hok b o z).stay (fun c v hc y => ?_) (fun c hc => (del_ne (own hc)).trans hc) fun c xs hc => (del_ne (at_ne ea hc exo_tup)).trans hc
    refine (gk c ?_).trans y
    rcases hc with rfl | hc
    · exact hba
    · exact own hc
  have J : Inv X pins σ (del H2 a) ⟨G, g2, d2, t2, o2⟩ := I1.call' (ch := []) ho U hG hb fun b z => absurd z (by simp)
  refine ⟨a, _, _, ⟨G, g2, d2, t2, o2⟩, _, .ref C, none, rfl, J, fun b o z => ?_, ga, he, ⟨rfl, rfl⟩, rfl, rfl, del_same, rfl, hb, T, q⟩
  have hba : b ≠ a := fun e => by
    rw [e] at z
    have z' : G.get? a = some o := z
    rw [ga] at z'
    cases z'
  exact (gk b hba).symm.trans z
/-- C(): what its __init__ keeps, at the fresh exception -/
def tMkO0 (C : Addr) (sp : Sp) : St → Hp → XK → Prop := fun _ H Q => ∀ a, H a = none → sp [.ref a] (upd H a (exo a C none)) (fun v H2 => v = .non ∧ H2 a = some (exo a C none) ∧ Q (.ref C) none (del H2 a)) (fun _ _ _ => False)
theorem pmk_oex0 {CX : CXT} {x : Str} {p pos : Pos} {C fI : Addr} {k : Nat} {fd : FuncData} {ps : List Str} {sp : Sp} (T : OexC X.K C) (iC : PySem.W.findIn X.K (.ref C) "__init__" = some (some (.ref fI))) (tI : PySem.W.typeIn X.K (.ref fI) = some (.type "function"))
    (F1 : FnOk X.prog X.w X.K X.mg X.base CX k fI fd ps sp) (hr : Room (k + 1) X.A) (hb : Binds X.K fd ps []) (hx : Passes CX X (fun _ _ _ => False)) (hg : Gl X x) (hm : X.mg x = some (.ref C)) (hdb : (x == ("__debug__" : Str)) = false := by decide) :
    PMk X (.Call (.Name x p) [] [] pos) (tMkO0 C sp) := by
  intro pins s σ H Q I h
  obtain ⟨nm, qn, N, bs, bm, sn, sb, ab, col, dd, j0, j1, j2, j3, j5, hC, hbm⟩ := T.cls
  refine wpAny_Call_Name_kw (ld_glob I hg hm ?_ hdb)
  refine PySem.W.callWith_K0 I.kIn T.kC ?_
  show wpAny _ _ (call (.ref C) []) _ _ _
  obtain ⟨hp, g, dr, tk, os⟩ := s
  have big : hp.objs.size ≤ hp.objs.size + 1 := Nat.le_succ _
  have hn : H (hp.objs.size + 1) = none := I.hok.fresh big
  have hq := h (hp.objs.size + 1) hn
  have kk : ∀ b o, hp.get? b = some o → ((hp.push (PySem.W.kdv_tup [])).push (PySem.HandSPX.excO C hp.objs.size)).get? b = some o := fun b o e => Heap.get?_push_of_some _ (Heap.get?_push_of_some _ e)
  have hget : ((hp.push (PySem.W.kdv_tup [])).push (PySem.HandSPX.excO C hp.objs.size)).get? (hp.objs.size + 1) = some (PySem.HandSPX.excO C hp.objs.size) := by heap_get
  have I2 : Inv X pins σ (upd H (hp.objs.size + 1) (exo (hp.objs.size + 1) C none)) ⟨(hp.push (PySem.W.kdv_tup [])).push (PySem.HandSPX.excO C hp.objs.size), g, dr, tk, os⟩ := I.laid (t' := tk) kk big (exo_ok hget)
  have r2 : Vals [V.ref (hp.objs.size + 1)] [Value.ref (hp.objs.size + 1)] := .cons rfl .nil
  have hl : ([Value.ref (hp.objs.size + 1)] ++ ([] : List Value)).length = ps.length := (F1.len _ _ _ _ hq)
  refine wpAny_call (PySem.HandSPX.call_own F.excBase_ValueError (fun Y => PySem.HandSPX.refsVE_contains Y bm hbm) (I.kIn _ _ hC) (PySem.W.looks_findIn I.kIn iC) (fun self => PySem.W.bind_fn I.kIn self tI) (by show 0 ≤ sizeLine; exact Nat.zero_le _)
    (codeAny_mono (F1.run _ X.stack _ _ ⟨[Value.ref (hp.objs.size + 1)], []⟩ [Value.ref (hp.objs.size + 1)] _ _ (fun _ _ _ => False) (hr.make C [] []) (I2.env0.make C [] []) (hb _ [Value.ref (hp.objs.size + 1)] I2.kIn hl) r2 hq) fun r s2 hq2 => ?_))
  cases r with
  | error er => exact hx pins σ _ _ er s2 I2 hq2
  | ok fl =>
    cases fl with
    | ret u =>
      obtain ⟨v, H2, os2, bare2, un2, hok2, rv, ev, ea, q2⟩ := hq2
      subst ev
      obtain ⟨h2, g2, d2, t2, o2⟩ := s2
      exact ⟨rv, mk_bare (raises_own T.exC T.tyC) I big kk un2 hok2 os2 bare2 ea q2⟩
    | next => exact hq2.elim
    | brk => exact hq2.elim
    | cont => exact hq2.elim
end
end L2
set_option Elab.async false
set_option maxRecDepth 100001
set_option maxHeartbeats 3999999
/-! try with several clauses, some of which name the exception. -/
namespace L2
open PySem.Spec PySem PyProof.Rows
/-- a clause: its class, the slot of its name, its suite's reading -/
abbrev Clause := Value × Option Nat × (Addr → Value → Option Addr → TS)
def endsOf : Option Nat → Ends → Ends
  | none, D => D
  | some i, D => ⟨fun σ H => D.nx (σ.set i none) H, D.rt, fun σ H => D.bk (σ.set i none) H, fun σ H => D.ct (σ.set i none) H⟩
def slotOf : Option Nat → Addr → St → St
  | none, _, σ => σ
  | some i, a, σ => σ.set i (some (.ref a))
def wClauses (K : PySem.W.Frag) (Wout : WX) (D : Ends) : List Clause → WX
  | [], cls, d, σ, H => Wout cls d σ H
  | (c, i, ts) :: r, cls, d, σ, H => ∃ b, PySem.W.exmOne K cls c = some b ∧ (b = true → ∀ a, H a = none → ts a cls d (endsOf i D) (slotOf i a σ) H) ∧ (b = false → wClauses K Wout D r cls d σ H)
def SuiteOk (X : Cx) (sts : List Stmt) (ts : Addr → Value → Option Addr → TS) : Prop :=
  ∀ (a : Addr) (oe : Obj) (cls : Value) (d : Option Addr) (pn : List (Addr × Obj)), Zc cls d oe → (∃ vs, oe.data = .fields vs) → PSs (X.suite a ((a, oe) :: pn)) sts (ts a cls d)
inductive ClausesOk (X : Cx) : List ExceptHandler → List Clause → Prop
  | nil : ClausesOk X [] []
  | plain {x c ts b₀ su np p2 hds l} (hc : Names X x c) (ok : SuiteOk X (b₀ :: su) ts) (r : ClausesOk X hds l) : ClausesOk X (.ExceptHandler (some (.Name x np)) none (b₀ :: su) p2 :: hds) ((c, none, ts) :: l)
  | named {x c ts b₀ su np p2 hds l n i} (hc : Names X x c) (hi : X.N[i]? = some n) (hn : X.env.kindOf n = some .local) (ok : SuiteOk X (b₀ :: su) ts) (r : ClausesOk X hds l) :
      ClausesOk X (.ExceptHandler (some (.Name x np)) (some n) (b₀ :: su) p2 :: hds) ((c, some i, ts) :: l)
section
variable {X : Cx} {pins : List (Addr × Obj)} {σ : St} {H : Hp} {z sI : Shared} {a : Addr} {cls : Value} {d : Option Addr} {B h : Heap} {D : Ends}
/-- an exception that has come to its try: what is known there -/
structure Come (X : Cx) (pins : List (Addr × Obj)) (σ : St) (H : Hp) (sI z : Shared) (a : Addr) (cls : Value) (d : Option Addr) (B h : Heap) : Prop where
  hs : X.stack = X.env :: X.outer
  hf : X.env.frame = some X.env.locals
  J : Inv X pins σ H sI
  nb : ∀ b o, sI.heap.get? b = some o → b ∉ frs X.stack → B.get? b = some o
  fl : HandSPX.FlyingZ B (X.env :: X.outer) a (Zc cls d) h
  up : sI.heap.UpToSlots h
  na : H a = none
  os : z.os = sI.os
  ag : AllBare z.gens
theorem Come.inv (C : Come X pins σ H sI z a cls d B h) : Inv X pins σ H { z with heap := h } := C.J.landed C.nb C.fl.1 C.up C.os C.ag
theorem Come.apart (C : Come X pins σ H sI z a cls d B h) : a ≠ X.env.locals ∧ a ∉ X.fs := by
  obtain ⟨oe, vs, he, _, hd⟩ := C.fl.there
  have no : a ∉ frs (X.env :: X.outer) := fun m => by
    obtain ⟨_, o, e, q⟩ := C.fl.2.2.1.mem m
    rw [he] at e
    cases e
    exact q _ hd
  refine ⟨fun e => no (List.mem_filterMap.mpr ⟨X.env, List.mem_cons_self, by rw [C.hf, e]⟩), fun m => ?_⟩
  obtain ⟨e, he, q⟩ := List.mem_filterMap.mp m
  exact no (List.mem_filterMap.mpr ⟨e, List.mem_cons_of_mem _ he, q⟩)
theorem Come.suite (C : Come X pins σ H sI z a cls d B h) : ∃ oe, Zc cls d oe ∧ (∃ vs, oe.data = .fields vs) ∧ h.get? a = some oe ∧ Inv (X.suite a ((a, oe) :: (X.pn ++ pins))) [] σ H { z with heap := h } := by
  obtain ⟨oe, vs, he, hz, hd⟩ := C.fl.there
  exact ⟨oe, hz, ⟨vs, hd⟩, he, C.inv.suite he hd C.na C.apart.1 C.apart.2⟩
theorem Come.step (C : Come X pins σ H sI z a cls d B h) {h2 : Heap} (fl : HandSPX.FlyingZ B (X.env :: X.outer) a (Zc cls d) h2) (up : h.UpToSlots h2) : Come X pins σ H sI z a cls d B h2 :=
  ⟨C.hs, C.hf, C.J, C.nb, fl, C.up.trans up, C.na, C.os, C.ag⟩
/-- the class of a clause is looked at -/
theorem Come.test (C : Come X pins σ H sI z a cls d B h) {x : Str} {c : Value} {np : Pos} {b : Bool} (hc : Names X x c) (hb : PySem.W.exmOne X.K cls c = some b) {Q : Bool → Shared → Prop} {E E2 : Value → Shared → Prop} (q : Q b { z with heap := h }) :
    wpAny (model X.prog X.w) (X.A.mark (some (.ref a))) (eval (.Name x np) X.env) (fun u s1 => wpAny (model X.prog X.w) (X.A.mark (some (.ref a))) (excMatches (.ref a) u) Q E2 s1) E { z with heap := h } := by
  obtain ⟨oe, hz, _, he, S⟩ := C.suite
  have LT : PySem.W.Looks (model X.prog X.w) h (typeOf (.ref a)) cls := fun _ _ _ _ k q2 => wpAny_typeOf_ref (k _ _ he) (by rw [hz.1]; exact q2)
  have LM := (PySem.W.exm_one (M := model X.prog X.w) C.inv.kIn LT hb).here (A := X.A.mark (some (.ref a))) (Q := Q) (E := E2) (s := { z with heap := h }) q
  obtain ⟨hg, hdb, hm | ⟨hm, hv, hnn⟩⟩ := hc
  · exact ld_glob (X := X.suite a ((a, oe) :: (X.pn ++ pins))) S hg hm LM hdb
  · exact ld_blt (X := X.suite a ((a, oe) :: (X.pn ++ pins))) S hg hm hv LM hnn hdb
/-- no clause is left: it goes on -/
theorem Come.on {Wout : WX} (C : Come X pins σ H sI z a cls d B h) (tk : Takes X Wout) (wo : Wout cls d σ H) :
    wpAny (model X.prog X.w) X.A (handleBy (.ref a) X.env []) (SP X pins D) X.xe { z with heap := h } := by
  refine wpAny_handleBy_nil ?_
  obtain ⟨_, _, _, oe, vs, T, oT, ts, he, _, hd, h1, _⟩ := id C.fl
  unfold PySem.passOn
  refine wpAny_bind (wpAny_field he hd h1 ?_)
  rw [if_neg (show ¬ ((Value.ref T == Value.none) = true) from by simp)]
  have fin : wpAny (model X.prog X.w) X.A (setFlight (.ref a) X.env.frame) (fun _ s4 => wpAny (model X.prog X.w) X.A (throw (.ref a) : Sem Flow) (SP X pins D) X.xe s4) X.xe { z with heap := h } := by
    rw [C.hf]
    refine HandSPX.setFlight_upZ C.fl fun h4 hh4 up4 => wpAny_throw (tk _ _ ?_)
    exact ⟨a, B, sI, pins, σ, H, cls, d, rfl, C.J, C.nb, C.up.trans up4, .inr (.inr (by rw [C.hs]; exact hh4)), C.na, C.os, C.ag, wo⟩
  first | exact wpAny_bind (wpAny_pure (wpAny_bind fin)) | exact wpAny_bind fin
theorem Come.run {Wout : WX} {hds : List ExceptHandler} {l : List Clause} (hN : X.N.Nodup) (tk : Takes X Wout) (ok : ClausesOk X hds l) : ∀ {h : Heap}, Come X pins σ H sI z a cls d B h → wClauses X.K Wout D l cls d σ H →
    wpAny (model X.prog X.w) X.A (handleBy (.ref a) X.env hds) (SP X pins D) X.xe { z with heap := h } := by
  induction ok with
  | nil => exact fun C w => C.on tk w
  | plain hc su r ih =>
    intro h C w
    obtain ⟨b, hb, yes, no⟩ := w
    refine wpAny_handleBy_cons (codeAny_handlers_test (C.test hc hb ?_)) (by intro q; cases q)
    cases b with
    | false => exact ih C (no rfl)
    | true =>
      refine codeAny_handlers_suite ?_
      refine HandSPX.lands_againZ C.fl fun h4 fl4 up4 => ?_
      have C4 := C.step fl4 up4
      obtain ⟨oe, hz, hd, he, S⟩ := C4.suite
      refine wpAny_mono ((su a oe cls d (X.pn ++ pins) hz hd).run [] _ _ H _ S (yes rfl a C.na)) (fun f s6 hsp => ?_) (fun _ _ q => False.elim q)
      cases f with
      | next => exact let ⟨_, _, S6, q6⟩ := hsp; ⟨_, _, S6.unsuite C.J.ok, q6⟩
      | brk => exact let ⟨_, _, S6, q6⟩ := hsp; ⟨_, _, S6.unsuite C.J.ok, q6⟩
      | cont => exact let ⟨_, _, S6, q6⟩ := hsp; ⟨_, _, S6.unsuite C.J.ok, q6⟩
      | ret u => exact let ⟨_, _, _, S6, r6, q6⟩ := hsp; ⟨_, _, _, S6.unsuite C.J.ok, r6, q6⟩
  | @named x c ts b₀ suite np p2 hds l n i hc hi hn su r ih =>
    intro h C w
    obtain ⟨b, hb, yes, no⟩ := w
    refine wpAny_handleBy_cons (codeAny_handlers_test (C.test hc hb ?_)) (by intro q; cases q)
    cases b with
    | false => exact ih C (no rfl)
    | true =>
      refine codeAny_handlers_suite_as ?_
      refine HandSPX.lands_againZ C.fl fun h4 fl4 up4 => ?_
      have C4 := C.step fl4 up4
      obtain ⟨oe, hz, hd, he, S⟩ := C4.suite
      refine store_ok (X := X.suite a ((a, oe) :: (X.pn ++ pins))) (v := .ref a) S hN hi (.inl hn) rfl (fun s5 S5 => ?_) (.inr hn)
      refine wpAny_mono ((su a oe cls d (X.pn ++ pins) hz hd).run [] s5 _ H _ S5 (yes rfl a C.na)) (fun f s6 hsp => ?_) (fun _ _ q => False.elim q)
      have away : ∀ {σ6 : St} {H6 : Hp} {Q : Shared → Prop}, Inv (X.suite a ((a, oe) :: (X.pn ++ pins))) [] σ6 H6 s6 → (∀ s7, Inv X pins (σ6.set i none) H6 s7 → Q s7) →
          wpAny (model X.prog X.w) X.A (do bindName X.env n .none; unbindBehindTheSuite X.env n p2) (fun _ s7 => Q s7) X.xe s6 := fun S6 hq => gone_ok (S6.unsuite C.J.ok) hN hi hn hq
      cases f with
      | next => exact let ⟨_, _, S6, q6⟩ := hsp; away S6 fun s7 J7 => ⟨_, _, J7, q6⟩
      | brk => exact let ⟨_, _, S6, q6⟩ := hsp; away S6 fun s7 J7 => ⟨_, _, J7, q6⟩
      | cont => exact let ⟨_, _, S6, q6⟩ := hsp; away S6 fun s7 J7 => ⟨_, _, J7, q6⟩
      | ret u => exact let ⟨_, _, _, S6, r6, q6⟩ := hsp; away S6 fun s7 J7 => ⟨_, _, _, J7, r6, q6⟩
end
/-- try: body / except C1 as n: .. / except C2: .. -/
theorem ps_try_clauses {X : Cx} {body : List Stmt} {hd₀ : ExceptHandler} {hds : List ExceptHandler} {l : List Clause} {pos : Pos} {tb : WX → TS} {Wout : WX} (hs : X.stack = X.env :: X.outer) (hf : X.env.frame = some X.env.locals) (hN : X.N.Nodup) (tk : Takes X Wout)
    (hb : ∀ (W : WX) (pn : List (Addr × Obj)) (xe : Value → Shared → Prop), Takes (X.tr pn xe) W → PassesOwn (model X.prog X.w) X.A X.env xe → PSs (X.tr pn xe) body (tb W)) (ok : ClausesOk X (hd₀ :: hds) l) :
    PS X (.Try body (hd₀ :: hds) [] [] pos) (fun D σ H => tb (wClauses X.K Wout D l) D σ H) := by
  constructor
  intro pins s σ H D I h
  have oX := I.ok
  have fr : X.A.frames = some (X.env :: X.outer) := by rw [oX.frames, hs]
  refine wpAny_Try_except ?_
  refine wpAny_mono ((hb (wClauses X.K Wout D l) (X.pn ++ pins) (fun e s₁ => wpAny (model X.prog X.w) X.A (noteFrame e X.env) (fun _ s₂ => wpAny (model X.prog X.w) X.A (setFlight e none) (fun _ s₃ =>
    wpAny (model X.prog X.w) X.A (handleBy e X.env (hd₀ :: hds)) (SP X pins D) X.xe s₃) X.xe s₂) X.xe s₁) (fun u s1 xx => ?_) PassesOwn.looking).run [] s σ H D (I.toTry _) h) (fun f s1 hsp => ?_) fun _ _ he => he
  · obtain ⟨a, B, sI, pins', σ', H', cls, d, rfl, J', nb, up, sky, na, os, ag, w⟩ := xx
    have sky' : Sky B (X.env :: X.outer) a (Zc cls d) X.env.locals s1.heap := by rw [← hs]; exact sky
    show wpAny (model X.prog X.w) X.A (noteFrame (.ref a) X.env) _ _ _
    refine Sky.land Zc.steady fr hf sky' fun h3 fl3 up3 => ?_
    exact Come.run (z := s1) hN tk ok ⟨hs, hf, J'.ofTry oX, nb, fl3, up.trans up3, na, os, ag⟩ w
  · cases f with
    | next => exact let ⟨σ', H', J', q⟩ := hsp; wpAny_execs_nil ⟨σ', H', J'.ofTry oX, q⟩
    | brk => exact let ⟨σ', H', J', q⟩ := hsp; ⟨σ', H', J'.ofTry oX, q⟩
    | cont => exact let ⟨σ', H', J', q⟩ := hsp; ⟨σ', H', J'.ofTry oX, q⟩
    | ret u => exact let ⟨v, σ', H', J', r, q⟩ := hsp; ⟨v, σ', H', J'.ofTry oX, r, q⟩
end L2
set_option Elab.async false
set_option maxRecDepth 100001
set_option maxHeartbeats 1999999
/-! enumerate over a tuple. -/
namespace PySem
theorem enumT_new {v : Value} {o : Obj} {G : Heap → Prop} (B : Begins v o G) : Meets (Builtin.«enumerate.__new__» ⟨[.type "enumerate", v], []⟩)
    (fun _ R z => G z.heap ∧ R (.ok (.ret (.ref (z.heap.push o).objs.size)))
      { z with heap := (z.heap.push o).push { cls := .type "enumerate", data := .fields #[.none, .bool false, .ref z.heap.objs.size, rawInt 0, .none, .none] } }) :=
  .of_wp fun P W A R z hz => by
    obtain ⟨hp, gs, dr, tk, os⟩ := z
    obtain ⟨g0, r0⟩ := hz
    have su := sub_enumerate
    have it0 : ∀ {A' : Around} {E : Value → Shared → Prop} {Q : Value → Shared → Prop}, Q (.ref hp.objs.size) ⟨hp.push o, gs, dr, tk, os⟩ → wpAny (model P W) A' (pyIter v) Q E ⟨hp, gs, dr, tk, os⟩ :=
      fun q => B.iter P W _ _ ⟨hp, gs, dr, tk, os⟩ _ g0 q
    wp_walk using it0
    refine wpAny_stack_any fun sk => wpAny_pure ?_
    split
    next c _ _ _ _ _ =>
      cases (c == Value.type "enumerate") <;> (wp_walk using it0; exact ⟨_, rfl, r0⟩)
    next => wp_walk using it0; exact ⟨_, rfl, r0⟩
theorem enumT_call {P : Program} {W : World} {A : Around} {E : Value → Shared → Prop} {z : Shared} {v : Value} {o : Obj} {G : Heap → Prop} {Q : Value → Shared → Prop} (B : Begins v o G) (g0 : G z.heap)
    (k : ∀ h2, IsEnum h2 (z.heap.objs.size + 1) z.heap.objs.size 0 .none → h2.get? z.heap.objs.size = some o → (∀ b u, z.heap.get? b = some u → h2.get? b = some u) → Q (.ref (z.heap.objs.size + 1)) { z with heap := h2 }) :
    wpAny (model P W) A (call (.type "enumerate") [v]) Q E z := by
  refine callType_new F.called_enumerate (by decide) (F.typeCall_enumerate_1 _) (F.newCall_enumerate_1 _) (fun ob => F.args_object_init_2 ob _) F.entry_enumerate_new (enumT_new B) ⟨g0, ?_⟩
  have sz : (z.heap.push o).objs.size = z.heap.objs.size + 1 := Heap.size_push ..
  show _ ∧ _
  rw [sz]
  have en : IsEnum ((z.heap.push o).push { cls := .type "enumerate", data := .fields #[.none, .bool false, .ref z.heap.objs.size, rawInt 0, .none, .none] }) (z.heap.objs.size + 1) z.heap.objs.size 0 .none := by
    have q := Heap.get?_push_size (z.heap.push o) (o := { cls := .type "enumerate", data := .fields #[.none, .bool false, .ref z.heap.objs.size, rawInt 0, .none, .none] }) rfl
    rw [sz] at q
    exact q
  exact ⟨⟨_, en, rfl⟩, k _ en (Heap.get?_push_of_some _ (Heap.get?_push_size _ B.free)) fun b u e => Heap.get?_push_of_some _ (Heap.get?_push_of_some _ e)⟩
end PySem
namespace L2
open PySem.Spec PySem PyProof.Rows
/-- the tuple at a, each item in a new pair behind its number -/
def ItEnT (K : PySem.W.Frag) (a : Addr) : It where
  go := fun i H => ∃ (xs : List V) (x : V), SqT K H a xs ∧ xs[i]? = some x
  yld := fun i H v H2 => ∃ p x, v = .ref p ∧ H p = none ∧ H2 = upd H p (.tup [.int (i : Nat), x]) ∧ ∀ xs, SqT K H a xs → xs[i]? = some x
  stop := fun i H => ∃ xs : List V, SqT K H a xs ∧ xs.length ≤ i
theorem two_of {b e d : Addr} (h : b ∈ [e, d]) : b = e ∨ b = d := by simpa using h
theorem turn_enT {P : Program} {W : World} {K : PySem.W.Frag} {es : List Expr} {kk : Nat} {tp : Pos} (a e d : Addr) :
    Turn P W K (.Tuple es kk tp) (ItEnT K a) [e, d] e (fun i h => (∃ was, IsEnum h e d ((i : Nat) : Int) was) ∧ h.IsTupleIter d a i ∧ e ≠ d) where
  mem := List.mem_cons_self
  obj := fun i h st b hb => by
    obtain ⟨⟨was, he⟩, ⟨o, ho, hc, hd⟩, _⟩ := st
    rcases two_of hb with rfl | rfl
    · exact ⟨_, he, fun _ q => nomatch q⟩
    · exact ⟨o, ho, fun _ q => by rw [hd] at q; cases q⟩
  keep := fun i h h2 st k => ⟨let ⟨was, he⟩ := st.1; ⟨was, k e (by simp) _ he⟩, st.2.1.at fun o q => k d (by simp) o q, st.2.2⟩
  item := by
    intro X hP hW hK hc i pins s σ H E I hf st hg
    subst hP hW hK
    obtain ⟨⟨was, he⟩, hit, hne⟩ := st
    obtain ⟨xs, x, hq, hx⟩ := hg
    obtain ⟨its, rv, p, hz⟩ := I.tuple hq
    obtain ⟨u, hu, ru⟩ := rv.get hx
    have le : e < s.heap.objs.size := Heap.lt_size he
    have ld : d < s.heap.objs.size := let ⟨_, q, _⟩ := hit; Heap.lt_size q
    have la : a < s.heap.objs.size := p.lt
    have had : a ≠ d := fun z => by
      obtain ⟨o1, h1, c1, _⟩ := hit
      obtain ⟨o2, h2, c2, _⟩ := p
      rw [z, h1] at h2
      have := Option.some.inj h2
      subst this
      rw [c1] at c2
      exact absurd c2 (by decide)
    have hae : a ≠ e := fun z => by
      obtain ⟨o2, h2, c2, _⟩ := p
      have h1 : s.heap.get? e = some _ := he
      rw [z, h1] at h2
      have := Option.some.inj h2
      subst this
      exact absurd (show Value.type "enumerate" = Value.type "tuple" from c2) (by decide)
    have hi : i < its.toArray.size := by
      have := (List.getElem?_eq_some_iff.mp hu).1
      simpa using this
    have D := Draws.tuple (prog := X.prog) (w := X.w) (A := X.A.in1) (I.ok.hd hc) d a had its.toArray
    refine wpAny_pyNext_enum_itemD (n := its.toArray.size) (i := i) D he ⟨hit, p⟩ hi hne (fun m => ?_) fun y h2 tk hy ho hs2 hT hsz hk => ?_
    · rcases two_of m with z | z
      · exact hne z
      · exact hae z.symm
    have ey : y = u := by
      have q : its.toArray[i]? = some u := by simpa using hu
      rw [hy] at q
      exact Option.some.inj q
    subst ey
    refine ⟨_, rfl, wpAny_letOwnedTupleGo_enum (s := { s with heap := h2, toks := tk + 1 }) ho fun h3 he3 sb => ?_⟩
    have hT3 : h3.get? s.heap.objs.size = some { cls := .type "tuple", data := .seq #[.int i tk, y] } := (sb.2 _ (Nat.ne_of_gt le)).trans hT
    have new : ObjOk X.prog X.w (upd H s.heap.objs.size (.tup [.int (i : Nat), x])) h3 s.heap.objs.size (.tup [.int (i : Nat), x]) :=
      ⟨by show 2 ≤ sizeLine; decide, [.int i tk, y], .cons ⟨_, rfl⟩ (.cons ru .nil), ⟨_, hT3, rfl, _, rfl⟩⟩
    have J : Inv X pins σ (upd H s.heap.objs.size (.tup [.int (i : Nat), x])) { s with heap := h3, toks := tk + 1 } :=
      I.turnedNew (ch := [e, d]) (fun b o hb q => (sb.2 b fun z => hb (by simp [z])).trans (hk b o (fun z => hb (by simp [z])) (fun z => hb (by simp [z])) q)) hf (Nat.le_refl _) new
    refine ⟨.ref s.heap.objs.size, _, J, rfl, ⟨_, x, rfl, I.hok.fresh (Nat.le_refl _), rfl, fun ys hy2 => by rw [I.tuple_inj hy2 hq]; exact hx⟩, ⟨⟨y, ?_⟩, hs2.1.at fun o q => (sb.2 d (Ne.symm hne)).trans q, hne⟩, fun b hb => ?_⟩
    · have e1 : ((i + 1 : Nat) : Int) = (i : Int) + 1 := by omega
      rw [e1]
      exact he3
    · have lb : b < s.heap.objs.size := by
        rcases two_of hb with z | z
        · rw [z]; exact le
        · rw [z]; exact ld
      rw [upd_ne (Nat.ne_of_lt lb)]
      exact (hf b hb).1
  done := by
    intro X hP hW hK hc i pins s σ H E I hf st hg
    subst hP hW hK
    obtain ⟨⟨was, he⟩, hit, hne⟩ := st
    obtain ⟨xs, hq, hx⟩ := hg
    obtain ⟨its, rv, p, hz⟩ := I.tuple hq
    obtain ⟨f0, f1, f2, f3, f4, f5⟩ := hf d (by simp)
    have hl := rv.length
    unfold pyNext
    refine wpAny_bind (wpAny_attempt (wpAny_callSpecial?_slot (name := Str.ofString "__next__") ⟨_, he, rfl⟩ F.slot_enumerate_next
      (wpAny_call_entry F.slot_enumerate_next ⟨_, he, rfl⟩ F.entry_enumerate_next ?_ (F.args_enumerate_next_1 _))))
    show wpAny _ _ (field (.ref e) 2 >>= _) _ _ _
    refine wpAny_bind (wpAny_field he rfl (x := .ref d) rfl ?_)
    refine wpAny_bind (wpAny_nextOf_tuple_end (I.ok.hd hc) hit p (by simp; omega) fun h2 x eb hx2 => ?_)
    obtain ⟨o, ho, hcl⟩ := hx2
    refine wpAny_bind (wpAny_isInstance (T := "StopIteration") (b := true) ⟨o, ho, hcl⟩ isSubtype_stop ?_)
    exact wpAny_pure ⟨rfl, I.turned (t' := s.toks) (fun b o hb q => eb b o hb q) f0 f1 f3 f4 f5⟩
  self := fun A i s Q E st h => let ⟨⟨_, he⟩, _⟩ := st; wpAny_pyIter_enum he h
def iEnT (K : PySem.W.Frag) (ta : TA) : TI := fun σ H R => ta σ H fun vs H1 => ∃ a xs, vs = [.ref a] ∧ SqT K H1 a xs ∧ R (ItEnT K a) H1
theorem pi_enT {X : Cx} {e : Expr} {ta : TA} {p pos tp : Pos} {es : List Expr} {kk : Nat} (hg : Gl X "enumerate") (hm : X.mg "enumerate" = none) (ha : PA X [e] ta) (hs : starEach [e] X.env = [(false, eval e X.env)] := by rfl) :
    PI X (.Tuple es kk tp) (.Call (.Name "enumerate" p) [e] [] pos) (iEnT X.K ta) := by
  constructor
  intro pins s σ H R I h
  refine Call_ (ld_blt I hg hm boot_enumerate (PyProof.Rows.callWith_type1 (thn (ha.run pos pins s σ H _ I h) fun us s1 hh => ?_) hs rfl))
  obtain ⟨vs, H1, I1, r1, a, xs, ex, hq, q⟩ := hh
  subst ex
  cases r1 with
  | cons r rr =>
    cases rr
    cases r
    obtain ⟨its, rv, p2, hz⟩ := I1.tuple hq
    refine enumT_call (begins_tuple a its.toArray) p2 fun h2 he hd hk => wpAny_pyIter_enum he ?_
    have I2 : Inv X pins σ H1 { s1 with heap := h2 } := I1.kept (t' := s1.toks) hk
    refine ⟨s1.heap.objs.size + 1, [s1.heap.objs.size + 1, s1.heap.objs.size], _, _, H1, rfl, I2, turn_enT a (s1.heap.objs.size + 1) s1.heap.objs.size, ⟨⟨.none, he⟩, ⟨_, hd, rfl, rfl⟩, Nat.succ_ne_self _⟩, fun b hb => ?_, q⟩
    have ge : s1.heap.objs.size ≤ b := by
      rcases two_of hb with z | z
      · rw [z]; exact Nat.le_add_right _ _
      · rw [z]; exact Nat.le_refl _
    exact I1.fpOk ge (I1.hok.fresh ge)
theorem walk_enT {K : PySem.W.Frag} {a : Addr} {xs : List V} : Walk (ItEnT K a) xs.length (fun H => SqT K H a xs) (YPair (fun i => some (.int (i : Nat))) (fun i => xs[i]?)) where
  goes := fun i _ hi q => ⟨xs, xs[i], q, by simp [hi]⟩
  stops := fun _ q => ⟨xs, q, Nat.le_refl _⟩
  yields := fun i H v H2 _ q y => let ⟨p, x, h1, h2, h3, h4⟩ := y; ⟨p, .int (i : Nat), x, h1, h2, h3, rfl, h4 xs q⟩
end L2
set_option Elab.async false
set_option linter.all false
set_option maxRecDepth 100001
set_option maxHeartbeats 1999999
/-! enumerate over a text. -/
namespace L2
open PySem.Spec PySem PyProof.Rows
def ItEnS (x : Str) : It where
  go := fun i _ => i < x.cps.size
  yld := fun i H v H2 => ∃ p c, v = .ref p ∧ H p = none ∧ H2 = upd H p (.tup [.int (i : Nat), .str ⟨#[c]⟩]) ∧ x.cps[i]? = some c
  stop := fun i _ => x.cps.size ≤ i
theorem strIter_at {h h' : Heap} {a : Addr} {ty : String} {x : Str} {t : Tok} {i : Nat} (y : h.IsStrIter a ty x t i) (k : ∀ o, h.get? a = some o → h'.get? a = some o) : h'.IsStrIter a ty x t i := let ⟨o, ho, r⟩ := y; ⟨o, k o ho, r⟩
theorem text_end {prog : Program} {w : World} {A : Around} {E : Value → Shared → Prop} {s : Shared} {it : Addr} {x : Str} {t : Tok} {i : Nat} {Q : Value → Shared → Prop} (hh : A.handled = none) (hit : s.heap.IsStrIter it (strIterType x) x t i) (hx : x.cps[i]? = none)
    (hE : ∀ h' e, Heap.ExtBut it s.heap h' → (∃ o, h'.get? e = some o ∧ o.cls = .type "StopIteration") → E (.ref e) { s with heap := h' }) : wpAny (model prog w) A (Builtin.SmallTypes.nextOf (.ref it)) Q E s := by
  cases ha : x.cps.all (· < 128)
  · simp only [strIterType, ha, Bool.false_eq_true, if_false] at hit
    exact wpAny_nextOf_wide_end hh hit hx hE
  · simp only [strIterType, ha, if_true] at hit
    exact wpAny_nextOf_ascii_end hh hit hx hE
theorem turn_enS {P : Program} {W : World} {K : PySem.W.Frag} {es : List Expr} {kk : Nat} {tp : Pos} (x : Str) (t : Tok) (e d : Addr) :
    Turn P W K (.Tuple es kk tp) (ItEnS x) [e, d] e (fun i h => (∃ was, IsEnum h e d ((i : Nat) : Int) was) ∧ h.IsStrIter d (strIterType x) x t i ∧ e ≠ d) where
  mem := List.mem_cons_self
  obj := fun i h st b hb => by
    obtain ⟨⟨was, he⟩, ⟨o, ho, hc, hd⟩, _⟩ := st
    rcases two_of hb with rfl | rfl
    · exact ⟨_, he, fun _ q => nomatch q⟩
    · exact ⟨o, ho, fun _ q => by rw [hd] at q; cases q⟩
  keep := fun i h h2 st k => ⟨let ⟨was, he⟩ := st.1; ⟨was, k e (by simp) _ he⟩, strIter_at st.2.1 fun o q => k d (by simp) o q, st.2.2⟩
  item := by
    intro X hP hW hK hc i pins s σ H E I hf st hg
    subst hP hW hK
    obtain ⟨⟨was, he⟩, hit, hne⟩ := st
    have hi : i < x.cps.size := hg
    have le : e < s.heap.objs.size := Heap.lt_size he
    have ld : d < s.heap.objs.size := let ⟨_, q, _⟩ := hit; Heap.lt_size q
    have D := Draws.text (prog := X.prog) (w := X.w) (A := X.A.in1) (I.ok.hd hc) d x t
    refine wpAny_pyNext_enum_itemD (n := x.cps.size) (i := i) D he hit hi hne (fun m => ?_) fun y h2 tk hy ho hs2 hT hsz hk => ?_
    · exact hne (by simpa using m)
    obtain ⟨c, u, hcx, rfl⟩ := hy
    refine ⟨_, rfl, wpAny_letOwnedTupleGo_enum (s := { s with heap := h2, toks := tk + 1 }) ho fun h3 he3 sb => ?_⟩
    have hT3 : h3.get? s.heap.objs.size = some { cls := .type "tuple", data := .seq #[.int i tk, .str ⟨#[c]⟩ u] } := (sb.2 _ (Nat.ne_of_gt le)).trans hT
    have new : ObjOk X.prog X.w (upd H s.heap.objs.size (.tup [.int (i : Nat), .str ⟨#[c]⟩])) h3 s.heap.objs.size (.tup [.int (i : Nat), .str ⟨#[c]⟩]) :=
      ⟨by show 2 ≤ sizeLine; decide, [.int i tk, .str ⟨#[c]⟩ u], .cons ⟨_, rfl⟩ (.cons ⟨_, rfl⟩ .nil), ⟨_, hT3, rfl, _, rfl⟩⟩
    have J : Inv X pins σ (upd H s.heap.objs.size (.tup [.int (i : Nat), .str ⟨#[c]⟩])) { s with heap := h3, toks := tk + 1 } :=
      I.turnedNew (ch := [e, d]) (fun b o hb q => (sb.2 b fun z => hb (by simp [z])).trans (hk b o (fun z => hb (by simp [z])) (fun z => hb (by simp [z])) q)) hf (Nat.le_refl _) new
    refine ⟨.ref s.heap.objs.size, _, J, rfl, ⟨_, c, rfl, I.hok.fresh (Nat.le_refl _), rfl, hcx⟩, ⟨⟨.str ⟨#[c]⟩ u, ?_⟩, strIter_at hs2 fun o q => (sb.2 d (Ne.symm hne)).trans q, hne⟩, fun b hb => ?_⟩
    · have e1 : ((i + 1 : Nat) : Int) = (i : Int) + 1 := by omega
      rw [e1]
      exact he3
    · have lb : b < s.heap.objs.size := by
        rcases two_of hb with z | z
        · rw [z]; exact le
        · rw [z]; exact ld
      rw [upd_ne (Nat.ne_of_lt lb)]
      exact (hf b hb).1
  done := by
    intro X hP hW hK hc i pins s σ H E I hf st hg
    subst hP hW hK
    obtain ⟨⟨was, he⟩, hit, hne⟩ := st
    have hx : x.cps.size ≤ i := hg
    obtain ⟨f0, f1, f2, f3, f4, f5⟩ := hf d (by simp)
    unfold pyNext
    refine wpAny_bind (wpAny_attempt (wpAny_callSpecial?_slot (name := Str.ofString "__next__") ⟨_, he, rfl⟩ F.slot_enumerate_next
      (wpAny_call_entry F.slot_enumerate_next ⟨_, he, rfl⟩ F.entry_enumerate_next ?_ (F.args_enumerate_next_1 _))))
    show wpAny _ _ (field (.ref e) 2 >>= _) _ _ _
    refine wpAny_bind (wpAny_field he rfl (x := .ref d) rfl ?_)
    have none : x.cps[i]? = none := by simp [hx]
    refine wpAny_bind (text_end (I.ok.hd hc) hit none fun h2 ex eb hx2 => ?_)
    obtain ⟨o, ho, hcl⟩ := hx2
    refine wpAny_bind (wpAny_isInstance (T := "StopIteration") (b := true) ⟨o, ho, hcl⟩ isSubtype_stop ?_)
    exact wpAny_pure ⟨rfl, I.turned (t' := s.toks) (fun b o hb q => eb b o hb q) f0 f1 f3 f4 f5⟩
  self := fun A i s Q E st h => let ⟨⟨_, he⟩, _⟩ := st; wpAny_pyIter_enum he h
def iEnS (ta : TA) : TI := fun σ H R => ta σ H fun vs H1 => ∃ x, vs = [.str x] ∧ R (ItEnS x) H1
theorem pi_enS {X : Cx} {e : Expr} {ta : TA} {p pos tp : Pos} {es : List Expr} {kk : Nat} (hg : Gl X "enumerate") (hm : X.mg "enumerate" = none) (ha : PA X [e] ta) (hs : starEach [e] X.env = [(false, eval e X.env)] := by rfl) :
    PI X (.Tuple es kk tp) (.Call (.Name "enumerate" p) [e] [] pos) (iEnS ta) := by
  constructor
  intro pins s σ H R I h
  refine Call_ (ld_blt I hg hm boot_enumerate (PyProof.Rows.callWith_type1 (thn (ha.run pos pins s σ H _ I h) fun us s1 hh => ?_) hs rfl))
  obtain ⟨vs, H1, I1, r1, x, ex, q⟩ := hh
  subst ex
  cases r1 with
  | cons r rr =>
    cases rr
    obtain ⟨t, rfl⟩ := r
    refine enumT_call (begins_text x t) trivial fun h2 he hd hk => wpAny_pyIter_enum he ?_
    have I2 : Inv X pins σ H1 { s1 with heap := h2 } := I1.kept (t' := s1.toks) hk
    refine ⟨s1.heap.objs.size + 1, [s1.heap.objs.size + 1, s1.heap.objs.size], _, _, H1, rfl, I2, turn_enS x t (s1.heap.objs.size + 1) s1.heap.objs.size, ⟨⟨.none, he⟩, ⟨_, hd, rfl, rfl⟩, Nat.succ_ne_self _⟩, fun b hb => ?_, q⟩
    have ge : s1.heap.objs.size ≤ b := by
      rcases two_of hb with z | z
      · rw [z]; exact Nat.le_add_right _ _
      · rw [z]; exact Nat.le_refl _
    exact I1.fpOk ge (I1.hok.fresh ge)
theorem walk_enS {x : Str} : Walk (ItEnS x) x.cps.size (fun _ => True) (YPair (fun i => some (.int (i : Nat))) (fun i => (x.cps[i]?).map fun c => V.str ⟨#[c]⟩)) where
  goes := fun i _ hi _ => hi
  stops := fun _ _ => Nat.le_refl _
  yields := fun i H v H2 _ _ y => let ⟨p, c, h1, h2, h3, h4⟩ := y; ⟨p, .int (i : Nat), .str ⟨#[c]⟩, h1, h2, h3, rfl, by show Option.map _ _ = _; rw [h4]; rfl⟩
end L2
set_option Elab.async false
set_option linter.all false
set_option maxRecDepth 100001
set_option maxHeartbeats 3999999
/-! sorted(xs, key=lambda x: ..): any order of the keys that the sort can tell. -/
namespace SrtL
open PySem PyProof.Rows Srt SrtO
theorem zip_list (ks vs : List Value) : (ks.toArray.zip vs.toArray).toList = ks.zip vs := by
  rw [ksk_zip]
section
variable {prog : Program} {w : World} {A : Around} {E : Value → Shared → Prop} {s : Shared} {a kS : Addr} {e1 ek : Nat} {vs ks : List Value} {ltv : Value → Value → Bool} {R : PySem.Fin → Shared → Prop}
/-- what is left when the list is sorted -/
def doneHeap (h : Heap) (kS a : Addr) (out : Array Value) : Heap := (h.update kS (Obj.mapSeq fun _ => (#[] : Array Value))).update a (Obj.mapSeq fun _ => out)
theorem tail_ord {st : SortSt} (hk : s.heap.get? kS = some (seqObj "list" ks.toArray ek)) (ha : s.heap.get? a = some (seqObj "list" #[] e1)) (ne : kS ≠ a) (hz : vs.length ≤ sizeLine) (hl : ks.length = vs.length) (hsz : (arrOf st).size = vs.length) (hfl : failedOf st = none)
    (h : R (.done (.ret .none)) { s with heap := doneHeap s.heap kS a ((arrOf st).map (·.2)) }) : wpAny (model prog w) A (ksk_tail a false e1 (.ref kS) st) R E s := by
  have s1 := Heap.SameBut.update s.heap kS (Obj.mapSeq fun _ => (#[] : Array Value))
  have na1 : (s.heap.update kS (Obj.mapSeq fun _ => (#[] : Array Value))).get? a = some (seqObj "list" #[] e1) := (s1.2 a ne.symm).trans ha
  unfold ksk_tail
  try dsimp only
  refine wpAny_bind (listUpdate_at hk rfl ?_ (by rw [List.size_toArray]; omega) (Nat.zero_le _))
  refine wpAny_bind (wpAny_letGo ?_)
  refine wpAny_bind (seqEpoch_at na1 rfl ?_)
  refine wpAny_bind (listUpdate_at na1 rfl ?_ (Nat.zero_le _) (by simp only [Bool.false_eq_true, if_false, Array.size_map]; omega))
  rw [hfl]
  simp only [bne_self_eq_false, Bool.false_eq_true, if_false]
  exact wpAny_pure h
theorem end_ord (O : Swo ltv) (hk : s.heap.get? kS = some (seqObj "list" ks.toArray ek)) (ha : s.heap.get? a = some (seqObj "list" #[] e1)) (ne : kS ≠ a) (hz : vs.length ≤ sizeLine) (hl : ks.length = vs.length)
    (hS : 2 ≤ vs.length → ∃ κ, (∀ (Q : SortKind → Shared → Prop) (E : Value → Shared → Prop), Q κ s → wpAny (model prog w) A (keyKind' ks.toArray) Q E s) ∧ Cmp prog w A s κ (fun p => p.1 ∈ ks) (lt2 ltv))
    (h : ∀ ps : List Keyed, Srtd (lt2 ltv) ps → Stb (lt2 ltv) ps (ks.zip vs) → R (.done (.ret .none)) { s with heap := doneHeap s.heap kS a (ps.map (·.2)).toArray }) :
    wpAny (model prog w) A (ksk_end a false vs.toArray e1 (.ref kS) ks.toArray) R E s := by
  have hzs : (ks.toArray.zip vs.toArray).size = vs.length := by rw [Array.size_zip, List.size_toArray, List.size_toArray, hl, Nat.min_self]
  have fin : ∀ st : SortSt, Srtd (lt2 ltv) (arrOf st).toList → Stb (lt2 ltv) (arrOf st).toList (ks.toArray.zip vs.toArray).toList → R (.done (.ret .none)) { s with heap := doneHeap s.heap kS a ((arrOf st).map (·.2)) } := by
    intro st h1 h2
    rw [zip_list] at h2
    have h3 := h _ h1 h2
    have e : ((arrOf st).toList.map (·.2)).toArray = (arrOf st).map (·.2) := by
      rw [← Array.toList_map, Array.toArray_toList]
    rw [e] at h3
    exact h3
  have size : ∀ st : SortSt, Stb (lt2 ltv) (arrOf st).toList (ks.toArray.zip vs.toArray).toList → (arrOf st).size = vs.length := by
    intro st h2
    have := h2.perm.length_eq
    rw [Array.length_toList, Array.length_toList, hzs] at this
    exact this
  unfold ksk_end
  try dsimp only
  simp only [Bool.false_eq_true, if_false]
  by_cases h2 : vs.toArray.size < 2
  · rw [if_pos h2, if_pos h2]
    refine wpAny_bind (wpAny_pure ?_)
    rw [StateT.run_pure]
    refine wpAny_bind (wpAny_pure ?_)
    try dsimp only
    rw [List.size_toArray] at h2
    refine tail_ord (st := SortSt.mk' general' (ks.toArray.zip vs.toArray) #[] 7 none) hk ha ne hz hl hzs rfl (fin (SortSt.mk' general' (ks.toArray.zip vs.toArray) #[] 7 none) ?_ (Stb.refl _))
    show Srtd (lt2 ltv) (ks.toArray.zip vs.toArray).toList
    have hlz : (ks.toArray.zip vs.toArray).toList.length < 2 := by rw [Array.length_toList, hzs]; exact h2
    revert hlz
    generalize (ks.toArray.zip vs.toArray).toList = l
    intro hlz
    match l, hlz with
    | [], _ => exact List.Pairwise.nil
    | [v], _ => exact List.pairwise_singleton _ _
    | _ :: _ :: l, h => exact absurd h (by rw [List.length_cons, List.length_cons]; omega)
  · rw [if_neg h2, if_neg h2]
    rw [List.size_toArray] at h2
    obtain ⟨κ, hkind, hT⟩ := hS (by omega)
    refine wpAny_bind (hkind _ _ ?_)
    have hall : AllL (fun p : Keyed => p.1 ∈ ks) (ks.toArray.zip vs.toArray).toList := fun p hm => by
      rw [zip_list] at hm
      obtain ⟨x, y⟩ := p
      exact (List.of_mem_zip hm).1
    refine wpAny_bind (wpAny_mono (wpS_sortO (st0 := SortSt.mk' κ (ks.toArray.zip vs.toArray) #[] 7 none)
      (Q := fun _ st' => Srtd (lt2 ltv) (arrOf st').toList ∧ Stb (lt2 ltv) (arrOf st').toList (ks.toArray.zip vs.toArray).toList ∧ failedOf st' = none) (swo2 O) hT rfl hall rfl rfl fun st' a1 a2 a3 => ⟨a1, a2, a3⟩) ?_ fun _ _ e => e)
    rintro ⟨⟨⟩, st'⟩ s' ⟨rfl, hp1, hp2, hf⟩
    try dsimp only
    exact tail_ord hk ha ne hz hl (size st' hp2) hf (fin st' hp1 hp2)
/-- what is asked of the keys' making: J of the keys so far -/
structure Keys (prog : Program) (w : World) (A : Around) (f : Value) (vs : List Value) (ltv : Value → Value → Bool) (R : PySem.Fin → Shared → Prop) (a kS : Addr) (e1 : Nat) (J : List Value → Shared → Prop) : Prop where
  obj : ∀ ks s, J ks s → (∃ ek, s.heap.get? kS = some (seqObj "list" ks.toArray ek)) ∧ s.heap.get? a = some (seqObj "list" #[] e1)
  turn : ∀ (ks : List Value) (v : Value) (s : Shared), J ks s → vs[ks.length]? = some v → wpAny (model prog w) A (call f [v]) (fun k s' => (∃ ek, s'.heap.get? kS = some (seqObj "list" ks.toArray ek)) ∧ J (ks ++ [k]) { s' with heap := s'.heap.update kS (Obj.mapSeq (·.push k)) }) (fun _ _ => False) s
  kind : ∀ ks s, J ks s → ks.length = vs.length → 2 ≤ vs.length → ∃ κ, (∀ (Q : SortKind → Shared → Prop) (E : Value → Shared → Prop), Q κ s → wpAny (model prog w) A (keyKind' ks.toArray) Q E s) ∧ Cmp prog w A s κ (fun p => p.1 ∈ ks) (lt2 ltv)
  fin : ∀ ks s, J ks s → ks.length = vs.length → ∀ ps : List Keyed, Srtd (lt2 ltv) ps → Stb (lt2 ltv) ps (ks.zip vs) → R (.done (.ret .none)) { s with heap := doneHeap s.heap kS a (ps.map (·.2)).toArray }
theorem rest_ord {f : Value} {J : List Value → Shared → Prop} (O : Swo ltv) (ne : kS ≠ a) (hz : vs.length ≤ sizeLine) (h0 : J [] s) (Y : Keys prog w A f vs ltv R a kS e1 J) : wpAny (model prog w) A (ksk_rest a f false vs.toArray e1 (.ref kS)) R E s := by
  unfold ksk_rest
  refine wpAny_bind (wpAny_rule ?_)
  first
    | rw [List.forIn_toArray]
    | (rw [← Array.forIn_toList]; simp only [List.toList_toArray])
    | rw [← Array.forIn_toList]
  refine wpAny_bind (ksk_fold (fun i s' => ∃ ks, J ks s' ∧ ks.length = i) vs 0 s ⟨[], h0, rfl⟩ ?step ?done)
  case step =>
    rintro j x s' hx ⟨ks, hJ, lk⟩
    simp only [Nat.zero_add] at lk ⊢
    have hj : j < vs.length := (List.getElem?_eq_some_iff.mp hx).1
    refine wpAny_bind (wpAny_attempt (wpAny_mono (Y.turn ks x s' hJ (by rw [lk]; exact hx)) (fun k s'' he => ?_) fun _ _ hF => hF.elim))
    obtain ⟨⟨ek, hk⟩, hJ2⟩ := he
    try dsimp only
    refine wpAny_bind (listUpdate_at hk rfl ?_ (by rw [List.size_toArray]; omega) (Nat.le_trans (Nat.le_of_eq (Array.size_push ..)) (by rw [List.size_toArray]; omega)))
    exact wpAny_pure ⟨rfl, _, hJ2, by rw [List.length_append, lk]; rfl⟩
  case done =>
    rintro s' ⟨ks, hJ, lk⟩
    rw [Nat.zero_add] at lk
    obtain ⟨⟨ek, hk⟩, ha⟩ := Y.obj ks s' hJ
    try dsimp only
    refine wpAny_bind (listItems_at hk rfl ?_)
    exact end_ord O hk ha ne hz lk (Y.kind ks s' hJ lk) (Y.fin ks s' hJ lk)
theorem tree_ord {f : Value} {n : Nat} (O : Swo ltv) (ho : s.heap.get? a = some (seqObj "list" vs.toArray n)) (hz : vs.length ≤ sizeLine)
    (h : ∀ (h1 : Heap) (kS : Addr) (e1 : Nat), (∀ b o, b ≠ a → s.heap.get? b = some o → h1.get? b = some o) → h1.get? a = some (seqObj "list" #[] e1) → h1.get? kS = some (seqObj "list" #[] 0) → s.heap.objs.size ≤ kS →
      ∃ J, J [] { s with heap := h1 } ∧ Keys prog w A f vs ltv R a kS e1 J) : wpAny (model prog w) A (ksk_tree a f false) R E s := by
  have ha : a < s.heap.objs.size := Heap.lt_size ho
  have s1 := Heap.SameBut.update s.heap a (Obj.mapSeq fun _ => (#[] : Array Value))
  obtain ⟨e1, ho1⟩ : ∃ e1, (s.heap.update a (Obj.mapSeq fun _ => (#[] : Array Value))).get? a = some (seqObj "list" #[] e1) := ⟨_, get?_update_seq ho fun _ => #[]⟩
  have hkS : ((s.heap.update a (Obj.mapSeq fun _ => (#[] : Array Value))).push (seqObj "tuple" vs.toArray 0)).objs.size = s.heap.objs.size + 1 := by rw [size_push', Heap.size_update]
  unfold ksk_tree
  refine wpAny_bind (listItems_at ho rfl ?_)
  refine wpAny_bind (listUpdate_at ho rfl ?_ (by rw [List.size_toArray]; omega) (Nat.zero_le _))
  refine wpAny_bind (seqEpoch_at ho1 rfl ?_)
  refine wpAny_bind (wpAny_newTuple ?_ (by show vs.length ≤ _; exact hz))
  refine wpAny_bind (wpAny_newList ?_ (Nat.zero_le _))
  refine wpAny_holding ?_
  obtain ⟨J, j0, Y⟩ := h (((s.heap.update a (Obj.mapSeq fun _ => (#[] : Array Value))).push (seqObj "tuple" vs.toArray 0)).push (seqObj "list" #[] 0)) ((s.heap.update a (Obj.mapSeq fun _ => (#[] : Array Value))).push (seqObj "tuple" vs.toArray 0)).objs.size e1
    (fun b o hb e => Heap.get?_push_of_some _ (Heap.get?_push_of_some _ ((Heap.get?_update_ne _ _ _ _ hb).trans e))) (Heap.get?_push_of_some _ (Heap.get?_push_of_some _ ho1)) (Heap.get?_push_size _ rfl) (by rw [hkS]; exact Nat.le_succ _)
  exact rest_ord (s := { s with heap := ((s.heap.update a (Obj.mapSeq fun _ => (#[] : Array Value))).push (seqObj "tuple" vs.toArray 0)).push (seqObj "list" #[] 0) }) O (by rw [hkS]; exact Nat.ne_of_gt (Nat.lt_succ_of_lt ha)) hz j0 Y
/-- sorted(l, key=q) -/
theorem sorted_ord {l q : Addr} {Q : Value → Shared → Prop} (O : Swo ltv) (hl : s.heap.IsList l vs.toArray) (hz : vs.length ≤ sizeLine)
    (h : ∀ (h1 : Heap) (d kS : Addr) (e1 : Nat), (∀ b o, s.heap.get? b = some o → h1.get? b = some o) → h1.get? d = some (seqObj "list" #[] e1) → h1.get? kS = some (seqObj "list" #[] 0) → s.heap.objs.size ≤ d → s.heap.objs.size ≤ kS → kS ≠ d →
      ∃ J, J [] { s with heap := h1 } ∧ Keys prog w A.in1.in1 (.ref q) vs ltv (fun r s' => r = .done (.ret .none) ∧ Q (.ref d) s') d kS e1 J) :
    wpAny (model prog w) A (call (.builtin "sorted") [.ref l] [(Str.ofString "key", .ref q)]) Q E s := by
  refine call_function_entry_kw kind_sorted plain_sorted entry_sorted (ksk_s1 _ _) ?_
  unfold Builtin.«sorted»
  refine wpAny_bind (m := checkCount "sorted" 1 1 _) (wpAny_pure ?_)
  refine wpAny_bind (collect_list hl ?_ hz)
  refine wpAny_bind (wpAny_newList ?_ hz)
  have hsz : ((s.heap.push (seqObj "list" #[] 0)).update s.heap.objs.size (Obj.mapSeq (· ++ vs.toArray))).objs.size = s.heap.objs.size + 1 := by
    rw [Heap.size_update, size_push']
  have hoL : (((s.heap.push (seqObj "list" #[] 0)).update s.heap.objs.size (Obj.mapSeq (· ++ vs.toArray))).push (seqObj "list" vs.toArray 0)).get? (s.heap.objs.size + 1) = some (seqObj "list" vs.toArray 0) := by
    rw [← hsz]; exact Heap.get?_push_size _ rfl
  have keep : ∀ b o, s.heap.get? b = some o → b ≠ s.heap.objs.size + 1 ∧ (((s.heap.push (seqObj "list" #[] 0)).update s.heap.objs.size (Obj.mapSeq (· ++ vs.toArray))).push (seqObj "list" vs.toArray 0)).get? b = some o := fun b o q => by
    have hlt : b < s.heap.objs.size := Heap.lt_size q
    refine ⟨Nat.ne_of_lt (Nat.lt_succ_of_lt hlt), Heap.get?_push_of_some _ ?_⟩
    rw [Heap.get?_update_ne _ _ _ _ (Nat.ne_of_lt hlt)]
    exact Heap.get?_push_of_some _ q
  have size2 : (((s.heap.push (seqObj "list" #[] 0)).update s.heap.objs.size (Obj.mapSeq (· ++ vs.toArray))).push (seqObj "list" vs.toArray 0)).objs.size = s.heap.objs.size + 2 := by rw [size_push', hsz]
  show wpAny _ _ _ _ _ { s with heap := ((s.heap.push (seqObj "list" #[] 0)).update s.heap.objs.size (Obj.mapSeq (· ++ vs.toArray))).push (seqObj "list" vs.toArray 0) }
  rw [hsz]
  refine wpAny_bind (wpAny_holding (wpAny_call_entry_kw slot_list_sort ⟨_, hoL, rfl⟩ entry_list_sort ?_ (ksk_l1 _ _)))
  rw [ksk_t1]
  refine tree_ord O hoL hz fun h1 kS e1 hk ha hkS hge => ?_
  dsimp only at hge hk
  rw [size2] at hge
  obtain ⟨J, j0, Y⟩ := h h1 (s.heap.objs.size + 1) kS e1 (fun b o q => hk b o (keep b o q).1 (keep b o q).2) ha hkS (Nat.le_succ _) (Nat.le_trans (Nat.le_add_right _ 2) hge) (Nat.ne_of_gt (Nat.lt_of_lt_of_le (Nat.lt_succ_self _) hge))
  refine ⟨J, j0, ⟨Y.obj, Y.turn, Y.kind, fun ks s' hJ hl ps h1 h2 => ?_⟩⟩
  obtain ⟨_, z⟩ := Y.fin ks s' hJ hl ps h1 h2
  exact ⟨_, rfl, wpAny_pure ⟨_, rfl, z⟩⟩
end
end SrtL
set_option Elab.async false
set_option linter.all false
set_option maxRecDepth 100001
set_option maxHeartbeats 3999999
namespace LamX
open PySem PySem.Spec PyProof.Rows L2
/-! ### a lambda of one parameter -/
structure LamP (sc scope : Scope) (a : Str) : Prop where
  kind : scope.kind = .function
  co : scope.isCoroutine = false
  gen : scope.isGenerator = false
  par : scope.names.lookup a = some .local
  own : ∀ y ∈ scope.names, y.2 ≠ .cell ∧ (y.2 = .local → y.1 = a)
  free : ∀ y ∈ scope.names, y.2 = .free → sc.names.lookup y.1 = some .cell ∨ sc.names.lookup y.1 = some .free
def lamPB (sc scope : Scope) (a : Str) : Bool :=
  decide (scope.kind = .function) && !scope.isCoroutine && !scope.isGenerator && decide (scope.names.lookup a = some .local) && scope.names.all fun y => !decide (y.2 = .cell) && (!decide (y.2 = .local) || decide (y.1 = a)) && (!decide (y.2 = .free) || decide (sc.names.lookup y.1 = some .cell) || decide (sc.names.lookup y.1 = some .free))
theorem lamP_by {sc scope : Scope} {a : Str} (h : lamPB sc scope a = true) : LamP sc scope a := by
  unfold lamPB at h
  simp only [Bool.and_eq_true, Bool.or_eq_true, Bool.not_eq_true', decide_eq_true_eq, decide_eq_false_iff_not, List.all_eq_true] at h
  obtain ⟨⟨⟨⟨h1, h2⟩, h3⟩, h0⟩, h4⟩ := h
  refine ⟨h1, h2, h3, h0, fun y hy => ⟨(h4 y hy).1.1, fun e => ?_⟩, fun y hy e => ?_⟩
  · rcases (h4 y hy).1.2 with z | z
    · exact absurd e z
    · exact z
  · rcases (h4 y hy).2 with (z | z) | z
    · exact absurd e z
    · exact .inl z
    · exact .inr z
theorem LamP.has {X : Cx} {scope : Scope} {a : Str} (L : LamP X.env.scope scope a) (ok : X.Ok) : ∀ y ∈ scope.names, y.2 = .free → ∃ c, X.env.cells.lookup y.1 = some c := fun y hy e => by
  rcases L.free y hy e with k | k
  · exact ok.has _ (.inl k)
  · exact ok.has _ (.inr k)
section
variable {X : Cx} {pins : List (Addr × Obj)} {σ : L2.St} {H : Hp} {s : Shared}
theorem lam_start1 {A : Around} {E : XK} {scope : Scope} {a : Str} {i : Nat} {v : V} {u : Value} {f c' : Addr} {h₁ : Heap} {tk : Nat} (I : Inv X pins σ H s) (L : LamP X.env.scope scope a) (hA : A.frames = some X.stack) (hd : A.handled = none) (nd : X.N.Nodup) (hN : X.N[i]? = some a) (rv : RelV v u)
    (hns : h₁.Ns s.heap.objs.size fun y => ([(a, u)] : List (Str × Value)).reverse.lookup y) (kp : ∀ b o, s.heap.get? b = some o → h₁.get? b = some o) :
    Inv (lamCx X A X.stack s H E scope f c') [] (σ.set i (some v)) H { s with heap := h₁, toks := tk } := by
  have e0 := I.env0
  have hfree := L.has I.ok
  have cm : ∀ {y c}, (cloFrom X.env.cells scope.names []).lookup y = some c → X.env.cells.lookup y = some c := fun {y c} e => by
    rcases cloFrom_mem (PySem.mem_of_lookup e) with hm | ⟨h1, h2⟩
    · cases hm
    · obtain ⟨c1, hc⟩ := hfree _ h1 rfl
      have hc : X.env.cells.lookup y = some c1 := hc
      have e2 : c = c1 := by
        rw [h2, hc] <;> rfl
      rw [e2]
      exact hc
  have look : ∀ {y}, scope.names.lookup y = some .free → ∃ c, (cloFrom X.env.cells scope.names []).lookup y = some c := fun {y} hl => by
    have hy : (y, NameKind.free) ∈ scope.names := PySem.mem_of_lookup hl
    exact mem_lookup (cloFrom_has (cells := X.env.cells) (acc := []) hy)
  have cellK : ∀ {c : Addr} {v : Option Value}, s.heap.IsCell c v → h₁.IsCell c v := fun {c v} ⟨o, ho, hd⟩ => ⟨o, kp _ _ ho, hd⟩
  have noA : ∀ b : Addr, b ∉ (lamCx X A X.stack s H E scope f c').ex := fun b z => absurd (show b ∈ ([] : List Addr) from z) (by simp)
  refine ⟨⟨e0.mod, L.kind, rfl, rfl, Nat.le_refl _, fun y z c e1 e2 => I.ok.inj y z c (cm e1) (cm e2), fun y hy => ?_, fun y c z _ => ?_, fun _ => hd, Around.frames_deeper hA, .inr ⟨rfl, rfl⟩, fun b z => absurd z (noA b), e0.bs, e0.bsz, fun b _ _ => noA b,
      fun b z => absurd z (noA b), e0.funs, e0.frf⟩,
    rfl, e0.bare, Un.kept kp, ⟨_, hns, fun j y w e1 e2 e3 => ?_⟩, fun y c e => ?_, e0.hok.fresh (Nat.le_refl _), fun y c e => I.freeC y c (cm e), fun q hq => absurd (show q ∈ ([] : List (Addr × Obj)) ++ [] from hq) (by simp), e0.hok.kept kp, by rw [List.length_set]; exact I.len⟩
  · have hy : scope.names.lookup y = some .cell ∨ scope.names.lookup y = some .free := hy
    rcases hy with hy | hy
    · exact absurd rfl (L.own _ (PySem.mem_of_lookup hy)).1
    · exact look hy
  · have z : false = true := z
    cases z
  · have e1 : X.N[j]? = some y := e1
    by_cases ej : j = i
    · rw [ej] at e1 e2
      rw [hN] at e1
      cases e1
      have lt : i < σ.length := by rw [I.len]; exact (List.getElem?_eq_some_iff.mp hN).1
      rw [List.getElem?_set_self lt] at e2
      cases e2
      refine ⟨u, rv, .inl ⟨L.par, ?_⟩⟩
      simp [List.lookup]
    · rw [List.getElem?_set_ne (fun z => ej z.symm)] at e2
      have ya : y ≠ a := fun z => ej (nodup_ix nd (z ▸ e1) hN)
      have e3 : Vis scope y := e3
      rcases e3 with k | k | k
      · exact absurd ((L.own _ (PySem.mem_of_lookup k)).2 rfl) ya
      · exact absurd rfl (L.own _ (PySem.mem_of_lookup k)).1
      · obtain ⟨m, hn, hl⟩ := I.loc
        have hvis : Vis X.env.scope y := (L.free _ (PySem.mem_of_lookup k) rfl).elim (fun k => .inr (.inl k)) (fun k => .inr (.inr k))
        obtain ⟨w', r, q⟩ := hl j y w e1 e2 hvis
        obtain ⟨c2, h2⟩ := look k
        refine ⟨w', r, .inr ⟨.inr k, c2, h2, ?_⟩⟩
        have c1 := cm h2
        rcases q with ⟨k', _⟩ | ⟨_, c3, e', z⟩
        · have k' : X.env.scope.names.lookup y = some .local := k'
          rcases L.free _ (PySem.mem_of_lookup k) rfl with k2 | k2 <;> rw [show X.env.scope.names.lookup y = _ from k2] at k' <;> cases k'
        · rw [c1] at e'
          cases e'
          exact cellK z
  · obtain ⟨w', z⟩ := I.cell y c (cm e)
    exact ⟨w', cellK z⟩
/-- the lambda called with one value, in the def that made it -/
theorem lam_call1 {A : Around} {scope : Scope} {a : Str} {i k : Nat} {v : V} {u pm ctv : Value} {f c' : Addr} {params : Arguments} {body : Expr} {tb : TE} {Q : VK} (I : Inv X pins σ H s) (L : LamP X.env.scope scope a) (hA : A.frames = some X.stack) (hr : Room (k + 1) A) (nd : X.N.Nodup) (hN : X.N[i]? = some a) (rv : RelV v u)
    (hf : s.heap.get? f = some (PySem.W.kla_obj "<lambda>" (X.env.qual ++ "<lambda>") params body scope (cloFrom X.env.cells scope.names []) pm c' ctv)) (hc : H c' = some (CodeO c' (X.env.qual ++ "<lambda>")))
    (hbind : bindArgs (PySem.W.kla_fn "<lambda>" (X.env.qual ++ "<lambda>") params body scope (cloFrom X.env.cells scope.names []) pm (.ref c') ctv) ⟨[u], []⟩ = pure [(a, u)])
    (hbody : Room k (A.deeper (lamEnv X scope s.heap.objs.size f c')) → PE (lamCx X A X.stack s H C8.E0 scope f c') body tb) (ht : tb (σ.set i (some v)) H Q) :
    codeAny (model X.prog X.w) A (.call (.ref f) ⟨[u], []⟩) (CR (L2.CX X.prog X.w) X.stack X.prog X.w H s Q C8.E0) s := by
  obtain ⟨⟨oc, vs, t, hoc, hdc, hvc⟩, _, _⟩ := I.hok c' _ hc
  refine PySem.W.kla_callFunE hr.depth hf rfl L.co L.gen rfl ⟨c', oc, vs, t, rfl, hoc, hdc, hvc⟩ ?_
  rw [hbind]
  refine wpAny_pure (wpAny_newFunctionEnv (fun y hy => (L.own y hy).1) (fun y hy => ?_) (fun h₁ hns hsb => ⟨I.nolimit.fresh _ hsb, ?_⟩) L.kind)
  · rw [List.mem_singleton.mp hy]
    exact L.par
  show codeAny _ _ (.expr body (lamEnv X scope s.heap.objs.size f c')) _ _
  have kp : ∀ b o, s.heap.get? b = some o → h₁.get? b = some o := fun b o e => hsb.extBut b o (Nat.ne_of_lt (Heap.lt_size e)) (Heap.get?_push_of_some _ e)
  have J : Inv (lamCx X A X.stack s H C8.E0 scope f c') [] (σ.set i (some v)) H { s with heap := h₁, toks := s.toks + ([(a, u)] : List (Str × Value)).length } := lam_start1 I L hA hr.hd nd hN rv hns kp
  refine PySem.W.kla_codeExpr (wpAny_mono ((hbody (hr.deeper _)).run [] _ _ H Q J ht) (fun v s' hq => ?_) fun e s' hq => hq)
  obtain ⟨w', H', J', rv, q⟩ := hq
  exact ⟨w', H', J'.os, J'.bare, J'.base, J'.hok, rv, q⟩
end
end LamX
set_option Elab.async false
set_option linter.all false
set_option maxRecDepth 100001
set_option maxHeartbeats 3999999
namespace SrtL
open PySem PyProof.Rows Srt SrtO L2 LamX
/-! ### orders of keys -/
structure KeyOrd (α : Type) where
  lt : α → α → Bool
  enc : α → V
  dec : Value → α
  val : α → Value
  swo : Swo lt
  rel : ∀ k u, RelV (enc k) u → dec u = k
  back : ∀ k, dec (val k) = k
  sortable : ∀ {prog : Program} {w : World} {A : Around} {s : Shared} (us : List Value), (∀ u ∈ us, ∃ k, RelV (enc k) u) → 2 ≤ us.length →
    ∃ κ, (∀ (Q : SortKind → Shared → Prop) (E : Value → Shared → Prop), Q κ s → wpAny (model prog w) A (keyKind' us.toArray) Q E s) ∧ Cmp prog w A s κ (fun p => p.1 ∈ us) (lt2 fun x y => lt (dec x) (dec y))
theorem swo_dec {α β : Type} {lt : α → α → Bool} (O : Swo lt) (f : β → α) : Swo fun x y => lt (f x) (f y) := ⟨fun x y h => O.asym _ _ h, fun x y z h1 h2 => O.tr _ _ _ h1 h2⟩
def decI : Value → Int
  | .int i _ => i
  | _ => 0
def decS : Value → Str
  | .str z _ => z
  | _ => Str.empty
theorem ints_dec : ∀ {us : List Value}, (∀ u ∈ us, ∃ k, RelV (.int k) u) → IntsAre us (us.map decI)
  | [], _ => .nil
  | u :: us, h => by
    obtain ⟨k, t, e⟩ := h u List.mem_cons_self
    subst e
    exact .cons k t (ints_dec fun v hv => h v (List.mem_cons_of_mem _ hv))
def ordInt : KeyOrd Int where
  lt i j := decide (i < j)
  enc := .int
  dec := decI
  val i := .int i 0
  swo := ⟨fun x y h => by have := of_decide_eq_true h; exact decide_eq_false (by omega), fun x y z h1 h2 => by have := of_decide_eq_false h1; have := of_decide_eq_false h2; exact decide_eq_false (by omega)⟩
  rel k u h := by obtain ⟨t, rfl⟩ := h; rfl
  back k := rfl
  sortable us h h2 := by
    have hI := ints_dec h
    refine ⟨oneType', fun Q E hq => ?_, fun p q hm hm' => ?_⟩
    · match us, hI, h2 with
      | v1 :: v2 :: rest, hI, _ =>
        rw [keyKind_ints hI]
        exact wpAny_pure hq
      | [], _, h => exact absurd h (by decide)
      | [v], _, h => exact absurd h (by simp)
    · obtain ⟨a, t, e⟩ := h _ hm
      obtain ⟨b, u, e'⟩ := h _ hm'
      show wpAny _ _ (keyLt' oneType' p.1 q.1) (fun r s' => s' = _ ∧ r = decide (decI p.1 < decI q.1)) (fun _ _ => False) _
      rw [e, e', keyLt'_oneType]
      exact oneLt_int ⟨rfl, rfl⟩
theorem strs_dec : ∀ {us : List Value}, (∀ u ∈ us, ∃ k, RelV (.str k) u) → StrsAre us (us.map decS)
  | [], _ => .nil
  | u :: us, h => by
    obtain ⟨k, t, e⟩ := h u List.mem_cons_self
    subst e
    exact .cons k t (strs_dec fun v hv => h v (List.mem_cons_of_mem _ hv))
theorem swo_nats : Swo fun (a b : List Nat) => decide (a < b) := by
  refine ⟨fun x y h => ?_, fun x y z h1 h2 => ?_⟩
  · have h := of_decide_eq_true h
    exact decide_eq_false fun z => List.lt_irrefl x (List.lt_trans h z)
  · have h1 := List.not_lt.mp (of_decide_eq_false h1)
    have h2 := List.not_lt.mp (of_decide_eq_false h2)
    exact decide_eq_false (List.not_lt.mpr (List.le_trans h1 h2))
def ordStr : KeyOrd Str where
  lt a b := decide (a.cps.toList < b.cps.toList)
  enc := .str
  dec := decS
  val z := .str z 0
  swo := swo_dec swo_nats fun a : Str => a.cps.toList
  rel k u h := by obtain ⟨t, rfl⟩ := h; rfl
  back k := rfl
  sortable us h h2 := by
    have hI := strs_dec h
    refine ⟨oneType', fun Q E hq => ?_, fun p q hm hm' => ?_⟩
    · match us, hI, h2 with
      | v1 :: v2 :: rest, hI, _ =>
        rw [keyKind_strs hI]
        exact wpAny_pure hq
      | [], _, h => exact absurd h (by decide)
      | [v], _, h => exact absurd h (by simp)
    · obtain ⟨a, t, e⟩ := h _ hm
      obtain ⟨b, u, e'⟩ := h _ hm'
      show wpAny _ _ (keyLt' oneType' p.1 q.1) (fun r s' => s' = _ ∧ r = decide ((decS p.1).cps.toList < (decS q.1).cps.toList)) (fun _ _ => False) _
      rw [e, e', keyLt'_oneType]
      exact oneLt_str ⟨rfl, rfl⟩
end SrtL
set_option Elab.async false
set_option linter.all false
set_option maxRecDepth 100001
set_option maxHeartbeats 3999999
namespace SrtL
open PySem PyProof.Rows Srt SrtO L2 LamX
def bk (u : Value) : V := (absV u).getD .non
theorem bk_rel {x : V} {u : Value} (r : RelV x u) : bk u = x := by
  unfold bk
  rw [r.abs]
  rfl
section
variable {α : Type} (O : KeyOrd α) (g : V → α)
theorem zip_fact : ∀ {xs : List V} {vs ks : List Value}, Vals xs vs → Vals (xs.map fun x => O.enc (g x)) ks → (∀ p ∈ ks.zip vs, O.dec p.1 = g (bk p.2) ∧ RelV (bk p.2) p.2) ∧ (ks.zip vs).map (fun p => bk p.2) = xs
  | [], _, _, .nil, .nil => ⟨fun _ h => (by simp at h), rfl⟩
  | x :: xs, _, _, .cons r t, .cons r2 t2 => by
    obtain ⟨h1, h2⟩ := zip_fact t t2
    refine ⟨fun p hp => ?_, ?_⟩
    · rw [List.zip_cons_cons] at hp
      rcases List.mem_cons.mp hp with rfl | hp
      · rw [bk_rel r]
        exact ⟨O.rel _ _ r2, r⟩
      · exact h1 p hp
    · rw [List.zip_cons_cons, List.map_cons, h2]
      show bk _ :: xs = x :: xs
      rw [bk_rel r]
abbrev ltG (x y : V) : Bool := O.lt (g x) (g y)
abbrev ltD (x y : Value) : Bool := O.lt (O.dec x) (O.dec y)
theorem conv {xs : List V} {vs ks : List Value} {ps : List Keyed} (hv : Vals xs vs) (hk : Vals (xs.map fun x => O.enc (g x)) ks) (h1 : Srtd (lt2 (ltD O)) ps) (h2 : Stb (lt2 (ltD O)) ps (ks.zip vs)) :
    Vals (ps.map fun p => bk p.2) (ps.map (·.2)) ∧ Srtd (ltG O g) (ps.map fun p => bk p.2) ∧ Stb (ltG O g) (ps.map fun p => bk p.2) xs := by
  obtain ⟨f1, f2⟩ := zip_fact O g hv hk
  have mem : ∀ p ∈ ps, O.dec p.1 = g (bk p.2) ∧ RelV (bk p.2) p.2 := fun p hp => f1 p (h2.perm.mem_iff.mp hp)
  refine ⟨?_, ?_, ?_⟩
  · clear h1 h2
    induction ps with
    | nil => exact .nil
    | cons p ps ih => exact .cons (mem p List.mem_cons_self).2 (ih fun q hq => mem q (List.mem_cons_of_mem _ hq))
  · refine srtd_map (f := fun p : Keyed => bk p.2) (lt := ltG O g) ?_
    refine List.Pairwise.imp_of_mem (fun {p q} hp hq hr => ?_) h1
    show O.lt (g (bk q.2)) (g (bk p.2)) = false
    rw [← (mem p hp).1, ← (mem q hq).1]
    exact hr
  · have h3 : Stb (fun p q : Keyed => ltG O g (bk p.2) (bk q.2)) ps (ks.zip vs) := by
      refine ⟨h2.perm, fun x => ?_⟩
      have e : ∀ p : Keyed, O.dec p.1 = g (bk p.2) → eqv (fun p q : Keyed => ltG O g (bk p.2) (bk q.2)) x p = eqv (lt2 (ltD O)) (O.val (g (bk x.2)), x.2) p := by
        intro p hp
        show (!O.lt (g (bk x.2)) (g (bk p.2)) && !O.lt (g (bk p.2)) (g (bk x.2))) = (!O.lt (O.dec (O.val (g (bk x.2)))) (O.dec p.1) && !O.lt (O.dec p.1) (O.dec (O.val (g (bk x.2)))))
        rw [O.back, hp]
      rw [List.filter_congr fun p hp => e p (mem p hp).1, List.filter_congr fun p hp => e p (f1 p hp).1]
      exact h2.cls _
    have h4 := Stb.map (swo_dec O.swo g) (fun p : Keyed => bk p.2) h3
    rw [f2] at h4
    exact h4
end
/-- sorted(e, key=lambda x: tb): the keys are read at one and the same heap -/
def tSortLam {α : Type} (Tb : List (Addr × Str)) (K : PySem.W.Frag) (O : KeyOrd α) (i : Nat) (te tb : TE) : TE := fun σ H Q => te σ H fun x H1 => ∃ (a : Addr) (xs : List V) (g : V → α), x = .ref a ∧ SqL K H1 a xs ∧ Tabs Tb H1 ∧
  ∀ H2, ExtN H1 H2 → Tabs Tb H2 → SqL K H2 a xs ∧ (∀ v ∈ xs, tb (σ.set i (some v)) H2 fun kv H4 => kv = O.enc (g v) ∧ H4 = H2) ∧
    ∀ ys p, Srtd (ltG O g) ys → Stb (ltG O g) ys xs → H2 p = none → Q (.ref p) (upd H2 p (.lst ys))
section
variable {X : Cx} {pins : List (Addr × Obj)} {σ : L2.St} {H : Hp} {s : Shared}
theorem fp_keep {b : Addr} {o : Obj} {H' : Hp} {h' : Heap} (I : Inv X pins σ H s) (un : Un (frs X.stack) [] H H' s.heap h') (hn : H b = none) (hf : b ∉ frs X.stack) (hb : s.heap.get? b = some o) : h'.get? b = some o := un.keep b o hb hn hf (by simp)
theorem fp_nofr {b : Addr} (I : Inv X pins σ H s) (hf : FpOk X pins H b) : b ∉ frs X.stack := fun z => by
  rcases List.mem_cons.mp (I.stkSub _ z) with e | e
  · exact hf.2.1 e
  · exact hf.2.2.1 e
/-- the sorted list is known from now on -/
theorem inv_done {kS d : Addr} {ks out : List Value} {ys : List V} {ek e1 : Nat} (I : Inv X pins σ H s) (fk : FpOk X pins H kS) (fd : FpOk X pins H d) (ne : kS ≠ d) (hk : s.heap.get? kS = some (seqObj "list" ks.toArray ek)) (hd : s.heap.get? d = some (seqObj "list" #[] e1))
    (hl : ys.length ≤ sizeLine) (hv : Vals ys out) : Inv X pins σ (upd H d (.lst ys)) { s with heap := doneHeap s.heap kS d out.toArray } := by
  have s1 := Heap.SameBut.update s.heap kS (Obj.mapSeq fun _ => (#[] : Array Value))
  have nd1 : (s.heap.update kS (Obj.mapSeq fun _ => (#[] : Array Value))).get? d = some (seqObj "list" #[] e1) := (s1.2 d ne.symm).trans hd
  obtain ⟨e2, hd2⟩ : ∃ e2, (doneHeap s.heap kS d out.toArray).get? d = some (seqObj "list" out.toArray e2) := ⟨_, get?_update_seq nd1 fun _ => out.toArray⟩
  obtain ⟨e3, hk3⟩ : ∃ e3, (s.heap.update kS (Obj.mapSeq fun _ => (#[] : Array Value))).get? kS = some (seqObj "list" #[] e3) := ⟨_, get?_update_seq hk fun _ => #[]⟩
  have kp : ∀ b o, b ≠ kS → b ≠ d → s.heap.get? b = some o → (doneHeap s.heap kS d out.toArray).get? b = some o := fun b o h1 h2 e => by
    show ((s.heap.update kS (Obj.mapSeq fun _ => (#[] : Array Value))).update d _).get? b = _
    rw [Heap.get?_update_ne _ _ _ _ h2, Heap.get?_update_ne _ _ _ _ h1]
    exact e
  have nK : ∀ b u, H b = some u → b ≠ kS := fun b u e z => by rw [z, fk.1] at e; cases e
  have nD : ∀ b u, H b = some u → b ≠ d := fun b u e z => by rw [z, fd.1] at e; cases e
  have stay : ∀ b u, H b = some u → upd H d (.lst ys) b = some u := fun b u e => (upd_ne (nD b u e)).trans e
  refine I.step (g' := s.gens) (t' := s.toks) (d' := s.drawn) (ch := [kS, d]) (fun b hb => ?_) (fun b o _ _ hc e _ => kp b o (fun z => hc (by simp [z])) (fun z => hc (by simp [z])) e) (fun b o _ _ hc e _ => ⟨o.slots, kp b o (fun z => hc (by simp [z])) (fun z => hc (by simp [z])) e⟩)
    (fun b o hc _ n => (upd_ne (fun z => hc (by simp [z]))).trans n) (fun b o hc e => ⟨o, kp b o (fun z => hc (by simp [z])) (fun z => hc (by simp [z])) e⟩) (fun b xs e => stay _ _ e) (fun b o u e => stay _ _ e) (fun b ps e => ⟨#[], by rw [stay _ _ e]; simp⟩) (fun m hm => ?_) (fun b u e => ?_) I.bare
  · rcases List.mem_cons.mp hb with rfl | hb
    · exact ⟨fk.2.2.2.1, fk.2.1, fk.2.2.2.2.1, fk.2.2.2.2.2⟩
    · rw [List.mem_singleton.mp hb]
      exact ⟨fd.2.2.2.1, fd.2.1, fd.2.2.2.2.1, fd.2.2.2.2.2⟩
  · obtain ⟨o, es, ep, ho, r⟩ := hm
    exact ⟨o, es, ep, kp _ o (Ne.symm fk.2.1) (Ne.symm fd.2.1) ho, r⟩
  · by_cases hb : b = d
    · rw [hb, upd_same] at e
      cases e
      rw [hb]
      exact ⟨hl, out, e2, hv, hd2⟩
    · rw [upd_ne hb] at e
      refine (I.hok b u e).stay (fun c v hc q => ?_) (fun _ q => stay _ _ q) fun _ _ q => stay _ _ q
      rcases hc with z | z
      · rw [z] at q ⊢
        exact kp _ _ (nK b u e) hb q
      · exact kp _ _ (nK c _ z) (nD c _ z) q
end
end SrtL
set_option Elab.async false
set_option linter.all false
set_option maxRecDepth 100001
set_option maxHeartbeats 3999999
namespace SrtL
open PySem PyProof.Rows Srt SrtO L2 LamX
section
variable {X : Cx} {p lpos kpos pos : Pos} {e : Expr} {te tb : TE} {α : Type}
theorem frames2 (I : X.Ok) : X.A.in1.in1.frames = some X.stack := I.frames
theorem pe_sortLam (O : KeyOrd α) {Tb : List (Addr × Str)} {c T : Addr} {k i : Nat} {a : Str} {params : Arguments} {body : Expr} {scope : Scope} (hg : Gl X "sorted") (hm : X.mg "sorted" = none) (he : PE X e te) (TB : TabB X.base X.mg c T) (hmT : (T, X.env.qual ++ "<lambda>") ∈ Tb) (hu : ∀ p ∈ Tb, p.1 = T → p.2 = X.env.qual ++ "<lambda>")
    (hr : Room (k + 3) X.A) (L : LamP X.env.scope scope a) (nd : X.N.Nodup) (hN : X.N[i]? = some a)
    (hbody : ∀ (s : Shared) (H : Hp) (f c' : Addr), Room k (X.A.in1.in1.deeper (lamEnv X scope s.heap.objs.size f c')) → PE (lamCx X X.A.in1.in1 X.stack s H C8.E0 scope f c') body tb)
    (hcode : X.env.code = .ref c := by rfl) (hdef : defaultsOf params X.env = ([], []) := by rfl)
    (hbind : ∀ (q : Str) (cl : List (Str × Addr)) (pm cv ctv u : Value), bindArgs (PySem.W.kla_fn "<lambda>" q params body scope cl pm cv ctv) ⟨[u], []⟩ = pure [(a, u)] := by intros; rfl)
    (hs0 : starEach [e] X.env = (false, eval e X.env) :: starEach [] X.env := by rfl) (hs : backTo pos (starEach [e] X.env) = (false, eval e X.env) :: backTo pos (starEach [] X.env) := by rfl) (hpl : (backTo pos (starEach [e] X.env)).any (·.1) = false := by rfl) :
    PE X (.Call (.Name "sorted" p) [e] [⟨some "key", .Lambda params body scope lpos, kpos⟩] pos) (tSortLam Tb X.K O i te tb) := by
  refine ⟨fun pins s σ H Q I h => ?_⟩
  refine wpAny_Call_Name_kw (ld_blt (u := Value.builtin "sorted") I hg hm (by decide +kernel) ?_ (by decide) (by decide))
  refine PyProof.Rows.callWith_kw (thn ((pa_cons he pa_nil hs0).run pos pins s σ H (fun vs H1 => match vs with
    | [x] => ∃ (a : Addr) (xs : List V) (g : V → α), x = .ref a ∧ SqL X.K H1 a xs ∧ Tabs Tb H1 ∧
  ∀ H2, ExtN H1 H2 → Tabs Tb H2 → SqL X.K H2 a xs ∧ (∀ v ∈ xs, tb (σ.set i (some v)) H2 fun kv H4 => kv = O.enc (g v) ∧ H4 = H2) ∧
    ∀ ys p, Srtd (ltG O g) ys → Stb (ltG O g) ys xs → H2 p = none → Q (.ref p) (upd H2 p (.lst ys))
    | _ => False) I h) fun us s1 ⟨vs, H1, I1, r1, q1⟩ => ?_) hs hpl (by rfl) (by rfl)
  obtain ⟨x, rfl, u, rfl, rx, q1⟩ : ∃ x, vs = [x] ∧ ∃ u, us = [u] ∧ RelV x u ∧ ∃ (a : Addr) (xs : List V) (g : V → α), x = .ref a ∧ SqL X.K H1 a xs ∧ Tabs Tb H1 ∧
      ∀ H2, ExtN H1 H2 → Tabs Tb H2 → SqL X.K H2 a xs ∧ (∀ v ∈ xs, tb (σ.set i (some v)) H2 fun kv H4 => kv = O.enc (g v) ∧ H4 = H2) ∧
        ∀ ys p, Srtd (ltG O g) ys → Stb (ltG O g) ys xs → H2 p = none → Q (.ref p) (upd H2 p (.lst ys)) := by
    cases vs with
    | nil => exact q1.elim
    | cons x r =>
      cases r with
      | nil =>
        cases r1 with
        | cons rx t =>
          cases t
          exact ⟨x, rfl, _, rfl, rx, q1⟩
      | cons y r => exact q1.elim
  obtain ⟨l, xs, g, rfl, hl1, hT1, q1⟩ := q1
  obtain rfl : u = Value.ref l := rx
  show wpAny _ _ (evalAll ((do let v ← eval (.Lambda params body scope lpos) X.env; standAt pos; pure v) :: (backToKw pos (keywordEach [] X.env)).map (·.2))) _ _ s1
  refine wpAny_evalAll_cons (wpAny_bind (lam_make2 I1 TB hcode hmT hu hT1 hdef (L.has I1.ok) fun f c' pm ctv H2 s2 I2 e12 hT2 hf hfn hfr hc => wpAny_bind (wpAny_standAt (wpAny_pure ?_))))
  refine wpAny_evalAll_nil ?_
  show wpAny _ _ (call (.builtin "sorted") [.ref l] [(Str.ofString "key", .ref f)]) _ _ s2
  obtain ⟨hl2, hkey, hend⟩ := q1 H2 e12 hT2
  obtain ⟨its, rv, hil, hz⟩ := I2.list hl2
  refine sorted_ord (vs := its) (ltv := ltD O) (swo_dec O.swo O.dec) hil.isList (by rw [← rv.length]; exact hz) fun h1 d kS e1 hkp hd hkS gd gk nkd => ?_
  have fk : FpOk X pins H2 kS := I2.fpOk gk (I2.hok.fresh gk)
  have fd : FpOk X pins H2 d := I2.fpOk gd (I2.hok.fresh gd)
  have hroom : Room (k + 1) X.A.in1.in1 := (Room.in1 (Room.in1 hr))
  refine ⟨fun ks s' => Inv X pins σ H2 s' ∧ (∃ ek, s'.heap.get? kS = some (seqObj "list" ks.toArray ek)) ∧ s'.heap.get? d = some (seqObj "list" #[] e1) ∧ s'.heap.get? f = some (PySem.W.kla_obj "<lambda>" (X.env.qual ++ "<lambda>") params body scope (cloFrom X.env.cells scope.names []) pm c' ctv) ∧ Vals ((xs.take ks.length).map fun x => O.enc (g x)) ks,
    ⟨I2.kept (t' := s2.toks) hkp, ⟨0, hkS⟩, hd, hkp _ _ hf, by rw [List.length_nil, List.take_zero]; exact .nil⟩, ⟨fun ks s' h => ⟨h.2.1, h.2.2.1⟩, ?_, ?_, ?_⟩⟩
  · rintro ks u s' ⟨J, ⟨ek, jk⟩, jd, jf, jv⟩ hu2
    obtain ⟨x, hx, rx⟩ : ∃ x, xs[ks.length]? = some x ∧ RelV x u := by
      have lt : ks.length < xs.length := by rw [rv.length]; exact (List.getElem?_eq_some_iff.mp hu2).1
      obtain ⟨u', h1, h2⟩ := rv.get (List.getElem?_eq_getElem lt)
      rw [hu2] at h1
      cases h1
      exact ⟨_, List.getElem?_eq_getElem lt, h2⟩
    refine wpAny_call (codeAny_mono (lam_call1 (A := X.A.in1.in1) (i := i) (Q := fun kv H4 => kv = O.enc (g x) ∧ H4 = H2) J L J.ok.frames hroom nd hN rx jf hc (hbind _ _ _ _ _ _) (fun _ => hbody s' H2 f c' ‹_›) (hkey x (List.mem_of_getElem? hx))) fun r s'' hq => ?_)
    cases r with
    | error e =>
      obtain ⟨_, _, _, _, _, _, _, _, _, _, _, _, z⟩ := hq
      exact z
    | ok fl =>
      cases fl with
      | ret kv =>
        obtain ⟨v, H', os, bare, un, hok, rk, rfl, rfl⟩ := id hq
        obtain ⟨v2, H3, J2, _, _, rfl⟩ := J.after hq
        have kept : ∀ b o, H3 b = none → b ∉ frs X.stack → s'.heap.get? b = some o → s''.heap.get? b = some o := fun b o h1 h2 h3 => un.keep b o h3 h1 h2 (by simp)
        have jk2 := kept _ _ fk.1 (fp_nofr J fk) jk
        have jd2 := kept _ _ fd.1 (fp_nofr J fd) jd
        have jf2 := kept _ _ hfn hfr jf
        have sb := Heap.SameBut.update s''.heap kS (Obj.mapSeq (·.push kv))
        have kb : ∀ b o, b ≠ kS → s''.heap.get? b = some o → (s''.heap.update kS (Obj.mapSeq (·.push kv))).get? b = some o := fun b o hb e => (sb.2 b hb).trans e
        obtain ⟨c2, hc2⟩ : ∃ c2, (s''.heap.update kS (Obj.mapSeq (·.push kv))).get? kS = some (seqObj "list" (ks.toArray.push kv) c2) := ⟨_, get?_update_seq jk2 (·.push kv)⟩
        have nf : f ≠ kS := fun z => Nat.lt_irrefl _ (Nat.lt_of_lt_of_le (z ▸ Heap.lt_size hf) gk)
        refine ⟨⟨ek, jk2⟩, J2.turned (t' := s''.toks) kb fk.1 fk.2.1 fk.2.2.2.1 fk.2.2.2.2.1 fk.2.2.2.2.2, ⟨c2, by rw [hc2, List.push_toArray]⟩, kb _ _ nkd.symm jd2, kb _ _ nf jf2, ?_⟩
        have e1 : xs.take (ks ++ [kv]).length = xs.take ks.length ++ [x] := by
          rw [List.length_append, List.length_singleton, List.take_add_one, hx]
          rfl
        rw [e1, List.map_append]
        exact Paired.snoc jv rk
      | next => exact False.elim hq
      | brk => exact False.elim hq
      | cont => exact False.elim hq
  · rintro ks s' ⟨J, _, _, _, jv⟩ lk h2
    refine O.sortable ks (fun u hu => ?_) (by omega)
    obtain ⟨j, hj⟩ := List.mem_iff_getElem?.mp hu
    obtain ⟨lt, _⟩ := List.getElem?_eq_some_iff.mp hj
    have lt2 : j < ((xs.take ks.length).map fun x => O.enc (g x)).length := by rw [jv.length]; exact lt
    obtain ⟨u', h3, h4⟩ := jv.get (List.getElem?_eq_getElem lt2)
    rw [hj] at h3
    cases h3
    rw [List.getElem_map] at h4
    exact ⟨_, h4⟩
  · rintro ks s' ⟨J, ⟨ek, jk⟩, jd, _, jv⟩ lk ps h1 h2
    have lx : xs.length = ks.length := by rw [rv.length, lk]
    rw [← lx, List.take_length] at jv
    obtain ⟨y1, y2, y3⟩ := conv O g rv jv h1 h2
    refine ⟨rfl, .ref d, _, inv_done (ys := ps.map fun p => bk p.2) J fk fd nkd jk jd (by rw [y3.len]; exact hz) y1, rfl, hend _ d y2 y3 fd.1⟩
end
end SrtL
set_option Elab.async false
set_option linter.all false
set_option maxRecDepth 100001
set_option maxHeartbeats 1999999
/-! rules for texts: list(s), s * n, s[::-1], and for lists of ints: xs < ys. -/
namespace L2
open PySem.Spec PySem PyProof.Rows
def sgn (c : Nat) : V := .str ⟨#[c]⟩
def sgns (z : Str) : List V := z.cps.toList.map sgn
theorem vals_get : ∀ {xs : List V} {us : List Value}, xs.length = us.length → (∀ (j : Nat) x u, xs[j]? = some x → us[j]? = some u → RelV x u) → Vals xs us
  | [], [], _, _ => .nil
  | [], _ :: _, h, _ => by simp at h
  | _ :: _, [], h, _ => by simp at h
  | x :: xs, u :: us, h, k => .cons (k 0 x u rfl rfl) (vals_get (by simpa using h) fun j a b h1 h2 => k (j + 1) a b (by simpa using h1) (by simpa using h2))
section
variable {X : Cx}
/-- list(s) -/
theorem call_listS (hc : X.calm = true) : CallR X (.type "list") (fun xs H Q => ∃ z : Str, xs = [.str z] ∧ z.length ≤ sizeLine ∧ ∀ p, H p = none → Q (.ref p) (upd H p (.lst (sgns z)))) := by
  intro pins s σ H xs us Q I r h
  obtain ⟨z, rfl, hz, q⟩ := h
  obtain ⟨u, rfl, rx⟩ := vals1 r
  obtain ⟨t, rfl⟩ := rx
  refine PySem.call_list_str (I.ok.hd hc) z t (fun h' tk acc' c' hk hS hacc => ?_) hz
  refine ⟨.ref _, upd H s.heap.objs.size (.lst (sgns z)), I.laid (t' := tk) hk (Nat.le_refl _) ⟨?_, acc'.toList, c', ?_, by rw [hS]⟩, rfl, q _ (I.hok.fresh (Nat.le_refl _))⟩
  · unfold sgns
    rw [List.length_map, Array.length_toList]
    exact hz
  · refine vals_get ?_ fun j x u h1 h2 => ?_
    · unfold sgns
      rw [List.length_map, Array.length_toList, Array.length_toList, hacc.1]
    · unfold sgns at h1
      rw [List.getElem?_map] at h1
      rw [Array.getElem?_toList] at h2
      obtain ⟨c, t', hc', rfl⟩ := hacc.2 j u h2
      rw [Array.getElem?_toList, hc'] at h1
      cases h1
      exact ⟨t', rfl⟩
/-! ### xs < ys -/
theorem firstLt_map (e r : Nat → Bool) (fin : Bool) : ∀ l : List Nat, SeqAt.firstLt e r fin (l.map (· + 1)) = SeqAt.firstLt (fun j => e (j + 1)) (fun j => r (j + 1)) fin l
  | [] => rfl
  | j :: l => by
    rw [List.map_cons]
    unfold SeqAt.firstLt
    rw [firstLt_map e r fin l]
theorem firstLt_lex : ∀ ns ms : List Int, SeqAt.firstLt (fun j => ns.getD j 0 == ms.getD j 0) (fun j => decide (ns.getD j 0 < ms.getD j 0)) (decide (ns.length < ms.length)) (List.range (min ns.length ms.length)) = HT.lexLt ns ms
  | [], [] => rfl
  | [], y :: ys => by simp [SeqAt.firstLt, HT.lexLt]
  | x :: xs, [] => by simp [SeqAt.firstLt, HT.lexLt]
  | x :: xs, y :: ys => by
    have ih := firstLt_lex xs ys
    have e : List.range (min (x :: xs).length (y :: ys).length) = 0 :: (List.range (min xs.length ys.length)).map (· + 1) := by
      rw [List.length_cons, List.length_cons, Nat.succ_min_succ, List.range_succ_eq_map]
    rw [e, HT.lexLt_cons]
    show (if (x == y) = true then _ else decide (x < y)) = _
    by_cases c : x = y
    · rw [if_pos (by simpa using c), if_pos c, firstLt_map, ← ih]
      simp
    · rw [if_neg (by simpa using c), if_neg c]
theorem ints_get : ∀ {ns : List Int} {us : List Value}, Vals (ns.map V.int) us → ∀ (j : Nat) u, us[j]? = some u → ∃ t, u = .int (ns.getD j 0) t
  | [], _, .nil, j, u, h => by simp at h
  | n :: ns, _, .cons ⟨t, e⟩ r, 0, u, h => by
    simp at h
    subst h e
    exact ⟨t, rfl⟩
  | n :: ns, _, .cons _ r, j + 1, u, h => by
    obtain ⟨t, e⟩ := ints_get r j u (by simpa using h)
    exact ⟨t, by simpa using e⟩
def rLtLI (K : PySem.W.Frag) : R2 := fun x y H Q => ∃ a b ns ms, x = .ref a ∧ y = .ref b ∧ SqL K H a (ns.map V.int) ∧ SqL K H b (ms.map V.int) ∧ Q (.bl (HT.lexLt ns ms)) H
theorem op_ltLI (hu : X.A.units < cLine) : OpR X (compareOp .Lt) (rLtLI X.K) := by
  intro pins s σ H x y v u Q I rx ry h
  obtain ⟨a, b, ns, ms, rfl, rfl, ha, hb, q⟩ := h
  cases rx
  cases ry
  obtain ⟨its, r1, p1, _⟩ := I.list ha
  obtain ⟨its2, r2, p2, _⟩ := I.list hb
  have l1 : its.toArray.size = ns.length := by have := r1.length; simp at this ⊢; omega
  have l2 : its2.toArray.size = ms.length := by have := r2.length; simp at this ⊢; omega
  have g1 : ∀ j (h : j < its.toArray.size), ∃ t, its.toArray[j] = .int (ns.getD j 0) t := fun j h => ints_get r1 j _ (by simpa using (List.getElem?_eq_getElem (by simpa using h)))
  have g2 : ∀ j (h : j < its2.toArray.size), ∃ t, its2.toArray[j] = .int (ms.getD j 0) t := fun j h => ints_get r2 j _ (by simpa using (List.getElem?_eq_getElem (by simpa using h)))
  refine SeqAt.RcLt.lists (e := fun j => ns.getD j 0 == ms.getD j 0) (r := fun j => decide (ns.getD j 0 < ms.getD j 0)) p1.isList p2.isList hu (fun j h1 h2 => ?_) (fun j h1 h2 _ => ?_) X.prog X.w _ _ ?_
  · obtain ⟨t, e1⟩ := g1 j h1
    obtain ⟨t', e2⟩ := g2 j h2
    rw [e1, e2]
    exact SeqAt.EqAt.int_int _ _ _ _
  · obtain ⟨t, e1⟩ := g1 j h1
    obtain ⟨t', e2⟩ := g2 j h2
    rw [e1, e2]
    exact fun prog w E Q h => HT.rcLt_int _ _ _ _ _ _ prog w E Q h
  · rw [l1, l2, firstLt_lex]
    exact ⟨.bl _, H, I, rfl, q⟩
/-! ### s * n -/
def repS (z : Str) (k : Nat) : Str := ⟨((List.replicate k z.cps.toList).flatten).toArray⟩
theorem fold_rep (z : Array Nat) : ∀ (k : Nat) (a : Array Nat), ((List.replicate k z).foldl (· ++ ·) a) = a ++ ((List.replicate k z.toList).flatten).toArray
  | 0, a => by simp
  | k + 1, a => by
    rw [List.replicate_succ, List.foldl_cons, fold_rep z k, List.replicate_succ, List.flatten_cons]
    refine Array.ext' ?_
    simp
def rMulS : R2 := fun x y H Q => ∃ (z : Str) (k : Nat), x = .str z ∧ y = .int (k : Nat) ∧ 2 ≤ k ∧ k ≤ 1000 ∧ 1 ≤ z.length ∧ z.length ≤ 1000 ∧ Q (.str (repS z k)) H
theorem op_mulS : OpR X (binaryOp .Mult) rMulS := by
  intro pins s σ H x y v u Q I rx ry h
  obtain ⟨z, k, rfl, rfl, k2, k1, z1, z2, q⟩ := h
  obtain ⟨t, rfl⟩ := rx
  obtain ⟨t', rfl⟩ := ry
  have n1 : ¬ ((k : Nat) : Int) < 1 := by omega
  have n2 : (((k : Nat) : Int) == 1 || z.length == 0) = false := by
    simp
    omega
  refine P.mul_str (by simp; omega) (fun _ _ => ?_) (fun _ _ => ?_) ?_
  · have hk : (9007199254740 : Int) ≤ (2 ^ 63 - 1) / ((k : Nat) : Int) := by
      refine (Int.le_ediv_iff_mul_le (by omega)).mpr ?_
      have : (9007199254740 : Int) * ((k : Nat) : Int) ≤ 9007199254740 * 1000 := Int.mul_le_mul_of_nonneg_left (by omega) (by decide)
      have e : (9007199254740 : Int) * 1000 ≤ 2 ^ 63 - 1 := by decide
      omega
    omega
  · rw [Int.toNat_natCast]
    have : z.length * k ≤ 1000 * 1000 := Nat.mul_le_mul z2 k1
    exact decide_eq_false (Nat.not_lt.mpr (Nat.le_trans this (by decide)))
  · rw [if_neg n1, if_neg (by rw [n2]; decide), Int.toNat_natCast, fold_rep]
    have e : (#[] ++ ((List.replicate k z.cps.toList).flatten).toArray : Array Nat) = ((List.replicate k z.cps.toList).flatten).toArray := by simp
    rw [e]
    refine ⟨?_, .str (repS z k), H, I.tok _, ⟨_, rfl⟩, q⟩
    show (((List.replicate k z.cps.toList).flatten).toArray).size ≤ sizeLine
    rw [List.size_toArray, List.length_flatten, List.map_replicate, List.sum_replicate_nat, Array.length_toList]
    have : k * z.length ≤ 1000 * 1000 := Nat.mul_le_mul k1 z2
    exact Nat.le_trans this (by decide)
/-! ### s[::-1] -/
def revS (z : Str) : Str := ⟨z.cps.toList.reverse.toArray⟩
def tRevS (te : TE) : TE := fun σ H Q => te σ H fun x H1 => ∃ z : Str, x = .str z ∧ z.length ≤ sizeLine ∧ Q (.str (revS z)) H1
theorem pick_rev (z : Str) : (Builtin.Str.strSliceIndices none none (-1) z.length).filterMap (z.cps[·]?) = z.cps.toList.reverse := by
  show (sliceRange ((z.cps.size : Int) - 1) (-1) (-1)).filterMap (z.cps[·]?) = _
  rw [PySem.W.krv_sliceRange, PySem.W.krv_range, List.filterMap_reverse, PySem.W.krv_all]
theorem pe_revS {e : Expr} {te : TE} {k : Nat} {p1 p2 p3 pos : Pos} (he : PE X e te) : PE X (.Subscript e (.Slice none none (some (.UnaryOp .USub (.Constant (.int 1) k p1) p2)) p3) pos) (tRevS te) := by
  refine ⟨fun pins s σ H Q I h => ?_⟩
  refine Subscript_ (thn (he.run pins s σ H _ I h) fun v s1 ⟨x, H1, I1, r1, q1⟩ => ?_)
  obtain ⟨z, ex, hz, q⟩ := q1
  subst ex
  obtain ⟨t, rfl⟩ := r1
  have hst : PO X (some (.UnaryOp .USub (.Constant (.int 1) k p1) p2)) (tPart (tUn (rU fun i => .int (-i)) (tC (.int 1)))) := po_some (pe_un un_neg pe_int)
  refine wpAny_Slice (thn (po_none.run pins s1 σ H1 (fun o H2 => o = none ∧ H2 = H1) I1 ⟨rfl, rfl⟩) fun vl s2 ⟨l, H2, I2, pl, el, e2⟩ => ?_)
  subst el e2
  refine thn (po_none.run pins s2 σ H2 (fun o H3 => o = none ∧ H3 = H2) I2 ⟨rfl, rfl⟩) fun vu s3 ⟨u, H3, I3, pu, eu, e3⟩ => ?_
  subst eu e3
  refine thn (hst.run pins s3 σ H3 (fun o H4 => o = some (-1) ∧ H4 = H3) I3 ⟨1, rfl, -1, rfl, rfl, rfl⟩) fun vs s4 ⟨o, H4, I4, ps, eo, e4⟩ => ?_
  subst eo e4
  have I5 : Inv X pins σ H4 { s4 with heap := s4.heap.push { cls := .type "slice", data := .fields #[vl, vu, vs] } } := I4.kept (t' := s4.toks) fun b ob q => Heap.get?_push_of_some _ q
  obtain ⟨l0, rfl, e0⟩ := IsPart.raw pl
  obtain ⟨u0, rfl, e1⟩ := IsPart.raw pu
  obtain ⟨v0, rfl, e2⟩ := IsPart.raw ps
  have l0n : l0 = none := by cases l0 with | none => rfl | some _ => cases e0
  have u0n : u0 = none := by cases u0 with | none => rfl | some _ => cases e1
  subst l0n u0n
  obtain ⟨tk, rfl⟩ : ∃ tk, v0 = some (-1, tk) := by
    cases v0 with
    | none => cases e2
    | some p =>
      obtain ⟨a, b⟩ := p
      have : a = -1 := Option.some.inj e2
      exact ⟨b, by rw [this]⟩
  show wpAny (model X.prog X.w) X.A (subscriptTail e (.Slice none none (some (.UnaryOp .USub (.Constant (.int 1) k p1) p2)) p3) (.str z t) (.ref s4.heap.objs.size)) (EP X pins σ Q) X.xe _
  refine tail_any (ops := [.str z t, .ref s4.heap.objs.size]) (typeIs_str _ z t) F.slot_str_getitem.lookup ?_ (by with_unfolding_all rfl)
  refine wpAny_getItem_str_slice (l := none) (u := none) (st := some (-1, tk)) ⟨_, Heap.get?_push_size _ rfl, rfl, rfl⟩ rfl ?_
  show Made.post (if ((-1 : Int) == 1 && (Builtin.Str.strSliceIndices none none (-1) z.length).length == z.length) = true then Made.val (.str z t) else Made.str ⟨((Builtin.Str.strSliceIndices none none (-1) z.length).filterMap (z.cps[·]?)).toArray⟩) _ _
  rw [if_neg (by simp), pick_rev]
  refine ⟨?_, .str (revS z), H4, I5.tok _, ⟨_, rfl⟩, q⟩
  show (z.cps.toList.reverse.toArray).size ≤ sizeLine
  rw [List.size_toArray, List.length_reverse, Array.length_toList]
  exact hz
/-! ### sep.join(s), s a text -/
theorem mt_joinS (hc : X.calm = true) : MtR X "str.join" (fun x xs H Q => ∃ a z : Str, x = .str a ∧ xs = [.str z] ∧ JoinOk a (PyProof.Rows.signs z) = true ∧ Q (.str (Txt.join a (PyProof.Rows.signs z))) H) := by
  intro pins s σ H x xs v us Q I rx rs h
  obtain ⟨a, z, rfl, rfl, ok, q⟩ := h
  obtain ⟨t, rfl⟩ := rx
  obtain ⟨u, rfl, ru⟩ := vals1 rs
  obtain ⟨t', rfl⟩ := ru
  exact SC.joinStr (I.ok.hd hc) ok fun h' k t2 hk => ⟨.str _, H, I.kept (t' := k) hk, ⟨t2, rfl⟩, q⟩
end
end L2
set_option Elab.async false
set_option linter.all false
set_option maxRecDepth 100001
set_option maxHeartbeats 3200000
/-! len(set(s)), s a text whose signs are all unlike. -/
namespace SetStr
open PySem.Spec PySem PyProof.Rows
def sgl (c : Nat) : Str := ⟨#[c]⟩
def firsts (z : Str) (i : Nat) : List Nat := z.cps.toList.take i
def has (z : Str) (i : Nat) (k : Str) : Bool := (firsts z i).any fun c => sgl c == k
theorem firsts_succ {z : Str} {i c : Nat} (h : z.cps[i]? = some c) : firsts z (i + 1) = firsts z i ++ [c] := by
  unfold firsts
  rw [List.take_add_one, Array.getElem?_toList, h]
  rfl
theorem sgl_inj {a b : Nat} (h : sgl a = sgl b) : a = b := by
  have h2 : (#[a] : Array Nat) = #[b] := congrArg Str.cps h
  have h3 := congrArg Array.toList h2
  simpa using h3
theorem has_new {z : Str} {i c : Nat} (nd : z.cps.toList.Nodup) (h : z.cps[i]? = some c) : has z i (sgl c) = false := by
  unfold has
  rw [List.any_eq_false]
  intro x hx e
  have e : x = c := sgl_inj (by simpa using e)
  subst e
  have h1 : firsts z (i + 1) = firsts z i ++ [x] := firsts_succ h
  have h2 : (firsts z (i + 1)).Nodup := List.Sublist.nodup (List.take_sublist _ _) nd
  rw [h1] at h2
  exact (List.nodup_append.mp h2).2.2 x hx x List.mem_cons_self rfl
section
variable {prog : Program} {w : World} {A : Around} {R : Result → Shared → Prop} {I : Addr} {fp wr : List Addr} {G : Array GenState → Array GenState → Prop} {n : Nat} {St : Nat → Shared → Prop}
theorem loop (z : Str) (nd : z.cps.toList.Nodup) (hb : z.cps.size + 1 < scanBound) (W : WalksS prog w A.in1 I fp wr G z.cps.size (SignAt z) St) (S : Addr) (hSf : S ∉ fp) :
    ∀ (k i : Nat) (s : Shared), z.cps.size - i = k → i ≤ z.cps.size → St i s →
      s.heap.SetOf (PySem.strKind prog w) S (has z i) i →
      (∀ s', Moved (S :: wr) G s s' → s'.heap.SetOf (PySem.strKind prog w) S (has z z.cps.size) z.cps.size → R (.ok (.ret .none)) s') →
      codeAny (model prog w) A (.builtin "set.update.loop" ⟨[.ref S, .ref I], []⟩) R s := by
  have hSw : S ∉ wr := fun h => hSf (W.sub _ h)
  have hsub : ∀ b ∈ wr, b ∈ S :: wr := fun b hb => List.mem_cons_of_mem _ hb
  intro k
  induction k with
  | zero =>
    intro i s hk hi hst hS hR
    have hin : i = z.cps.size := by omega
    subst hin
    refine codeAny_builtin PyProof.Rows.F.entry_set_update_loop ?_
    rw [Around.under_plainId PyProof.Rows.F.plain_set_update_loop _]
    show wpAny _ A.in1 (pyNext (.ref I) >>= _) _ _ s
    refine wpAny_bind (W.done s _ _ hst fun s' hm => ?_)
    show wpAny _ A.in1 (ret Value.none) _ _ s'
    exact wpAny_pure (hR s' (hm.mono hsub) (by
      obtain ⟨o, es, ep, t, ho, rest⟩ := hS
      exact ⟨o, es, ep, t, hm.heap S _ hSw ho, rest⟩))
  | succ k ih =>
    intro i s hk hi hst hS hR
    have hlt : i < z.cps.size := by omega
    refine codeAny_builtin PyProof.Rows.F.entry_set_update_loop ?_
    rw [Around.under_plainId PyProof.Rows.F.plain_set_update_loop _]
    show wpAny _ A.in1 (pyNext (.ref I) >>= _) _ _ s
    refine wpAny_bind (W.item i s _ _ hlt hst fun v s' hP hst' hm => ?_)
    obtain ⟨c, t, hc, rfl⟩ := hP
    have hS' : s'.heap.SetOf (PySem.strKind prog w) S (has z i) i := by
      obtain ⟨o, es, ep, tb, ho, rest⟩ := hS
      exact ⟨o, es, ep, tb, hm.heap S _ hSw ho, rest⟩
    show wpAny _ A.in1 (holding [Value.str (sgl c) t] (setAdd S (.str (sgl c) t)) >>= _) _ _ s'
    refine wpAny_bind (wpAny_holding ?_)
    unfold setAdd
    refine wpAny_holding ?_
    refine wpAny_bind ((PySem.strKind prog w).pyHash (k := sgl c) (strKind_is _ _ _ _) ?_)
    refine wpAny_setAddHashed_of (knd := PySem.strKind prog w) (s := { s' with toks := s'.toks + 1 }) (strKind_is _ _ _ _) rfl hS' (by omega) fun h' hsb hS2 => ?_
    have hSi : h'.SetOf (PySem.strKind prog w) S (has z (i + 1)) (i + 1) := by
      refine SetOf_congr hS2 (fun k' => ?_) (by rw [has_new nd hc]; rfl)
      unfold has
      rw [firsts_succ hc, List.any_append]
      congr 1
      by_cases e : k' = sgl c
      · subst e; simp
      · have hb : (sgl c == k') = false := by simpa [beq_iff_eq] using (fun h' : sgl c = k' => e h'.symm)
        simp [hb, e]
    refine wpAny_pure ⟨plainId_quiet PyProof.Rows.F.plain_set_update_loop _, ih (i + 1) _ (by omega) hlt (W.frame _ s' _ _ hst' (Nat.le_succ _) fun b hb o e => ?_) hSi fun s'' hm'' hS'' => ?_⟩
    · rw [hsb.2 b (fun h : b = S => hSf (by rw [← h]; exact hb))]; exact e
    · refine hR s'' (Moved.trans W.gtrans ((hm.mono hsub).then_heap (Nat.le_succ _) fun b o hb e => ?_) hm'') hS''
      rw [hsb.2 b (fun h : b = S => hb (by rw [h]; exact List.mem_cons_self))]; exact e
end
section
variable {prog : Program} {w : World} {A : Around} {E : Value → Shared → Prop} {s : Shared}
theorem call_set (z : Str) (t : Tok) {Q : Value → Shared → Prop} (hh : A.handled = none) (nd : z.cps.toList.Nodup) (hb : z.cps.size + 1 < scanBound)
    (h : ∀ (h' : Heap) (tk : Nat), h'.SetOf (PySem.strKind prog w) s.heap.objs.size (has z z.cps.size) z.cps.size → (∀ b o, b < s.heap.objs.size → s.heap.get? b = some o → h'.get? b = some o) → Q (.ref s.heap.objs.size) { s with heap := h', toks := tk }) :
    wpAny (model prog w) A (call (.type "set") [.str z t]) Q E s := by
  obtain ⟨c, tl, hmro⟩ := PySem.F.called_set.mro
  have hmade := PySem.F.called_set.made
  have hsub := PySem.F.called_set.sub
  refine wpAny_call (codeAny_of_tree ?_)
  show wpAny _ _ (callAny (.type "set") _) _ _ _
  refine wpAny_pure ⟨Code.quiet_builtin _ (by decide +kernel), codeAny_builtin PySem.F.entry_type_call ?_⟩
  rw [Around.under_plain (weight_type_call_type "set" [.str z t] []) rfl]
  have h1 := PySem.F.called_set.notType
  have h2 := PySem.F.called_set.canCreate
  have hct := PySem.F.typeCall_set_1 (.str z t)
  repeat (any_goals (first | assumption | wp_step))

  refine codeAny_mono (code_set_new_1 (.str z t) (E := E) (Q₁ := fun obj s₁ => ∃ led : Bool, obj = .ref s.heap.objs.size ∧ s₁ = { s with heap := s.heap.push { cls := .type "set", dict := none, data := .set #[] 0 (.fresh 0 0 led) } }) fun led => ⟨led, rfl, rfl⟩) fun r s₁ hr => ?_
  cases r with
  | error e => exact hr
  | ok fl =>
    cases fl with
    | ret obj =>
      obtain ⟨led, rfl, rfl⟩ := hr
      have hS : (s.heap.push { cls := .type "set", dict := none, data := .set #[] 0 (.fresh 0 0 led) }).get? s.heap.objs.size = some { cls := .type "set", dict := none, data := .set #[] 0 (.fresh 0 0 led) } := Heap.get?_push_size _ rfl
      have hT : Shared.TypeIs { s with heap := s.heap.push { cls := .type "set", dict := none, data := .set #[] 0 (.fresh 0 0 led) } } (.ref s.heap.objs.size) "set" := ⟨_, hS, rfl⟩
      have hli := PySem.F.called_set.init.lookup
      have hbi := PySem.F.called_set.init.bind (.ref s.heap.objs.size)
      repeat (any_goals (first | assumption | wp_step))

      refine codeAny_mono (codeAny_call_builtin (R := wants (fun r s₂ => r = .none ∧ ∃ h' tk, s₂ = { s with heap := h', toks := tk } ∧
          h'.SetOf (PySem.strKind prog w) s.heap.objs.size (has z z.cps.size) z.cps.size ∧
          (∀ b o, b < s.heap.objs.size → s.heap.get? b = some o → h'.get? b = some o)) E) PySem.F.called_set.init.plain PySem.F.entry_set_init (check_set_init_1 hT ?_)) fun r₂ s₂ hr₂ => ?_
      · have hsls := PySem.F.sub_str_set
        have hslf := PySem.F.sub_str_frozenset
        have hne : (Value.type "str" == Value.type "dict") = false := by decide
        unfold Builtin.«set.__init__» noKeywords Builtin.Frozenset.updateFrom
        generalize hPI : pyIter = PI
        wp_walk
        subst hPI

        have hh3 : A.in1.in1.in1.handled = none := by simp [hh]
        have hSf : s.heap.objs.size ∉ [(s.heap.push { cls := .type "set", dict := none, data := .set #[] 0 (.fresh 0 0 led) }).objs.size] := by
          rw [Heap.size_push]; simp only [List.mem_singleton]
          exact Nat.ne_of_lt (Nat.lt_succ_self _)
        refine wpAny_pyIter_str fun o St W hst => ?_
        refine wpAny_bind (wpAny_runValue ?_)
        refine loop z nd hb (W _ hh3).toS s.heap.objs.size hSf (z.cps.size - 0) 0 _ (by omega) (Nat.zero_le _) hst ?hS0 ?hR
        case hS0 =>
          have hget : ((s.heap.push { cls := .type "set", dict := none, data := .set #[] 0 (.fresh 0 0 led) }).push o).get? s.heap.objs.size
              = some { cls := .type "set", dict := none, data := .set #[] 0 (.fresh 0 0 led) } := Heap.get?_push_of_some _ hS
          exact PyProof.Rows.SetOf_congr ((PyProof.Rows.setObjOf_fresh (knd := PySem.strKind prog w) led).setOf hget (by unfold scanBound; omega)) (fun _ => rfl) rfl
        case hR =>
          intro s' hm hS'
          obtain ⟨h', g', d', tk', os'⟩ := s'
          have eg : g' = s.gens := hm.gens
          have ed : d' = s.drawn := hm.drawn
          have eo : os' = s.os := hm.os
          subst eg; subst ed; subst eo
          show wpAny _ _ _ _ _ _
          refine wpAny_pure ?_
          show wpAny _ _ (ret Value.none) _ _ _
          refine wpAny_pure ⟨rfl, h', tk', rfl, hS', fun b o hb e => ?_⟩
          have hb1 : b ≠ s.heap.objs.size := Nat.ne_of_lt hb
          have hb2 : b ≠ (s.heap.push { cls := .type "set", dict := none, data := .set #[] 0 (.fresh 0 0 led) }).objs.size := by
            rw [Heap.size_push]; exact Nat.ne_of_lt (Nat.lt_succ_of_lt hb)
          exact hm.heap b o (by simp only [List.mem_cons, List.mem_singleton, List.not_mem_nil, or_false, not_or]; exact ⟨hb1, hb2⟩) (Heap.get?_push_of_some _ (Heap.get?_push_of_some _ e))

      · cases r₂ with
        | error e => exact hr₂
        | ok fl₂ =>
          cases fl₂ with
          | ret r =>
            obtain ⟨rfl, h', tk, rfl, hS', hk'⟩ := hr₂
            repeat (any_goals (first | assumption | wp_step))
            exact h _ _ hS' hk'
          | _ => exact hr₂.elim
    | _ => exact hr.elim
end
end SetStr
namespace L2
open PySem.Spec PySem PyProof.Rows
section
variable {X : Cx}
/-- len(set(s)), the signs of s all unlike -/
def tLenSetS (ta : TE) : TE := fun σ H Q => ta σ H fun x H1 => ∃ z : Str, x = .str z ∧ z.cps.toList.Nodup ∧ z.cps.size ≤ 200 ∧ Q (.int z.cps.size) H1
theorem pe_lenSetS {a : Expr} {ta : TE} {p p2 q pos : Pos} (hc : X.calm = true) (hg : Gl X "len") (hm : X.mg "len" = none) (hg2 : Gl X "set") (hm2 : X.mg "set" = none) (ha : PE X a ta)
    (na : starEach [a] X.env = (false, eval a X.env) :: starEach [] X.env := by rfl) : PE X (.Call (.Name "len" p) [.Call (.Name "set" p2) [a] [] q] [] pos) (tLenSetS ta) := by
  refine ⟨fun pins s σ H Q I h => ?_⟩
  refine Call_ (ld_blt I hg hm boot_len ?_)
  refine PyProof.Rows.callWith_builtin1 (PyProof.Rows.args_cons ?_ rfl) rfl rfl
  refine Call_ (ld_blt I hg2 hm2 boot_set ?_)
  refine PyProof.Rows.callWith_type1 (PyProof.Rows.args_cons (thn (ha.run pins s σ H _ I h) fun v s1 ⟨x, H1, I1, r1, q1⟩ => PyProof.Rows.args_nil ?_) na) na rfl
  obtain ⟨z, rfl, nd, hz, q1⟩ := q1
  obtain ⟨t, rfl⟩ := r1
  refine SetStr.call_set z t (I1.ok.hd hc) nd (by unfold scanBound; omega) fun h' tk hS hk => ?_
  refine PyProof.Rows.args_nil ?_
  obtain ⟨o, es, ep, tt, ho, hex, hd, _, _, _, hf, hn⟩ := hS
  have I2 : Inv X pins σ H1 { s1 with heap := h', toks := tk } := I1.kept fun b o e => hk b o (Heap.lt_size e) e
  exact call_len_set ho hex hd hf (by rw [hn] <;> omega) ⟨.int z.cps.size, H1, I2.tok _, ⟨_, by rw [hn]⟩, q1⟩
end
end L2
set_option Elab.async false
set_option linter.all false
set_option maxRecDepth 100001
set_option maxHeartbeats 3999999
namespace K03
open PySem L2
def topS (i : Nat) : Stmt := PySem.Challenge.pw_wordvault_k03_whole_histories_of_words.main.body.getD i (.Pass ⟨0, 0, 0, 0⟩)
abbrev sWhole : Stmt := topS 2
abbrev sBetween : Stmt := topS 3
abbrev sPen : Stmt := topS 41
abbrev sDraw : Stmt := topS 42
abbrev sPick : Stmt := topS 43
/-! what kinds of values are met -/
inductive Kn (H : Hp) : V → Prop where
  | non : Kn H .non
  | bl (b : Bool) : Kn H (.bl b)
  | int (i : Int) : Kn H (.int i)
  | str (x : Str) : Kn H (.str x)
  | lst {a : Addr} {xs : List V} (e : H a = some (.lst xs)) : Kn H (.ref a)
  | tup {a : Addr} {xs : List V} (e : H a = some (.tup xs)) : Kn H (.ref a)
theorem Kn.same {H H2 : Hp} {v : V} (k : Kn H v) (s : Same H H2) : Kn H2 v := by
  cases k with
  | non => exact .non
  | bl b => exact .bl b
  | int i => exact .int i
  | str x => exact .str x
  | lst e => exact .lst (s _ _ e)
  | tup e => exact .tup (s _ _ e)
def isI : V → Bool
  | .int _ => true
  | _ => false
def isB : V → Bool
  | .bl _ => true
  | _ => false
def isT (H : Hp) : V → Bool
  | .ref a => match H a with
    | some (.tup _) => true
    | _ => false
  | _ => false
def isL (H : Hp) : V → Bool
  | .ref a => match H a with
    | some (.lst _) => true
    | _ => false
  | _ => false
theorem isT_lst {H : Hp} {a : Addr} {xs : List V} (e : H a = some (.lst xs)) : isT H (.ref a) = false := by simp only [isT, e]
theorem isT_tup {H : Hp} {a : Addr} {xs : List V} (e : H a = some (.tup xs)) : isT H (.ref a) = true := by simp only [isT, e]
theorem isL_lst {H : Hp} {a : Addr} {xs : List V} (e : H a = some (.lst xs)) : isL H (.ref a) = true := by simp only [isL, e]
theorem isL_tup {H : Hp} {a : Addr} {xs : List V} (e : H a = some (.tup xs)) : isL H (.ref a) = false := by simp only [isL, e]
def KT (K : PySem.W.Frag) (t : String) (bi bb bt bl : Bool) : Prop := PySem.W.kitOne K (.type t) (.type "int") = some bi ∧ PySem.W.kitOne K (.type t) (.type "bool") = some bb ∧
    PySem.W.kitOne K (.type t) (.type "tuple") = some bt ∧ PySem.W.kitOne K (.type t) (.type "list") = some bl ∧ PySem.W.kitOne K (.type t) (.type "dict") = some false
theorem kt_of {K : PySem.W.Frag} {t : String} {bi bb bt bl : Bool} (h : kitB t "int" = some bi ∧ kitB t "bool" = some bb ∧ kitB t "tuple" = some bt ∧ kitB t "list" = some bl ∧ kitB t "dict" = some false) : KT K t bi bb bt bl := h
theorem kt_non {K : PySem.W.Frag} : KT K "NoneType" false false false false := kt_of (by decide +kernel)
theorem kt_bl {K : PySem.W.Frag} : KT K "bool" true true false false := kt_of (by decide +kernel)
theorem kt_int {K : PySem.W.Frag} : KT K "int" true false false false := kt_of (by decide +kernel)
theorem kt_str {K : PySem.W.Frag} : KT K "str" false false false false := kt_of (by decide +kernel)
theorem kt_lst {K : PySem.W.Frag} : KT K "list" false false false true := kt_of (by decide +kernel)
theorem kt_tup {K : PySem.W.Frag} : KT K "tuple" false false true false := kt_of (by decide +kernel)
/-- a known value's type, and what isinstance says of it -/
theorem Kn.kinds (K : PySem.W.Frag) {H : Hp} {v : V} (k : Kn H v) : ∃ t : String, TyX K H v (.type t) ∧ KT K t (isI v || isB v) (isB v) (isT H v) (isL H v) := by
  cases k with
  | non => exact ⟨_, .base .non, kt_non⟩
  | bl b => exact ⟨_, .base (.bl b), kt_bl⟩
  | int i => exact ⟨_, .base (.int i), kt_int⟩
  | str x => exact ⟨_, .base (.str x), kt_str⟩
  | lst e =>
    rw [isT_lst e, isL_lst e]
    exact ⟨_, .base (.lst e), kt_lst⟩
  | tup e =>
    rw [isT_tup e, isL_tup e]
    exact ⟨_, .base (.tup e), kt_tup⟩
def spWhole : Sp := fun vs H Q _ => ∃ v, vs = [v] ∧ Kn H v ∧ Q (.bl (isI v)) H
def btw : V → Int → Int → Bool
  | .int i, lo, hi => decide (lo ≤ i ∧ i ≤ hi)
  | _, _, _ => false
def spBetween : Sp := fun vs H Q _ => ∃ v lo hi, vs = [v, .int lo, .int hi] ∧ Kn H v ∧ Q (.bl (btw v lo hi)) H
/-- how many items a known tuple has -/
def isTn (H : Hp) (v : V) (n : Int) : Bool := match v with
  | .ref a => match H a with
    | some (.tup xs) => decide ((xs.length : Int) = n)
    | _ => false
  | _ => false
def spTupOf : Sp := fun vs H Q _ => ∃ v n, vs = [v, .int n] ∧ Kn H v ∧ Q (.bl (isTn H v n)) H
section
variable {P : Program} {w : World} {K : PySem.W.Frag} {mg : Str → Option Value} {base : Heap}
/-- a def of the top that may be called by its name; CX: what it may let out -/
structure Cal (CX : CXT) (P : Program) (w : World) (K : PySem.W.Frag) (mg : Str → Option Value) (base : Heap) (k : Nat) (x : Str) (sp : Sp) : Prop where
  ex : ∃ (f : Addr) (fd : FuncData) (ps : List Str), FnOk P w K mg base CX k f fd ps sp ∧ mg x = some (.ref f) ∧ PySem.W.keepIn K (.ref f) = true ∧ Binds K fd ps []
/-- a method of the class at C -/
structure Met (CX : CXT) (P : Program) (w : World) (K : PySem.W.Frag) (mg : Str → Option Value) (base : Heap) (k : Nat) (C : Addr) (m : Str) (sp : Sp) : Prop where
  ex : ∃ (f : Addr) (fd : FuncData) (ps : List Str), Cls K C ∧ Meth K C m f ∧ FnOk P w K mg base CX k f fd ps sp ∧ Binds K fd ps []
/-- a class that may be made by its name -/
structure Mak (CX : CXT) (P : Program) (w : World) (K : PySem.W.Frag) (mg : Str → Option Value) (base : Heap) (k : Nat) (x : Str) (C : Addr) (sp : Sp) : Prop where
  ex : ∃ (f : Addr) (fd : FuncData) (ps : List Str), Mk K C f ∧ FnOk P w K mg base CX k f fd ps sp ∧ mg x = some (.ref C) ∧ Binds K fd ps []
section
variable {X : Cx} {CX : CXT} {k j : Nat} {C : Addr} {x m : Str} {sp : Sp} {p pos apos : Pos} {e o : Expr} {es : List Expr} {ta : TE} {t : TA} {E : XK}
theorem pe_c (c : Cal CX X.prog X.w X.K X.mg X.base k x sp) (hr : Room j X.A) (hx : Passes CX X E) (ha : PA X (e :: es) t) (hk : k ≤ j := by decide) (hg : Gl X x := by rfl) (hdb : (x == ("__debug__" : Str)) = false := by decide)
    (he : starEach (e :: es) X.env = (false, eval e X.env) :: starEach es X.env := by rfl) (hpl : (backTo pos (starEach es X.env)).any (·.1) = false := by rfl) : PE X (.Call (.Name x p) (e :: es) [] pos) (tCall sp [] E t) := by
  obtain ⟨f, fd, ps, F, hm, kp, b⟩ := c.ex
  exact pe_call F (hr.mono hk) hg hm kp b .nil hx ha hdb he hpl
theorem pe_mt (c : Met CX X.prog X.w X.K X.mg X.base k C m sp) (hr : Room j X.A) (hx : Passes CX X E) (he : PE X o ta) (ha : PA X (e :: es) t) (hk : k ≤ j := by decide) {pl : Sem Bool}
    (hst : starEach (e :: es) X.env = (false, eval e X.env) :: starEach es X.env := by rfl) (hpl : (backTo pos (starEach es X.env)).any (·.1) = false := by rfl)
    (hc : eval (.Call (.Attribute o m apos) (e :: es) [] pos) X.env = (do
      let ov ← eval o X.env
      standAt apos.atName
      let (f, first) ← holding [ov] (getMethod ov m pl)
      callWith pos f first (backTo pos (starEach (e :: es) X.env)) (backToKw pos (keywordEach [] X.env))) := by rfl) :
    PE X (.Call (.Attribute o m apos) (e :: es) [] pos) (tMeth C m sp [] E ta t) := by
  obtain ⟨f, fd, ps, cc, hm, F, b⟩ := c.ex
  exact pe_meth he cc hm F (hr.mono hk) b .nil hx ha hst hpl hc
theorem pe_mt0 (c : Met CX X.prog X.w X.K X.mg X.base k C m sp) (hr : Room j X.A) (hx : Passes CX X E) (he : PE X o ta) (hk : k ≤ j := by decide) {pl : Sem Bool}
    (hc : eval (.Call (.Attribute o m apos) [] [] pos) X.env = (do
      let ov ← eval o X.env
      standAt apos.atName
      let (f, first) ← holding [ov] (getMethod ov m pl)
      callWith pos f first (backTo pos (starEach [] X.env)) (backToKw pos (keywordEach [] X.env))) := by rfl) :
    PE X (.Call (.Attribute o m apos) [] [] pos) (tMeth C m sp [] E ta tNil) := by
  obtain ⟨f, fd, ps, cc, hm, F, b⟩ := c.ex
  exact pe_meth0 he cc hm F (hr.mono hk) b .nil hx hc
theorem pe_mk (c : Mak CX X.prog X.w X.K X.mg X.base k x C sp) (hr : Room j X.A) (hx : Passes CX X E) (ha : PA X (e :: es) t) (hk : k + 1 ≤ j := by decide) (hg : Gl X x := by rfl) (hdb : (x == ("__debug__" : Str)) = false := by decide)
    (he : starEach (e :: es) X.env = (false, eval e X.env) :: starEach es X.env := by rfl) (hpl : (backTo pos (starEach es X.env)).any (·.1) = false := by rfl) : PE X (.Call (.Name x p) (e :: es) [] pos) (tMake C sp [] E t) := by
  obtain ⟨f, fd, ps, M, F, hm, b⟩ := c.ex
  exact pe_make M F (hr.mono hk) hg hm b .nil hx ha hdb he hpl
end
/-- the built-in names that the module leaves as they are -/
structure Bi (mg : Str → Option Value) : Prop where
  isi : mg "isinstance" = none
  int : mg "int" = none
  bool : mg "bool" = none
  tuple : mg "tuple" = none
  list : mg "list" = none
  dict : mg "dict" = none
  len : mg "len" = none
  enum : mg "enumerate" = none
  range : mg "range" = none
  abs : mg "abs" = none
  max : mg "max" = none
  min : mg "min" = none
section
variable {X : Cx}
theorem pe_isi {a : Expr} {es : List Expr} {t : TA} {p pos : Pos} (hm : X.mg "isinstance" = none) (ha : PA X (a :: es) t) (hg : Gl X "isinstance" := by rfl)
    (he : starEach (a :: es) X.env = (false, eval a X.env) :: starEach es X.env := by rfl) (hpl : (backTo pos (starEach es X.env)).any (·.1) = false := by rfl) :
    PE X (.Call (.Name "isinstance" p) (a :: es) [] pos) (tCB (rIsi X.K) t) := pe_callB call_isi hg hm PyProof.Rows.boot_isinstance ha (he := he) (hpl := hpl)
theorem pe_ty (n : String) {x : Str} {p : Pos} (hm : X.mg x = none) (hv : bootBuiltins x = some (.type n) := by decide +kernel) (hg : Gl X x := by rfl) (h1 : x ≠ "__name__" := by decide) (h2 : (x == ("__debug__" : Str)) = false := by decide) : PE X (.Name x p) (tC (.ty n)) :=
  pe_bltn (v := .ty n) hg hm hv rfl h1 h2
theorem pe_len {a : Expr} {es : List Expr} {t : TA} {p pos : Pos} (hm : X.mg "len" = none) (ha : PA X (a :: es) t) (hg : Gl X "len" := by rfl) (he : starEach (a :: es) X.env = (false, eval a X.env) :: starEach es X.env := by rfl)
    (hpl : (backTo pos (starEach es X.env)).any (·.1) = false := by rfl) :
    PE X (.Call (.Name "len" p) (a :: es) [] pos) (tCB (fun xs H Q => ∃ p ys, xs = [.ref p] ∧ (SqL X.K H p ys ∨ SqT X.K H p ys) ∧ Q (.int ys.length) H) t) := pe_callB call_len_seq hg hm PySem.boot_len ha (he := he) (hpl := hpl)
theorem pa1 {a : Expr} {ta : TE} (ha : PE X a ta) (hs : starEach (a :: []) X.env = (false, eval a X.env) :: starEach [] X.env := by rfl) : PA X [a] (tCons ta tNil) := pa_cons ha pa_nil hs
end
theorem scWhole : FnScope ["value"] ["value"] (defScope sWhole) := ⟨rfl, rfl, rfl, by decide +kernel, rfl, by decide +kernel, by decide +kernel⟩
theorem ok_whole {f : Addr} {fd : FuncData} (F : Fun K "is_whole" "is_whole" sWhole f fd) (B : Bi mg) : FnOk P w K mg base CX0 1 f fd ["value"] spWhole := by
  refine F.ok scWhole (fun vs H Q E h => ?_) (fun cdv A outer s H vs Q E hr h => ?_)
  · obtain ⟨v, rfl, _⟩ := h
    rfl
  · obtain ⟨v, rfl, k, q⟩ := h
    refine ⟨_, pss_one (ps_ret (pe_and (pe_isi B.isi (pa_cons (pv 0) (pa_cons (pe_ty "int" B.int) pa_nil))) (pe_one (pe_not (pe_isi B.isi (pa_cons (pv 0) (pa_cons (pe_ty "bool" B.bool) pa_nil))))))), ?_⟩
    obtain ⟨t, ty, k1, k2, _⟩ := k.kinds K
    refine ⟨v, rfl, v, _, _, _, _, rfl, .ty "int", ty, k1, _, rfl, ?_⟩
    cases v with
    | bl b => exact ⟨_, rfl, _, _, _, _, _, rfl, .ty "bool", ty, k2, _, rfl, q⟩
    | int i => exact ⟨_, rfl, _, _, _, _, _, rfl, .ty "bool", ty, k2, _, rfl, q⟩
    | _ => exact q
theorem scBetween : FnScope ["value", "low", "high"] ["value", "low", "high"] (defScope sBetween) := ⟨rfl, rfl, rfl, by decide +kernel, rfl, by decide +kernel, by decide +kernel⟩
theorem ok_between {f : Addr} {fd : FuncData} (F : Fun K "is_between" "is_between" sBetween f fd) (cW : Cal CX0 P w K mg base 1 "is_whole" spWhole) : FnOk P w K mg base CX0 2 f fd ["value", "low", "high"] spBetween := by
  refine F.ok scBetween (fun vs H Q E h => ?_) (fun cdv A outer s H vs Q E hr h => ?_)
  · obtain ⟨v, lo, hi, rfl, _⟩ := h
    rfl
  · obtain ⟨v, lo, hi, rfl, k, q⟩ := h
    refine ⟨_, pss_one (ps_ret (pe_and (pe_c cW hr pass0 (pa_cons (pv 0) pa_nil)) (pe_one (pe_chain op_le op_le (pv 1) (pv 0) (pv 2))))), ?_⟩
    refine ⟨v, rfl, v, rfl, k, _, rfl, ?_⟩
    cases v with
    | int i =>
      refine ⟨_, rfl, _, rfl, _, _, rfl, rfl, _, rfl, ?_⟩
      by_cases c : lo ≤ i
      · rw [decide_eq_true c]
        refine ⟨_, rfl, _, _, rfl, rfl, ?_⟩
        have e : decide (i ≤ hi) = btw (.int i) lo hi := by
          show decide (i ≤ hi) = decide (lo ≤ i ∧ i ≤ hi)
          exact decide_eq_decide.mpr ⟨fun h => ⟨c, h⟩, fun h => h.2⟩
        show Q (.bl (decide (i ≤ hi))) H
        rw [e]
        exact q
      · rw [decide_eq_false c]
        have e : false = btw (.int i) lo hi := (decide_eq_false fun h => c h.1).symm
        show Q (.bl false) H
        rw [e]
        exact q
    | _ => exact q
end
theorem Same.seqT {K : PySem.W.Frag} {H H' : Hp} {a : Addr} {xs : List V} (e : Same H H') (h : SqT K H a xs) : SqT K H' a xs := by
  rcases h with (h | ⟨o, h⟩) | h
  · exact .inl (.inl (e _ _ h))
  · exact .inl (.inr ⟨o, e _ _ h⟩)
  · exact .inr h
theorem same_new {H : Hp} {p : Addr} {o : HO} (n : H p = none) : Same H (upd H p o) := fun b u e => by
  rw [upd_ne (ne_of_none e n)]
  exact e
/-- a list or a tuple of these items -/
def Sq (K : PySem.W.Frag) (H : Hp) (a : Addr) (xs : List V) : Prop := SqL K H a xs ∨ SqT K H a xs
theorem Sq.same {K : PySem.W.Frag} {H H' : Hp} {a : Addr} {xs : List V} (q : Sq K H a xs) (e : Same H H') : Sq K H' a xs := q.imp (fun h => e.seq h) fun h => Same.seqT e h
section
variable {X : Cx} {tg e : Expr} {w1 w2 : TI}
/-- a list or a tuple, item by item -/
def iSqS (K : PySem.W.Frag) (te : TE) : TI := fun σ H R => te σ H fun x H1 => ∃ a xs, x = .ref a ∧ Sq K H1 a xs ∧ ∀ (J : It) (G : Hp → Prop), Walk J xs.length G (YAt xs) → (∀ H', Same H1 H' → G H') → R J H1
open PySem.Spec PyProof.Rows in
theorem pi_sq {te : TE} (he : PE X e te) : PI X tg e (iSqS X.K te) := by
  constructor
  intro pins s σ H R I h
  refine thn (he.run pins s σ H _ I h) fun u s1 hh => ?_
  obtain ⟨v, H1, I1, r1, a, xs, ev, sq, k⟩ := hh
  subst ev
  cases r1
  have near : ∀ b ∈ [s1.heap.objs.size], FpOk X pins H1 b := fun b hb => by
    rw [List.mem_singleton.mp hb]
    exact I1.fpOk (Nat.le_refl _) (I1.hok.fresh (Nat.le_refl _))
  have J1 : ∀ o : Obj, Inv X pins σ H1 { s1 with heap := s1.heap.push o } := fun o => I1.kept (t' := s1.toks) fun b u z => Heap.get?_push_of_some _ z
  rcases sq with hq | hq
  · obtain ⟨its, rv, p1, hz⟩ := I1.list hq
    exact wpAny_pyIter_list p1.isList ⟨s1.heap.objs.size, _, _, _, H1, rfl, J1 _, turn_list a _, ⟨_, Heap.get?_push_size _ rfl, rfl, rfl⟩, near, k _ _ walk_list fun H' z => z.seq hq⟩
  · obtain ⟨its, rv, p2, hz⟩ := I1.tuple hq
    exact wpAny_pyIter_tuple (show s1.heap.IsTuple a its.toArray from p2) ⟨s1.heap.objs.size, _, _, _, H1, rfl, J1 _, turn_tuple a _, ⟨_, Heap.get?_push_size _ rfl, rfl, rfl⟩, near, k _ _ walk_tup fun H' z => Same.seqT z hq⟩
end
/-! ### None or an int -/
def Num (v : V) : Prop := v = .non ∨ ∃ i, v = .int i
def dOf : V → PyData
  | .int i => .int i
  | .bl b => .bool b
  | .str x => .str x
  | _ => .none
theorem eqv_num {a b : V} (ha : Num a) (hb : Num b) : PyData.eqv (dOf a) (dOf b) = decide (a = b) := by
  rcases ha with rfl | ⟨i, rfl⟩ <;> rcases hb with rfl | ⟨j, rfl⟩
  · simp [dOf, PyData.eqv]
  · simp [dOf, PyData.eqv]
  · simp [dOf, PyData.eqv]
  · rw [dec_int]
    simp [dOf, PyData.eqv]
theorem eqvAll_num : ∀ {xs ys : List V}, (∀ v ∈ xs, Num v) → (∀ v ∈ ys, Num v) → PyData.eqvAll (xs.map dOf) (ys.map dOf) = decide (xs = ys)
  | [], [], _, _ => by simp [PyData.eqvAll]
  | [], _ :: _, _, _ => by simp [PyData.eqvAll]
  | _ :: _, [], _, _ => by simp [PyData.eqvAll]
  | x :: xs, y :: ys, hx, hy => by
    have ih := eqvAll_num (fun v m => hx v (List.mem_cons_of_mem _ m)) fun v m => hy v (List.mem_cons_of_mem _ m)
    have e : PyData.eqvAll ((x :: xs).map dOf) ((y :: ys).map dOf) = (PyData.eqv (dOf x) (dOf y) && PyData.eqvAll (xs.map dOf) (ys.map dOf)) := by simp only [List.map_cons, PyData.eqvAll]
    rw [e, ih, eqv_num (hx x List.mem_cons_self) (hy y List.mem_cons_self)]
    by_cases h1 : x = y
    · by_cases h2 : xs = ys
      · simp [h1, h2]
      · simp [h1, h2]
    · simp [h1]
theorem dp_num {K : PySem.W.Frag} {H : Hp} {v : V} (h : Num v) : Dp K H v (dOf v) := by
  rcases h with rfl | ⟨i, rfl⟩
  · exact .non
  · exact .int i
theorem dpAll_num {K : PySem.W.Frag} {H : Hp} : ∀ {xs : List V}, (∀ v ∈ xs, Num v) → DpAll K H xs (xs.map dOf)
  | [], _ => .nil
  | x :: xs, h => .cons (dp_num (h x List.mem_cons_self)) (dpAll_num fun v m => h v (List.mem_cons_of_mem _ m))
theorem lay_num : ∀ {xs : List V}, (∀ v ∈ xs, Num v) → PyData.canLayAll0 (xs.map dOf) = true
  | [], _ => by simp [PyData.canLayAll0]
  | x :: xs, h => by
    have ih := lay_num fun v m => h v (List.mem_cons_of_mem x m)
    rw [List.map_cons, PyData.canLayAll0, ih, Bool.and_true]
    rcases h x List.mem_cons_self with rfl | ⟨i, rfl⟩ <;> simp [dOf, PyData.canLay0]
theorem depth_num : ∀ {xs : List V}, (∀ v ∈ xs, Num v) → PyData.depthAll (xs.map dOf) ≤ 1
  | [], _ => by simp [PyData.depthAll]
  | x :: xs, h => by
    have ih := depth_num fun v m => h v (List.mem_cons_of_mem x m)
    simp only [List.map_cons, PyData.depthAll]
    rcases h x List.mem_cons_self with rfl | ⟨i, rfl⟩ <;> simp only [dOf, PyData.depth] <;> omega
theorem shL_num {xs : List V} (h : ∀ v ∈ xs, Num v) : SeqAt.shaped (.list (xs.map dOf)) = true := by
  have h1 := lay_num h
  have h2 := depth_num h
  show (PyData.canLay0 (.list (xs.map dOf)) && decide (PyData.depth (.list (xs.map dOf)) ≤ 64)) = true
  rw [Bool.and_eq_true]
  refine ⟨by simp only [PyData.canLay0]; exact h1, decide_eq_true ?_⟩
  simp only [PyData.depth]
  omega
theorem shT_num {xs : List V} (h : ∀ v ∈ xs, Num v) : SeqAt.shaped (.tuple (xs.map dOf)) = true := by
  have h1 := lay_num h
  have h2 := depth_num h
  show (PyData.canLay0 (.tuple (xs.map dOf)) && decide (PyData.depth (.tuple (xs.map dOf)) ≤ 64)) = true
  rw [Bool.and_eq_true]
  refine ⟨by simp only [PyData.canLay0]; exact h1, decide_eq_true ?_⟩
  simp only [PyData.depth]
  omega
/-- two lists, or two tuples, of None and ints -/
def rEqN (K : PySem.W.Frag) (neg : Bool) : R2 := fun x y H Q => ∃ a b xs ys, x = .ref a ∧ y = .ref b ∧ ((SqL K H a xs ∧ SqL K H b ys) ∨ (SqT K H a xs ∧ SqT K H b ys)) ∧ (∀ v ∈ xs, Num v) ∧ (∀ v ∈ ys, Num v) ∧ Q (.bl (if neg then !decide (xs = ys) else decide (xs = ys))) H
section
variable {X : Cx}
theorem op_eqN (hu : X.A.units + 64 < cLine) : OpR X (compareOp .Eq) (rEqN X.K false) := by
  intro pins s σ H x y v u Q I rx ry h
  obtain ⟨a, b, xs, ys, rfl, rfl, d, nx, ny, q⟩ := h
  rcases d with ⟨d1, d2⟩ | ⟨d1, d2⟩
  · refine op_eqD hu pins s σ H _ _ v u Q I rx ry ⟨.list (xs.map dOf), .list (ys.map dOf), .lst d1 (dpAll_num nx), .lst d2 (dpAll_num ny), shL_num nx, shL_num ny, ?_⟩
    rw [show PyData.eqv (.list (xs.map dOf)) (.list (ys.map dOf)) = decide (xs = ys) by rw [← eqvAll_num nx ny]; simp only [PyData.eqv]]
    exact q
  · refine op_eqD hu pins s σ H _ _ v u Q I rx ry ⟨.tuple (xs.map dOf), .tuple (ys.map dOf), .tup d1 (dpAll_num nx), .tup d2 (dpAll_num ny), shT_num nx, shT_num ny, ?_⟩
    rw [show PyData.eqv (.tuple (xs.map dOf)) (.tuple (ys.map dOf)) = decide (xs = ys) by rw [← eqvAll_num nx ny]; simp only [PyData.eqv]]
    exact q
theorem op_neN (hu : X.A.units + 64 < cLine) : OpR X (compareOp .NotEq) (rEqN X.K true) := by
  intro pins s σ H x y v u Q I rx ry h
  obtain ⟨a, b, xs, ys, rfl, rfl, d, nx, ny, q⟩ := h
  rcases d with ⟨d1, d2⟩ | ⟨d1, d2⟩
  · refine op_neD hu pins s σ H _ _ v u Q I rx ry ⟨.list (xs.map dOf), .list (ys.map dOf), .lst d1 (dpAll_num nx), .lst d2 (dpAll_num ny), shL_num nx, shL_num ny, ?_⟩
    rw [show PyData.eqv (.list (xs.map dOf)) (.list (ys.map dOf)) = decide (xs = ys) by rw [← eqvAll_num nx ny]; simp only [PyData.eqv]]
    exact q
  · refine op_neD hu pins s σ H _ _ v u Q I rx ry ⟨.tuple (xs.map dOf), .tuple (ys.map dOf), .tup d1 (dpAll_num nx), .tup d2 (dpAll_num ny), shT_num nx, shT_num ny, ?_⟩
    rw [show PyData.eqv (.tuple (xs.map dOf)) (.tuple (ys.map dOf)) = decide (xs = ys) by rw [← eqvAll_num nx ny]; simp only [PyData.eqv]]
    exact q
/-- x == y, x an instance of the class at C with an own __eq__ -/
def rOwnEq (K : PySem.W.Frag) (C : Addr) (sp : Sp) : R2 := fun x y H Q => ∃ a dx fs tb, x = .ref a ∧ H a = some (.ins C dx fs) ∧ TyX K H y tb ∧ PySem.W.notFirst K C tb = true ∧ sp [x, y] H (fun v H' => (∃ b, v = .bl b) ∧ Q v H') E0
theorem op_ownEq {CX : CXT} {n j : Nat} {C f : Addr} {fd : FuncData} {ps : List Str} {sp : Sp} (F : FnOk X.prog X.w X.K X.mg X.base CX n f fd ps sp) (hs : PySem.W.findIn X.K (.ref C) "__eq__" = some (some (.ref f))) (hf : PySem.W.isFn X.K (.ref f) = true) (hb : Binds X.K fd ps [])
    (hx : Passes CX X E0) (hr : Room j X.A) (hj : n ≤ j) : OpR X (compareOp .Eq) (rOwnEq X.K C sp) := by
  intro pins s σ H x y v u Q I rx ry h
  obtain ⟨a, dx, fs, tb, rfl, ha, ty, nf, h⟩ := h
  have hr := hr.mono hj
  cases (show v = Value.ref a from rx)
  obtain ⟨mA, J, _⟩ := ins_get I.hok ha
  obtain ⟨od, J, _⟩ := J.look
  obtain ⟨Pz, Z, p, _⟩ := kit_of I ry ty
  obtain ⟨m, hF⟩ := I.fr
  show wpAny (model X.prog X.w) X.A (richCompare .Eq (.ref a) u) (EP X pins σ Q) X.xe s
  have hu : X.A.units < cLine := by have := hr.un; omega
  refine PySem.W.cmp_K (op := .Eq) (tb := tb) hu hF I.ok.mod.kin J (Z.ty _ _ I.kIn p) nf hs hf ?_
  have hl := F.len _ _ _ _ h
  have r2 : Vals [V.ref a, y] [Value.ref a, u] := .cons rfl (.cons ry .nil)
  refine wpAny_call (codeAny_mono (F.run X.A X.stack s H ⟨[.ref a, u], []⟩ [.ref a, u] [.ref a, y] _ E0 hr I.env0 (by
    have := hb s [.ref a, u] I.kIn (by simpa using hl)
    simpa using this) r2 h) fun r s' hq => ?_)
  cases r with
  | error e => exact hx pins σ H s e s' I hq
  | ok fl =>
    cases fl with
    | ret w =>
      obtain ⟨z, H', I', rz, ⟨b, ez⟩, q⟩ := I.after hq
      subst ez
      cases rz
      exact ⟨.bl b, H', I', rfl, q⟩
    | next => exact False.elim hq
    | brk => exact False.elim hq
    | cont => exact False.elim hq
end
theorem kit_self {K : PySem.W.Frag} {C : Addr} : PySem.W.kitOne K (.ref C) (.ref C) = some true := by
  unfold PySem.W.kitOne
  rw [if_pos (by simp)]

theorem hu64 {A : Around} {k : Nat} (hr : Room k A) : A.units + 64 < cLine := by have := hr.un; omega
theorem hu65 {A : Around} {k : Nat} (hr : Room k A) : A.units + 65 < cLine := by have := hr.un; omega
theorem small2000 {n : Nat} (h : n ≤ 2100) : n < sizeLine := Nat.lt_of_le_of_lt h (by decide)
theorem small10 {n : Nat} (h : n ≤ 10000) : n < sizeLine := Nat.lt_of_le_of_lt h (by decide)
theorem num_kn {H : Hp} {v : V} (h : Num v) : Kn H v := by
  rcases h with rfl | ⟨i, rfl⟩
  · exact .non
  · exact .int i

section
variable {X : Cx} (K : PySem.W.Frag)
theorem pe_fldK (hK : X.K = K) {e : Expr} {ta : TE} {f : Str} {pos : Pos} (he : PE X e ta) (hb : attributeBase e f X.env (eval e X.env) = eval e X.env := by rfl) : PE X (.Attribute e f pos) (tFld K ta f) := by
  subst hK
  exact pe_fld he hb
theorem ix_tupK (hK : X.K = K) : IxR X (rIxT K) := by
  subst hK
  exact ix_tup
theorem ix_listK (hK : X.K = K) : IxR X (rIxL K) := by
  subst hK
  exact ix_list
end

theorem paired_last {α β : Type} {F : α → β → Prop} : ∀ {ts : List α} {ps : List β} {p : β}, Paired F ts (ps ++ [p]) → ∃ us v, ts = us ++ [v] ∧ Paired F us ps ∧ F v p
  | _, [], _, .cons h .nil => ⟨[], _, rfl, .nil, h⟩
  | _, _ :: _, _, .cons h t =>
    let ⟨us, v, e, q1, q2⟩ := paired_last t
    ⟨_ :: us, v, by rw [e]; rfl, .cons h q1, q2⟩
section
variable {X : Cx} {tg e : Expr}
/-- a list or a tuple, item by item; it stays where its own object does -/
def iSqA (K : PySem.W.Frag) (te : TE) : TI := fun σ H R => te σ H fun x H1 => ∃ a xs, x = .ref a ∧ Sq K H1 a xs ∧ ∀ (J : It) (G : Hp → Prop), Walk J xs.length G (YAt xs) → (∀ H', (∀ o, H1 a = some o → H' a = some o) → G H') → R J H1
theorem sqL_at {K : PySem.W.Frag} {H H' : Hp} {a : Addr} {xs : List V} (h : SqL K H a xs) (e : ∀ o, H a = some o → H' a = some o) : SqL K H' a xs := by
  rcases h with (h | ⟨o, h⟩) | h
  · exact .inl (.inl (e _ h))
  · exact .inl (.inr ⟨o, e _ h⟩)
  · exact .inr h
theorem sqT_at {K : PySem.W.Frag} {H H' : Hp} {a : Addr} {xs : List V} (h : SqT K H a xs) (e : ∀ o, H a = some o → H' a = some o) : SqT K H' a xs := by
  rcases h with (h | ⟨o, h⟩) | h
  · exact .inl (.inl (e _ h))
  · exact .inl (.inr ⟨o, e _ h⟩)
  · exact .inr h
open PySem.Spec PyProof.Rows in
theorem pi_sqA {te : TE} (he : PE X e te) : PI X tg e (iSqA X.K te) := by
  constructor
  intro pins s σ H R I h
  refine thn (he.run pins s σ H _ I h) fun u s1 hh => ?_
  obtain ⟨v, H1, I1, r1, a, xs, ev, sq, k⟩ := hh
  subst ev
  cases r1
  have near : ∀ b ∈ [s1.heap.objs.size], FpOk X pins H1 b := fun b hb => by
    rw [List.mem_singleton.mp hb]
    exact I1.fpOk (Nat.le_refl _) (I1.hok.fresh (Nat.le_refl _))
  have J1 : ∀ o : Obj, Inv X pins σ H1 { s1 with heap := s1.heap.push o } := fun o => I1.kept (t' := s1.toks) fun b u z => Heap.get?_push_of_some _ z
  rcases sq with hq | hq
  · obtain ⟨its, rv, p1, hz⟩ := I1.list hq
    exact wpAny_pyIter_list p1.isList ⟨s1.heap.objs.size, _, _, _, H1, rfl, J1 _, turn_list a _, ⟨_, Heap.get?_push_size _ rfl, rfl, rfl⟩, near, k _ _ walk_list fun H' z => sqL_at hq z⟩
  · obtain ⟨its, rv, p2, hz⟩ := I1.tuple hq
    exact wpAny_pyIter_tuple (show s1.heap.IsTuple a its.toArray from p2) ⟨s1.heap.objs.size, _, _, _, H1, rfl, J1 _, turn_tuple a _, ⟨_, Heap.get?_push_size _ rfl, rfl, rfl⟩, near, k _ _ walk_tup fun H' z => sqT_at hq z⟩
end

/-! ### the law's pen -/
def penK (cl : Addr) (k left : Int) : List (Key × V) := [(.inr "cells", .ref cl), (.inr "opened", .int k), (.inr "left", .int left)]
theorem valV_eq {k : Key} {v : V} {r : List (Key × V)} : valV ((k, v) :: r) k = some v := by
  unfold valV
  rw [List.find?_cons_of_pos (by simp)]
  rfl
theorem valV_ne {k j : Key} {v : V} {r : List (Key × V)} (h : ¬ j = k) : valV ((j, v) :: r) k = valV r k := by
  unfold valV
  rw [List.find?_cons_of_neg (by simpa using h)]
theorem k12 : ¬ (Sum.inr ("cells" : Str) : Key) = Sum.inr ("opened" : Str) := by decide +kernel
theorem k13 : ¬ (Sum.inr ("cells" : Str) : Key) = Sum.inr ("left" : Str) := by decide +kernel
theorem k23 : ¬ (Sum.inr ("opened" : Str) : Key) = Sum.inr ("left" : Str) := by decide +kernel
theorem k32 : ¬ (Sum.inr ("left" : Str) : Key) = Sum.inr ("opened" : Str) := by decide +kernel
theorem pen_cells (cl : Addr) (k l : Int) : valV (penK cl k l) (.inr "cells") = some (.ref cl) := valV_eq
theorem pen_opened (cl : Addr) (k l : Int) : valV (penK cl k l) (.inr "opened") = some (.int k) := (valV_ne k12).trans valV_eq
theorem pen_left (cl : Addr) (k l : Int) : valV (penK cl k l) (.inr "left") = some (.int l) := (valV_ne k13).trans ((valV_ne k23).trans valV_eq)
theorem put_opened (cl : Addr) (k l j : Int) : putK (penK cl k l) (.inr "opened") (.int j) = penK cl j l := by
  unfold putK penK
  rw [if_pos (by simp)]
  simp only [List.map_cons, List.map_nil, k12, k32, if_false, if_true]
theorem put_left (cl : Addr) (k l j : Int) : putK (penK cl k l) (.inr "left") (.int j) = penK cl k j := by
  unfold putK penK
  rw [if_pos (by simp)]
  simp only [List.map_cons, List.map_nil, k13, k23, if_false, if_true]
/-- at pn: the pen, at most b cells opened -/
def Pen (H : Hp) (pn cl : Addr) (b : Nat) : Prop := ∃ (k : Nat) (l : Int) (cs : List Int), H pn = some (.dK (penK cl (k : Nat) l)) ∧ H cl = some (.lst (cs.map V.int)) ∧ k ≤ b ∧ cs.length ≤ 63
/-- all but what is at pn is as it was -/
def But (pn : Addr) (H H' : Hp) : Prop := ∀ b o, b ≠ pn → H b = some o → H' b = some o
theorem But.refl {pn : Addr} {H : Hp} : But pn H H := fun _ _ _ h => h
theorem But.trans {pn : Addr} {H H1 H2 : Hp} (a : But pn H H1) (b : But pn H1 H2) : But pn H H2 := fun c o n h => b c o n (a c o n h)
def spDraw : Sp := fun vs H Q _ => ∃ (pn cl : Addr) (m : Int) (b : Nat), vs = [.ref pn, .int m] ∧ Pen H pn cl b ∧ b ≤ 1000000 ∧ 0 < m ∧ m < 1073741824 ∧ ∀ (r : Int) H', 0 ≤ r → r < m → But pn H H' → Pen H' pn cl (b + 1) → Q (.int r) H'
def spPen (K : PySem.W.Frag) : Sp := fun vs H Q _ => ∃ (a : Addr) (ns : List Int), vs = [.ref a] ∧ SqL K H a (ns.map V.int) ∧ ∀ pn cl H', H pn = none → H cl = none → Same H H' → Pen H' pn cl 0 → Q (.ref pn) H'
section
variable {P : Program} {w : World} {K : PySem.W.Frag} {mg : Str → Option Value} {base : Heap}
theorem scPen : FnScope ["_law_script"] ["_law_script"] (defScope sPen) := ⟨rfl, rfl, rfl, by decide +kernel, rfl, by decide +kernel, by decide +kernel⟩
theorem ok_pen {f : Addr} {fd : FuncData} (F : Fun K "_law_pen" "_law_pen" sPen f fd) (B : Bi mg) : FnOk P w K mg base CX0 1 f fd ["_law_script"] (spPen K) := by
  refine F.ok scPen (fun vs H Q E h => ?_) (fun cdv A outer s H vs Q E hr h => ?_)
  · obtain ⟨a, ns, rfl, _⟩ := h
    rfl
  · obtain ⟨a, ns, rfl, hs, q⟩ := h
    refine ⟨_, pss_one (ps_ret (pe_disp (pps_cons pe_str (pe_callTy call_list_of rfl B.list (by decide +kernel) (pa_cons (pe_slice sl_list (pv 0) po_none (po_some pe_int)) pa_nil)) (pps_cons pe_str pe_int (pps_cons pe_str pe_int pps_nil))) rfl rfl (by simp) (by decide))), ?_⟩
    intro p np
    have hs2 := (same_new (o := .dK []) np).seq hs
    refine ⟨_, rfl, 63, rfl, a, _, rfl, hs2, fun c nc => ⟨c, _, rfl, .inl (SqL.of upd_same), fun l nl => ?_⟩⟩
    have npl : p ≠ l := ne_of_none ((upd_ne (ne_of_none upd_same nc)).trans upd_same) nl
    have npc : p ≠ c := ne_of_none upd_same nc
    have ec : cutV (ns.map V.int) none (some 63) = (ns.take 63).map V.int := by
      unfold cutV
      rw [show ((63 : Int)) = ((63 : Nat) : Int) from rfl, HT.sIx_nat, HT.sIx_none, List.drop_zero, Nat.sub_zero, List.length_map, ← List.map_take]
      congr 1
      by_cases c : 63 ≤ ns.length
      · rw [Nat.min_eq_left c]
      · rw [Nat.min_eq_right (by omega), List.take_of_length_le (Nat.le_refl _), List.take_of_length_le (by omega)]
    refine ⟨(upd_ne npl).trans ((upd_ne npc).trans upd_same), [(.inr "cells", .ref l), (.inr "opened", .int 0), (.inr "left", .int 0)], rfl, (by show 3 ≤ 15; decide), ?_⟩
    have em : mergeK [] [((.inr ("cells" : Str) : Key), V.ref l), (.inr ("opened" : Str), .int 0), (.inr ("left" : Str), .int 0)] = penK l ((0 : Nat) : Int) 0 := by
      unfold mergeK penK
      simp only [List.foldl_cons, List.foldl_nil]
      have h1 : valV ([(.inr ("cells" : Str), V.ref l)] : List (Key × V)) (.inr ("opened" : Str)) = none := (valV_ne k12).trans rfl
      have h2 : valV ([(.inr ("cells" : Str), V.ref l), (.inr ("opened" : Str), V.int 0)] : List (Key × V)) (.inr ("left" : Str)) = none := (valV_ne k13).trans ((valV_ne k23).trans rfl)
      rw [show putK ([] : List (Key × V)) (.inr ("cells" : Str)) (.ref l) = [(.inr ("cells" : Str), .ref l)] from rfl, putK_new _ h1]
      simp only [List.cons_append, List.nil_append]
      rw [putK_new _ h2]
      rfl
    rw [em]
    have nl0 : H l = none := by
      cases z : H l with
      | none => rfl
      | some o =>
        have z1 : upd H p (.dK []) l = some o := (upd_ne (ne_of_none z np)).trans z
        rw [(upd_ne (ne_of_none z1 nc)).trans z1] at nl
        cases nl
    refine q p l _ np nl0 (fun b o z => ?_) ⟨0, 0, ns.take 63, upd_same, ?_, Nat.le_refl _, by rw [List.length_take]; omega⟩
    · have nb : b ≠ p := ne_of_none z np
      have z1 : upd H p (.dK []) b = some o := (upd_ne nb).trans z
      have nc2 : b ≠ c := ne_of_none z1 nc
      have z2 : upd (upd H p (.dK [])) c (.lst (cutV (ns.map V.int) none (some 63))) b = some o := (upd_ne nc2).trans z1
      rw [upd_ne nb, upd_ne (ne_of_none z2 nl)]
      exact z2
    · rw [upd_ne (Ne.symm npl), upd_same, ec]
theorem getL {H : Hp} {pn cl : Addr} {k l : Int} (hp : H pn = some (.dK (penK cl k l))) : DGet H pn (.str "left") (some (.int l)) := by
  have z := DGet.k (k := .inr ("left" : Str)) hp
  rw [pen_left] at z
  exact z
theorem getO {H : Hp} {pn cl : Addr} {k l : Int} (hp : H pn = some (.dK (penK cl k l))) : DGet H pn (.str "opened") (some (.int k)) := by
  have z := DGet.k (k := .inr ("opened" : Str)) hp
  rw [pen_opened] at z
  exact z
theorem getC {H : Hp} {pn cl : Addr} {k l : Int} (hp : H pn = some (.dK (penK cl k l))) : DGet H pn (.str "cells") (some (.ref cl)) := by
  have z := DGet.k (k := .inr ("cells" : Str)) hp
  rw [pen_cells] at z
  exact z
theorem putL {H : Hp} {pn cl : Addr} {k l : Int} (j : Int) (hp : H pn = some (.dK (penK cl k l))) : DPut H pn (.str "left") (.int j) (upd H pn (.dK (penK cl k j))) := by
  have z := DPut.k (k := .inr ("left" : Str)) (v := .int j) hp (by show 3 < sizeLine; decide)
  rw [put_left] at z
  exact z
theorem putO' {H : Hp} {pn cl : Addr} {k l : Int} (j : Int) (hp : H pn = some (.dK (penK cl k l))) : DPut H pn (.str "opened") (.int j) (upd H pn (.dK (penK cl j l))) := by
  have z := DPut.k (k := .inr ("opened" : Str)) (v := .int j) hp (by show 3 < sizeLine; decide)
  rw [put_opened] at z
  exact z
theorem scDraw : FnScope ["_law_pen_here", "_law_many", "_law_digit", "_law_k", "_law_told_cells", "_law_cell", "_law_mix"] ["_law_pen_here", "_law_many"] (defScope sDraw) := ⟨rfl, rfl, rfl, by decide +kernel, rfl, by decide +kernel, by decide +kernel⟩
theorem mix_lt (x : Int) {m : Int} (h : 0 < m) : 0 ≤ x % m ∧ x % m < m := ⟨Int.emod_nonneg _ (by omega), Int.emod_lt_of_pos _ h⟩
section
variable {X : Cx}
theorem pe_int1 {a : Expr} {es : List Expr} {t : TA} {p pos : Pos} (hm : X.mg "int" = none) (ha : PA X (a :: es) t) (hg : Gl X "int" := by rfl) (he : starEach (a :: es) X.env = (false, eval a X.env) :: starEach es X.env := by rfl)
    (hpl : (backTo pos (starEach es X.env)).any (·.1) = false := by rfl) : PE X (.Call (.Name "int" p) (a :: es) [] pos) (tCB (fun xs H Q => (∃ i, xs = [.int i] ∧ Q (.int i) H) ∨ ∃ k, xs = [.bl k] ∧ Q (.int (if k then 1 else 0)) H) t) :=
  pe_callTy call_int1 hg hm (by decide +kernel) ha (he := he) (hpl := hpl)
theorem pe_abs {a : Expr} {es : List Expr} {t : TA} {p pos : Pos} (hm : X.mg "abs" = none) (ha : PA X (a :: es) t) (hg : Gl X "abs" := by rfl) (he : starEach (a :: es) X.env = (false, eval a X.env) :: starEach es X.env := by rfl)
    (hpl : (backTo pos (starEach es X.env)).any (·.1) = false := by rfl) : PE X (.Call (.Name "abs" p) (a :: es) [] pos) (tCB (fun xs H Q => ∃ i, xs = [.int i] ∧ Q (.int (if i < 0 then -i else i)) H) t) :=
  pe_callB call_abs hg hm (by decide +kernel) ha (he := he) (hpl := hpl)
end
theorem ok_draw {f : Addr} {fd : FuncData} (F : Fun K "_law_draw" "_law_draw" sDraw f fd) (B : Bi mg) : FnOk P w K mg base CX0 1 f fd ["_law_pen_here", "_law_many"] spDraw := by
  refine F.ok scDraw (fun vs H Q E h => ?_) (fun cdv A outer s H vs Q E hr h => ?_)
  · obtain ⟨pn, cl, m, b, rfl, _⟩ := h
    rfl
  · obtain ⟨pn, cl, m, b, rfl, ⟨k, l, cs, hp, hc, hk, lc⟩, hb, m0, m1, q⟩ := h
    refine ⟨_, pss_cons (ps_if (pt_cmpR op_gt (pe_dget (hu_of hr) (pv 0) pe_str (fun _ _ => rfl)) pe_int (nomark _))
        (pss_cons (ps_set (i := 2) scDraw.nd rfl (Or.inl rfl) (pe_op op_mod (pe_int1 B.int (pa_cons (pe_dget (hu_of hr) (pv 0) pe_str (fun _ _ => rfl)) pa_nil)) (pv 1)))
        (pss_cons (ps_dput (hu_of hr) (pv 0) pe_str (pe_op op_fdiv (pe_dget (hu_of hr) (pv 0) pe_str (fun _ _ => rfl)) (pv 1)) rfl) (pss_one (ps_ret (pv 2))))) pss_nil)
      (pss_cons (ps_par (i := 3) (j := 4) rfl scDraw.nd rfl rfl (by decide) rfl rfl (pa_cons (pe_dget (hu_of hr) (pv 0) pe_str (fun _ _ => rfl)) (pa_cons (pe_dget (hu_of hr) (pv 0) pe_str (fun _ _ => rfl)) pa_nil)) rfl)
      (pss_cons (ps_dput (hu_of hr) (pv 0) pe_str (pe_op op_add (pv 3) pe_int) rfl)
      (pss_cons (ps_if (pt_cmpR (op_eqN (hu64 hr)) (pv 4) (pe_lst pa_nil) (nomark _)) (pss_one (ps_ret (pe_op op_mod (pe_int1 B.int (pa_cons (pe_op op_add (pe_op op_mul pe_int (pv 3)) pe_int) pa_nil)) (pv 1)))) pss_nil)
      (pss_cons (ps_set (i := 5) scDraw.nd rfl (Or.inl rfl) (pe_ix ix_list (pv 4) (pe_op op_mod (pe_int1 B.int (pa_cons (pv 3) pa_nil)) (pe_len B.len (pa_cons (pv 4) pa_nil))) (fun _ _ => rfl)))
      (pss_cons (ps_if (PW.pt (pw_and (pt_cmpR op_lt (pv 3) (pe_len B.len (pa_cons (pv 4) pa_nil)) (nomark _)) (pw_and1 (pt_cmpR op_ge (pe_abs B.abs (pa_cons (pv 5) pa_nil)) (pe_op op_pow pe_int pe_int) (nomark _)))))
        (pss_cons (ps_dput (hu_of hr) (pv 0) pe_str (pe_op op_fdiv (pe_op op_sub (pe_abs B.abs (pa_cons (pv 5) pa_nil)) (pe_op op_pow pe_int pe_int)) (pv 1)) rfl)
        (pss_one (ps_ret (pe_op op_mod (pe_int1 B.int (pa_cons (pe_op op_sub (pe_abs B.abs (pa_cons (pv 5) pa_nil)) (pe_op op_pow pe_int pe_int)) pa_nil)) (pv 1))))) pss_nil)
      (pss_cons (ps_set (i := 6) scDraw.nd rfl (Or.inl rfl) (pe_op op_mod (pe_int1 B.int (pa_cons (pe_op op_add (pe_op op_add (pe_op op_add (pe_op op_mul (pe_op op_mod (pe_int1 B.int (pa_cons (pv 5) pa_nil)) pe_int) pe_int) (pe_op op_mul (pe_op op_mul pe_int (pv 3)) (pv 3))) (pe_op op_mul pe_int (pv 3))) pe_int) pa_nil)) pe_int))
      (pss_cons (ps_set (i := 6) scDraw.nd rfl (Or.inl rfl) (pe_op op_mod (pe_int1 B.int (pa_cons (pe_op op_add (pe_op op_add (pe_op op_mul (pv 6) (pv 6)) (pe_op op_mul pe_int (pv 6))) (pe_op op_mul pe_int (pv 3))) pa_nil)) pe_int))
      (pss_one (ps_ret (pe_op op_mod (pe_int1 B.int (pa_cons (pe_op op_fdiv (pe_op op_mod (pe_int1 B.int (pa_cons (pe_op op_mul (pv 6) (pe_op op_add (pv 6) pe_int)) pa_nil)) pe_int) pe_int) pa_nil)) (pv 1))))))))))), ?_⟩
    have ncp : cl ≠ pn := ne_of hc hp (fun z => by cases z)
    refine ⟨_, rfl, pn, _, rfl, getL hp, _, _, rfl, rfl, _, rfl, ?_⟩
    refine ite2 (fun _ => ?_) fun _ => ?_
    · refine ⟨_, rfl, pn, _, rfl, getL hp, .inl ⟨_, rfl, _, rfl, _, _, rfl, rfl, m0, ?_⟩⟩
      refine ⟨_, rfl, pn, _, rfl, getL hp, _, rfl, _, _, rfl, rfl, ⟨m0, m1⟩, _, rfl, pn, _, rfl, putL _ hp, ?_⟩
      exact ⟨_, rfl, q _ _ (mix_lt _ m0).1 (mix_lt _ m0).2 (fun c o n z => (upd_ne n).trans z) ⟨k, _, cs, upd_same, (upd_ne ncp).trans hc, Nat.le_succ_of_le hk, lc⟩⟩
    · refine ⟨_, rfl, pn, _, rfl, getO hp, _, rfl, pn, _, rfl, getC hp, _, _, rfl, ?_⟩
      refine ⟨_, rfl, _, _, rfl, rfl, _, rfl, pn, _, rfl, putO' _ hp, ?_⟩
      have ek : ((k : Nat) : Int) + 1 = ((k + 1 : Nat) : Int) := by omega
      rw [ek]
      generalize eH2 : upd H pn (.dK (penK cl ((k + 1 : Nat) : Int) l)) = H2
      have hp2 : H2 pn = some (.dK (penK cl ((k + 1 : Nat) : Int) l)) := by rw [← eH2]; exact upd_same
      have hc2 : H2 cl = some (.lst (cs.map V.int)) := by rw [← eH2]; exact (upd_ne ncp).trans hc
      have e2 : But pn H H2 := fun c o n z => by rw [← eH2]; exact (upd_ne n).trans z
      refine ⟨_, rfl, Nat.zero_le _, fun e ne => ?_⟩
      have hp3 : upd H2 e (.lst []) pn = some (.dK (penK cl ((k + 1 : Nat) : Int) l)) := (upd_ne (ne_of_none hp2 ne)).trans hp2
      have hc3 : upd H2 e (.lst []) cl = some (.lst (cs.map V.int)) := (upd_ne (ne_of_none hc2 ne)).trans hc2
      have e3 : But pn H (upd H2 e (.lst [])) := fun c o n z => (upd_ne (ne_of_none (e2 c o n z) ne)).trans (e2 c o n z)
      have he3 : upd H2 e (.lst []) e = some (.lst []) := upd_same
      generalize upd H2 e (.lst []) = H3 at hp3 hc3 e3 he3
      have fin : ∀ (r : Int) (H4 : Hp) (l2 : Int), 0 ≤ r → r < m → H4 = H3 ∨ H4 = upd H3 pn (.dK (penK cl ((k + 1 : Nat) : Int) l2)) → Q (.int r) H4 := fun r H4 l2 r0 r1 e4 => by
        rcases e4 with rfl | rfl
        · exact q r _ r0 r1 e3 ⟨k + 1, l, cs, hp3, hc3, Nat.succ_le_succ hk, lc⟩
        · exact q r _ r0 r1 (fun c o n z => (upd_ne n).trans (e3 c o n z)) ⟨k + 1, l2, cs, upd_same, (upd_ne ncp).trans hc3, Nat.succ_le_succ hk, lc⟩
      have num : ∀ v ∈ cs.map V.int, Num v := fun v hv => by
        obtain ⟨i, _, rfl⟩ := List.mem_map.mp hv
        exact .inr ⟨i, rfl⟩
      refine ⟨cl, e, _, [], rfl, rfl, .inl ⟨SqL.of hc3, SqL.of he3⟩, num, (fun v hv => absurd hv (by simp)), _, rfl, ?_⟩
      refine ite2 (fun c => ?_) fun c => ?_
      · refine ⟨_, rfl, _, _, rfl, rfl, .inl ⟨by decide, by decide⟩, ?_⟩
        refine ⟨_, _, rfl, rfl, .inl ⟨_, rfl, _, rfl, _, _, rfl, rfl, m0, ?_⟩⟩
        exact fin _ _ 0 (mix_lt _ m0).1 (mix_lt _ m0).2 (.inl rfl)
      have cne : cs ≠ [] := fun z => by
        rw [z] at c
        exact c (by decide)
      have lpos : 0 < cs.length := List.length_pos_iff.mpr cne
      refine ⟨_, rfl, _, rfl, .inl ⟨_, rfl, _, rfl, cl, _, rfl, .inl (SqL.of hc3), _, _, rfl, rfl, (by rw [List.length_map]; omega), cl, _, _, .int (cs[k % cs.length]'(Nat.mod_lt _ lpos)), rfl, rfl, SqL.of hc3, ?_, ?_⟩⟩
      · rw [List.length_map]
        have em : ((k : Nat) : Int) % ((cs.length : Nat) : Int) = ((k % cs.length : Nat) : Int) := by omega
        rw [em]
        refine atI_nat ?_
        rw [List.getElem?_map, List.getElem?_eq_getElem (Nat.mod_lt _ lpos)]
        rfl
      generalize cs[k % cs.length]'(Nat.mod_lt _ lpos) = cell
      refine ⟨_, rfl, _, rfl, cl, _, rfl, .inl (SqL.of hc3), _, _, rfl, rfl, _, rfl, ?_⟩
      refine ite2 (fun _ => ?_) fun _ => iteF ?_
      refine ⟨_, rfl, _, rfl, _, _, rfl, rfl, ⟨by decide, by decide, by decide⟩, _, _, rfl, rfl, _, rfl, ?_⟩
      refine ite2 (fun _ => ?_) fun _ => ?_
      refine ⟨_, rfl, _, rfl, _, _, rfl, rfl, ⟨by decide, by decide, by decide⟩, _, _, rfl, rfl, _, rfl, _, _, rfl, rfl, ⟨m0, m1⟩, _, rfl, pn, _, rfl, putL _ hp3, ?_⟩
      refine ⟨_, rfl, _, rfl, _, _, rfl, rfl, ⟨by decide, by decide, by decide⟩, _, _, rfl, rfl, .inl ⟨_, rfl, _, rfl, _, _, rfl, rfl, m0, ?_⟩⟩
      exact fin _ _ _ (mix_lt _ m0).1 (mix_lt _ m0).2 (.inr rfl)
      all_goals
        refine ⟨_, rfl, .inl ⟨_, rfl, _, _, rfl, rfl, (by show (0 : Int) < _; decide), _, _, rfl, rfl, .inr ⟨by decide, by decide⟩, ?_⟩⟩
        refine ⟨_, rfl, _, _, rfl, rfl, .inl ⟨by decide, by decide⟩, _, rfl, _, _, rfl, rfl, .inr ⟨by omega, by omega⟩, _, _, rfl, rfl, ?_⟩
        refine ⟨_, rfl, _, _, rfl, rfl, .inl ⟨by decide, by decide⟩, _, _, rfl, rfl, _, _, rfl, rfl, .inl ⟨_, rfl, _, _, rfl, rfl, (by show (0 : Int) < _; decide), ?_⟩⟩
        generalize emx : (cell % 4294965361 * 41903 + 27011 * ((k : Nat) : Int) * ((k : Nat) : Int) + 853 * ((k : Nat) : Int) + 71) % 4294965383 = mx
        have b1 : 0 ≤ mx ∧ mx < 4294965383 := by rw [← emx]; exact mix_lt _ (by decide)
        refine ⟨_, rfl, _, rfl, _, _, rfl, rfl, .inl ⟨by omega, by omega⟩, ?_⟩
        refine ⟨_, rfl, _, _, rfl, rfl, .inl ⟨by decide, by decide⟩, _, _, rfl, rfl, _, rfl, _, _, rfl, rfl, .inl ⟨by decide, by decide⟩, _, _, rfl, rfl, .inl ⟨_, rfl, _, _, rfl, rfl, (by show (0 : Int) < _; decide), ?_⟩⟩
        generalize emy : (mx * mx + 40213 * mx + 37 * ((k : Nat) : Int)) % 4294965337 = my
        have b2 : 0 ≤ my ∧ my < 4294965337 := by rw [← emy]; exact mix_lt _ (by decide)
        refine ⟨_, rfl, _, rfl, _, _, rfl, rfl, _, _, rfl, rfl, .inl ⟨by omega, by omega⟩, .inl ⟨_, rfl, _, _, rfl, rfl, (by show (0 : Int) < _; decide), _, _, rfl, rfl, ⟨by decide, by decide⟩, .inl ⟨_, rfl, _, rfl, _, _, rfl, rfl, m0, ?_⟩⟩⟩
        exact fin _ _ 0 (mix_lt _ m0).1 (mix_lt _ m0).2 (.inl rfl)
end
def spPick : Sp := fun vs H Q _ => ∃ (pn cl s : Addr) (xs : List V) (b : Nat), vs = [.ref pn, .ref s] ∧ Pen H pn cl b ∧ b ≤ 1000000 ∧ H s = some (.lst xs) ∧ 0 < xs.length ∧ xs.length ≤ 1000 ∧ ∀ x H', x ∈ xs → But pn H H' → Pen H' pn cl (b + 1) → Q x H'
theorem Pen.mono {H : Hp} {pn cl : Addr} {b c : Nat} (h : Pen H pn cl b) (e : b ≤ c) : Pen H pn cl c := let ⟨k, l, cs, h1, h2, h3, h4⟩ := h; ⟨k, l, cs, h1, h2, Nat.le_trans h3 e, h4⟩
theorem Pen.same {H H' : Hp} {pn cl : Addr} {b : Nat} (h : Pen H pn cl b) (e : Same H H') : Pen H' pn cl b := let ⟨k, l, cs, h1, h2, h3, h4⟩ := h; ⟨k, l, cs, e _ _ h1, e _ _ h2, h3, h4⟩
theorem Pen.ne {H : Hp} {pn cl a : Addr} {b : Nat} {o : HO} (h : Pen H pn cl b) (ha : H a = some o) (d : ∀ kvs, o ≠ .dK kvs) : a ≠ pn := let ⟨_, _, _, h1, _⟩ := h; ne_of ha h1 (d _)
/-- the pen stays where another object is written -/
theorem Pen.upd {H : Hp} {pn cl a : Addr} {b : Nat} {o : HO} (h : Pen H pn cl b) (n1 : pn ≠ a) (n2 : cl ≠ a) : Pen (L2.upd H a o) pn cl b := let ⟨k, l, cs, h1, h2, h3, h4⟩ := h; ⟨k, l, cs, (upd_ne n1).trans h1, (upd_ne n2).trans h2, h3, h4⟩
theorem Pen.off {H : Hp} {pn cl a : Addr} {b : Nat} (h : Pen H pn cl b) (n : H a = none) : pn ≠ a ∧ cl ≠ a := let ⟨_, _, _, h1, h2, _⟩ := h; ⟨ne_of_none h1 n, ne_of_none h2 n⟩
theorem same_but {pn : Addr} {H H' : Hp} (e : Same H H') : But pn H H' := fun b o _ h => e b o h
section
variable {P : Program} {w : World} {K : PySem.W.Frag} {mg : Str → Option Value} {base : Heap}
theorem scPick : FnScope ["_law_pen_here", "_law_some"] ["_law_pen_here", "_law_some"] (defScope sPick) := ⟨rfl, rfl, rfl, by decide +kernel, rfl, by decide +kernel, by decide +kernel⟩
theorem ok_pick {f : Addr} {fd : FuncData} (F : Fun K "_law_pick" "_law_pick" sPick f fd) (B : Bi mg) (cD : Cal CX0 P w K mg base 1 "_law_draw" spDraw) : FnOk P w K mg base CX0 2 f fd ["_law_pen_here", "_law_some"] spPick := by
  refine F.ok scPick (fun vs H Q E h => ?_) (fun cdv A outer s H vs Q E hr h => ?_)
  · obtain ⟨pn, cl, s, xs, b, rfl, _⟩ := h
    rfl
  · obtain ⟨pn, cl, s0, xs, b, rfl, pen, hb, hs, l0, l1, q⟩ := h
    refine ⟨_, pss_one (ps_ret (pe_ix ix_list (pv 1) (pe_c cD hr pass0 (pa_cons (pv 0) (pa_cons (pe_len B.len (pa_cons (pv 1) pa_nil)) pa_nil))) (fun _ _ => rfl))), ?_⟩
    refine ⟨_, rfl, _, rfl, _, rfl, s0, xs, rfl, .inl (SqL.of hs), pn, cl, _, b, rfl, pen, hb, by omega, by omega, fun r H' r0 r1 e pen2 => ?_⟩
    obtain ⟨r, rfl⟩ := Int.eq_ofNat_of_zero_le r0
    have lt : r < xs.length := by omega
    exact ⟨s0, xs, _, xs[r], rfl, rfl, SqL.of (e _ _ (pen.ne hs fun _ z => by cases z) hs), atI_nat (List.getElem?_eq_getElem lt), q _ _ (List.getElem_mem lt) e pen2⟩
end
def Flat : V → Prop
  | .non | .bl _ | .int _ => True
  | .str x => PyData.strOk x = true
  | _ => False
theorem dp_flat {K : PySem.W.Frag} {H : Hp} {v : V} (h : Flat v) : Dp K H v (dOf v) := by
  cases v with
  | non => exact .non
  | bl b => exact .bl b
  | int i => exact .int i
  | str x => exact .str x
  | _ => exact h.elim
theorem dpAll_flat {K : PySem.W.Frag} {H : Hp} : ∀ {xs : List V}, (∀ v ∈ xs, Flat v) → DpAll K H xs (xs.map dOf)
  | [], _ => .nil
  | x :: xs, h => .cons (dp_flat (h x List.mem_cons_self)) (dpAll_flat fun v m => h v (List.mem_cons_of_mem _ m))
theorem lay_flat : ∀ {xs : List V}, (∀ v ∈ xs, Flat v) → PyData.canLayAll0 (xs.map dOf) = true
  | [], _ => by simp [PyData.canLayAll0]
  | x :: xs, h => by
    have ih := lay_flat fun v m => h v (List.mem_cons_of_mem x m)
    have hx := h x List.mem_cons_self
    rw [List.map_cons, PyData.canLayAll0, ih, Bool.and_true]
    cases x <;> simp [dOf, PyData.canLay0, Flat] at hx ⊢
    exact hx
theorem depth_flat : ∀ (xs : List V), PyData.depthAll (xs.map dOf) ≤ 1
  | [] => by simp [PyData.depthAll]
  | x :: xs => by
    have ih := depth_flat xs
    simp only [List.map_cons, PyData.depthAll]
    cases x <;> simp only [dOf, PyData.depth] <;> omega
theorem shT_flat {xs : List V} (h : ∀ v ∈ xs, Flat v) : SeqAt.shaped (.tuple (xs.map dOf)) = true := by
  have h1 := lay_flat h
  have h2 := depth_flat xs
  show (PyData.canLay0 (.tuple (xs.map dOf)) && decide (PyData.depth (.tuple (xs.map dOf)) ≤ 64)) = true
  rw [Bool.and_eq_true]
  refine ⟨by simp only [PyData.canLay0]; exact h1, decide_eq_true ?_⟩
  simp only [PyData.depth]
  omega
/-- two tuples with the same flat items -/
def rSm (b : Bool) : R2 := fun x y H Q => ∃ s t us, x = .ref s ∧ y = .ref t ∧ H s = some (.tup us) ∧ H t = some (.tup us) ∧ (∀ v ∈ us, Flat v) ∧ Q (.bl b) H
section
variable {X : Cx}
theorem op_neSm (hu : X.A.units + 64 < cLine) : OpR X (compareOp .NotEq) (rSm false) := by
  intro pins s σ H x y v u Q I rx ry h
  obtain ⟨a, b, us, rfl, rfl, d1, d2, f, q⟩ := h
  have sh := shT_flat f
  refine op_neD hu pins s σ H _ _ v u Q I rx ry ⟨_, _, .tup (SqT.of d1) (dpAll_flat f), .tup (SqT.of d2) (dpAll_flat f), sh, sh, ?_⟩
  rw [SeqAt.eqv_refl _ (Bool.and_eq_true_iff.mp sh).1]
  exact q
theorem op_eqSm (hu : X.A.units + 64 < cLine) : OpR X (compareOp .Eq) (rSm true) := by
  intro pins s σ H x y v u Q I rx ry h
  obtain ⟨a, b, us, rfl, rfl, d1, d2, f, q⟩ := h
  have sh := shT_flat f
  refine op_eqD hu pins s σ H _ _ v u Q I rx ry ⟨_, _, .tup (SqT.of d1) (dpAll_flat f), .tup (SqT.of d2) (dpAll_flat f), sh, sh, ?_⟩
  rw [SeqAt.eqv_refl _ (Bool.and_eq_true_iff.mp sh).1]
  exact q
end
theorem cut_to {xs : List V} {k : Nat} (h : k ≤ xs.length) : cutV xs none (some (k : Int)) = xs.take k := by
  unfold cutV
  rw [HT.sIx_nat, HT.sIx_none, List.drop_zero, Nat.sub_zero, Nat.min_eq_left h]
theorem cut_from {xs : List V} {k : Nat} (h : k ≤ xs.length) : cutV xs (some (k : Int)) none = xs.drop k := by
  unfold cutV
  rw [HT.sIx_nat, HT.sIx_none, Nat.min_eq_left h, List.take_of_length_le (by rw [List.length_drop]; exact Nat.le_refl _)]
theorem kn_flat {H : Hp} {v : V} (h : Flat v) : Kn H v := by
  cases v with
  | non => exact .non
  | bl b => exact .bl b
  | int i => exact .int i
  | str x => exact .str x
  | _ => exact h.elim
theorem flat_ref {v : V} (h : Flat v) : ∀ b, v ≠ .ref b := fun b e => by
  rw [e] at h
  exact h
end K03
set_option Elab.async false
set_option linter.all false
set_option maxRecDepth 100001
set_option maxHeartbeats 3999999
namespace K03
open PySem L2
abbrev sCopied : Stmt := topS 6
abbrev sNoWord : Stmt := inClass (topS 16) 0
abbrev sNotWord : Stmt := inClass (topS 17) 0
/-- what is handed in of any kind, as data -/
inductive Odd (H : Hp) : V → PyData → Prop
  | flat {v : V} (h : Flat v) : Odd H v (dOf v)
  | tup {a : Addr} {x : V} (e : H a = some (.tup [x])) (f : Flat x) : Odd H (.ref a) (.tuple [dOf x])
  | lst {a : Addr} {xs : List V} (e : H a = some (.lst xs)) (f : ∀ v ∈ xs, Flat v) (l : xs.length ≤ 1000) : Odd H (.ref a) (.list (xs.map dOf))
theorem Odd.kn {H : Hp} {v : V} {d : PyData} (o : Odd H v d) : Kn H v := by
  cases o with
  | flat h => exact kn_flat h
  | tup e f => exact .tup e
  | lst e f l => exact .lst e
theorem Odd.same {H H' : Hp} {v : V} {d : PyData} (o : Odd H v d) (s : Same H H') : Odd H' v d := by
  cases o with
  | flat h => exact .flat h
  | tup e f => exact .tup (s _ _ e) f
  | lst e f l => exact .lst (s _ _ e) f l
theorem Odd.dp {K : PySem.W.Frag} {H : Hp} {v : V} {d : PyData} (o : Odd H v d) : Dp K H v d := by
  cases o with
  | flat h => exact dp_flat h
  | tup e f => exact .tup (SqT.of e) (.cons (dp_flat f) .nil)
  | lst e f l => exact .lst (SqL.of e) (dpAll_flat f)
def spCopied : Sp := fun vs H Q _ => ∃ v, vs = [v] ∧ Flat v ∧ Q v H
def spCopy2 : Sp := fun vs H Q _ => ∃ v d, vs = [v] ∧ Odd H v d ∧ ∀ v' H', Same H H' → Odd H' v' d → Q v' H'
section
variable {P : Program} {w : World} {K : PySem.W.Frag} {mg : Str → Option Value} {base : Heap}
theorem scCopied : FnScope ["value", "part", "key"] ["value"] (defScope sCopied) := ⟨rfl, rfl, rfl, by decide +kernel, rfl, by decide +kernel, by decide +kernel⟩
theorem ok_copied {f : Addr} {fd : FuncData} (F : Fun K "copied" "copied" sCopied f fd) (B : Bi mg) : FnOk P w K mg base CX0 1 f fd ["value"] spCopied := by
  refine F.ok scCopied (fun vs H Q E h => ?_) (fun cdv A outer s H vs Q E hr h => ?_)
  · obtain ⟨v, rfl, _⟩ := h
    rfl
  · obtain ⟨v, rfl, fl, q⟩ := h
    refine ⟨_, pss_cons (ps_if (pt_val (pe_isi B.isi (pa_cons (pv 0) (pa_cons (pe_ty "list" B.list) pa_nil)))) pss_never pss_nil) (pss_cons (ps_if (pt_val (pe_isi B.isi (pa_cons (pv 0) (pa_cons (pe_ty "tuple" B.tuple) pa_nil)))) pss_never pss_nil)
      (pss_cons (ps_if (pt_val (pe_isi B.isi (pa_cons (pv 0) (pa_cons (pe_ty "dict" B.dict) pa_nil)))) pss_never pss_nil) (pss_one (ps_ret (pv 0))))), ?_⟩
    obtain ⟨t, ty, _, _, k3, k4, k5⟩ := (kn_flat (H := H) fl).kinds K
    have f3 : isT H v = false := by cases v <;> first | rfl | exact fl.elim
    have f4 : isL H v = false := by cases v <;> first | rfl | exact fl.elim
    rw [f3] at k3
    rw [f4] at k4
    exact ⟨v, rfl, v, _, _, _, _, rfl, .ty "list", ty, k4, _, rfl, iteF ⟨v, rfl, v, _, _, _, _, rfl, .ty "tuple", ty, k3, _, rfl, iteF ⟨v, rfl, v, _, _, _, _, rfl, .ty "dict", ty, k5, _, rfl, iteF ⟨v, rfl, q⟩⟩⟩⟩
theorem ok_copy2 {f : Addr} {fd : FuncData} (F : Fun K "copied" "copied" sCopied f fd) (B : Bi mg) (c1 : Cal CX0 P w K mg base 1 "copied" spCopied) : FnOk P w K mg base CX0 2 f fd ["value"] spCopy2 := by
  refine F.ok scCopied (fun vs H Q E h => ?_) (fun cdv A outer s H vs Q E hr h => ?_)
  · obtain ⟨v, d, rfl, _⟩ := h
    rfl
  · obtain ⟨v, d, rfl, od, q⟩ := h
    refine ⟨_, pss_cons (ps_if (pt_val (pe_isi B.isi (pa_cons (pv 0) (pa_cons (pe_ty "list" B.list) pa_nil)))) (pss_one (ps_ret (pe_lc (own := [("part", 1)]) rfl scCopied.nd (pi_sqA (pv 0)) (blkOk_by (N := ["value", "part", "key"]) (sc := defScope sCopied) (by decide +kernel))
          (fun _ _ _ _ _ => pg_name (i := 1) scCopied.nd rfl (Or.inl rfl)) (fun _ _ _ _ _ => pts_nil) (fun _ _ _ _ _ => pe_c c1 hr pass0 (pa_cons (pv 1) pa_nil))))) pss_nil)
      (pss_cons (ps_if (pt_val (pe_isi B.isi (pa_cons (pv 0) (pa_cons (pe_ty "tuple" B.tuple) pa_nil)))) (pss_one (ps_ret (pe_tupleOf rfl B.tuple (pe_lc (own := [("part", 1)]) rfl scCopied.nd (pi_sqA (pv 0)) (blkOk_by (N := ["value", "part", "key"]) (sc := defScope sCopied) (by decide +kernel))
          (fun _ _ _ _ _ => pg_name (i := 1) scCopied.nd rfl (Or.inl rfl)) (fun _ _ _ _ _ => pts_nil) (fun _ _ _ _ _ => pe_c c1 hr pass0 (pa_cons (pv 1) pa_nil)))))) pss_nil)
      (pss_cons (ps_if (pt_val (pe_isi B.isi (pa_cons (pv 0) (pa_cons (pe_ty "dict" B.dict) pa_nil)))) pss_never pss_nil) (pss_one (ps_ret (pv 0))))), ?_⟩
    obtain ⟨t, ty, _, _, k3, k4, k5⟩ := od.kn.kinds K
    cases od with
    | flat fl =>
      have f3 : isT H v = false := by cases v <;> first | rfl | exact fl.elim
      have f4 : isL H v = false := by cases v <;> first | rfl | exact fl.elim
      rw [f3] at k3
      rw [f4] at k4
      exact ⟨v, rfl, v, _, _, _, _, rfl, .ty "list", ty, k4, _, rfl, iteF ⟨v, rfl, v, _, _, _, _, rfl, .ty "tuple", ty, k3, _, rfl, iteF ⟨v, rfl, v, _, _, _, _, rfl, .ty "dict", ty, k5, _, rfl, iteF ⟨v, rfl, q v H (Same.refl H) (.flat fl)⟩⟩⟩⟩
    | @lst a xs e fx ll =>
      rw [isL_lst e] at k4
      refine ⟨_, rfl, _, _, _, _, _, rfl, .ty "list", ty, k4, _, rfl, iteT ?_⟩
      refine ⟨_, rfl, a, _, rfl, .inl (SqL.of e), fun J G wk hG D nD => lc_it wk (fun j H' => Same H H' ∧ H' D = some (.lst (xs.take j))) ⟨same_new nD, upd_same⟩ (fun j H' _ z => hG H' fun o w => z.1 _ _ w) ?_ ?_⟩
      · rintro j y H1 H2 hj ⟨e1, hD⟩ ⟨rfl, hy⟩
        refine ⟨rfl, ?_⟩
        unfold tYes
        refine iteT ⟨_, rfl, _, rfl, fx y (List.mem_of_getElem? hy), _, hD, by rw [List.length_take]; exact small10 (by omega), fun b o z => ?_, ?_⟩
        · rw [upd_ne (ne_of_none z nD)]
          exact e1 _ _ z
        · rw [upd_same, List.take_add_one, hy]
          rfl
      · rintro H1 ⟨e1, hD⟩
        rw [List.take_length] at hD
        exact q _ H1 e1 (.lst hD fx ll)
    | @tup a x e fx =>
      rw [isL_tup e] at k4
      rw [isT_tup e] at k3
      refine ⟨_, rfl, _, _, _, _, _, rfl, .ty "list", ty, k4, _, rfl, iteF ⟨_, rfl, _, _, _, _, _, rfl, .ty "tuple", ty, k3, _, rfl, iteT ?_⟩⟩
      refine ⟨_, rfl, a, _, rfl, .inr (SqT.of e), fun J G wk hG D nD => lc_it wk (fun j H' => Same H H' ∧ H' D = some (.lst ([x].take j))) ⟨same_new nD, upd_same⟩ (fun j H' _ z => hG H' fun o w => z.1 _ _ w) ?_ ?_⟩
      · rintro j y H1 H2 hj ⟨e1, hD⟩ ⟨rfl, hy⟩
        have j0 : j = 0 := by simpa using hj
        subst j0
        cases hy
        refine ⟨rfl, ?_⟩
        unfold tYes
        refine iteT ⟨_, rfl, _, rfl, fx, _, hD, by show 0 < sizeLine; decide, fun b o z => ?_, upd_same⟩
        rw [upd_ne (ne_of_none z nD)]
        exact e1 _ _ z
      · rintro H1 ⟨e1, hD⟩
        exact .inl ⟨D, _, rfl, SqL.of hD, fun t nt => q _ _ (e1.trans (same_new nt)) (.tup upd_same fx)⟩
/-! ### the errors -/
/-- self.f = copied(v), of an exception that has no field yet -/
def spXO (K : PySem.W.Frag) (f : Str) : Sp := fun vs H Q _ => ∃ (a C : Addr) (v : V) (d : PyData), vs = [.ref a, v] ∧ OexC K C ∧ PySem.W.findIn K (.ref C) f = some none ∧ Odd H v d ∧ H a = some (exo a C none) ∧
  ∀ v' H1 dx, Same H H1 → Odd H1 v' d → H1 dx = none → dx ≠ a → Q .non (upd (upd H1 dx (exd dx [(f, v')])) a (exo a C (some dx)))
theorem scNoWord : FnScope ["self", "word"] ["self", "word"] (defScope sNoWord) := ⟨rfl, rfl, rfl, by decide +kernel, rfl, by decide +kernel, by decide +kernel⟩
theorem ok_noWord {f : Addr} {fd : FuncData} (F : Fun K "__init__" "NoWord.__init__" sNoWord f fd) (cC : Cal CX0 P w K mg base 2 "copied" spCopy2) : FnOk P w K mg base CX0 3 f fd ["self", "word"] (spXO K "word") := by
  refine F.ok scNoWord (fun vs H Q E h => ?_) (fun cdv A outer s H vs Q E hr h => ?_)
  · obtain ⟨a, C, v, d, rfl, _⟩ := h
    rfl
  · obtain ⟨a, C, v, d, rfl, T, no, od, ha, q⟩ := h
    refine ⟨_, pss_one (ps_ost (pv 0) (pe_c cC hr pass0 (pa_cons (pv 1) pa_nil))), ?_⟩
    exact ⟨_, rfl, v, d, rfl, od, fun v' H1 e1 o1 => ⟨_, rfl, a, C, rfl, T, no, .inl ⟨e1 _ _ ha, fun dx nd ne => q v' H1 dx e1 o1 nd ne⟩⟩⟩
theorem scNotWord : FnScope ["self", "word"] ["self", "word"] (defScope sNotWord) := ⟨rfl, rfl, rfl, by decide +kernel, rfl, by decide +kernel, by decide +kernel⟩
theorem ok_notWord {f : Addr} {fd : FuncData} (F : Fun K "__init__" "NotWord.__init__" sNotWord f fd) (cC : Cal CX0 P w K mg base 2 "copied" spCopy2) : FnOk P w K mg base CX0 3 f fd ["self", "word"] (spXO K "word") := by
  refine F.ok scNotWord (fun vs H Q E h => ?_) (fun cdv A outer s H vs Q E hr h => ?_)
  · obtain ⟨a, C, v, d, rfl, _⟩ := h
    rfl
  · obtain ⟨a, C, v, d, rfl, T, no, od, ha, q⟩ := h
    refine ⟨_, pss_one (ps_ost (pv 0) (pe_c cC hr pass0 (pa_cons (pv 1) pa_nil))), ?_⟩
    exact ⟨_, rfl, v, d, rfl, od, fun v' H1 e1 o1 => ⟨_, rfl, a, C, rfl, T, no, .inl ⟨e1 _ _ ha, fun dx nd ne => q v' H1 dx e1 o1 nd ne⟩⟩⟩
end
/-! ### what a raise leaves -/
/-- behind a raise: all that was there, and the error's field at d -/
structure RsO (H H' : Hp) (d : Addr) (f : Str) (dd : PyData) : Prop where
  new : H d = none
  same : Same H H'
  at_ : ∃ v', H' d = some (.xd [(f, v')]) ∧ Odd H' v' dd
theorem raiseO {H : Hp} {C : Addr} {f : Str} {v : V} {dd : PyData} {R : XK} {K : PySem.W.Frag} (T : OexC K C) (no : PySem.W.findIn K (.ref C) f = some none) (od : Odd H v dd) (r : ∀ d H', RsO H H' d f dd → R (.ref C) (some d) H') :
    ([v] : List V).length ≤ 1000 ∧ ∀ a, H a = none → spXO K f (.ref a :: ([v] ++ [])) (upd H a (exo a C none)) (fun u H2 => u = .non ∧ ∃ (d : Addr) (fs : List (Str × V)), H2 a = some (exo a C (some d)) ∧ H2 d = some (exd d fs) ∧ H d = none ∧ R (.ref C) (some d) (upd (del H2 a) d (.xd fs))) (fun _ _ _ => False) := by
  refine ⟨by show 1 ≤ 1000; decide, fun a na => ⟨a, C, v, dd, rfl, T, no, od.same (same_new na), upd_same, fun v' H1 dx e1 o1 nd ne => ⟨rfl, dx, [(f, v')], upd_same, by rw [upd_ne ne]; exact upd_same, ?_, r _ _ ?_⟩⟩⟩
  · cases z : H dx with
    | none => rfl
    | some o =>
      rw [e1 _ _ (same_new na _ _ z)] at nd
      cases nd
  · have hne : ∀ b o, H1 b = some o → b ≠ dx := fun b o e => ne_of_none e nd
    have h1a : H1 a = some (exo a C none) := e1 _ _ upd_same
    have keep : ∀ b o, b ≠ a → H1 b = some o → upd (del (upd (upd H1 dx (exd dx [(f, v')])) a (exo a C (some dx))) a) dx (.xd [(f, v')]) b = some o := fun b o h1 h2 => by
      rw [upd_ne (hne b o h2), del_ne h1, upd_ne h1, upd_ne (hne b o h2)]
      exact h2
    refine ⟨?_, fun b o e => ?_, v', upd_same, ?_⟩
    · cases z : H dx with
      | none => rfl
      | some o =>
        rw [e1 _ _ (same_new na _ _ z)] at nd
        cases nd
    · have ba := ne_of_none e na
      exact keep b o ba (e1 _ _ ((upd_ne ba).trans e))
    · cases o1 with
      | flat h => exact .flat h
      | tup e f => exact .tup (keep _ _ (ne_of e h1a fun z => by unfold exo at z; cases z) e) f
      | lst e f l => exact .lst (keep _ _ (ne_of e h1a fun z => by unfold exo at z; cases z) e) f l
end K03
set_option Elab.async false
set_option linter.all false
set_option maxRecDepth 100001
set_option maxHeartbeats 3999999
namespace K03
open PySem L2
abbrev sLetters : Stmt := topS 28
abbrev sIsWord : Stmt := topS 29
def S (l : List Nat) : Str := ⟨l.toArray⟩
def abc : List Nat := (List.range 26).map (· + 97)
theorem S_list (l : List Nat) : (S l).cps.toList = l := rfl
theorem S_size (l : List Nat) : (S l).cps.size = l.length := by simp [S]
theorem S_len (l : List Nat) : (S l).length = l.length := S_size l
theorem S_get (l : List Nat) (i : Nat) : (S l).cps[i]? = l[i]? := by simp [S]
theorem S_inj {l m : List Nat} (h : S l = S m) : l = m := congrArg (fun z : Str => z.cps.toList) h
theorem S_of (z : Str) : z = S z.cps.toList := rfl
/-- letters that a dictionary may have -/
structure Lets (ls : List Nat) : Prop where
  nd : ls.Nodup
  lo : 2 ≤ ls.length
  hi : ls.length ≤ 26
  abc : ∀ c ∈ ls, c ∈ abc
def isS : V → Bool
  | .str _ => true
  | _ => false
/-- a word over these letters -/
def isW (ls : List Nat) : V → Bool
  | .str x => decide (x.length ≤ 200) && x.cps.toList.all fun c => decide (c ∈ ls)
  | _ => false
structure Bs (mg : Str → Option Value) : Prop where
  str : mg "str" = none
  all : mg "all" = none
  set : mg "set" = none
  sorted : mg "sorted" = none
structure Cn (mg : Str → Option Value) : Prop where
  alpha : ∃ u, mg "ALPHABET" = some u ∧ RelV (.str (S abc)) u
  longest : ∃ u, mg "LONGEST" = some u ∧ RelV (.int 200) u
theorem ks_of {K : PySem.W.Frag} {t : String} {b : Bool} (h : kitB t "str" = some b) : PySem.W.kitOne K (.type t) (.type "str") = some b := h
theorem Kn.isStr (K : PySem.W.Frag) {H : Hp} {v : V} (k : Kn H v) : ∃ t : String, TyX K H v (.type t) ∧ PySem.W.kitOne K (.type t) (.type "str") = some (isS v) := by
  cases k with
  | non => exact ⟨_, .base .non, ks_of (show kitB "NoneType" "str" = some false by decide +kernel)⟩
  | bl b => exact ⟨_, .base (.bl b), ks_of (show kitB "bool" "str" = some false by decide +kernel)⟩
  | int i => exact ⟨_, .base (.int i), ks_of (show kitB "int" "str" = some false by decide +kernel)⟩
  | str x => exact ⟨_, .base (.str x), ks_of (show kitB "str" "str" = some true by decide +kernel)⟩
  | lst e => exact ⟨_, .base (.lst e), ks_of (show kitB "list" "str" = some false by decide +kernel)⟩
  | tup e => exact ⟨_, .base (.tup e), ks_of (show kitB "tuple" "str" = some false by decide +kernel)⟩
theorem yesT {te : TE} {σ : St} {H : Hp} {Q : VK} {N : Hp → Prop} (h : te σ H Q) : tYes σ H fun b H3 => if b = true then te σ H3 Q else N H3 := by
  unfold tYes
  exact iteT h
/-- a comprehension whose elements change nothing -/
theorem lcP {J : It} {n : Nat} {G : Hp → Prop} {Y : Nat → Hp → V → Hp → Prop} (wk : Walk J n G Y) {g : TG} {tt : TT} {te : TE} {vs : List Nat} {σ : St} {H1 : Hp} {D : Addr} {Qd : Hp → Prop} (us fs : List V) (hn : us.length = n) (hf : fs.length = n) (hb : n ≤ 10000)
    (hY : ∀ (i : Nat) (x : V) (H H' : Hp), Y i H x H' → H' = H ∧ us[i]? = some x) (hG : ∀ H', Same H1 H' → G H') (nD : H1 D = none)
    (hs : ∀ (i : Nat) (x y : V) (H : Hp) (Q : VK) (N : Hp → Prop), us[i]? = some x → fs[i]? = some y → Same H1 H → Q y H → g x (wipe σ vs) H fun σ2 H2 => wipe σ2 vs = wipe σ vs ∧ tt σ2 H2 fun b H3 => if b = true then te σ2 H3 Q else N H3)
    (hd : ∀ H, Same H1 H → H D = some (.lst fs) → Qd H) :
    ∃ W : Nat → Nat → Hp → Prop, (∃ m, W 0 m (upd H1 D (.lst []))) ∧ ∀ i m H, W i m H →
      (J.stop i H ∧ Qd H) ∨ (J.go i H ∧ ∃ Nx : Hp → Prop, (∀ H', Nx H' → ∃ m', m' < m ∧ W (i + 1) m' H') ∧ ∀ x H', J.yld i H x H' → g x (wipe σ vs) H' fun σ2 H2 => wipe σ2 vs = wipe σ vs ∧ tt σ2 H2 fun b H3 =>
        if b = true then te σ2 H3 fun y H4 => ∃ acc, H4 D = some (.lst acc) ∧ acc.length < sizeLine ∧ Nx (upd H4 D (.lst (acc ++ [y]))) else Nx H3) := by
  refine lc_it wk (fun i H' => Same H1 H' ∧ H' D = some (.lst (fs.take i))) ⟨same_new nD, upd_same⟩ (fun i H' _ z => hG H' z.1) ?_ ?_
  · rintro i x H H' hi ⟨e1, hD⟩ y
    obtain ⟨rfl, hx⟩ := hY i x H H' y
    have hi2 : i < fs.length := by omega
    refine hs i x fs[i] H' _ _ hx (List.getElem?_eq_getElem hi2) e1 ⟨_, hD, ?_, fun b o z => ?_, ?_⟩
    · rw [List.length_take]
      exact small10 (by omega)
    · rw [upd_ne (ne_of_none z nD)]
      exact e1 _ _ z
    · rw [List.take_add_one, List.getElem?_eq_getElem hi2]
      exact upd_same
  · rintro H ⟨e1, hD⟩
    refine hd H e1 ?_
    rw [hD, List.take_of_length_le (by omega)]
/-- a comprehension over a text -/
theorem lcS {z : Str} {g : TG} {tt : TT} {te : TE} {vs : List Nat} {σ : St} {H1 : Hp} {D : Addr} {Qd : Hp → Prop} (f : Nat → V) (hb : z.cps.size ≤ 10000) (nD : H1 D = none)
    (hs : ∀ c H (Q : VK) (N : Hp → Prop), c ∈ z.cps.toList → Same H1 H → Q (f c) H → g (.str ⟨#[c]⟩) (wipe σ vs) H fun σ2 H2 => wipe σ2 vs = wipe σ vs ∧ tt σ2 H2 fun b H3 => if b = true then te σ2 H3 Q else N H3)
    (hd : ∀ H, Same H1 H → H D = some (.lst (z.cps.toList.map f)) → Qd H) :
    ∃ W : Nat → Nat → Hp → Prop, (∃ m, W 0 m (upd H1 D (.lst []))) ∧ ∀ i m H, W i m H →
      ((Its z).stop i H ∧ Qd H) ∨ ((Its z).go i H ∧ ∃ Nx : Hp → Prop, (∀ H', Nx H' → ∃ m', m' < m ∧ W (i + 1) m' H') ∧ ∀ x H', (Its z).yld i H x H' → g x (wipe σ vs) H' fun σ2 H2 => wipe σ2 vs = wipe σ vs ∧ tt σ2 H2 fun b H3 =>
        if b = true then te σ2 H3 fun y H4 => ∃ acc, H4 D = some (.lst acc) ∧ acc.length < sizeLine ∧ Nx (upd H4 D (.lst (acc ++ [y]))) else Nx H3) := by
  refine lcP walk_str (sgns z) (z.cps.toList.map f) (by simp [sgns]) (by simp) hb ?_ (fun _ _ => True.intro) nD ?_ hd
  · rintro i x H H' ⟨rfl, c, hc, rfl⟩
    refine ⟨rfl, ?_⟩
    unfold sgns
    rw [List.getElem?_map, Array.getElem?_toList, hc]
    rfl
  · intro i x y H Q N hx hy e q
    unfold sgns at hx
    rw [List.getElem?_map] at hx hy
    cases hc : z.cps.toList[i]? with
    | none =>
      rw [hc] at hx
      cases hx
    | some c =>
      rw [hc] at hx hy
      cases hx
      cases hy
      exact hs c H Q N (List.mem_of_getElem? hc) e q
def spLets : Sp := fun vs H Q _ => ∃ ls, vs = [.str (S ls)] ∧ Lets ls ∧ ∀ H', Same H H' → Q (.bl true) H'
def spIsW : Sp := fun vs H Q _ => ∃ v ls, vs = [v, .str (S ls)] ∧ Kn H v ∧ (∀ x, v = .str x → x.length ≤ 10000) ∧ ∀ H', Same H H' → Q (.bl (isW ls v)) H'
section
variable {X : Cx}
theorem pe_isStr {a : Expr} {es : List Expr} {t : TA} {p pos : Pos} (hm : X.mg "isinstance" = none) (ha : PA X (a :: es) t) (hg : Gl X "isinstance" := by rfl)
    (he : starEach (a :: es) X.env = (false, eval a X.env) :: starEach es X.env := by rfl) (hpl : (backTo pos (starEach es X.env)).any (·.1) = false := by rfl) :
    PE X (.Call (.Name "isinstance" p) (a :: es) [] pos) (tCB (rIsi X.K) t) := pe_isi hm ha hg he hpl
theorem pe_lenS {a : Expr} {es : List Expr} {t : TA} {p pos : Pos} (hm : X.mg "len" = none) (ha : PA X (a :: es) t) (hg : Gl X "len" := by rfl) (he : starEach (a :: es) X.env = (false, eval a X.env) :: starEach es X.env := by rfl)
    (hpl : (backTo pos (starEach es X.env)).any (·.1) = false := by rfl) :
    PE X (.Call (.Name "len" p) (a :: es) [] pos) (tCB (fun xs H Q => ∃ z, xs = [.str z] ∧ z.length ≤ sizeLine ∧ Q (.int z.length) H) t) := pe_callB call_len_str hg hm PySem.boot_len ha (he := he) (hpl := hpl)
theorem pe_all {a : Expr} {es : List Expr} {t : TA} {p pos : Pos} (hc : X.calm = true) (hm : X.mg "all" = none) (ha : PA X (a :: es) t) (hg : Gl X "all" := by rfl) (he : starEach (a :: es) X.env = (false, eval a X.env) :: starEach es X.env := by rfl)
    (hpl : (backTo pos (starEach es X.env)).any (·.1) = false := by rfl) :
    PE X (.Call (.Name "all" p) (a :: es) [] pos) (tCB (rAll X.K) t) := pe_callB (cr_all hc) hg hm (by decide +kernel) ha (he := he) (hpl := hpl)
end
section
variable {P : Program} {w : World} {K : PySem.W.Frag} {mg : Str → Option Value} {base : Heap}
theorem scLetters : FnScope ["value", "letter"] ["value"] (defScope sLetters) := ⟨rfl, rfl, rfl, by decide +kernel, rfl, by decide +kernel, by decide +kernel⟩
theorem ok_letters {f : Addr} {fd : FuncData} (F : Fun K "are_letters" "are_letters" sLetters f fd) (B : Bi mg) (C : Bs mg) (N : Cn mg) : FnOk P w K mg base CX0 1 f fd ["value"] spLets := by
  refine F.ok scLetters (fun vs H Q E h => ?_) (fun cdv A outer s H vs Q E hr h => ?_)
  · obtain ⟨ls, rfl, _⟩ := h
    rfl
  · obtain ⟨ls, rfl, L, q⟩ := h
    refine ⟨_, pss_cons (ps_if (PW.pt (pw_or (pt_not (pt_val (pe_isStr B.isi (pa_cons (pv 0) (pa_cons (pe_ty "str" C.str) pa_nil))))) (pw_or1 (pt_not (pt_chain op_le op_le pe_int (pe_lenS B.len (pa_cons (pv 0) pa_nil)) pe_int))))) pss_never pss_nil)
      (pss_one (ps_ret (pe_and (pe_all rfl C.all (pa_cons (pe_lc (own := [("letter", 1)]) rfl scLetters.nd (pi_str (pv 0)) (blkOk_by (N := ["value", "letter"]) (sc := defScope sLetters) (by decide +kernel))
          (fun _ _ _ _ _ => pg_name (i := 1) scLetters.nd rfl (Or.inl rfl)) (fun _ _ _ _ _ => pts_nil) (fun _ _ _ _ _ => pe_cmpR op_in_sign (pv 1) (C8.pe_gc rfl N.alpha) rfl)) pa_nil))
        (pe_one (pe_cmpR op_eq (pe_lenSetS rfl rfl B.len rfl C.set (pv 0)) (pe_lenS B.len (pa_cons (pv 0) pa_nil)) (nomark _)))))), ?_⟩
    obtain ⟨t, ty, k1⟩ := (Kn.str (S ls) : Kn H _).isStr K
    have l26 : (S ls).length ≤ 26 := by rw [S_len]; exact L.hi
    have l2 : 2 ≤ (S ls).length := by rw [S_len]; exact L.lo
    have small : (S ls).length ≤ sizeLine := Nat.le_of_lt (small10 (by omega))
    refine ⟨_, rfl, _, _, _, _, _, rfl, .ty "str", ty, k1, _, rfl, iteF ⟨_, rfl, _, rfl, small, _, _, rfl, rfl, _, rfl, ?_⟩⟩
    rw [if_pos (decide_eq_true (by omega))]
    refine ⟨_, _, rfl, rfl, _, rfl, ?_⟩
    show (if (!decide (((S ls).length : Int) ≤ 26)) = true then _ else _)
    rw [decide_eq_true (by omega)]
    refine iteF ⟨_, rfl, _, rfl, fun D nD => lcS (fun c => .bl (decide (c ∈ abc))) (by rw [S_size]; have := L.hi; omega) nD ?_ ?_⟩
    · intro c H1 Q N hc e q
      exact ⟨rfl, yesT ⟨_, rfl, c, S abc, rfl, rfl, q⟩⟩
    · intro H1 e hD
      refine ⟨D, (ls.map fun c => decide (c ∈ abc)), rfl, ?_, ?_⟩
      · rw [List.map_map]
        exact SqL.of hD
      rw [List.all_map, show (ls.all (id ∘ fun c => decide (c ∈ abc))) = true from List.all_eq_true.mpr fun c hc => decide_eq_true (L.abc c hc)]
      refine ⟨true, rfl, iteT ⟨_, rfl, S ls, rfl, L.nd, by rw [S_size]; have := L.hi; omega, _, rfl, S ls, rfl, small, rfl, ?_⟩⟩
      rw [S_len, S_size, decide_eq_true rfl]
      exact q H1 e
theorem scIsWord : FnScope ["value", "letters", "letter"] ["value", "letters"] (defScope sIsWord) := ⟨rfl, rfl, rfl, by decide +kernel, rfl, by decide +kernel, by decide +kernel⟩
theorem ok_isWord {f : Addr} {fd : FuncData} (F : Fun K "is_word" "is_word" sIsWord f fd) (B : Bi mg) (C : Bs mg) (N : Cn mg) : FnOk P w K mg base CX0 1 f fd ["value", "letters"] spIsW := by
  refine F.ok scIsWord (fun vs H Q E h => ?_) (fun cdv A outer s H vs Q E hr h => ?_)
  · obtain ⟨v, ls, rfl, _⟩ := h
    rfl
  · obtain ⟨v, ls, rfl, kn, lv, q⟩ := h
    refine ⟨_, pss_one (ps_ret (pe_and (pe_isStr B.isi (pa_cons (pv 0) (pa_cons (pe_ty "str" C.str) pa_nil))) (pe_and (pe_cmpR op_le (pe_lenS B.len (pa_cons (pv 0) pa_nil)) (C8.pe_gc rfl N.longest) (nomark _))
      (pe_one (pe_all rfl C.all (pa_cons (pe_lc (own := [("letter", 2)]) rfl scIsWord.nd (pi_str (pv 0)) (blkOk_by (N := ["value", "letters", "letter"]) (sc := defScope sIsWord) (by decide +kernel))
          (fun _ _ _ _ _ => pg_name (i := 2) scIsWord.nd rfl (Or.inl rfl)) (fun _ _ _ _ _ => pts_nil) (fun _ _ _ _ _ => pe_cmpR op_in_sign (pv 2) (pv 1) rfl)) pa_nil)))))), ?_⟩
    obtain ⟨t, ty, k1⟩ := kn.isStr K
    refine ⟨_, rfl, _, _, _, _, _, rfl, .ty "str", ty, k1, _, rfl, ?_⟩
    cases v with
    | str x =>
      have lx := lv x rfl
      refine iteT ⟨_, rfl, x, rfl, Nat.le_of_lt (small10 lx), _, _, rfl, rfl, _, rfl, ?_⟩
      by_cases c : x.length ≤ 200
      · rw [decide_eq_true (show (x.length : Int) ≤ 200 by omega)]
        refine iteT ⟨_, rfl, _, rfl, fun D nD => lcS (fun c => .bl (decide (c ∈ ls))) lx nD ?_ ?_⟩
        · intro c H1 Q N hc e q
          exact ⟨rfl, yesT ⟨_, rfl, _, rfl, c, S ls, rfl, rfl, q⟩⟩
        · intro H1 e hD
          refine ⟨D, (x.cps.toList.map fun c => decide (c ∈ ls)), rfl, ?_, ?_⟩
          · rw [List.map_map]
            exact SqL.of hD
          rw [List.all_map]
          have q1 : Q (.bl (decide (x.length ≤ 200) && x.cps.toList.all fun c => decide (c ∈ ls))) H1 := q H1 e
          rw [decide_eq_true c, Bool.true_and] at q1
          exact q1
      · rw [decide_eq_false (show ¬ (x.length : Int) ≤ 200 by omega)]
        refine iteF ?_
        have q1 : Q (.bl (decide (x.length ≤ 200) && x.cps.toList.all fun c => decide (c ∈ ls))) H := q H (Same.refl H)
        rw [decide_eq_false c, Bool.false_and] at q1
        exact q1
    | _ => exact iteF (q H (Same.refl H))
end
end K03
set_option Elab.async false
set_option linter.all false
set_option maxRecDepth 100001
set_option maxHeartbeats 3999999
namespace K03
open PySem L2
/-- how many signs two texts begin with in common -/
def shr : List Nat → List Nat → Nat
  | x :: xs, y :: ys => if x = y then shr xs ys + 1 else 0
  | _, _ => 0
theorem shr_nil {l : List Nat} : shr l [] = 0 := by cases l <;> rfl
theorem shr_step {a b : List Nat} {i x y : Nat} (ha : a[i]? = some x) (hb : b[i]? = some y) : shr (a.drop i) (b.drop i) = if x = y then shr (a.drop (i + 1)) (b.drop (i + 1)) + 1 else 0 := by
  obtain ⟨h1, rfl⟩ := List.getElem?_eq_some_iff.mp ha
  obtain ⟨h2, rfl⟩ := List.getElem?_eq_some_iff.mp hb
  rw [List.drop_eq_getElem_cons h1, List.drop_eq_getElem_cons h2]
  rfl
theorem shr_le : ∀ (a b : List Nat), shr a b ≤ a.length ∧ shr a b ≤ b.length
  | x :: xs, y :: ys => by
    have ih := shr_le xs ys
    unfold shr
    simp only [List.length_cons]
    split <;> omega
  | [], _ => by simp [shr]
  | _ :: _, [] => by simp [shr]
def MonT (t : TT) : Prop := ∀ (σ : St) (H : Hp) (Q Q' : Bool → Hp → Prop), (∀ b H1, Q b H1 → Q' b H1) → t σ H Q → t σ H Q'
theorem mono_and {t u : TT} (ht : MonT t) (hu : MonT u) : MonT (tAnd t u) := fun σ H Q Q' m h => ht σ H _ _ (fun c H1 z => by
  cases c with
  | true =>
    rw [if_pos rfl] at z ⊢
    exact hu _ _ _ _ m z
  | false =>
    rw [if_neg (by decide)] at z ⊢
    exact m _ _ z) h
def spShared : Sp := fun vs H Q _ => ∃ a b, vs = [.str (S a), .str (S b)] ∧ a.length ≤ 10000 ∧ b.length ≤ 10000 ∧ Q (.int (shr a b : Nat)) H
def spPickS : Sp := fun vs H Q _ => ∃ (pn cl : Addr) (ls : List Nat) (b : Nat), vs = [.ref pn, .str (S ls)] ∧ Pen H pn cl b ∧ b ≤ 1000000 ∧ 0 < ls.length ∧ ls.length ≤ 1000 ∧ ∀ c H', c ∈ ls → But pn H H' → Pen H' pn cl (b + 1) → Q (.str (S [c])) H'
section
variable {P : Program} {w : World} {K : PySem.W.Frag} {mg : Str → Option Value} {base : Heap}
theorem ok_pickS {f : Addr} {fd : FuncData} (F : Fun K "_law_pick" "_law_pick" sPick f fd) (B : Bi mg) (cD : Cal CX0 P w K mg base 1 "_law_draw" spDraw) : FnOk P w K mg base CX0 2 f fd ["_law_pen_here", "_law_some"] spPickS := by
  refine F.ok scPick (fun vs H Q E h => ?_) (fun cdv A outer s H vs Q E hr h => ?_)
  · obtain ⟨pn, cl, ls, b, rfl, _⟩ := h
    rfl
  · obtain ⟨pn, cl, ls, b, rfl, pen, hb, l0, l1, q⟩ := h
    have small : (S ls).length ≤ sizeLine := by rw [S_len]; exact Nat.le_of_lt (small10 (by omega))
    refine ⟨_, pss_one (ps_ret (pe_ix ix_str (pv 1) (pe_c cD hr pass0 (pa_cons (pv 0) (pa_cons (pe_lenS B.len (pa_cons (pv 1) pa_nil)) pa_nil))) (fun _ _ => rfl))), ?_⟩
    refine ⟨_, rfl, _, rfl, _, rfl, _, rfl, small, pn, cl, _, b, rfl, pen, hb, by rw [S_len]; omega, by rw [S_len]; omega, fun r H' r0 r1 e pen2 => ?_⟩
    obtain ⟨r, rfl⟩ := Int.eq_ofNat_of_zero_le r0
    rw [S_len] at r1
    have lt : r < ls.length := by omega
    exact ⟨S ls, _, ls[r], rfl, rfl, small, atI_nat (List.getElem?_eq_getElem lt), q _ _ (List.getElem_mem lt) e pen2⟩
end
end K03
set_option Elab.async false
set_option linter.all false
set_option maxRecDepth 100001
set_option maxHeartbeats 3999999
namespace K03
open PySem L2
/-! ### texts compared, joined -/
def txs (ws : List (List Nat)) : List V := ws.map fun w => .str (S w)
def Nch (w : List Nat) : Prop := ∀ c ∈ w, c < 1114112
theorem S_ok {w : List Nat} (h : Nch w) : PyData.strOk (S w) = true := by
  show ((S w).cps.all (· < 0x110000)) = true
  rw [Array.all_eq_true']
  intro c hc
  exact decide_eq_true (h c (by simpa [S] using hc))
theorem flat_S {w : List Nat} (h : Nch w) : Flat (.str (S w)) := S_ok h
theorem flat_strs {ws : List (List Nat)} (h : ∀ w ∈ ws, Nch w) : ∀ v ∈ txs ws, Flat v := fun v hv => by
  obtain ⟨w, m, rfl⟩ := List.mem_map.mp hv
  exact flat_S (h w m)
theorem strs_len (ws : List (List Nat)) : (txs ws).length = ws.length := List.length_map ..
theorem str_inj {a b : List Nat} (h : V.str (S a) = V.str (S b)) : a = b := S_inj (V.str.inj h)
theorem strs_inj : ∀ {as bs : List (List Nat)}, txs as = txs bs → as = bs
  | [], [], _ => rfl
  | [], _ :: _, h => nomatch h
  | _ :: _, [], h => nomatch h
  | a :: as, b :: bs, h => by
    injection h with h1 h2
    rw [str_inj h1, strs_inj h2]
theorem decS {a b : List Nat} : decide (V.str (S a) = V.str (S b)) = decide (a = b) := decide_eq_decide.mpr ⟨str_inj, fun h => h ▸ rfl⟩
theorem eqvAll_strs : ∀ (as bs : List (List Nat)), PyData.eqvAll ((txs as).map dOf) ((txs bs).map dOf) = decide (as = bs)
  | [], [] => by simp [PyData.eqvAll, txs]
  | [], _ :: _ => by simp [PyData.eqvAll, txs]
  | _ :: _, [] => by simp [PyData.eqvAll, txs]
  | a :: as, b :: bs => by
    have ih := eqvAll_strs as bs
    have e : PyData.eqvAll ((txs (a :: as)).map dOf) ((txs (b :: bs)).map dOf) = (PyData.eqv (.str (S a)) (.str (S b)) && PyData.eqvAll ((txs as).map dOf) ((txs bs).map dOf)) := by simp only [txs, List.map_cons, PyData.eqvAll, dOf]
    have e2 : PyData.eqv (.str (S a)) (.str (S b)) = decide (a = b) := by
      have : PyData.eqv (.str (S a)) (.str (S b)) = (S a == S b) := by simp only [PyData.eqv]
      rw [this, Bool.eq_iff_iff, decide_eq_true_iff, beq_iff_eq]
      exact ⟨S_inj, fun h => h ▸ rfl⟩
    rw [e, ih, e2]
    by_cases h1 : a = b
    · by_cases h2 : as = bs
      · simp [h1, h2]
      · simp [h1, h2]
    · simp [h1]
theorem shL_flat {xs : List V} (h : ∀ v ∈ xs, Flat v) : SeqAt.shaped (.list (xs.map dOf)) = true := by
  have h1 := lay_flat h
  have h2 := depth_flat xs
  show (PyData.canLay0 (.list (xs.map dOf)) && decide (PyData.depth (.list (xs.map dOf)) ≤ 64)) = true
  rw [Bool.and_eq_true]
  refine ⟨by simp only [PyData.canLay0]; exact h1, decide_eq_true ?_⟩
  simp only [PyData.depth]
  omega
/-- two lists, or two tuples, of texts -/
def rEqT (K : PySem.W.Frag) (neg : Bool) : R2 := fun x y H Q => ∃ a b us vs, x = .ref a ∧ y = .ref b ∧ ((SqL K H a (txs us) ∧ SqL K H b (txs vs)) ∨ (SqT K H a (txs us) ∧ SqT K H b (txs vs))) ∧ (∀ v ∈ us, Nch v) ∧ (∀ v ∈ vs, Nch v) ∧ Q (.bl (if neg then !decide (us = vs) else decide (us = vs))) H
section
variable {X : Cx}
theorem op_eqT (hu : X.A.units + 64 < cLine) : OpR X (compareOp .Eq) (rEqT X.K false) := by
  intro pins s σ H x y v u Q I rx ry h
  obtain ⟨a, b, us, vs, rfl, rfl, d, nx, ny, q⟩ := h
  rcases d with ⟨d1, d2⟩ | ⟨d1, d2⟩
  · refine op_eqD hu pins s σ H _ _ v u Q I rx ry ⟨_, _, .lst d1 (dpAll_flat (flat_strs nx)), .lst d2 (dpAll_flat (flat_strs ny)), shL_flat (flat_strs nx), shL_flat (flat_strs ny), ?_⟩
    rw [show PyData.eqv (.list ((txs us).map dOf)) (.list ((txs vs).map dOf)) = decide (us = vs) by rw [← eqvAll_strs]; simp only [PyData.eqv]]
    exact q
  · refine op_eqD hu pins s σ H _ _ v u Q I rx ry ⟨_, _, .tup d1 (dpAll_flat (flat_strs nx)), .tup d2 (dpAll_flat (flat_strs ny)), shT_flat (flat_strs nx), shT_flat (flat_strs ny), ?_⟩
    rw [show PyData.eqv (.tuple ((txs us).map dOf)) (.tuple ((txs vs).map dOf)) = decide (us = vs) by rw [← eqvAll_strs]; simp only [PyData.eqv]]
    exact q
theorem op_neT (hu : X.A.units + 64 < cLine) : OpR X (compareOp .NotEq) (rEqT X.K true) := by
  intro pins s σ H x y v u Q I rx ry h
  obtain ⟨a, b, us, vs, rfl, rfl, d, nx, ny, q⟩ := h
  rcases d with ⟨d1, d2⟩ | ⟨d1, d2⟩
  · refine op_neD hu pins s σ H _ _ v u Q I rx ry ⟨_, _, .lst d1 (dpAll_flat (flat_strs nx)), .lst d2 (dpAll_flat (flat_strs ny)), shL_flat (flat_strs nx), shL_flat (flat_strs ny), ?_⟩
    rw [show PyData.eqv (.list ((txs us).map dOf)) (.list ((txs vs).map dOf)) = decide (us = vs) by rw [← eqvAll_strs]; simp only [PyData.eqv]]
    exact q
  · refine op_neD hu pins s σ H _ _ v u Q I rx ry ⟨_, _, .tup d1 (dpAll_flat (flat_strs nx)), .tup d2 (dpAll_flat (flat_strs ny)), shT_flat (flat_strs nx), shT_flat (flat_strs ny), ?_⟩
    rw [show PyData.eqv (.tuple ((txs us).map dOf)) (.tuple ((txs vs).map dOf)) = decide (us = vs) by rw [← eqvAll_strs]; simp only [PyData.eqv]]
    exact q
/-- two values that are the same data -/
def rSmD (K : PySem.W.Frag) : R2 := fun x y H Q => ∃ d, Dp K H x d ∧ Dp K H y d ∧ SeqAt.shaped d = true ∧ Q (.bl false) H
theorem op_neSmD (hu : X.A.units + 64 < cLine) : OpR X (compareOp .NotEq) (rSmD X.K) := by
  intro pins s σ H x y v u Q I rx ry h
  obtain ⟨d, d1, d2, sh, q⟩ := h
  refine op_neD hu pins s σ H _ _ v u Q I rx ry ⟨d, d, d1, d2, sh, sh, ?_⟩
  rw [SeqAt.eqv_refl _ (Bool.and_eq_true_iff.mp sh).1]
  exact q
end
theorem S_app (a b : List Nat) : S a ++ S b = S (a ++ b) := by
  show (⟨a.toArray ++ b.toArray⟩ : Str) = ⟨(a ++ b).toArray⟩
  simp
theorem join_signs : ∀ l : List Nat, Str.join (S []) (l.map fun c => S [c]) = S l
  | [] => rfl
  | [c] => rfl
  | c :: d :: r => by
    have ih := join_signs (d :: r)
    show S [c] ++ S [] ++ Str.join (S []) ((d :: r).map fun c => S [c]) = _
    rw [ih, S_app, S_app]
    rfl
theorem joined (l : List Nat) : Txt.join (S []) (l.map fun c => S [c]) = S l := by
  show Builtin.Str.glued _ _ = _
  rw [StrLaws.glued_eq_join, join_signs]
theorem empty_S : ("" : Str) = S [] := by decide +kernel
/-! ### a dict that is filled key by key -/
def asc (kf : Nat → Key) (vf : Nat → V) (n : Nat) : List (Key × V) := (List.range n).map fun j => (kf j, vf j)
theorem asc_len (kf : Nat → Key) (vf : Nat → V) (n : Nat) : (asc kf vf n).length = n := by simp [asc]
theorem asc_succ (kf : Nat → Key) (vf : Nat → V) (n : Nat) : asc kf vf (n + 1) = asc kf vf n ++ [(kf n, vf n)] := by
  unfold asc
  rw [List.range_succ, List.map_append]
  rfl
theorem asc_none {kf : Nat → Key} {vf : Nat → V} {k : Key} {n : Nat} (h : ∀ j, j < n → kf j ≠ k) : valV (asc kf vf n) k = none := by
  unfold valV
  rw [Option.map_eq_none_iff, List.find?_eq_none]
  intro x hx
  obtain ⟨j, hj, rfl⟩ := List.mem_map.mp hx
  simpa using h j (List.mem_range.mp hj)
theorem asc_at {kf : Nat → Key} {vf : Nat → V} {j : Nat} : ∀ {n : Nat}, j < n → (∀ i l, i < n → l < n → kf i = kf l → i = l) → valV (asc kf vf n) (kf j) = some (vf j)
  | 0, h, _ => absurd h (Nat.not_lt_zero _)
  | n + 1, h, inj => by
    rw [asc_succ, valV_snoc _ _ _ _ (asc_none fun i hi e => by have := inj i n (by omega) (by omega) e; omega)]
    by_cases c : j = n
    · rw [c, if_pos rfl]
    · rw [if_neg fun e => c (inj j n h (by omega) e)]
      exact asc_at (by omega) fun i l h1 h2 => inj i l (by omega) (by omega)
theorem asc_put {kf : Nat → Key} {vf : Nat → V} {n : Nat} (h : ∀ j, j < n → kf j ≠ kf n) : putK (asc kf vf n) (kf n) (vf n) = asc kf vf (n + 1) := by
  rw [putK_new _ (asc_none h), asc_succ]
/-! ### a dictionary -/
def key (ls w : List Nat) : List Nat := w.map fun c => 97 + ls.idxOf c
def plainF (ls : List Nat) (j : Nat) : Key := .inr (S [ls.getD j 0])
def plainK (ls : List Nat) : List (Key × V) := asc (plainF ls) (fun j => .str (S [97 + j])) ls.length
def numF (ws : List (List Nat)) (j : Nat) : Key := .inr (S (ws.getD j []))
def numK (ws : List (List Nat)) : List (Key × V) := asc (numF ws) (fun j => .int (j : Nat)) ws.length
theorem sg_inj {a b : Nat} (h : S [a] = S [b]) : a = b := (List.cons.inj (S_inj h)).1
theorem nd_at {α : Type} {l : List α} {d : α} (nd : l.Nodup) {i j : Nat} (hi : i < l.length) (hj : j < l.length) (e : l.getD i d = l.getD j d) : i = j := by
  rw [List.getD_eq_getElem?_getD, List.getD_eq_getElem?_getD, List.getElem?_eq_getElem hi, List.getElem?_eq_getElem hj] at e
  have p := List.pairwise_iff_getElem.mp nd
  rcases Nat.lt_trichotomy i j with h | h | h
  · exact absurd (Option.some.inj (by simpa using congrArg some e)) (p i j hi hj h)
  · exact h
  · exact absurd (Option.some.inj (by simpa using congrArg some e.symm)) (p j i hj hi h)
theorem plain_inj {ls : List Nat} (nd : ls.Nodup) : ∀ i l, i < ls.length → l < ls.length → plainF ls i = plainF ls l → i = l := fun i l hi hl e => nd_at nd hi hl (sg_inj (Sum.inr.inj e))
theorem num_inj {ws : List (List Nat)} (nd : ws.Nodup) : ∀ i l, i < ws.length → l < ws.length → numF ws i = numF ws l → i = l := fun i l hi hl e => nd_at nd hi hl (S_inj (Sum.inr.inj e))
theorem plain_at {ls : List Nat} (nd : ls.Nodup) {c : Nat} (h : c ∈ ls) : valV (plainK ls) (.inr (S [c])) = some (.str (S [97 + ls.idxOf c])) := by
  have lt := List.idxOf_lt_length_of_mem h
  have e : plainF ls (ls.idxOf c) = .inr (S [c]) := by
    unfold plainF
    rw [List.getD_eq_getElem?_getD, List.getElem?_eq_getElem lt, Option.getD_some, List.getElem_idxOf]
  rw [← e]
  exact asc_at lt (plain_inj nd)
theorem num_at {ws : List (List Nat)} (nd : ws.Nodup) {i : Nat} {w : List Nat} (h : ws[i]? = some w) : valV (numK ws) (.inr (S w)) = some (.int (i : Nat)) := by
  have lt := (List.getElem?_eq_some_iff.mp h).1
  have e : numF ws i = .inr (S w) := by
    unfold numF
    rw [List.getD_eq_getElem?_getD, h, Option.getD_some]
  rw [← e]
  exact asc_at lt (num_inj nd)
theorem num_none {ws : List (List Nat)} {z : Str} (h : z.cps.toList ∉ ws) : valV (numK ws) (.inr z) = none := asc_none fun j hj e => h (by
  have e := S_inj (Sum.inr.inj e)
  rw [List.getD_eq_getElem?_getD, List.getElem?_eq_getElem hj, Option.getD_some] at e
  rw [← e]
  exact List.getElem_mem hj)
def dicF (ls : List Nat) (p t : Addr) (n : Int) (kk nn : Addr) : List (Str × V) := putF "_numbers" (.ref nn) (putF "_keys" (.ref kk) (putF "many" (.int n) (putF "words" (.ref t) (putF "_plain" (.ref p) (putF "letters" (.str (S ls)) [])))))
section
variable (ls : List Nat) (p t : Addr) (n : Int) (kk nn : Addr)
theorem df_numbers : (dicF ls p t n kk nn).lookup ("_numbers" : Str) = some (.ref nn) := by
  unfold dicF
  rw [lookup_putF, if_pos rfl]
theorem df_keys : (dicF ls p t n kk nn).lookup ("_keys" : Str) = some (.ref kk) := by
  unfold dicF
  rw [lookup_putF, if_neg (by decide +kernel), lookup_putF, if_pos rfl]
theorem df_many : (dicF ls p t n kk nn).lookup ("many" : Str) = some (.int n) := by
  unfold dicF
  rw [lookup_putF, if_neg (by decide +kernel), lookup_putF, if_neg (by decide +kernel), lookup_putF, if_pos rfl]
theorem df_words : (dicF ls p t n kk nn).lookup ("words" : Str) = some (.ref t) := by
  unfold dicF
  rw [lookup_putF, if_neg (by decide +kernel), lookup_putF, if_neg (by decide +kernel), lookup_putF, if_neg (by decide +kernel), lookup_putF, if_pos rfl]
theorem df_plain : (dicF ls p t n kk nn).lookup ("_plain" : Str) = some (.ref p) := by
  unfold dicF
  rw [lookup_putF, if_neg (by decide +kernel), lookup_putF, if_neg (by decide +kernel), lookup_putF, if_neg (by decide +kernel), lookup_putF, if_neg (by decide +kernel), lookup_putF, if_pos rfl]
theorem df_letters : (dicF ls p t n kk nn).lookup ("letters" : Str) = some (.str (S ls)) := by
  unfold dicF
  rw [lookup_putF, if_neg (by decide +kernel), lookup_putF, if_neg (by decide +kernel), lookup_putF, if_neg (by decide +kernel), lookup_putF, if_neg (by decide +kernel), lookup_putF, if_neg (by decide +kernel), lookup_putF, if_pos rfl]
end
/-- what the class is known by -/
structure Txd (K : PySem.W.Frag) (C : Addr) : Prop where
  cl : Cls K C
  nL : NoAttr K C "letters"
  nP : NoAttr K C "_plain"
  nW : NoAttr K C "words"
  nM : NoAttr K C "many"
  nK : NoAttr K C "_keys"
  nN : NoAttr K C "_numbers"
/-- at p: the dictionary of these letters and these words -/
def IsD (C : Addr) (H : Hp) (p : Addr) (ls : List Nat) (ws : List (List Nat)) : Prop := ∃ (dx pl t kk nn : Addr), H p = some (.ins C dx (dicF ls pl t (ws.length : Nat) kk nn)) ∧ H pl = some (.dK (plainK ls)) ∧ H t = some (.tup (txs ws)) ∧ H kk = some (.lst (txs (ws.map (key ls)))) ∧ H nn = some (.dK (numK ws))
theorem IsD.same {C : Addr} {H H' : Hp} {p : Addr} {ls : List Nat} {ws : List (List Nat)} (h : IsD C H p ls ws) (e : Same H H') : IsD C H' p ls ws :=
  let ⟨dx, pl, t, kk, nn, h1, h2, h3, h4, h5⟩ := h
  ⟨dx, pl, t, kk, nn, e _ _ h1, e _ _ h2, e _ _ h3, e _ _ h4, e _ _ h5⟩
/-- letters and words as a dictionary has them -/
structure OkD (ls : List Nat) (ws : List (List Nat)) : Prop where
  L : Lets ls
  many : ws.length ≤ 2000
  word : ∀ w ∈ ws, w.length ≤ 200 ∧ ∀ c ∈ w, c ∈ ls
  up : ws.Pairwise fun a b => key ls a < key ls b
theorem Lets.nch {ls : List Nat} (L : Lets ls) {w : List Nat} (h : ∀ c ∈ w, c ∈ ls) : Nch w := fun c hc => by
  obtain ⟨i, hi, rfl⟩ := List.mem_map.mp (L.abc c (h c hc))
  have := List.mem_range.mp hi
  omega
theorem OkD.nch {ls : List Nat} {ws : List (List Nat)} (O : OkD ls ws) : ∀ w ∈ ws, Nch w := fun w hw => O.L.nch (O.word w hw).2
theorem OkD.nd {ls : List Nat} {ws : List (List Nat)} (O : OkD ls ws) : ws.Nodup := O.up.imp fun h e => by
  rw [e] at h
  exact List.lt_irrefl _ h
end K03
set_option Elab.async false
set_option linter.all false
set_option maxRecDepth 100001
set_option maxHeartbeats 3999999
namespace K03
open PySem L2
abbrev sD (j : Nat) : Stmt := inClass (topS 30) j
abbrev sInit : Stmt := sD 0
abbrev sEq : Stmt := sD 1
abbrev sKeyOf : Stmt := sD 2
abbrev sAhead : Stmt := sD 3
abbrev sHasW : Stmt := sD 4
abbrev sNumOf : Stmt := sD 5
abbrev sPlace : Stmt := sD 7
/-- an own exception class of the module -/
structure Xc (P : Program) (w : World) (K : PySem.W.Frag) (mg : Str → Option Value) (base : Heap) (k : Nat) (x : Str) (C : Addr) (sp : Sp) : Prop where
  T : OexC K C
  mgC : mg x = some (.ref C)
  ex : ∃ (f : Addr) (fd : FuncData) (ps : List Str), PySem.W.findIn K (.ref C) "__init__" = some (some (.ref f)) ∧ PySem.W.typeIn K (.ref f) = some (.type "function") ∧ FnOk P w K mg base CX0 k f fd ps sp ∧ Binds K fd ps []
section
variable {X : Cx} {k j : Nat} {x : Str} {C : Addr} {sp : Sp} {e : Expr} {es : List Expr} {t : TA} {p pos : Pos}
theorem pmk_x (c : Xc X.prog X.w X.K X.mg X.base k x C sp) (hr : Room j X.A) (ha : PA X (e :: es) t) (hk : k + 1 ≤ j := by decide) (hg : Gl X x := by rfl) (hdb : (x == ("__debug__" : Str)) = false := by decide)
    (he : starEach (e :: es) X.env = (false, eval e X.env) :: starEach es X.env := by rfl) (hpl : (backTo pos (starEach es X.env)).any (·.1) = false := by rfl) : PMk X (.Call (.Name x p) (e :: es) [] pos) (tMkO C sp [] t) := by
  obtain ⟨f, fd, ps, i1, i2, F, b⟩ := c.ex
  exact pmk_oex c.T i1 i2 F (hr.mono hk) b .nil pass0 hg c.mgC ha hdb he hpl
end
/-! ### the key of a word -/
/-- the letters of an instance, put into the letters a, b, c, .. -/
def PlainAt (C : Addr) (H : Hp) (p : Addr) (ls : List Nat) : Prop := ∃ (dx pl : Addr) (fs : List (Str × V)), H p = some (.ins C dx fs) ∧ fs.lookup ("_plain" : Str) = some (.ref pl) ∧ H pl = some (.dK (plainK ls))
theorem IsD.plain {C : Addr} {H : Hp} {p : Addr} {ls : List Nat} {ws : List (List Nat)} (h : IsD C H p ls ws) : PlainAt C H p ls :=
  let ⟨dx, pl, t, kk, nn, h1, h2, _⟩ := h
  ⟨dx, pl, _, h1, df_plain _ _ _ _ _ _, h2⟩
def spKeyOf (C : Addr) : Sp := fun vs H Q _ => ∃ p ls w, vs = [.ref p, .str (S w)] ∧ PlainAt C H p ls ∧ ls.Nodup ∧ (∀ c ∈ w, c ∈ ls) ∧ w.length ≤ 1000 ∧ ∀ H', Same H H' → Q (.str (S (key ls w))) H'
section
variable {P : Program} {w : World} {K : PySem.W.Frag} {mg : Str → Option Value} {base : Heap}
theorem scKeyOf : FnScope ["self", "word", "letter"] ["self", "word"] (defScope sKeyOf) := ⟨rfl, rfl, rfl, by decide +kernel, rfl, by decide +kernel, by decide +kernel⟩
theorem ok_keyOf {f C : Addr} {fd : FuncData} (F : Fun K "_key_of" "Dictionary._key_of" sKeyOf f fd) (T : Txd K C) : FnOk P w K mg base CX0 1 f fd ["self", "word"] (spKeyOf C) := by
  refine F.ok scKeyOf (fun vs H Q E h => ?_) (fun cdv A outer s H vs Q E hr h => ?_)
  · obtain ⟨p, ls, w, rfl, _⟩ := h
    rfl
  · obtain ⟨p, ls, w, rfl, ⟨dx, pl, fs, h1, h2, h3⟩, nd, hw, lw, q⟩ := h
    refine ⟨_, pss_one (ps_ret (pe_join pe_str (pe_lc (own := [("letter", 2)]) rfl scKeyOf.nd (pi_str (pv 1)) (blkOk_by (N := ["self", "word", "letter"]) (sc := defScope sKeyOf) (by decide +kernel))
          (fun _ _ _ _ _ => pg_name (i := 2) scKeyOf.nd rfl (Or.inl rfl)) (fun _ _ _ _ _ => pts_nil) (fun _ _ _ _ _ => pe_dget (hu_of hr) (pe_fldK (K := K) rfl (pv 0) rfl) (pv 2) (fun _ _ => rfl))))), ?_⟩
    refine ⟨⟨_, rfl⟩, _, rfl, _, rfl, fun D nD => lcS (fun c => .str (S [97 + ls.idxOf c])) (by rw [S_size]; omega) nD ?_ ?_⟩
    · intro c H1 Q1 N hc e q1
      exact ⟨rfl, yesT ⟨_, rfl, p, C, dx, fs, _, rfl, e _ _ h1, T.cl, T.nP, h2, _, rfl, pl, _, rfl, by
        have := DGet.k (k := Sum.inr (S [c])) (e _ _ h3)
        rw [plain_at nd (hw c hc)] at this
        exact this, q1⟩⟩
    · intro H1 e hD
      refine ⟨_, D, (key ls w).map fun c => S [c], rfl, rfl, .inl ?_, ?_, ?_⟩
      · have e3 : (w.map fun c => V.str (S [97 + ls.idxOf c])) = ((key ls w).map fun c => S [c]).map V.str := by
          unfold key
          rw [List.map_map, List.map_map]
          rfl
        rw [← e3]
        exact SqL.of hD
      · have : ∀ l : List Nat, ((l.map fun c => S [c]).map (·.length)).sum = l.length := fun l => by
          induction l with
          | nil => rfl
          | cons c l ih =>
            simp only [List.map_cons, List.sum_cons, ih, S_len, List.length_cons, List.length_nil]
            omega
        rw [this, List.length_map]
        have : (key ls w).length = w.length := List.length_map ..
        rw [this]
        show w.length + w.length * ("" : Str).length ≤ _
        rw [empty_S, S_len]
        simp only [List.length_nil]
        omega
      · show Q (.str (Txt.join "" _)) H1
        rw [empty_S, joined]
        exact q H1 e
end
end K03
set_option Elab.async false
set_option linter.all false
set_option maxRecDepth 100001
set_option maxHeartbeats 3999999
namespace K03
open PySem L2
/-- how many words have a key ahead of this one -/
def ahead (ls : List Nat) (ws : List (List Nat)) (k : List Nat) : Nat := ws.countP fun w => decide (key ls w < k)
theorem countP_cut {α : Type} (p : α → Bool) : ∀ (l : List α) (n : Nat), n ≤ l.length → (∀ i x, i < n → l[i]? = some x → p x = true) → (∀ i x, n ≤ i → l[i]? = some x → p x = false) → l.countP p = n
  | [], n, h, _, _ => by simp at h; simp [h]
  | x :: xs, 0, _, _, h2 => by
    have ih := countP_cut p xs 0 (Nat.zero_le _) (fun i x h => absurd h (Nat.not_lt_zero _)) fun i y _ e => h2 (i + 1) y (Nat.zero_le _) (by simpa using e)
    rw [List.countP_cons_of_neg (by rw [h2 0 x (Nat.le_refl _) rfl]; decide), ih]
  | x :: xs, n + 1, h, h1, h2 => by
    have ih := countP_cut p xs n (by simp at h; omega) (fun i y l e => h1 (i + 1) y (by omega) (by simpa using e)) fun i y l e => h2 (i + 1) y (by omega) (by simpa using e)
    rw [List.countP_cons_of_pos (h1 0 x (by omega) rfl), ih]
theorem up_at {ls : List Nat} {ws : List (List Nat)} (up : ws.Pairwise fun a b => key ls a < key ls b) {i j : Nat} {a b : List Nat} (h : i < j) (ha : ws[i]? = some a) (hb : ws[j]? = some b) : key ls a < key ls b := by
  obtain ⟨hi, rfl⟩ := List.getElem?_eq_some_iff.mp ha
  obtain ⟨hj, rfl⟩ := List.getElem?_eq_some_iff.mp hb
  exact List.pairwise_iff_getElem.mp up i j hi hj h
def spAhead (C : Addr) : Sp := fun vs H Q _ => ∃ p ls ws k, vs = [.ref p, .str (S k)] ∧ IsD C H p ls ws ∧ (ws.Pairwise fun a b => key ls a < key ls b) ∧ ws.length ≤ 2000 ∧ Q (.int (ahead ls ws k : Nat)) H
section
variable {P : Program} {w : World} {K : PySem.W.Frag} {mg : Str → Option Value} {base : Heap}
theorem scAhead : FnScope ["self", "key", "low", "high", "middle"] ["self", "key"] (defScope sAhead) := ⟨rfl, rfl, rfl, by decide +kernel, rfl, by decide +kernel, by decide +kernel⟩
theorem ok_ahead {f C : Addr} {fd : FuncData} (F : Fun K "_keys_ahead" "Dictionary._keys_ahead" sAhead f fd) (T : Txd K C) : FnOk P w K mg base CX0 1 f fd ["self", "key"] (spAhead C) := by
  refine F.ok scAhead (fun vs H Q E h => ?_) (fun cdv A outer s H vs Q E hr h => ?_)
  · obtain ⟨p, ls, ws, k, rfl, _⟩ := h
    rfl
  · obtain ⟨p, ls, ws, k, rfl, ⟨dx, pl, t, kk, nn, h1, h2, h3, h4, h5⟩, up, lw, q⟩ := h
    refine ⟨_, pss_cons (ps_par (i := 2) (j := 3) rfl scAhead.nd rfl rfl (by decide) rfl rfl (pa_cons pe_int (pa_cons (pe_fld (pv 0) rfl) pa_nil)) rfl)
      (pss_cons (ps_while PassesOwn.never (pt_cmpR op_lt (pv 2) (pv 3) (nomark _))
        (pss_cons (ps_set (i := 4) scAhead.nd rfl (Or.inl rfl) (pe_op op_fdiv (pe_op op_add (pv 2) (pv 3)) pe_int))
        (pss_one (ps_if (pt_cmpR op_lt_str (pe_ix ix_list (pe_fld (pv 0) rfl) (pv 4) (fun _ _ => rfl)) (pv 1) (nomark _))
          (pss_one (ps_set (i := 2) scAhead.nd rfl (Or.inl rfl) (pe_op op_add (pv 4) pe_int))) (pss_one (ps_set (i := 3) scAhead.nd rfl (Or.inl rfl) (pv 4)))))))
      (pss_one (ps_ret (pv 2)))), ?_⟩
    refine ⟨_, rfl, p, C, dx, _, _, rfl, h1, T.cl, T.nM, df_many _ _ _ _ _ _, _, _, rfl, ?_⟩
    refine while_by (fun σ H' => ∃ (lo hi : Nat) (a : Option V), σ = [some (.ref p), some (.str (S k)), some (.int (lo : Nat)), some (.int (hi : Nat)), a] ∧ H' = H ∧ lo ≤ hi ∧ hi ≤ ws.length ∧ (∀ i w, i < lo → ws[i]? = some w → key ls w < k) ∧ (∀ i w, hi ≤ i → ws[i]? = some w → ¬ key ls w < k))
      (fun σ _ => match σ with | [_, _, some (.int lo), some (.int hi), _] => (hi - lo).toNat | _ => 0) ⟨0, ws.length, none, rfl, rfl, Nat.zero_le _, Nat.le_refl _, fun i w h => absurd h (Nat.not_lt_zero _), fun i w h e => absurd (List.getElem?_eq_some_iff.mp e).1 (by omega)⟩ ?_ ?_
    · rintro σ H1 ⟨lo, hi, a, rfl, rfl, g1, g2, g3, g4⟩
      refine ⟨_, rfl, _, rfl, _, _, rfl, rfl, _, rfl, ?_⟩
      by_cases c : lo < hi
      · rw [decide_eq_true (show (lo : Int) < (hi : Nat) by omega)]
        refine iteT ?_
        refine ⟨_, rfl, _, rfl, _, _, rfl, rfl, _, _, rfl, rfl, ⟨by decide, by decide⟩, ?_⟩
        obtain ⟨mid, em⟩ := Int.eq_ofNat_of_zero_le (show (0 : Int) ≤ (((lo : Nat) : Int) + ((hi : Nat) : Int)) / 2 by omega)
        have m1 : lo ≤ mid := by omega
        have m2 : mid < hi := by omega
        rw [show (fun i j : Int => V.int (i / j)) (((lo : Nat) : Int) + ((hi : Nat) : Int)) 2 = V.int (mid : Nat) from congrArg V.int em]
        have lt : mid < ws.length := by omega
        have ew := List.getElem?_eq_getElem lt
        have ek : (txs (ws.map (key ls)))[mid]? = some (.str (S (key ls ws[mid]))) := by
          unfold txs
          rw [List.getElem?_map, List.getElem?_map, ew]
          rfl
        refine ⟨_, rfl, p, C, dx, _, _, rfl, h1, T.cl, T.nK, df_keys _ _ _ _ _ _, _, rfl, kk, _, _, _, rfl, rfl, SqL.of h4, atI_nat ek, _, rfl, _, _, rfl, rfl, _, rfl, ?_⟩
        by_cases d : key ls ws[mid] < k
        · rw [decide_eq_true (show (S (key ls ws[mid])).cps.toList < (S k).cps.toList from d)]
          refine iteT ⟨_, rfl, _, _, rfl, rfl, ⟨mid + 1, hi, _, rfl, rfl, m2, g2, fun i w hi' hw => ?_, g4⟩, ?_⟩
          · by_cases e : i = mid
            · subst e
              rw [ew] at hw
              cases hw
              exact d
            · exact List.lt_trans (up_at up (by omega) hw ew) d
          · show (((hi : Nat) : Int) - (((mid : Nat) : Int) + 1)).toNat < (((hi : Nat) : Int) - ((lo : Nat) : Int)).toNat
            omega
        · rw [decide_eq_false (show ¬ (S (key ls ws[mid])).cps.toList < (S k).cps.toList from d)]
          refine iteF ⟨_, rfl, ⟨lo, mid, _, rfl, rfl, m1, by omega, g3, fun i w hi' hw z => ?_⟩, ?_⟩
          · by_cases e : i = mid
            · subst e
              rw [ew] at hw
              cases hw
              exact d z
            · exact d (List.lt_trans (up_at up (by omega) ew hw) z)
          · show (((mid : Nat) : Int) - ((lo : Nat) : Int)).toNat < (((hi : Nat) : Int) - ((lo : Nat) : Int)).toNat
            omega
      · rw [decide_eq_false (show ¬ (lo : Int) < (hi : Nat) by omega)]
        refine iteF ⟨_, rfl, ?_⟩
        have e : ahead ls ws k = lo := countP_cut _ ws lo (by omega) (fun i w hi' hw => decide_eq_true (g3 i w hi' hw)) fun i w hi' hw => decide_eq_false (g4 i w (by omega) hw)
        rw [← e]
        exact q
    · exact fun σ H Q Q' m ⟨v, h1, u, h2, i, j, e1, e2, b, e5, x⟩ => ⟨v, h1, u, h2, i, j, e1, e2, b, e5, m _ _ x⟩
end
end K03
set_option Elab.async false
set_option linter.all false
set_option maxRecDepth 100001
set_option maxHeartbeats 3999999
namespace K03
open PySem L2
theorem df_no {ls : List Nat} {p t : Addr} {n : Int} {kk nn : Addr} {x : Str} (h : x ∉ (["_numbers", "_keys", "many", "words", "_plain", "letters"] : List Str) := by decide +kernel) : (dicF ls p t n kk nn).lookup x = none := by
  simp only [List.mem_cons, List.not_mem_nil, not_or] at h
  obtain ⟨h1, h2, h3, h4, h5, h6, _⟩ := h
  unfold dicF
  rw [lookup_putF, if_neg h1, lookup_putF, if_neg h2, lookup_putF, if_neg h3, lookup_putF, if_neg h4, lookup_putF, if_neg h5, lookup_putF, if_neg h6]
  rfl
def hasW (ws : List (List Nat)) : V → Bool
  | .str z => decide (z.cps.toList ∈ ws)
  | _ => false
def spHas (C : Addr) : Sp := fun vs H Q _ => ∃ p v ls ws, vs = [.ref p, v] ∧ IsD C H p ls ws ∧ ws.Nodup ∧ Kn H v ∧ Q (.bl (hasW ws v)) H
def spNumOf (C CN : Addr) : Sp := fun vs H Q E => ∃ p v ls ws, vs = [.ref p, v] ∧ IsD C H p ls ws ∧ ws.Nodup ∧ ((∃ i w, v = .str (S w) ∧ ws[i]? = some w ∧ Q (.int (i : Nat)) H) ∨ (∃ d, hasW ws v = false ∧ Odd H v d ∧ ∀ dd H', RsO H H' dd "word" d → E (.ref CN) (some dd) H'))
def spWordOf (C CN : Addr) : Sp := fun vs H Q E => ∃ p v ls ws, vs = [.ref p, v] ∧ IsD C H p ls ws ∧ ((∃ (i : Nat) (w : List Nat), v = .int (i : Nat) ∧ ws[i]? = some w ∧ Q (.str (S w)) H) ∨ (∃ d, btw v 0 ((ws.length : Nat) - 1) = false ∧ Odd H v d ∧ ∀ dd H', RsO H H' dd "number" d → E (.ref CN) (some dd) H'))
def spPlace (C CN : Addr) : Sp := fun vs H Q E => ∃ p v ls ws, vs = [.ref p, v] ∧ IsD C H p ls ws ∧ OkD ls ws ∧ ((∃ w, v = .str (S w) ∧ w.length ≤ 200 ∧ (∀ c ∈ w, c ∈ ls) ∧ ∀ H', Same H H' → Q (.int (ahead ls ws (key ls w) : Nat)) H') ∨ (∃ d, isW ls v = false ∧ (∀ x, v = .str x → x.length ≤ 10000) ∧ Odd H v d ∧ ∀ dd H', RsO H H' dd "word" d → E (.ref CN) (some dd) H'))
theorem RsO.back {H H1 H' : Hp} {d : Addr} {f : Str} {dd : PyData} (e : Same H H1) (r : RsO H1 H' d f dd) : RsO H H' d f dd := by
  refine ⟨?_, e.trans r.same, r.at_⟩
  cases z : H d with
  | none => rfl
  | some o =>
    have := e _ _ z
    rw [r.new] at this
    cases this
section
variable {P : Program} {w : World} {K : PySem.W.Frag} {mg : Str → Option Value} {base : Heap}
theorem scHasW : FnScope ["self", "word"] ["self", "word"] (defScope sHasW) := ⟨rfl, rfl, rfl, by decide +kernel, rfl, by decide +kernel, by decide +kernel⟩
theorem ok_hasW {f C : Addr} {fd : FuncData} (F : Fun K "has_word" "Dictionary.has_word" sHasW f fd) (B : Bi mg) (C' : Bs mg) (T : Txd K C) : FnOk P w K mg base CX0 1 f fd ["self", "word"] (spHas C) := by
  refine F.ok scHasW (fun vs H Q E h => ?_) (fun cdv A outer s H vs Q E hr h => ?_)
  · obtain ⟨p, v, ls, ws, rfl, _⟩ := h
    rfl
  · obtain ⟨p, v, ls, ws, rfl, ⟨dx, pl, t, kk, nn, h1, h2, h3, h4, h5⟩, nd, kn, q⟩ := h
    refine ⟨_, pss_one (ps_ret (pe_and (pe_isStr B.isi (pa_cons (pv 1) (pa_cons (pe_ty "str" C'.str) pa_nil))) (pe_one (pe_cmp (pc_din (hu_of hr) (pv 1) (pe_fld (pv 0) rfl)))))), ?_⟩
    obtain ⟨t', ty, k1⟩ := kn.isStr K
    refine ⟨_, rfl, _, _, _, _, _, rfl, .ty "str", ty, k1, _, rfl, ?_⟩
    cases v with
    | str z =>
      refine iteT ⟨_, rfl, _, rfl, p, C, dx, _, _, rfl, h1, T.cl, T.nN, df_numbers _ _ _ _ _ _, nn, _, rfl, DGet.k (k := Sum.inr z) h5, ?_⟩
      have e : (valV (numK ws) (Sum.inr z)).isSome = decide (z.cps.toList ∈ ws) := by
        by_cases c : z.cps.toList ∈ ws
        · obtain ⟨i, hi, e⟩ := List.getElem_of_mem c
          have e3 : z = S ws[i] := by rw [e]; rfl
          rw [decide_eq_true c, e3, num_at nd (List.getElem?_eq_getElem hi)]
          rfl
        · rw [decide_eq_false c, num_none c]
          rfl
      rw [e]
      exact q
    | _ => exact iteF q
theorem scNumOf : FnScope ["self", "word"] ["self", "word"] (defScope sNumOf) := ⟨rfl, rfl, rfl, by decide +kernel, rfl, by decide +kernel, by decide +kernel⟩
theorem ok_numOf {f C CN : Addr} {fd : FuncData} (F : Fun K "number_of" "Dictionary.number_of" sNumOf f fd) (T : Txd K C) (mH : Met CX0 P w K mg base 1 C "has_word" (spHas C))
    (xN : Xc P w K mg base 3 "NoWord" CN (spXO K "word")) (nN : PySem.W.findIn K (.ref CN) "word" = some none) : FnOk P w K mg base (L2.CX P w) 5 f fd ["self", "word"] (spNumOf C CN) := by
  refine F.okX scNumOf (fun vs H Q E h => ?_) (fun cdv A outer s H vs Q E hr h => ?_)
  · obtain ⟨p, v, ls, ws, rfl, _⟩ := h
    rfl
  · obtain ⟨p, v, ls, ws, rfl, D, nd, h⟩ := h
    obtain ⟨dx, pl, t, kk, nn, h1, h2, h3, h4, h5⟩ := id D
    refine ⟨_, pss_cons (ps_if (pt_not (pt_val (pe_mt mH hr pass0 (pv 0) (pa_cons (pv 1) pa_nil)))) (pss_one (ps_raise rfl (takes_of rfl rfl rfl rfl) (pmk_x xN hr (pa_cons (pv 1) pa_nil)))) pss_nil)
      (pss_one (ps_ret (pe_dget (hu_of hr) (pe_fld (pv 0) rfl) (pv 1) (fun _ _ => rfl)))), ?_⟩
    rcases h with ⟨i, w, rfl, hw, q⟩ | ⟨d, hn, od, q⟩
    · refine ⟨_, rfl, p, dx, _, rfl, h1, df_no, _, rfl, p, _, ls, ws, rfl, D, nd, .str _, _, rfl, ?_⟩
      rw [show hasW ws (.str (S w)) = true from decide_eq_true (List.mem_of_getElem? hw)]
      exact iteF ⟨_, rfl, p, C, dx, _, _, rfl, h1, T.cl, T.nN, df_numbers _ _ _ _ _ _, _, rfl, nn, _, rfl, by
        have := DGet.k (k := Sum.inr (S w)) h5
        rw [num_at nd hw] at this
        exact this, q⟩
    · refine ⟨_, rfl, p, dx, _, rfl, h1, df_no, _, rfl, p, v, ls, ws, rfl, D, nd, od.kn, _, rfl, ?_⟩
      rw [hn]
      exact iteT ⟨v, rfl, raiseO xN.T nN od q⟩
theorem scPlace : FnScope ["self", "word"] ["self", "word"] (defScope sPlace) := ⟨rfl, rfl, rfl, by decide +kernel, rfl, by decide +kernel, by decide +kernel⟩
theorem ok_place {f C CN : Addr} {fd : FuncData} (F : Fun K "place_for" "Dictionary.place_for" sPlace f fd) (T : Txd K C) (cW : Cal CX0 P w K mg base 1 "is_word" spIsW) (mK : Met CX0 P w K mg base 1 C "_key_of" (spKeyOf C)) (mA : Met CX0 P w K mg base 1 C "_keys_ahead" (spAhead C))
    (xN : Xc P w K mg base 3 "NotWord" CN (spXO K "word")) (nN : PySem.W.findIn K (.ref CN) "word" = some none) : FnOk P w K mg base (L2.CX P w) 5 f fd ["self", "word"] (spPlace C CN) := by
  refine F.okX scPlace (fun vs H Q E h => ?_) (fun cdv A outer s H vs Q E hr h => ?_)
  · obtain ⟨p, v, ls, ws, rfl, _⟩ := h
    rfl
  · obtain ⟨p, v, ls, ws, rfl, D, O, h⟩ := h
    refine ⟨_, pss_cons (ps_if (pt_not (pt_val (pe_c cW hr pass0 (pa_cons (pv 1) (pa_cons (pe_fld (pv 0) rfl) pa_nil))))) (pss_one (ps_raise rfl (takes_of rfl rfl rfl rfl) (pmk_x xN hr (pa_cons (pv 1) pa_nil)))) pss_nil)
      (pss_one (ps_ret (pe_mt mA hr pass0 (pv 0) (pa_cons (pe_mt mK hr pass0 (pv 0) (pa_cons (pv 1) pa_nil)) pa_nil)))), ?_⟩
    have kv : Kn H v := by
      rcases h with ⟨w, rfl, _⟩ | ⟨d, _, _, od, _⟩
      · exact .str _
      · exact od.kn
    have lv : ∀ x, v = .str x → x.length ≤ 10000 := by
      rcases h with ⟨w, rfl, lw, _⟩ | ⟨d, _, lv, _⟩
      · intro x e
        cases e
        rw [S_len]
        omega
      · exact lv
    obtain ⟨dx, pl, t, kk, nn, h1, h2, h3, h4, h5⟩ := id D
    refine ⟨v, rfl, _, rfl, p, C, dx, _, _, rfl, h1, T.cl, T.nL, df_letters _ _ _ _ _ _, v, ls, rfl, kv, lv, fun H1 e1 => ⟨_, rfl, ?_⟩⟩
    rcases h with ⟨w, rfl, lw, hw, q⟩ | ⟨d, hn, lv, od, q⟩
    · rw [show isW ls (.str (S w)) = true by
        show (decide ((S w).length ≤ 200) && (S w).cps.toList.all fun c => decide (c ∈ ls)) = true
        rw [S_len, decide_eq_true lw, Bool.true_and]
        exact List.all_eq_true.mpr fun c hc => decide_eq_true (hw c hc)]
      exact iteF ⟨_, rfl, p, dx, _, rfl, e1 _ _ h1, df_no, _, rfl, p, dx, _, rfl, e1 _ _ h1, df_no, _, rfl, p, ls, w, rfl, (D.same e1).plain, O.L.nd, hw, by omega, fun H2 e2 => ⟨p, ls, ws, key ls w, rfl, D.same (e1.trans e2), O.up, O.many, q H2 (e1.trans e2)⟩⟩
    · rw [hn]
      exact iteT ⟨v, rfl, raiseO xN.T nN (od.same e1) fun dd H' r => q dd H' (r.back e1)⟩
end
end K03
set_option Elab.async false
set_option linter.all false
set_option maxRecDepth 100001
set_option maxHeartbeats 3999999
namespace K03
open PySem L2
def spRange (C CN : Addr) : Sp := fun vs H Q E => ∃ p v ls ws, vs = [.ref p, v] ∧ IsD C H p ls ws ∧ OkD ls ws ∧ ((∃ w, v = .str (S w) ∧ w.length ≤ 200 ∧ (∀ c ∈ w, c ∈ ls) ∧
    (ahead ls ws (key ls w) = ahead ls ws (key ls w ++ [126]) → ∀ H', Same H H' → Q .non H') ∧
    (ahead ls ws (key ls w) ≠ ahead ls ws (key ls w ++ [126]) → ∀ t H', Same H H' → H' t = some (.tup [.int (ahead ls ws (key ls w) : Nat), .int ((ahead ls ws (key ls w ++ [126]) : Nat) - 1)]) → Q (.ref t) H')) ∨
  (∃ d, isW ls v = false ∧ (∀ x, v = .str x → x.length ≤ 10000) ∧ Odd H v d ∧ ∀ dd H', RsO H H' dd "word" d → E (.ref CN) (some dd) H'))
/-- the least beginning that only this word has -/
def headAt (ws : List (List Nat)) (i : Nat) : Option (List Nat) :=
  let w := ws.getD i []
  let s1 := if 0 < i then shr w (ws.getD (i - 1) []) + 1 else 0
  let s2 := if i + 1 < ws.length then max s1 (shr w (ws.getD (i + 1) []) + 1) else s1
  if w.length < s2 then none else some (w.take s2)
def optS : Option (List Nat) → V
  | none => .non
  | some l => .str (S l)
def spLeast (C CN : Addr) : Sp := fun vs H Q E => ∃ p v ls ws, vs = [.ref p, v] ∧ IsD C H p ls ws ∧ OkD ls ws ∧ ((∃ (i : Nat) (w : List Nat), v = .int (i : Nat) ∧ ws[i]? = some w ∧ Q (optS (headAt ws i)) H) ∨ (∃ d, btw v 0 ((ws.length : Nat) - 1) = false ∧ Odd H v d ∧ ∀ dd H', RsO H H' dd "number" d → E (.ref CN) (some dd) H'))
theorem cut_S {w : List Nat} {k : Nat} (h : k ≤ w.length) : cutS (S w) none (some (k : Int)) = S (w.take k) := by
  unfold cutS
  rw [S_len, HT.sIx_nat, HT.sIx_none, S_list, List.drop_zero, Nat.sub_zero, Nat.min_eq_left h]
  rfl
theorem max_cast (a b : Nat) : (if ((b : Nat) : Int) > ((a : Nat) : Int) then ((b : Nat) : Int) else ((a : Nat) : Int)) = ((max a b : Nat) : Int) := by
  split <;> omega
section
variable {X : Cx}
theorem pe_max {a : Expr} {es : List Expr} {t : TA} {p pos : Pos} (hc : X.calm = true) (hm : X.mg "max" = none) (ha : PA X (a :: es) t) (hg : Gl X "max" := by rfl) (he : starEach (a :: es) X.env = (false, eval a X.env) :: starEach es X.env := by rfl)
    (hpl : (backTo pos (starEach es X.env)).any (·.1) = false := by rfl) :
    PE X (.Call (.Name "max" p) (a :: es) [] pos) (tCB (fun xs H Q => ∃ i j, xs = [.int i, .int j] ∧ Q (.int (if j > i then j else i)) H) t) := pe_callB (call_max2 hc) hg hm (by decide +kernel) ha (he := he) (hpl := hpl)
end
section
variable {P : Program} {w : World} {K : PySem.W.Frag} {mg : Str → Option Value} {base : Heap}
end
end K03
set_option Elab.async false
set_option linter.all false
set_option maxRecDepth 100001
set_option maxHeartbeats 3999999
namespace K03
open PySem L2
section
variable {X : Cx} {tg e : Expr}
/-- enumerate of a list or a tuple -/
def iEnS (K : PySem.W.Frag) (ta : TA) : TI := fun σ H R => ta σ H fun vs H1 => ∃ a xs, vs = [.ref a] ∧ Sq K H1 a xs ∧ ∀ (J : It) (G : Hp → Prop), Walk J xs.length G (YPair (fun i => some (.int (i : Nat))) (fun i => xs[i]?)) → (∀ H', (∀ o, H1 a = some o → H' a = some o) → G H') → R J H1
open PySem.Spec PyProof.Rows in
theorem pi_en {ta : TA} {p pos tp : Pos} {es : List Expr} {kk : Nat} (hm : X.mg "enumerate" = none) (ha : PA X [e] ta) (hg : Gl X "enumerate" := by rfl) (hs : starEach [e] X.env = [(false, eval e X.env)] := by rfl) :
    PI X (.Tuple es kk tp) (.Call (.Name "enumerate" p) [e] [] pos) (iEnS X.K ta) := by
  constructor
  intro pins s σ H R I h
  refine Call_ (ld_blt I hg hm PyProof.Rows.boot_enumerate (PyProof.Rows.callWith_type1 (thn (ha.run pos pins s σ H _ I h) fun us s1 hh => ?_) hs rfl))
  obtain ⟨vs, H1, I1, r1, a, xs, ev, sq, k⟩ := hh
  subst ev
  have near : ∀ b ∈ [s1.heap.objs.size + 1, s1.heap.objs.size], FpOk X pins H1 b := fun b hb => by
    have ge : s1.heap.objs.size ≤ b := by
      rcases two_of hb with z | z
      · rw [z]; exact Nat.le_add_right _ _
      · rw [z]; exact Nat.le_refl _
    exact I1.fpOk ge (I1.hok.fresh ge)
  cases r1 with
  | cons r rr =>
    cases rr
    cases r
    rcases sq with hq | hq
    · obtain ⟨its, rv, p1, hz⟩ := I1.list hq
      refine call_enumerate_list p1.isList fun h2 he hd _ hk => wpAny_pyIter_enum he ?_
      exact ⟨s1.heap.objs.size + 1, _, _, _, H1, rfl, I1.kept (t' := s1.toks) hk, turn_enum a (s1.heap.objs.size + 1) s1.heap.objs.size, ⟨⟨.none, he⟩, hd, Nat.succ_ne_self _⟩, near, k _ _ walk_enum fun H' e => sqL_at hq e⟩
    · obtain ⟨its, rv, p2, hz⟩ := I1.tuple hq
      refine enumT_call (begins_tuple a its.toArray) p2 fun h2 he hd hk => wpAny_pyIter_enum he ?_
      exact ⟨s1.heap.objs.size + 1, _, _, _, H1, rfl, I1.kept (t' := s1.toks) hk, turn_enT a (s1.heap.objs.size + 1) s1.heap.objs.size, ⟨⟨.none, he⟩, ⟨_, hd, rfl, rfl⟩, Nat.succ_ne_self _⟩, near, k _ _ walk_enT fun H' e => sqT_at hq e⟩
end
theorem pg_pairK {X : Cx} (K : PySem.W.Frag) (hK : X.K = K) (hc : X.calm = true) {e1 e2 : Expr} {t1 t2 : TG} {k : Nat} {pos : Pos} (h1 : PG X e1 t1) (h2 : PG X e2 t2) (he1 : (assignEach [e1, e2] X.env).map (·.2) = assign e1 X.env :: (assignEach [e2] X.env).map (·.2) := by rfl)
    (he2 : (assignEach [e2] X.env).map (·.2) = assign e2 X.env :: (assignEach [] X.env).map (·.2) := by rfl) (hn : (assignEach [e1, e2] X.env).length = 2 := by rfl) (hf : (assignEach [e1, e2] X.env).findIdx? (·.1) = none := by rfl) : PG X (.Tuple [e1, e2] k pos) (gTup K 2 (gCons t1 (gCons t2 gNil))) := by
  subst hK
  have h := pg_tup (k := k) (pos := pos) hc (pgs_cons h1 (pgs_cons h2 pgs_nil he2) he1) hn hf
  exact h
/-- a dict comprehension over numbered items, with keys that are all unlike -/
theorem dcA {J : It} {n : Nat} {G : Hp → Prop} {f1 f2 : Nat → Option V} (wk : Walk J n G (YPair f1 f2)) {g : TG} {tt : TT} {tk tv : TE} {vs : List Nat} {σ : St} {H1 : Hp} {D : Addr} {Qd : Hp → Prop} (kf : Nat → Key) (vf : Nat → V) (hb : n ≤ 10000)
    (inj : ∀ i l, i < n → l < n → kf i = kf l → i = l) (hG : ∀ H', Same H1 H' → G H') (nD : H1 D = none)
    (hs : ∀ (i : Nat) (T : Addr) (a b : V) (H : Hp) (R : V → V → Hp → Prop) (N : Hp → Prop), i < n → f1 i = some a → f2 i = some b → Same H1 H → H T = some (.tup [a, b]) → R (kV (kf i)) (vf i) H → g (.ref T) (wipe σ vs) H fun σ2 H2 => wipe σ2 vs = wipe σ vs ∧ tt σ2 H2 fun b H3 => if b = true then tk σ2 H3 fun y H4 => tv σ2 H4 fun z H5 => R y z H5 else N H3)
    (hd : ∀ H, Same H1 H → H D = some (.dK (asc kf vf n)) → Qd H) :
    ∃ W : Nat → Nat → Hp → Prop, (∃ m, W 0 m (upd H1 D (.dK []))) ∧ ∀ i m H, W i m H →
      (J.stop i H ∧ Qd H) ∨ (J.go i H ∧ ∃ Nx : Hp → Prop, (∀ H', Nx H' → ∃ m', m' < m ∧ W (i + 1) m' H') ∧ ∀ x H', J.yld i H x H' → g x (wipe σ vs) H' fun σ2 H2 => wipe σ2 vs = wipe σ vs ∧ tt σ2 H2 fun b H3 =>
        if b = true then tk σ2 H3 fun y H4 => tv σ2 H4 fun z H5 => ∃ kvs k, y = kV k ∧ H5 D = some (.dK kvs) ∧ kvs.length < sizeLine ∧ Nx (upd H5 D (.dK (putK kvs k z))) else Nx H3) := by
  refine ⟨fun i m H => m = n - i ∧ i ≤ n ∧ Same H1 H ∧ H D = some (.dK (asc kf vf i)), ⟨n, rfl, Nat.zero_le _, same_new nD, upd_same⟩, ?_⟩
  rintro i m H ⟨rfl, hi, e1, hD⟩
  by_cases lt : i < n
  · refine .inr ⟨wk.goes i H lt (hG H e1), fun H' => Same H1 H' ∧ H' D = some (.dK (asc kf vf (i + 1))), fun H' p => ⟨n - (i + 1), by omega, rfl, lt, p.1, p.2⟩, fun x H' y => ?_⟩
    obtain ⟨T, a, b, rfl, nT, rfl, ea, eb⟩ := wk.yields i H x H' lt (hG H e1) y
    refine hs i T a b _ _ _ lt ea eb (e1.trans (same_new nT)) upd_same ⟨asc kf vf i, kf i, rfl, ?_, ?_, fun c o z => ?_, ?_⟩
    · rw [upd_ne (ne_of_none hD nT)]
      exact hD
    · rw [asc_len]
      exact small10 (by omega)
    · rw [upd_ne (ne_of_none z nD)]
      exact (e1.trans (same_new nT)) _ _ z
    · rw [asc_put fun j hj e => by have := inj j i (by omega) lt e; omega]
      exact upd_same
  · obtain rfl : i = n := by omega
    exact .inl ⟨wk.stops H (hG H e1), hd H e1 hD⟩
/-- a def within which lambdas are made: its code object at c, its table at T -/
structure FunL (K : PySem.W.Frag) (base : Heap) (mg : Str → Option Value) (x q : Str) (st : Stmt) (f c T : Addr) (fd : FuncData) : Prop where
  ex : ∃ (oc : Value) (od : Option Addr) (kV doc pm : Value) (an : Option Addr) (ct : Value) (osl : Array (Option Value)),
    fd = PySem.W.fnOf x q (defArgs st) (defBody st) (defScope st) .none kV doc pm an (.ref c) ct ∧ K.lookup f = some ⟨oc, od, .func fd, osl⟩ ∧ PySem.W.codeIn K (.ref c) q = true
  tab : LamX.TabB base mg c T
section
variable {P : Program} {w : World} {K : PySem.W.Frag} {mg : Str → Option Value} {base : Heap}
theorem FunL.okX {CX : CXT} {x q : Str} {st : Stmt} {f c T : Addr} {fd : FuncData} {N ps : List Str} {k : Nat} {sp : Sp} (F : FunL K base mg x q st f c T fd) (S : FnScope N ps (defScope st)) (len : ∀ vs H Q E, sp vs H Q E → vs.length = ps.length)
    (hbody : ∀ (A : Around) (outer : List Env) (s : Shared) (H : Hp) (vs : List V) (Q : VK) (E : XK), Room k (A.deeper (PyProof.Rows.envOfC q (defScope st) s.heap.objs.size f (.ref c))) → sp vs H Q E →
      ∃ t, PSs (cxOf CX P w K mg base N q (defScope st) f (.ref c) A outer s H E).nox (defBody st) t ∧ t { nx := fun _ H' => Q .non H', rt := Q } (L2.start N vs) H) : FnOk P w K mg base CX (k + 1) f fd ps sp := by
  obtain ⟨oc, od, kV, doc, pm, an, ct, osl, rfl, lk, hcd⟩ := F.ex
  refine fn_of lk hcd S len fun A outer s H vs Q E hr hsp => ?_
  obtain ⟨t, h, q⟩ := hbody A outer s H vs Q E hr hsp
  exact ⟨t, h.nox, q⟩
end
theorem ext_of {H H' : Hp} (e : Same H H') : LamX.ExtN H H' := LamX.ExtN.of e
theorem IsD.ext {C : Addr} {H H' : Hp} {p : Addr} {ls : List Nat} {ws : List (List Nat)} (h : IsD C H p ls ws) (e : LamX.ExtN H H') : IsD C H' p ls ws :=
  let ⟨dx, pl, t, kk, nn, h1, h2, h3, h4, h5⟩ := h
  ⟨dx, pl, t, kk, nn, e _ _ h1 (fun _ z => nomatch z), e _ _ h2 (fun _ z => nomatch z), e _ _ h3 (fun _ z => nomatch z), e _ _ h4 (fun _ z => nomatch z), e _ _ h5 (fun _ z => nomatch z)⟩
theorem Pen.ext {H H' : Hp} {pn cl : Addr} {b : Nat} (h : Pen H pn cl b) (e : LamX.ExtN H H') : Pen H' pn cl b := let ⟨k, l, cs, h1, h2, h3, h4⟩ := h; ⟨k, l, cs, e _ _ h1 (fun _ z => nomatch z), e _ _ h2 (fun _ z => nomatch z), h3, h4⟩
/-- what more the class is known by -/
structure TxE (K : PySem.W.Frag) (C : Addr) : Prop where
  cc : PySem.W.findIn K (.ref C) "__class__" = some (some (.builtin "object.__class__"))
  gg : PySem.W.specialIn K (.builtin "object.__class__") "__get__" = some (some (.builtin "getset_descriptor.__get__"))
  tk : PySem.W.takesIn K (.builtin "object.__class__") = some true
  mr : PySem.W.mroIn K C (.type "object") = some true
  kT : PySem.W.kitOne K (.type "tuple") (.ref C) = some false
theorem IsD.ty {K : PySem.W.Frag} {C : Addr} {H : Hp} {p : Addr} {ls : List Nat} {ws : List (List Nat)} (T : Txd K C) (E : TxE K C) (q : IsD C H p ls ws) : TyX K H (.ref p) (.ref C) :=
  let ⟨_, _, _, _, _, h1, _⟩ := q
  .base (.ins h1 T.cl E.cc E.gg E.tk E.mr)
/-- one == other -/
def spEqD (C : Addr) : Sp := fun vs H Q _ => ∃ p y ls ws, vs = [.ref p, y] ∧ IsD C H p ls ws ∧ OkD ls ws ∧
  ((∃ q ls2 ws2, y = .ref q ∧ IsD C H q ls2 ws2 ∧ OkD ls2 ws2 ∧ Q (.bl (decide (ls = ls2) && decide (ws = ws2))) H) ∨ (∃ t xs, y = .ref t ∧ H t = some (.tup xs) ∧ Q (.bl false) H))
section
variable {P : Program} {w : World} {K : PySem.W.Frag} {mg : Str → Option Value} {base : Heap}
theorem scEq : FnScope ["self", "other"] ["self", "other"] (defScope sEq) := ⟨rfl, rfl, rfl, by decide +kernel, rfl, by decide +kernel, by decide +kernel⟩
theorem ok_eq {f C : Addr} {fd : FuncData} (F : Fun K "__eq__" "Dictionary.__eq__" sEq f fd) (B : Bi mg) (T : Txd K C) (TE : TxE K C) (gC : mg "Dictionary" = some (.ref C)) : FnOk P w K mg base CX0 1 f fd ["self", "other"] (spEqD C) := by
  refine F.ok scEq (fun vs H Q E h => ?_) (fun cdv A outer s H vs Q E hr h => ?_)
  · obtain ⟨p, y, ls, ws, rfl, _⟩ := h
    rfl
  · obtain ⟨p, y, ls, ws, rfl, D, O, h⟩ := h
    refine ⟨_, pss_one (ps_ret (pe_and (pe_isi B.isi (pa_cons (pv 1) (pa_cons (pe_glob (v := .ref C) rfl gC rfl) pa_nil))) (pe_and (pe_cmpR op_eq (pe_fld (pv 0) rfl) (pe_fld (pv 1) rfl) (nomark _)) (pe_one (pe_cmpR (op_eqT (hu64 hr)) (pe_fld (pv 0) rfl) (pe_fld (pv 1) rfl) (nomark _)))))), ?_⟩
    obtain ⟨dx, pl, t, kk, nn, h1, h2, h3, h4, h5⟩ := id D
    rcases h with ⟨q, ls2, ws2, rfl, D2, O2, h⟩ | ⟨t2, xs, rfl, ht, h⟩
    · obtain ⟨dx2, pl2, t2, kk2, nn2, g1, g2, g3, g4, g5⟩ := id D2
      refine ⟨_, rfl, _, _, _, _, _, rfl, .own C, D2.ty T TE, kit_self, _, rfl, ?_⟩
      refine ⟨_, rfl, p, C, dx, _, _, rfl, h1, T.cl, T.nL, df_letters _ _ _ _ _ _, _, rfl, q, C, dx2, _, _, rfl, g1, T.cl, T.nL, df_letters _ _ _ _ _ _, rfl, _, rfl, ?_⟩
      rw [decS]
      cases e : decide (ls = ls2) with
      | true =>
        rw [e, Bool.true_and] at h
        exact ⟨_, rfl, p, C, dx, _, _, rfl, h1, T.cl, T.nW, df_words _ _ _ _ _ _, _, rfl, q, C, dx2, _, _, rfl, g1, T.cl, T.nW, df_words _ _ _ _ _ _, t, t2, ws, ws2, rfl, rfl, .inr ⟨SqT.of h3, SqT.of g3⟩, O.nch, O2.nch, h⟩
      | false =>
        rw [e, Bool.false_and] at h
        exact h
    · exact ⟨_, rfl, _, _, _, _, _, rfl, .own C, .base (.tup ht), TE.kT, _, rfl, h⟩
end
end K03
set_option Elab.async false
set_option linter.all false
set_option maxRecDepth 100001
set_option maxHeartbeats 3999999
namespace K03
open PySem L2
/-- what is not at p stays -/
def ButI (p : Addr) (H H' : Hp) : Prop := ∀ b o, b ≠ p → H b = some o → H' b = some o
/-- a list or a tuple in the heap -/
def Lt (H : Hp) (a : Addr) (xs : List V) : Prop := H a = some (.lst xs) ∨ H a = some (.tup xs)
theorem Lt.sq {K : PySem.W.Frag} {H : Hp} {a : Addr} {xs : List V} (h : Lt H a xs) : Sq K H a xs := h.imp SqL.of SqT.of
theorem Lt.same {H H' : Hp} {a : Addr} {xs : List V} (h : Lt H a xs) (e : Same H H') : Lt H' a xs := h.imp (e _ _) (e _ _)
theorem Lt.at_ {H H' : Hp} {a p : Addr} {xs : List V} {o : HO} (h : Lt H a xs) (hp : H p = some o) (no : ∀ ys, o ≠ .lst ys ∧ o ≠ .tup ys) (e : ButI p H H') : Lt H' a xs :=
  h.imp (fun h => e _ _ (ne_of h hp fun z => (no xs).1 z.symm) h) (fun h => e _ _ (ne_of h hp fun z => (no xs).2 z.symm) h)
theorem Lt.ne {H : Hp} {a p : Addr} {xs : List V} (h : Lt H a xs) (hp : H p = none) : a ≠ p := h.elim (fun h => ne_of_none h hp) fun h => ne_of_none h hp
theorem tabs_at {Tb : List (Addr × Str)} {H H' : Hp} {p : Addr} {o : HO} (t : LamX.Tabs Tb H) (hp : H p = some o) (n1 : ∀ ps, o ≠ .tbl ps) (n2 : ∀ f, o ≠ .ext f) (e : ButI p H H') : LamX.Tabs Tb H' := fun pt hpt => by
  obtain ⟨ps, a1, a2, a3⟩ := t pt hpt
  refine ⟨ps, e _ _ (ne_of a1 hp fun z => n1 _ z.symm) a1, a2, fun pos cv hc => ?_⟩
  obtain ⟨c0, e1, e2⟩ := a3 pos cv hc
  exact ⟨c0, e1, e _ _ (ne_of e2 hp fun z => n2 _ (by unfold LamX.CodeO at z; exact z.symm)) e2⟩
theorem idx_inj {ls : List Nat} {a b : Nat} (ha : a ∈ ls) (hb : b ∈ ls) (e : ls.idxOf a = ls.idxOf b) : a = b := by
  have h1 := List.getElem_idxOf (List.idxOf_lt_length_of_mem ha)
  have h2 := List.getElem_idxOf (List.idxOf_lt_length_of_mem hb)
  rw [← h1, ← h2]
  simp only [e]
theorem key_inj {ls : List Nat} : ∀ {v w : List Nat}, (∀ c ∈ v, c ∈ ls) → (∀ c ∈ w, c ∈ ls) → key ls v = key ls w → v = w
  | [], [], _, _, _ => rfl
  | [], _ :: _, _, _, e => nomatch e
  | _ :: _, [], _, _, e => nomatch e
  | a :: v, b :: w, hv, hw, e => by
    unfold key at e
    rw [List.map_cons, List.map_cons] at e
    injection e with e1 e2
    rw [idx_inj (hv a List.mem_cons_self) (hw b List.mem_cons_self) (by omega), key_inj (fun c m => hv c (List.mem_cons_of_mem _ m)) (fun c m => hw c (List.mem_cons_of_mem _ m)) e2]
/-- the sign list of a text value -/
def uns : V → List Nat
  | .str z => z.cps.toList
  | _ => []
def gK (ls : List Nat) (v : V) : Str := S (key ls (uns v))
theorem txs_uns {ys : List V} {ws : List (List Nat)} (h : ys.Perm (txs ws)) : ys = txs (ys.map uns) ∧ (ys.map uns).Perm ws := by
  constructor
  · unfold txs
    rw [List.map_map]
    refine (List.map_id' ys).symm.trans (List.map_congr_left fun y hy => ?_)
    obtain ⟨w, _, rfl⟩ := List.mem_map.mp (h.mem_iff.mp hy)
    rfl
  · have := h.map uns
    unfold txs at this
    rw [List.map_map] at this
    have e : ws.map (uns ∘ fun w => V.str (S w)) = ws := (List.map_congr_left fun _ _ => rfl).trans (List.map_id' ws)
    rwa [e] at this
theorem sorted_okD {ls : List Nat} {ws : List (List Nat)} {ys : List V} (L : Lets ls) (nd : ws.Nodup) (lw : ws.length ≤ 2000) (hw : ∀ w ∈ ws, w.length ≤ 200 ∧ ∀ c ∈ w, c ∈ ls) (so : SrtO.Srtd (SrtL.ltG SrtL.ordStr (gK ls)) ys) (pm : ys.Perm (txs ws)) : ∃ us, ys = txs us ∧ us.Perm ws ∧ OkD ls us := by
  obtain ⟨e, pu⟩ := txs_uns pm
  generalize ys.map uns = us at e pu
  subst e
  refine ⟨us, rfl, pu, L, by rw [pu.length_eq]; exact lw, fun w m => hw w (pu.mem_iff.mp m), ?_⟩
  have nu : us.Nodup := pu.nodup_iff.mpr nd
  unfold SrtO.Srtd txs at so
  rw [List.pairwise_map] at so
  refine List.Pairwise.imp_of_mem (fun {a b} ma mb h => ?_) (List.Pairwise.and so nu)
  obtain ⟨h1, h2⟩ := h
  have h3 : ¬ key ls b < key ls a := of_decide_eq_false h1
  exact (List.le_iff_lt_or_eq.mp (List.not_lt.mp h3)).resolve_right fun e => h2 (key_inj (hw a (pu.mem_iff.mp ma)).2 (hw b (pu.mem_iff.mp mb)).2 e)
/-- what was told of the words so far -/
def toldK (ls : List Nat) (ws : List (List Nat)) (i : Nat) : List (Key × V) := asc (numF ws) (fun j => .str (S (key ls (ws.getD j [])))) i
theorem numF_at {ws : List (List Nat)} {i : Nat} {w : List Nat} (h : ws[i]? = some w) : numF ws i = .inr (S w) ∧ ws.getD i [] = w := by
  unfold numF
  rw [List.getD_eq_getElem?_getD, h]
  exact ⟨rfl, rfl⟩
theorem told_keys (ls : List Nat) (ws : List (List Nat)) : (toldK ls ws ws.length).map (fun kv => kV kv.1) = txs ws := by
  unfold toldK asc txs
  rw [List.map_map]
  refine List.ext_getElem (by simp) fun i h1 h2 => ?_
  simp only [List.getElem_map, List.getElem_range]
  have h3 : i < ws.length := by simpa using h2
  have e := (numF_at (List.getElem?_eq_getElem h3)).1
  show kV (numF ws i) = _
  rw [e]
  rfl
theorem told_at {ls : List Nat} {ws : List (List Nat)} (nd : ws.Nodup) {w : List Nat} (h : w ∈ ws) : valV (toldK ls ws ws.length) (.inr (S w)) = some (.str (S (key ls w))) := by
  obtain ⟨i, hi, rfl⟩ := List.getElem_of_mem h
  obtain ⟨e1, e2⟩ := numF_at (List.getElem?_eq_getElem hi)
  rw [← e1]
  unfold toldK
  rw [asc_at hi (num_inj nd), e2]
abbrev NI' : List Str := ["self", "letters", "words", "index", "word", "told", "letter", "place", "number"]
def spInitD (K : PySem.W.Frag) (C : Addr) (Tb : List (Addr × Str)) : Sp := fun vs H Q _ => ∃ p dx s ls ws, vs = [.ref p, .str (S ls), .ref s] ∧ H p = some (.ins C dx []) ∧ Lt H s (txs ws) ∧ Lets ls ∧ ws.Nodup ∧ ws.length ≤ 2000 ∧ (∀ w ∈ ws, w.length ≤ 200 ∧ ∀ c ∈ w, c ∈ ls) ∧ LamX.Tabs Tb H ∧
  ∀ us H', us.Perm ws → OkD ls us → (∀ b o, b ≠ p → H b = some o → (∀ ps, o ≠ .tbl ps) → H' b = some o) → IsD C H' p ls us → (∀ g xs ys, H g = some (.lst xs) → IsD C (upd H' g (.lst ys)) p ls us) → LamX.Tabs Tb H' → Q .non H'
section
variable {P : Program} {w : World} {K : PySem.W.Frag} {mg : Str → Option Value} {base : Heap}
theorem scInit : FnScope NI' ["self", "letters", "words"] (defScope sInit) := ⟨rfl, rfl, rfl, by decide +kernel, rfl, by decide +kernel, by decide +kernel⟩
theorem ok_init {f c T C : Addr} {fd : FuncData} {Tb : List (Addr × Str)} (F : FunL K base mg "__init__" "Dictionary.__init__" sInit f c T fd) (B : Bi mg) (C' : Bs mg) (N : Cn mg) (X : Txd K C) (cL : Cal CX0 P w K mg base 1 "are_letters" spLets) (cW : Cal CX0 P w K mg base 1 "is_word" spIsW) (mK : Met CX0 P w K mg base 1 C "_key_of" (spKeyOf C))
    (hmT : (T, (("Dictionary.__init__.<locals>.<lambda>" : String) : Str)) ∈ Tb) (hu : ∀ p ∈ Tb, p.1 = T → p.2 = (("Dictionary.__init__.<locals>.<lambda>" : String) : Str)) : FnOk P w K mg base CX0 5 f fd ["self", "letters", "words"] (spInitD K C Tb) := by
  refine F.okX scInit (fun vs H Q E h => ?_) (fun A outer s H vs Q E hr h => ?_)
  · obtain ⟨p, dx, s, ls, ws, rfl, _⟩ := h
    rfl
  · obtain ⟨p, dx, sq, ls, ws, rfl, hp, hs, L, nd, lw, hw, tabs, q⟩ := h
    refine ⟨_, pss_cons (ps_if (pt_not (pt_val (pe_c cL hr pass0 (pa_cons (pv 1) pa_nil)))) pss_never pss_nil)
      (pss_cons (ps_if (pt_cmpR op_gt (pe_len B.len (pa_cons (pv 2) pa_nil)) pe_int (nomark _)) pss_never pss_nil)
      (pss_cons (ps_fld (pv 0) (pv 1) rfl)
      (pss_cons (ps_fld (pv 0) (pe_dc (own := [("place", 7), ("letter", 6)]) rfl scInit.nd (pi_enS rfl B.enum (pa_cons (pv 1) pa_nil)) (blkOk_by (N := NI') (sc := defScope sInit) (by decide +kernel))
          (fun _ _ _ _ _ => pg_pairK K rfl rfl (pg_name (i := 7) scInit.nd rfl (Or.inl rfl) (.inr rfl)) (pg_name (i := 6) scInit.nd rfl (Or.inl rfl) (.inr rfl))) (fun _ _ _ _ _ => pts_nil) (fun _ _ _ _ _ => pv 6) (fun _ _ _ _ _ => pe_ix ix_str (C8.pe_gc rfl N.alpha) (pv 7) (fun _ _ => rfl))) rfl)
      (pss_cons (ps_set (i := 5) scInit.nd rfl (Or.inr rfl) pe_dnewK)
      (pss_cons (ps_for PassesOwn.never rfl (pi_en B.enum (pa_cons (pv 2) pa_nil)) (pg_tup rfl (pgs_cons (pg_name (i := 3) scInit.nd rfl (.inl rfl)) (pgs_cons (pg_name (i := 4) scInit.nd rfl (.inl rfl)) pgs_nil)))
          (pss_cons (ps_if (PW.pt (pw_or (pt_not (pt_val (pe_c cW hr pass0 (pa_cons (pv 4) (pa_cons (pv 1) pa_nil))))) (pw_or1 (pt_cmp (pc_din (hu_of hr) (pv 4) (pv 5)))))) pss_never pss_nil)
          (pss_one (ps_dput (hu_of hr) (pv 5) (pv 4) (pe_mt mK hr pass0 (pv 0) (pa_cons (pv 4) pa_nil)) rfl))))
      (pss_cons (ps_fld (pv 0) (pe_tupleOf rfl B.tuple (by exact SrtL.pe_sortLam (k := 1) (i := 4) SrtL.ordStr rfl C'.sorted (pe_callTy (call_listD rfl) rfl B.list (by decide +kernel) (pa_cons (pv 5) pa_nil)) F.tab hmT hu (hr.mono (by decide)) (LamX.lamP_by (sc := defScope sInit) (by decide +kernel)) scInit.nd rfl (fun s H f c' hr' => pe_dget (hu_of hr') (pv 5) (pv 4) (fun _ _ => rfl)))) rfl)
      (pss_cons (ps_fld (pv 0) (pe_len B.len (pa_cons (pe_fld (pv 0) rfl) pa_nil)) rfl)
      (pss_cons (ps_fld (pv 0) (pe_lc (own := [("word", 4)]) rfl scInit.nd (pi_sqA (pe_fld (pv 0) rfl)) (blkOk_by (N := NI') (sc := defScope sInit) (by decide +kernel))
          (fun _ _ _ _ _ => pg_name (i := 4) scInit.nd rfl (Or.inl rfl)) (fun _ _ _ _ _ => pts_nil) (fun _ _ _ _ _ => pe_dget (hu_of hr) (pv 5) (pv 4) (fun _ _ => rfl))) rfl)
      (pss_one (ps_fld (pv 0) (pe_dc (own := [("number", 8), ("word", 4)]) rfl scInit.nd (pi_en B.enum (pa_cons (pe_fld (pv 0) rfl) pa_nil)) (blkOk_by (N := NI') (sc := defScope sInit) (by decide +kernel))
          (fun _ _ _ _ _ => pg_pairK K rfl rfl (pg_name (i := 8) scInit.nd rfl (Or.inl rfl) (.inr rfl)) (pg_name (i := 4) scInit.nd rfl (Or.inl rfl) (.inr rfl))) (fun _ _ _ _ _ => pts_nil) (fun _ _ _ _ _ => pv 4) (fun _ _ _ _ _ => pv 8)) rfl)))))))))), ?_⟩
    refine ⟨_, rfl, ls, rfl, L, fun H1 e1 => ⟨_, rfl, iteF ?_⟩⟩
    have hp1 := e1 _ _ hp
    have hs1 := hs.same e1
    have tab1 := tabs.ext e1
    refine ⟨_, rfl, sq, _, rfl, hs1.sq, _, _, rfl, rfl, _, rfl, ?_⟩
    rw [strs_len, decide_eq_false (show ¬ (2000 : Int) < ((ws.length : Nat) : Int) by omega)]
    refine iteF ⟨_, rfl, _, rfl, p, C, dx, [], rfl, hp1, X.cl, X.nL, by decide, ?_⟩
    have x2 : ButI p H1 (upd H1 p (.ins C dx (putF "letters" (.str (S ls)) []))) := fun b o n z => (upd_ne n).trans z
    have hp2 : upd H1 p (.ins C dx (putF "letters" (.str (S ls)) [])) p = some (.ins C dx (putF "letters" (.str (S ls)) [])) := upd_same
    generalize upd H1 p (.ins C dx (putF "letters" (.str (S ls)) [])) = H2 at x2 hp2 ⊢
    have tab2 := tabs_at tab1 hp1 (fun _ z => nomatch z) (fun _ z => nomatch z) x2
    have hs2 := hs1.at_ hp1 (fun _ => ⟨(fun z => nomatch z), fun z => nomatch z⟩) x2
    have b2 : ButI p H H2 := fun b o n z => x2 _ _ n (e1 _ _ z)
    clear x2 tab1 hs1 hp1 e1
    refine ⟨_, rfl, _, rfl, fun D nD => dcA walk_enS (plainF ls) (fun j => .str (S [97 + j])) (by rw [S_size]; have := L.hi; omega) (fun i l hi hl => plain_inj L.nd i l (by rwa [S_size] at hi) (by rwa [S_size] at hl)) (fun _ _ => True.intro) nD ?_ ?_⟩
    · intro i T0 a b H3 R N3 hi ea eb e3 hT r
      rw [S_size] at hi
      cases ea
      rw [S_get, List.getElem?_eq_getElem hi] at eb
      cases eb
      refine ⟨T0, _, rfl, SqT.of hT, rfl, _, _, rfl, _, _, rfl, rfl, rfl, ?_⟩
      unfold tYes
      have a26 : (S abc).length ≤ sizeLine := Nat.le_of_lt (small10 (by rw [S_len]; decide))
      have ai : abc[i]? = some (97 + i) := by
        have : i < 26 := by have := L.hi; omega
        unfold abc
        rw [List.getElem?_map, List.getElem?_range this]
        show some (i + 97) = some (97 + i)
        rw [Nat.add_comm]
      have ek : plainF ls i = .inr (S [ls[i]]) := by
        unfold plainF
        rw [List.getD_eq_getElem?_getD, List.getElem?_eq_getElem hi]
        rfl
      rw [ek] at r
      exact iteT ⟨_, rfl, _, rfl, S abc, _, _, rfl, rfl, a26, atI_nat ai, r⟩
    intro H3 e3 hD3
    rw [S_size] at hD3
    have hp3 := e3 _ _ hp2
    have b3 : ButI p H H3 := fun b o n z => e3 _ _ (b2 b o n z)
    have tab3 := tab2.ext e3
    have hs3 := hs2.same e3
    clear e3 tab2 hs2 b2 hp2
    refine ⟨_, rfl, p, C, dx, _, rfl, hp3, X.cl, X.nP, by show 1 < 1000; decide, ?_⟩
    have x4 : ButI p H3 (upd H3 p (.ins C dx (putF "_plain" (.ref D) (putF "letters" (.str (S ls)) [])))) := fun b o n z => (upd_ne n).trans z
    have hp4 : upd H3 p (.ins C dx (putF "_plain" (.ref D) (putF "letters" (.str (S ls)) []))) p = some (.ins C dx (putF "_plain" (.ref D) (putF "letters" (.str (S ls)) []))) := upd_same
    generalize upd H3 p (.ins C dx (putF "_plain" (.ref D) (putF "letters" (.str (S ls)) []))) = H4 at x4 hp4 ⊢
    have tab4 := tabs_at tab3 hp3 (fun _ z => nomatch z) (fun _ z => nomatch z) x4
    have hs4 := hs3.at_ hp3 (fun _ => ⟨(fun z => nomatch z), fun z => nomatch z⟩) x4
    have b4 : ButI p H H4 := fun b o n z => x4 _ _ n (b3 b o n z)
    have hD4 := x4 _ _ (ne_of hD3 hp3 fun z => nomatch z) hD3
    clear x4 tab3 hs3 b3 hp3 hD3
    refine fun td ntd => ?_
    have e5 : Same H4 (upd H4 td (.dK [])) := same_new ntd
    have htd5 : upd H4 td (.dK []) td = some (.dK (toldK ls ws 0)) := upd_same
    generalize upd H4 td (.dK []) = H5 at e5 htd5 ⊢
    have hp5 := e5 _ _ hp4
    have hD5 := e5 _ _ hD4
    have tab5 := tab4.ext e5
    have hs5 := hs4.same e5
    have b5 : ButI p H H5 := fun b o n z => e5 _ _ (b4 b o n z)
    have nDt : D ≠ td := ne_of_none hD4 ntd
    have npt : p ≠ td := ne_of_none hp4 ntd
    have ntb : ∀ b o, H b = some o → b ≠ p → b ≠ td := fun b o z n => ne_of_none (b4 b o n z) ntd
    have nst : sq ≠ td := hs4.ne ntd
    clear e5 hp4 hD4 tab4 hs4 b4
    refine ⟨_, rfl, sq, _, rfl, hs5.sq, fun J G wk hG => for_it wk (fun i σ H' => ∃ a b : Option V, σ = [some (.ref p), some (.str (S ls)), some (.ref sq), a, b, some (.ref td), none, none, none] ∧ ButI td H5 H' ∧ H' td = some (.dK (toldK ls ws i))) ⟨none, none, rfl, (fun _ _ _ z => z), htd5⟩
      (fun i σ H' _ ⟨_, _, _, e, _⟩ => hG H' fun o z => e _ _ (nst) z) ?_ ?_⟩
    · rintro i x σ H6 H7 hi ⟨a, b, rfl, e6, htd6⟩ ⟨T0, y, v, rfl, nT0, rfl, ey, hv⟩
      cases ey
      have hi2 : i < ws.length := by rwa [strs_len] at hi
      have ew := List.getElem?_eq_getElem hi2
      have ev : v = .str (S ws[i]) := by
        have hv : (ws.map fun w => V.str (S w))[i]? = some v := hv
        rw [List.getElem?_map, ew] at hv
        exact (Option.some.inj hv).symm
      subst ev
      obtain ⟨w1, w2⟩ := hw ws[i] (List.getElem_mem hi2)
      obtain ⟨k1, k2⟩ := numF_at ew
      have e7 : Same H6 (upd H6 T0 (.tup [.int (i : Nat), .str (S ws[i])])) := same_new nT0
      have h7 : upd H6 T0 (.tup [.int (i : Nat), .str (S ws[i])]) T0 = _ := upd_same
      generalize upd H6 T0 (.tup [.int (i : Nat), .str (S ws[i])]) = H7 at e7 h7 ⊢
      refine ⟨T0, _, rfl, SqT.of h7, rfl, _, _, rfl, _, _, rfl, rfl, ?_⟩
      refine ⟨_, rfl, _, rfl, _, ls, rfl, .str _, (fun x z => by cases z; rw [S_len]; omega), fun H8 e8 => ⟨_, rfl, ?_⟩⟩
      rw [show isW ls (.str (S ws[i])) = true by
        show (decide ((S ws[i]).length ≤ 200) && (S ws[i]).cps.toList.all fun c => decide (c ∈ ls)) = true
        rw [S_len, decide_eq_true w1, Bool.true_and]
        exact List.all_eq_true.mpr fun c hc => decide_eq_true (w2 c hc)]
      have htd8 := e8 _ _ (e7 _ _ htd6)
      refine iteF ⟨_, rfl, _, rfl, td, _, rfl, DGet.k (k := Sum.inr (S ws[i])) htd8, _, rfl, ?_⟩
      rw [show valV (toldK ls ws i) (Sum.inr (S ws[i])) = none from asc_none fun j hj e => by
        rw [← k1] at e
        have := num_inj nd j i (by omega) hi2 e
        omega]
      have hp8 := e8 _ _ (e7 _ _ (e6 _ _ npt hp5))
      have hD8 := e8 _ _ (e7 _ _ (e6 _ _ nDt hD5))
      refine iteF ⟨_, rfl, p, dx, _, rfl, hp8, by rw [lookup_putF, if_neg (by decide +kernel), lookup_putF, if_neg (by decide +kernel)]; rfl, _, rfl, p, ls, ws[i], rfl, ⟨dx, D, _, hp8, by rw [lookup_putF, if_pos rfl], hD8⟩, L.nd, w2, by omega, fun H9 e9 => ?_⟩
      have htd9 := e9 _ _ htd8
      refine ⟨_, rfl, _, rfl, td, _, rfl, DPut.k (k := Sum.inr (S ws[i])) htd9 (by unfold toldK; rw [asc_len]; exact small10 (by omega)), _, _, rfl, fun b' o' nb z => (upd_ne nb).trans (e9 _ _ (e8 _ _ (e7 _ _ (e6 _ _ nb z)))), ?_⟩
      rw [upd_same]
      have ap := asc_put (kf := numF ws) (vf := fun j => .str (S (key ls (ws.getD j [])))) (n := i) fun j hj e => by
        have := num_inj nd j i (by omega) hi2 e
        omega
      simp only [k1, k2] at ap
      unfold toldK
      rw [ap]
    rintro σ H6 ⟨a, b, rfl, e6, htd6⟩
    rw [strs_len] at htd6
    have hp6 := e6 _ _ npt hp5
    have hD6 := e6 _ _ nDt hD5
    have tab6 := tabs_at tab5 htd5 (fun _ z => nomatch z) (fun _ z => nomatch z) e6
    have b6 : ∀ b o, b ≠ p → H b = some o → H6 b = some o := fun b o n z => e6 _ _ (ntb b o z n) (b5 _ _ n z)
    clear e6 tab5 b5 hD5 hp5 htd5 hs5 nDt npt ntb nst ntd
    refine ⟨_, rfl, td, _, rfl, .inl htd6, fun l nl => ?_⟩
    rw [told_keys]
    have e7 : Same H6 (upd H6 l (.lst (txs ws))) := same_new nl
    have hl7 : upd H6 l (.lst (txs ws)) l = some (.lst (txs ws)) := upd_same
    generalize upd H6 l (.lst (txs ws)) = H7 at e7 hl7 ⊢
    have hp7 := e7 _ _ hp6
    have hD7 := e7 _ _ hD6
    have htd7 := e7 _ _ htd6
    have tab7 := tab6.ext e7
    have b7 : ∀ b o, b ≠ p → H b = some o → H7 b = some o := fun b o n z => e7 _ _ (b6 b o n z)
    clear e7 hp6 hD6 htd6 tab6 b6 nl
    refine ⟨l, txs ws, gK ls, rfl, SqL.of hl7, tab7, fun H8 e8 tab8 => ⟨SqL.of (e8 _ _ hl7 fun _ z => nomatch z), fun v hv => ?_, fun ys r so st nr => ?_⟩⟩
    · obtain ⟨w, mw, rfl⟩ := List.mem_map.mp hv
      exact ⟨_, rfl, _, rfl, td, _, rfl, by
        have := DGet.k (k := Sum.inr (S w)) (e8 _ _ htd7 fun _ z => nomatch z)
        rw [told_at nd mw] at this
        exact this, rfl, rfl⟩
    obtain ⟨us, rfl, pu, O⟩ := sorted_okD L nd lw hw so st.perm
    refine .inl ⟨r, _, rfl, SqL.of upd_same, fun t nt => ?_⟩
    have hp8 := e8 _ _ hp7 fun _ z => nomatch z
    have hD8 := e8 _ _ hD7 fun _ z => nomatch z
    have htd8 := e8 _ _ htd7 fun _ z => nomatch z
    have b8 : ∀ b o, b ≠ p → H b = some o → (∀ ps, o ≠ .tbl ps) → H8 b = some o := fun b o n z nt => e8 _ _ (b7 b o n z) nt
    clear e8 hp7 hD7 htd7 tab7 b7 hl7
    have e9 : Same H8 (upd (upd H8 r (.lst (txs us))) t (.tup (txs us))) := (same_new nr).trans (same_new nt)
    have ht9 : upd (upd H8 r (.lst (txs us))) t (.tup (txs us)) t = some (.tup (txs us)) := upd_same
    generalize upd (upd H8 r (.lst (txs us))) t (.tup (txs us)) = H9 at e9 ht9 ⊢
    have hp9 := e9 _ _ hp8
    have hD9 := e9 _ _ hD8
    have htd9 := e9 _ _ htd8
    have tab9 := tab8.ext e9
    have b9 : ∀ b o, b ≠ p → H b = some o → (∀ ps, o ≠ .tbl ps) → H9 b = some o := fun b o n z nt => e9 _ _ (b8 b o n z nt)
    clear e9 hp8 hD8 htd8 tab8 b8 nr nt
    refine ⟨_, rfl, p, C, dx, _, rfl, hp9, X.cl, X.nW, by show 2 < 1000; decide, ?_⟩
    generalize eF : putF "words" (V.ref t) (putF "_plain" (.ref D) (putF "letters" (.str (S ls)) [])) = F3
    have x10 : ButI p H9 (upd H9 p (.ins C dx F3)) := fun b o n z => (upd_ne n).trans z
    have hp10 : upd H9 p (.ins C dx F3) p = some (.ins C dx F3) := upd_same
    generalize upd H9 p (.ins C dx F3) = H10 at x10 hp10 ⊢
    have tab10 := tabs_at tab9 hp9 (fun _ z => nomatch z) (fun _ z => nomatch z) x10
    have hD10 := x10 _ _ (ne_of hD9 hp9 fun z => nomatch z) hD9
    have htd10 := x10 _ _ (ne_of htd9 hp9 fun z => nomatch z) htd9
    have ht10 := x10 _ _ (ne_of ht9 hp9 fun z => nomatch z) ht9
    have b10 : ∀ b o, b ≠ p → H b = some o → (∀ ps, o ≠ .tbl ps) → H10 b = some o := fun b o n z nt => x10 _ _ n (b9 b o n z nt)
    clear x10 tab9 hD9 htd9 ht9 b9 hp9
    have lt3 : F3.lookup ("words" : Str) = some (.ref t) := by rw [← eF, lookup_putF, if_pos rfl]
    have l3 : F3.length < 1000 := by rw [← eF]; show 3 < 1000; decide
    refine ⟨_, rfl, p, C, dx, _, _, rfl, hp10, X.cl, X.nW, lt3, t, _, rfl, .inr (SqT.of ht10), _, rfl, p, C, dx, _, rfl, hp10, X.cl, X.nM, l3, ?_⟩
    rw [strs_len]
    have x11 : ButI p H10 (upd H10 p (.ins C dx (putF "many" (.int (us.length : Nat)) F3))) := fun b o n z => (upd_ne n).trans z
    have hp11 : upd H10 p (.ins C dx (putF "many" (.int (us.length : Nat)) F3)) p = some (.ins C dx (putF "many" (.int (us.length : Nat)) F3)) := upd_same
    generalize upd H10 p (.ins C dx (putF "many" (.int (us.length : Nat)) F3)) = H11 at x11 hp11 ⊢
    have tab11 := tabs_at tab10 hp10 (fun _ z => nomatch z) (fun _ z => nomatch z) x11
    have hD11 := x11 _ _ (ne_of hD10 hp10 fun z => nomatch z) hD10
    have htd11 := x11 _ _ (ne_of htd10 hp10 fun z => nomatch z) htd10
    have ht11 := x11 _ _ (ne_of ht10 hp10 fun z => nomatch z) ht10
    have b11 : ∀ b o, b ≠ p → H b = some o → (∀ ps, o ≠ .tbl ps) → H11 b = some o := fun b o n z nt => x11 _ _ n (b10 b o n z nt)
    clear x11 tab10 hD10 htd10 ht10 b10 hp10
    have lt4 : (putF "many" (.int (us.length : Nat)) F3).lookup ("words" : Str) = some (.ref t) := by rw [lookup_putF, if_neg (by decide +kernel), lt3]
    have lu := pu.length_eq
    refine ⟨_, rfl, p, C, dx, _, _, rfl, hp11, X.cl, X.nW, lt4, t, _, rfl, .inr (SqT.of ht11), fun J G wk hG kk nkk => lcP wk (txs us) (txs (us.map (key ls))) rfl (by rw [strs_len, strs_len, List.length_map]) (by rw [strs_len]; omega) (fun _ _ _ _ y => y) (fun H' e => hG H' fun o z => e _ _ z) nkk ?_ ?_⟩
    · intro i x y H12 Q2 N2 hx hy e12 q2
      unfold txs at hx hy
      rw [List.getElem?_map] at hx hy
      rw [List.getElem?_map] at hy
      cases hu : us[i]? with
      | none =>
        rw [hu] at hx
        cases hx
      | some u =>
        rw [hu] at hx hy
        cases hx
        cases hy
        refine ⟨rfl, yesT ⟨_, rfl, _, rfl, td, _, rfl, by
          have := DGet.k (k := Sum.inr (S u)) (e12 _ _ htd11)
          rw [told_at nd (pu.mem_iff.mp (List.mem_of_getElem? hu))] at this
          exact this, q2⟩⟩
    intro H12 e12 hkk12
    have hp12 := e12 _ _ hp11
    have hD12 := e12 _ _ hD11
    have ht12 := e12 _ _ ht11
    have tab12 := tab11.ext e12
    have b12 : ∀ b o, b ≠ p → H b = some o → (∀ ps, o ≠ .tbl ps) → H12 b = some o := fun b o n z nt => e12 _ _ (b11 b o n z nt)
    have fresh := b11
    clear e12 hp11 hD11 htd11 ht11 tab11 b11
    have l4 : (putF "many" (.int (us.length : Nat)) F3).length < 1000 := by rw [← eF]; show 4 < 1000; decide
    refine ⟨_, rfl, p, C, dx, _, rfl, hp12, X.cl, X.nK, l4, ?_⟩
    have x13 : ButI p H12 (upd H12 p (.ins C dx (putF "_keys" (.ref kk) (putF "many" (.int (us.length : Nat)) F3)))) := fun b o n z => (upd_ne n).trans z
    have hp13 : upd H12 p (.ins C dx (putF "_keys" (.ref kk) (putF "many" (.int (us.length : Nat)) F3))) p = some (.ins C dx (putF "_keys" (.ref kk) (putF "many" (.int (us.length : Nat)) F3))) := upd_same
    generalize upd H12 p (.ins C dx (putF "_keys" (.ref kk) (putF "many" (.int (us.length : Nat)) F3))) = H13 at x13 hp13 ⊢
    have tab13 := tabs_at tab12 hp12 (fun _ z => nomatch z) (fun _ z => nomatch z) x13
    have hD13 := x13 _ _ (ne_of hD12 hp12 fun z => nomatch z) hD12
    have ht13 := x13 _ _ (ne_of ht12 hp12 fun z => nomatch z) ht12
    have hkk13 := x13 _ _ (ne_of hkk12 hp12 fun z => nomatch z) hkk12
    have b13 : ∀ b o, b ≠ p → H b = some o → (∀ ps, o ≠ .tbl ps) → H13 b = some o := fun b o n z nt => x13 _ _ n (b12 b o n z nt)
    clear x13 tab12 hD12 ht12 hkk12 b12 hp12
    have lt5 : (putF "_keys" (.ref kk) (putF "many" (.int (us.length : Nat)) F3)).lookup ("words" : Str) = some (.ref t) := by rw [lookup_putF, if_neg (by decide +kernel), lt4]
    have l5 : (putF "_keys" (.ref kk) (putF "many" (.int (us.length : Nat)) F3)).length < 1000 := by rw [← eF]; show 5 < 1000; decide
    refine ⟨_, rfl, p, C, dx, _, _, rfl, hp13, X.cl, X.nW, lt5, t, _, rfl, .inr (SqT.of ht13), fun J G wk hG nn nnn => dcA wk (numF us) (fun j => .int (j : Nat)) (by rw [strs_len]; omega) (fun i l hi hl => num_inj O.nd i l (by rwa [strs_len] at hi) (by rwa [strs_len] at hl)) (fun H' e => hG H' fun o z => e _ _ z) nnn ?_ ?_⟩
    · intro i T0 a' b' H14 R N3 hi ea eb e14 hT r
      rw [strs_len] at hi
      cases ea
      have ew := List.getElem?_eq_getElem hi
      have eb : (us.map fun w => V.str (S w))[i]? = some b' := eb
      rw [List.getElem?_map, ew] at eb
      cases eb
      rw [(numF_at ew).1] at r
      refine ⟨T0, _, rfl, SqT.of hT, rfl, _, _, rfl, _, _, rfl, rfl, rfl, ?_⟩
      unfold tYes
      exact iteT ⟨_, rfl, _, rfl, r⟩
    intro H14 e14 hnn14
    rw [strs_len] at hnn14
    refine ⟨_, rfl, p, C, dx, _, rfl, e14 _ _ hp13, X.cl, X.nN, l5, ?_⟩
    have eM : putF "_numbers" (.ref nn) (putF "_keys" (.ref kk) (putF "many" (.int (us.length : Nat)) F3)) = dicF ls D t (us.length : Nat) kk nn := by
      rw [← eF]
      rfl
    rw [eM]
    have x15 : ButI p H14 (upd H14 p (.ins C dx (dicF ls D t (us.length : Nat) kk nn))) := fun b o n z => (upd_ne n).trans z
    have hp14 := e14 _ _ hp13
    have keep : ∀ b o, b ≠ p → H b = some o → (∀ ps, o ≠ .tbl ps) → upd H14 p (.ins C dx (dicF ls D t (us.length : Nat) kk nn)) b = some o := fun b o n z nt => x15 _ _ n (e14 _ _ (b13 b o n z nt))
    have r1 : upd H14 p (.ins C dx (dicF ls D t (us.length : Nat) kk nn)) p = some (.ins C dx (dicF ls D t (us.length : Nat) kk nn)) := upd_same
    have r2 := x15 _ _ (ne_of (e14 _ _ hD13) hp14 fun z => nomatch z) (e14 _ _ hD13)
    have r3 := x15 _ _ (ne_of (e14 _ _ ht13) hp14 fun z => nomatch z) (e14 _ _ ht13)
    have r4 := x15 _ _ (ne_of (e14 _ _ hkk13) hp14 fun z => nomatch z) (e14 _ _ hkk13)
    have r5 := x15 _ _ (ne_of hnn14 hp14 fun z => nomatch z) hnn14
    have tabE := tabs_at (tab13.ext e14) hp14 (fun _ z => nomatch z) (fun _ z => nomatch z) x15
    generalize upd H14 p (.ins C dx (dicF ls D t (us.length : Nat) kk nn)) = HE at keep r1 r2 r3 r4 r5 tabE ⊢
    refine q us HE pu O keep ⟨dx, D, t, kk, nn, r1, r2, r3, r4, r5⟩ (fun g xs ys hg => ?_) tabE
    have hgE := keep g _ (ne_of hg hp fun z => nomatch z) hg fun _ z => nomatch z
    have nk : kk ≠ g := fun z => by
      subst z
      have := fresh _ _ (ne_of hg hp fun z => nomatch z) hg fun _ z => nomatch z
      rw [nkk] at this
      cases this
    exact ⟨dx, D, t, kk, nn, (upd_ne (ne_of r1 hgE fun z => nomatch z)).trans r1, (upd_ne (ne_of r2 hgE fun z => nomatch z)).trans r2, (upd_ne (ne_of r3 hgE fun z => nomatch z)).trans r3, (upd_ne nk).trans r4, (upd_ne (ne_of r5 hgE fun z => nomatch z)).trans r5⟩
end
end K03
set_option Elab.async false
set_option linter.all false
set_option maxRecDepth 100001
set_option maxHeartbeats 3999999
namespace K03
open PySem L2
abbrev sLLet : Stmt := topS 44
abbrev sLWord : Stmt := topS 45
abbrev sLKey : Stmt := topS 46
/-! ### a sign's place -/
theorem idx_first {c : Nat} : ∀ (l : List Nat) (i : Nat), l[i]? = some c → (∀ k, k < i → l[k]? ≠ some c) → l.idxOf c = i
  | [], i, h, _ => by simp at h
  | a :: l, 0, h, _ => by
    simp at h
    rw [h, List.idxOf_cons_self]
  | a :: l, i + 1, h, n => by
    have ne : a ≠ c := fun e => n 0 (by omega) (by rw [e]; rfl)
    have ih := idx_first l i (by simpa using h) fun k hk => by have := n (k + 1) (by omega); simpa using this
    rw [List.idxOf_cons, show (a == c) = false from beq_eq_false_iff_ne.mpr ne, ih]
    rfl
theorem occ_sign {l : List Nat} {c : Nat} (h : c ∈ l) : ∃ r, Builtin.Str.occurrences (S l) (S [c]) 0 (S l).length 1 = l.idxOf c :: r := by
  rcases StrLaws.occ_head (S l) (S [c]) 1 (Nat.le_refl _) with ⟨_, hn⟩ | ⟨i, r, e, ha, hn⟩
  · obtain ⟨i, hi, e⟩ := List.getElem_of_mem h
    exact absurd ((StrLaws.subAt_one (S l) c i).mpr (by rw [S_list, List.getElem?_eq_getElem hi, e])) (hn i)
  · refine ⟨r, ?_⟩
    rw [e, idx_first l i ((StrLaws.subAt_one (S l) c i).mp ha) fun k hk z => hn k hk ((StrLaws.subAt_one (S l) c k).mpr z)]
/-! ### the law's letters, words, keys -/
/-- letters, and how many the law draws; one of a, z is not among them -/
structure LLet (ls : List Nat) : Prop where
  L : Lets ls
  few : ls.length ≤ 4
  str : 97 ∉ ls ∨ 122 ∉ ls
def spLLet : Sp := fun vs H Q _ => ∃ (pn cl : Addr) (b : Nat), vs = [.ref pn, .int 3] ∧ Pen H pn cl b ∧ b ≤ 900000 ∧ ∀ ls H', LLet ls → But pn H H' → Pen H' pn cl (b + 6) → Q (.str (S ls)) H'
def spLWord : Sp := fun vs H Q _ => ∃ (pn cl : Addr) (ls : List Nat) (b : Nat), vs = [.ref pn, .str (S ls), .int 3] ∧ Pen H pn cl b ∧ b ≤ 900000 ∧ LLet ls ∧ ∀ w H', w.length ≤ 3 → (∀ c ∈ w, c ∈ ls) → But pn H H' → Pen H' pn cl (b + 6) → Q (.str (S w)) H'
def keyI (ls w : List Nat) : List Int := w.map fun c => ((ls.idxOf c : Nat) : Int)
def spLKey : Sp := fun vs H Q _ => ∃ ls w, vs = [.str (S ls), .str (S w)] ∧ ls.length ≤ 1000 ∧ w.length ≤ 1000 ∧ (∀ c ∈ w, c ∈ ls) ∧ ∀ t H', Same H H' → H' t = some (.lst ((keyI ls w).map V.int)) → Q (.ref t) H'
section
variable {P : Program} {w : World} {K : PySem.W.Frag} {mg : Str → Option Value} {base : Heap}
theorem scLKey : FnScope ["_law_letters_here", "_law_word_here", "_law_sign"] ["_law_letters_here", "_law_word_here"] (defScope sLKey) := ⟨rfl, rfl, rfl, by decide +kernel, rfl, by decide +kernel, by decide +kernel⟩
theorem ok_lkey {f : Addr} {fd : FuncData} (F : Fun K "_law_key" "_law_key" sLKey f fd) : FnOk P w K mg base CX0 1 f fd ["_law_letters_here", "_law_word_here"] spLKey := by
  refine F.ok scLKey (fun vs H Q E h => ?_) (fun cdv A outer s H vs Q E hr h => ?_)
  · obtain ⟨ls, w, rfl, _⟩ := h
    rfl
  · obtain ⟨ls, w, rfl, ll, lw, hw, q⟩ := h
    refine ⟨_, pss_one (ps_ret (pe_lc (own := [("_law_sign", 2)]) rfl scLKey.nd (pi_str (pv 1)) (blkOk_by (N := ["_law_letters_here", "_law_word_here", "_law_sign"]) (sc := defScope sLKey) (by decide +kernel))
          (fun _ _ _ _ _ => pg_name (i := 2) scLKey.nd rfl (Or.inl rfl)) (fun _ _ _ _ _ => pts_nil) (fun _ _ _ _ _ => pe_m1 PySem.F.slot_str_index PySem.F.type_str_index mt_sindex (pv 0) (pv 2)))), ?_⟩
    refine ⟨_, rfl, _, rfl, fun D nD => lcS (fun c => .int ((ls.idxOf c : Nat) : Int)) (by rw [S_size]; omega) nD ?_ ?_⟩
    · intro c H1 Q1 N hc e q1
      obtain ⟨r, er⟩ := occ_sign (hw c hc)
      exact ⟨rfl, yesT ⟨_, rfl, ⟨_, rfl⟩, _, rfl, _, _, _, _, rfl, rfl, er, q1⟩⟩
    · intro H1 e hD
      refine q D H1 e ?_
      rw [hD]
      unfold keyI
      rw [List.map_map]
      rfl
theorem scLWord : FnScope ["_law_pen_here", "_law_letters_here", "_law_most", "_law_k"] ["_law_pen_here", "_law_letters_here", "_law_most"] (defScope sLWord) := ⟨rfl, rfl, rfl, by decide +kernel, rfl, by decide +kernel, by decide +kernel⟩
theorem ok_lword {f : Addr} {fd : FuncData} (F : Fun K "_law_word" "_law_word" sLWord f fd) (B : Bi mg) (cD : Cal CX0 P w K mg base 1 "_law_draw" spDraw) (cP : Cal CX0 P w K mg base 2 "_law_pick" spPickS) : FnOk P w K mg base CX0 3 f fd ["_law_pen_here", "_law_letters_here", "_law_most"] spLWord := by
  refine F.ok scLWord (fun vs H Q E h => ?_) (fun cdv A outer s H vs Q E hr h => ?_)
  · obtain ⟨pn, cl, ls, b, rfl, _⟩ := h
    rfl
  · obtain ⟨pn, cl, ls, b, rfl, pen, hb, LL, q⟩ := h
    refine ⟨_, pss_one (ps_ret (pe_join pe_str (pe_lc (own := [("_law_k", 3)]) rfl scLWord.nd (pi_range1 rfl B.range (pa_cons (pe_c cD hr pass0 (pa_cons (pv 0) (pa_cons (pe_op op_add (pv 2) pe_int) pa_nil))) pa_nil)) (blkOk_by (N := ["_law_pen_here", "_law_letters_here", "_law_most", "_law_k"]) (sc := defScope sLWord) (by decide +kernel))
          (fun _ _ _ _ _ => pg_name (i := 3) scLWord.nd rfl (Or.inl rfl)) (fun _ _ _ _ _ => pts_nil) (fun _ _ _ _ _ => pe_c cP hr pass0 (pa_cons (pv 0) (pa_cons (pv 1) pa_nil)))))), ?_⟩
    refine ⟨⟨_, rfl⟩, _, rfl, _, rfl, _, _, rfl, rfl, pn, cl, _, b, rfl, pen, by omega, by decide, by decide, fun r H1 r0 r1 e1 pen1 => ⟨_, rfl, by omega, by omega, ?_⟩⟩
    obtain ⟨n, rfl⟩ := Int.eq_ofNat_of_zero_le r0
    have n5 : n ≤ 3 := by omega
    rw [Int.toNat_natCast]
    have e0 : ∀ c o, c ≠ pn → H c = some o → H1 c = some o := e1
    intro D nD
    have pd : ∀ b' o, H1 b' = some o → b' ≠ D := fun b' o z => ne_of_none z nD
    have npD : pn ≠ D := (pen1.off nD).1
    have ncD : cl ≠ D := (pen1.off nD).2
    refine lc_it walk_range (fun i H' => ∃ u : List Nat, u.length = i ∧ (∀ c ∈ u, c ∈ ls) ∧ But pn H H' ∧ Pen H' pn cl (b + 1 + i) ∧ H' D = some (.lst (u.map fun c => .str (S [c])))) ⟨[], rfl, (fun _ h => nomatch h), (fun b' o nb z => (upd_ne (pd b' o (e1 _ _ nb z))).trans (e1 _ _ nb z)), pen1.upd npD ncD, upd_same⟩ (fun _ _ _ _ => True.intro) ?_ ?_
    · rintro i x H2 H3 hi ⟨u, lu, hu, e2, pen2, hD⟩ ⟨rfl, hx⟩
      refine ⟨rfl, yesT ⟨_, rfl, _, rfl, pn, cl, ls, _, rfl, pen2, by omega, by have := LL.L.lo; omega, by have := LL.few; omega, fun c H4 hc e4 pen4 => ?_⟩⟩
      have hD4 := e4 _ _ npD.symm hD
      refine ⟨_, hD4, by rw [List.length_map]; exact small10 (by omega), u ++ [c], by rw [List.length_append, lu]; rfl, fun c' hc' => ?_, fun b' o nb z => ?_, (pen4.mono (by omega)).upd npD ncD, ?_⟩
      · rcases List.mem_append.mp hc' with h | h
        · exact hu c' h
        · rw [List.mem_singleton.mp h]
          exact hc
      · exact (upd_ne (pd b' o (e1 _ _ nb z))).trans (e4 _ _ nb (e2 _ _ nb z))
      · rw [upd_same, List.map_append]
        rfl
    · rintro H2 ⟨u, lu, hu, e2, pen2, hD⟩
      refine ⟨_, D, u.map fun c => S [c], rfl, rfl, .inl ?_, ?_, ?_⟩
      · rw [List.map_map]
        exact SqL.of hD
      · have : ∀ l : List Nat, ((l.map fun c => S [c]).map (·.length)).sum = l.length := fun l => by
          induction l with
          | nil => rfl
          | cons c l ih =>
            simp only [List.map_cons, List.sum_cons, ih, S_len, List.length_cons, List.length_nil]
            omega
        rw [this, List.length_map]
        show u.length + u.length * ("" : Str).length ≤ _
        rw [empty_S, S_len]
        simp only [List.length_nil]
        omega
      · show Q (.str (Txt.join "" _)) H2
        rw [empty_S, joined]
        exact q u H2 (by omega) hu e2 (pen2.mono (by omega))
end
end K03
set_option Elab.async false
set_option linter.all false
set_option maxRecDepth 100001
set_option maxHeartbeats 3999999
namespace K03
open PySem L2
def low6 : List Nat := [97, 98, 99, 100, 101, 102]
def hi6 : List Nat := [117, 118, 119, 120, 121, 122]
theorem low6_S : ("abcdef" : Str) = S low6 := by decide +kernel
theorem hi6_S : ("uvwxyz" : Str) = S hi6 := by decide +kernel
theorem map_erase {α β : Type} (f : α → β) : ∀ (l : List α) (i : Nat), (l.map f).eraseIdx i = (l.eraseIdx i).map f
  | [], _ => rfl
  | _ :: _, 0 => rfl
  | a :: l, i + 1 => by
    rw [List.map_cons, List.eraseIdx_cons_succ, List.eraseIdx_cons_succ, List.map_cons, map_erase f l i]
theorem perm_erase {α : Type} : ∀ (l : List α) (i : Nat) (h : i < l.length), (l[i] :: l.eraseIdx i).Perm l
  | [], _, h => absurd h (Nat.not_lt_zero _)
  | _ :: _, 0, _ => List.Perm.refl _
  | a :: l, i + 1, h => by
    have ih := perm_erase l i (by simpa using h)
    exact (List.Perm.swap a _ _).trans (ih.cons a)
theorem seqIx {k n : Nat} (h : k < n) : seqIndex? ((k : Nat) : Int) n = some k := by
  unfold seqIndex?
  simp
  omega
section
variable {P : Program} {w : World} {K : PySem.W.Frag} {mg : Str → Option Value} {base : Heap}
theorem scLLet : FnScope ["_law_pen_here", "_law_most", "_law_kind", "_law_pool", "_law_found", "_law_k"] ["_law_pen_here", "_law_most"] (defScope sLLet) := ⟨rfl, rfl, rfl, by decide +kernel, rfl, by decide +kernel, by decide +kernel⟩
theorem ok_llet {f : Addr} {fd : FuncData} (F : Fun K "_law_letters" "_law_letters" sLLet f fd) (B : Bi mg) (cD : Cal CX0 P w K mg base 1 "_law_draw" spDraw) : FnOk P w K mg base CX0 3 f fd ["_law_pen_here", "_law_most"] spLLet := by
  refine F.ok scLLet (fun vs H Q E h => ?_) (fun cdv A outer s H vs Q E hr h => ?_)
  · obtain ⟨pn, cl, b, rfl, _⟩ := h
    rfl
  · obtain ⟨pn, cl, b, rfl, pen, hb, q⟩ := h
    refine ⟨_, pss_cons (ps_set (i := 2) scLLet.nd rfl (Or.inl rfl) (pe_c cD hr pass0 (pa_cons (pv 0) (pa_cons pe_int pa_nil))))
      (pss_cons (ps_set (i := 3) scLLet.nd rfl (Or.inl rfl) (pe_callTy (call_listS rfl) rfl B.list (by decide +kernel) (pa_cons (pe_slice sl_str (pe_ix ix_list (pe_lst (pa_cons pe_str (pa_cons pe_str pa_nil))) (pe_op op_fdiv (pv 2) pe_int) (fun _ _ => rfl)) po_none (po_some (pe_op op_add pe_int (pe_op op_mod (pe_int1 B.int (pa_cons (pv 2) pa_nil)) pe_int)))) pa_nil)))
      (pss_cons (ps_set (i := 4) scLLet.nd rfl (Or.inl rfl) pe_str)
      (pss_cons (ps_for PassesOwn.never rfl (pi_range1 rfl B.range (pa_cons (pe_op op_add pe_int (pe_c cD hr pass0 (pa_cons (pv 0) (pa_cons (pe_op op_sub (pv 1) pe_int) pa_nil)))) pa_nil)) (pg_name (i := 5) scLLet.nd rfl (.inl rfl))
        (pss_one (ps_set (i := 4) scLLet.nd rfl (Or.inl rfl) (pe_op op_add_str (pv 4) (pe_bm PySem.F.plainAttrs_list PySem.F.slot_list_pop PySem.F.type_list_pop mt_popAt (pv 3) (pa_cons (pe_c cD hr pass0 (pa_cons (pv 0) (pa_cons (pe_len B.len (pa_cons (pv 3) pa_nil)) pa_nil))) pa_nil))))))
      (pss_one (ps_ret (pv 4)))))), ?_⟩
    refine ⟨_, rfl, pn, cl, _, b, rfl, pen, by omega, by decide, by decide, fun r H1 r0 r1 e1 pen1 => ?_⟩
    obtain ⟨r, rfl⟩ := Int.eq_ofNat_of_zero_le r0
    have r6 : r < 6 := by omega
    obtain ⟨bs, hbs, b6, bi, b97⟩ : ∃ bs : List Nat, atI [V.str ("abcdef" : Str), V.str ("uvwxyz" : Str)] (((r : Nat) : Int) / 3) = some (.str (S bs)) ∧ bs.length = 6 ∧ (bs.Nodup ∧ ∀ c ∈ bs, c ∈ abc) ∧ (97 ∉ bs ∨ 122 ∉ bs) := by
      by_cases c : r < 3
      · rw [show ((r : Nat) : Int) / 3 = ((0 : Nat) : Int) by omega, low6_S]
        exact ⟨low6, atI_nat rfl, rfl, by decide, by decide⟩
      · rw [show ((r : Nat) : Int) / 3 = ((1 : Nat) : Int) by omega, hi6_S]
        exact ⟨hi6, atI_nat rfl, rfl, by decide, by decide⟩
    refine ⟨by decide, fun l0 n0 => ⟨_, rfl, _, _, rfl, rfl, ⟨by decide, by decide⟩, l0, _, _, _, rfl, rfl, SqL.of upd_same, hbs, ?_⟩⟩
    have sb : (S bs).length ≤ sizeLine := Nat.le_of_lt (small10 (by rw [S_len]; omega))
    refine ⟨_, rfl, .inl ⟨_, rfl, _, _, rfl, rfl, (by show (0 : Int) < 3; decide), _, _, rfl, rfl, _, rfl, S bs, rfl, sb, ?_⟩⟩
    have ec : cutS (S bs) none (some (4 + ((r : Nat) : Int) % 3)) = S (bs.take (4 + r % 3)) := by
      rw [show (4 + ((r : Nat) : Int) % 3) = ((4 + r % 3 : Nat) : Int) by omega]
      exact cut_S (by omega)
    rw [ec]
    have lp : (bs.take (4 + r % 3)).length = 4 + r % 3 := by rw [List.length_take]; omega
    have ps : ∀ c ∈ bs.take (4 + r % 3), c ∈ bs := fun c h => List.mem_of_mem_take h
    have pn' : (bs.take (4 + r % 3)).Nodup := (List.take_sublist _ _).nodup bi.1
    generalize bs.take (4 + r % 3) = pool at lp ps pn' ⊢
    refine ⟨_, rfl, Nat.le_of_lt (small10 (by rw [S_len]; omega)), fun po npo => ?_⟩
    have e2 : Same H1 (upd H1 l0 (.lst [.str "abcdef", .str "uvwxyz"])) := same_new n0
    generalize upd H1 l0 (.lst [.str "abcdef", .str "uvwxyz"]) = H2 at e2 npo ⊢
    have pen2 := pen1.same e2
    have x3 : Same H2 (upd H2 po (.lst (sgns (S pool)))) := same_new npo
    have hpo : upd H2 po (.lst (sgns (S pool))) po = some (.lst (sgns (S pool))) := upd_same
    have pen3 := pen2.same x3
    have npp : pn ≠ po := (pen2.off npo).1
    have ncp : cl ≠ po := (pen2.off npo).2
    have nH : ∀ c o, c ≠ pn → H c = some o → c ≠ po := fun c o n z => ne_of_none (e2 _ _ (e1 _ _ n z)) npo
    have bt3 : But pn H (upd H2 po (.lst (sgns (S pool)))) := fun c o n z => x3 _ _ (e2 _ _ (e1 _ _ n z))
    generalize upd H2 po (.lst (sgns (S pool))) = H3 at x3 hpo pen3 bt3 ⊢
    clear x3 pen2 e2 npo n0 pen1 e1 pen
    refine ⟨_, rfl, _, rfl, _, _, rfl, rfl, pn, cl, _, b + 1, rfl, pen3, by omega, by decide, by decide, fun m H4 m0 m1 e4 pen4 => ?_⟩
    obtain ⟨m, rfl⟩ := Int.eq_ofNat_of_zero_le m0
    have m3 : m < 3 := by omega
    have hpo4 := e4 _ _ npp.symm hpo
    have bt4 : But pn H H4 := fun c o n z => e4 _ _ n (bt3 c o n z)
    refine ⟨_, _, rfl, rfl, _, rfl, by omega, by omega, for_range (lo := 0) (n := (2 + ((m : Nat) : Int)).toNat) (fun i σ H' => ∃ (k : Option V) (u rest : List Nat), σ = [some (.ref pn), some (.int 3), some (.int (r : Nat)), some (.ref po), some (.str (S u)), k] ∧ But pn H H' ∧ Pen H' pn cl (b + 2 + i) ∧ H' po = some (.lst (rest.map sgn)) ∧ (u ++ rest).Nodup ∧ (∀ c ∈ u ++ rest, c ∈ bs) ∧ u.length = i ∧ 4 ≤ rest.length + i ∧ rest.length ≤ 6)
      ⟨none, [], pool, by rw [← empty_S]; rfl, bt4, pen4, hpo4, pn', ps, rfl, by omega, by omega⟩ ?_ ?_⟩
    · rintro i σ H5 hi ⟨k, u, rest, rfl, e5, pen5, hpo5, nd, sub, lu, l4, l6⟩
      have lm : (rest.map sgn).length = rest.length := List.length_map ..
      refine ⟨_, rfl, _, rfl, .inl ⟨rfl, _, SqL.of hpo5⟩, _, rfl, _, rfl, po, _, rfl, .inl (SqL.of hpo5), pn, cl, _, b + 2 + i, rfl, pen5, by omega, by rw [lm]; omega, by rw [lm]; omega, fun d H6 d0 d1 e6 pen6 => ?_⟩
      obtain ⟨d, rfl⟩ := Int.eq_ofNat_of_zero_le d0
      rw [lm] at d1
      have d2 : d < rest.length := by omega
      have hpo6 := e6 _ _ npp.symm hpo5
      have eg : (rest.map sgn)[d]? = some (sgn rest[d]) := by rw [List.getElem?_map, List.getElem?_eq_getElem d2]; rfl
      refine ⟨po, _, _, d, _, rfl, rfl, hpo6, by omega, by omega, by rw [lm]; exact seqIx d2, eg, _, S [rest[d]], rfl, rfl, ?_, some (.int (0 + ((i : Nat) : Int))), u ++ [rest[d]], rest.eraseIdx d, ?_, ?_, ?_, ?_, ?_, ?_, ?_, ?_, ?_⟩
      · rw [S_len, S_len]
        exact Nat.le_of_lt (small10 (by simp only [List.length_cons, List.length_nil]; omega))
      · rw [S_app]
        rfl
      · exact fun c o n z => (upd_ne (nH c o n z)).trans (e6 _ _ n (e5 c o n z))
      · exact (pen6.mono (by omega)).upd npp ncp
      · rw [upd_same, map_erase]
      · have pm : (u ++ [rest[d]] ++ rest.eraseIdx d).Perm (u ++ rest) := by
          rw [List.append_assoc]
          exact List.Perm.append_left _ (perm_erase rest d d2)
        exact pm.nodup_iff.mpr nd
      · have pm : (u ++ [rest[d]] ++ rest.eraseIdx d).Perm (u ++ rest) := by
          rw [List.append_assoc]
          exact List.Perm.append_left _ (perm_erase rest d d2)
        exact fun c h => sub c (pm.mem_iff.mp h)
      · rw [List.length_append, lu]
        rfl
      · rw [List.length_eraseIdx_of_lt d2]
        omega
      · rw [List.length_eraseIdx_of_lt d2]
        omega
    · rintro σ H5 ⟨k, u, rest, rfl, e5, pen5, hpo5, nd, sub, lu, l4, l6⟩
      have mu : ∀ c ∈ u, c ∈ bs := fun c h => sub c (List.mem_append_left _ h)
      refine ⟨_, rfl, q u H5 ⟨⟨(List.nodup_append.mp nd).1, by omega, by omega, fun c h => bi.2 c (mu c h)⟩, by omega, b97.imp (fun h z => h (mu _ z)) fun h z => h (mu _ z)⟩ e5 (pen5.mono (by omega))⟩
end
end K03
set_option Elab.async false
set_option linter.all false
set_option maxRecDepth 100001
set_option maxHeartbeats 3999999
namespace K03
open PySem L2
abbrev sLOrd : Stmt := topS 47
theorem lex_key (ls : List Nat) : ∀ v w : List Nat, HT.lexLt (keyI ls v) (keyI ls w) = decide (key ls v < key ls w)
  | [], [] => by simp [keyI, key, HT.lexLt]
  | [], _ :: _ => by simp [keyI, key, HT.lexLt]
  | _ :: _, [] => by simp [keyI, key, HT.lexLt]
  | a :: v, b :: w => by
    have ih := lex_key ls v w
    show HT.lexLt (((ls.idxOf a : Nat) : Int) :: keyI ls v) (((ls.idxOf b : Nat) : Int) :: keyI ls w) = decide ((97 + ls.idxOf a) :: key ls v < (97 + ls.idxOf b) :: key ls w)
    rw [HT.lexLt_cons, ih]
    by_cases c : ls.idxOf a = ls.idxOf b
    · rw [c, if_pos rfl]
      exact decide_eq_decide.mpr (by rw [List.cons_lt_cons_iff]; simp)
    · rw [if_neg (by omega)]
      refine decide_eq_decide.mpr ?_
      rw [List.cons_lt_cons_iff]
      omega
theorem in_txs {w : List Nat} : ∀ {us : List (List Nat)}, inV (.str (S w)) (txs us) = decide (w ∈ us)
  | [] => by simp [inV, txs]
  | u :: us => by
    have ih := in_txs (w := w) (us := us)
    have e : inV (.str (S w)) (txs (u :: us)) = (eqV (.str (S u)) (.str (S w)) || inV (.str (S w)) (txs us)) := by simp [inV, txs]
    have e2 : eqV (.str (S u)) (.str (S w)) = decide (w = u) := by
      show (S u == S w) = _
      rw [Bool.eq_iff_iff, decide_eq_true_iff, beq_iff_eq]
      exact ⟨fun h => (S_inj h).symm, fun h => h ▸ rfl⟩
    rw [e, ih, e2]
    simp only [List.mem_cons, Bool.decide_or]
theorem flat_txs (us : List (List Nat)) : (txs us).all flatV = true := by
  unfold txs
  rw [List.all_map]
  exact List.all_eq_true.mpr fun _ _ => rfl
theorem lt_tri {a b : List Nat} (h : ¬ b < a) (n : a ≠ b) : a < b := (List.le_iff_lt_or_eq.mp (List.not_lt.mp h)).resolve_right n
theorem lt_irr {a : List Nat} (h : a < a) : False := List.lt_irrefl a h
/-- a word put where its key belongs -/
theorem ins_sorted {ls w : List Nat} : ∀ {us : List (List Nat)}, (us.Pairwise fun a b => key ls a < key ls b) → (∀ u ∈ us, key ls u ≠ key ls w) → ((us.take (us.countP fun o => decide (key ls o < key ls w)) ++ [w] ++ us.drop (us.countP fun o => decide (key ls o < key ls w))).Pairwise fun a b => key ls a < key ls b)
  | [], _, _ => by simp
  | a :: us, h, n => by
    obtain ⟨h1, h2⟩ := List.pairwise_cons.mp h
    have ih := ins_sorted h2 fun u m => n u (List.mem_cons_of_mem _ m)
    by_cases c : key ls a < key ls w
    · have ec : (a :: us).countP (fun o => decide (key ls o < key ls w)) = us.countP (fun o => decide (key ls o < key ls w)) + 1 := by simp [List.countP_cons, c]
      rw [ec, List.take_succ_cons, List.drop_succ_cons, List.cons_append, List.cons_append]
      refine List.pairwise_cons.mpr ⟨fun x hx => ?_, ih⟩
      rcases List.mem_append.mp hx with hx | hx
      · rcases List.mem_append.mp hx with hx | hx
        · exact h1 x (List.mem_of_mem_take hx)
        · rw [List.mem_singleton.mp hx]
          exact c
      · exact h1 x (List.mem_of_mem_drop hx)
    · have wa : key ls w < key ls a := lt_tri c fun e => n a List.mem_cons_self e.symm
      have z : us.countP (fun o => decide (key ls o < key ls w)) = 0 := by
        rw [List.countP_eq_zero]
        intro u mu z
        exact lt_irr (List.lt_trans (List.lt_trans wa (h1 u mu)) (of_decide_eq_true z))
      have ec : (a :: us).countP (fun o => decide (key ls o < key ls w)) = us.countP (fun o => decide (key ls o < key ls w)) := by simp [List.countP_cons, c]
      rw [ec, z]
      show List.Pairwise _ (w :: a :: us)
      refine List.pairwise_cons.mpr ⟨fun x hx => ?_, h⟩
      rcases List.mem_cons.mp hx with rfl | hx
      · exact wa
      · exact List.lt_trans wa (h1 x hx)
theorem mem_ins {α : Type} {us : List α} {w x : α} {p : Nat} : x ∈ us.take p ++ [w] ++ us.drop p ↔ x = w ∨ x ∈ us := by
  rw [List.append_assoc, List.mem_append, List.mem_append, List.mem_singleton]
  constructor
  · rintro (h | h | h)
    · exact .inr (List.mem_of_mem_take h)
    · exact .inl h
    · exact .inr (List.mem_of_mem_drop h)
  · rintro (h | h)
    · exact .inr (.inl h)
    · rw [← List.take_append_drop p us, List.mem_append] at h
      exact h.elim .inl fun h => .inr (.inr h)
/-- words that the law draws -/
structure WsL (ls : List Nat) (ws : List (List Nat)) : Prop where
  many : ws.length ≤ 100
  word : ∀ w ∈ ws, w.length ≤ 5 ∧ ∀ c ∈ w, c ∈ ls
/-- these words in their order -/
structure OrdL (ls : List Nat) (ws us : List (List Nat)) : Prop where
  many : us.length ≤ ws.length
  mem : ∀ w, w ∈ us ↔ w ∈ ws
  up : us.Pairwise fun a b => key ls a < key ls b
def spLOrd : Sp := fun vs H Q _ => ∃ s ls ws, vs = [.str (S ls), .ref s] ∧ H s = some (.lst (txs ws)) ∧ LLet ls ∧ WsL ls ws ∧ ∀ t us H', OrdL ls ws us → Same H H' → H' t = some (.lst (txs us)) → Q (.ref t) H'
theorem op_ltLIK {X : Cx} {K : PySem.W.Frag} (hK : X.K = K) (hu : X.A.units < cLine) : OpR X (compareOp .Lt) (rLtLI K) := by
  subst hK
  exact op_ltLI hu
section
variable {P : Program} {w : World} {K : PySem.W.Frag} {mg : Str → Option Value} {base : Heap}
abbrev NOrd : List Str := ["_law_letters_here", "_law_words", "_law_found", "_law_word_here", "_law_place", "_law_other"]
theorem scLOrd : FnScope NOrd ["_law_letters_here", "_law_words"] (defScope sLOrd) := ⟨rfl, rfl, rfl, by decide +kernel, rfl, by decide +kernel, by decide +kernel⟩
theorem ok_lord {f : Addr} {fd : FuncData} (F : Fun K "_law_ordered" "_law_ordered" sLOrd f fd) (B : Bi mg) (cK : Cal CX0 P w K mg base 1 "_law_key" spLKey) : FnOk P w K mg base CX0 2 f fd ["_law_letters_here", "_law_words"] spLOrd := by
  refine F.ok scLOrd (fun vs H Q E h => ?_) (fun cdv A outer s H vs Q E hr h => ?_)
  · obtain ⟨s, ls, ws, rfl, _⟩ := h
    rfl
  · obtain ⟨sq, ls, ws, rfl, hs, LL, W, q⟩ := h
    refine ⟨_, pss_cons (ps_set (i := 2) scLOrd.nd rfl (Or.inl rfl) (pe_lst pa_nil))
      (pss_cons (ps_for PassesOwn.never rfl (pi_sqA (pv 1)) (pg_name (i := 3) scLOrd.nd rfl (.inr rfl))
        (pss_one (ps_if (pt_cmpR op_notIn_seq (pv 3) (pv 2) rfl)
          (pss_cons (ps_set (i := 4) scLOrd.nd rfl (Or.inl rfl) (pe_len B.len (pa_cons (pe_lc (own := [("_law_other", 5)]) rfl scLOrd.nd (pi_sqA (pv 2)) (blkOk_by (N := NOrd) (sc := defScope sLOrd) (by decide +kernel))
            (fun _ _ _ _ _ => pg_name (i := 5) scLOrd.nd rfl (Or.inl rfl)) (fun _ _ _ _ _ => pts_one (pt_cmpR (op_ltLIK (K := K) rfl (by have := hu64 hr; exact Nat.lt_of_le_of_lt (Nat.le_add_right _ _) this)) (pe_c cK hr pass0 (pa_cons (pv 0) (pa_cons (pv 5) pa_nil))) (pe_c cK hr pass0 (pa_cons (pv 0) (pa_cons (pv 3) pa_nil))) (nomark _))) (fun _ _ _ _ _ => pv 5)) pa_nil)))
          (pss_one (ps_expr (pe_bm PySem.F.plainAttrs_list PySem.F.slot_list_insert PySem.F.type_list_insert mt_insert (pv 2) (pa_cons (pv 4) (pa_cons (pv 3) pa_nil)))))) pss_nil)))
      (pss_one (ps_ret (pv 2)))), ?_⟩
    have sOf : ∀ {i : Nat} {v : V}, (txs ws)[i]? = some v → ∃ w, ws[i]? = some w ∧ v = .str (S w) := fun {i v} h => by
      have h : (ws.map fun w => V.str (S w))[i]? = some v := h
      rw [List.getElem?_map] at h
      cases e : ws[i]? with
      | none => rw [e] at h; cases h
      | some w => rw [e] at h; exact ⟨w, rfl, (Option.some.inj h).symm⟩
    refine ⟨by decide, fun fo nfo => ?_⟩
    have nsf : sq ≠ fo := ne_of_none hs nfo
    have nH : ∀ b o, H b = some o → b ≠ fo := fun b o z => ne_of_none z nfo
    refine ⟨_, rfl, sq, _, rfl, .inl (SqL.of ((upd_ne nsf).trans hs)), fun J G wk hG => for_it wk (fun i σ H' => ∃ (a b : Option V) (us : List (List Nat)), σ = [some (.str (S ls)), some (.ref sq), some (.ref fo), a, b, none] ∧ Same H H' ∧ H' fo = some (.lst (txs us)) ∧ us.length ≤ i ∧ (∀ w, w ∈ us ↔ w ∈ ws.take i) ∧ us.Pairwise fun a b => key ls a < key ls b)
      ⟨none, none, [], rfl, same_new nfo, upd_same, Nat.le_refl _, (fun w => by simp), .nil⟩ (fun i σ H' _ ⟨_, _, _, _, e, _⟩ => hG H' fun o z => by rw [upd_ne nsf] at z; exact e _ _ z) ?_ ?_⟩
    · rintro i x σ H1 H2 hi ⟨a, b, us, rfl, e1, hfo, lu, mem, up⟩ ⟨rfl, hx⟩
      obtain ⟨w, hw, rfl⟩ := sOf hx
      have hi2 : i < ws.length := (List.getElem?_eq_some_iff.mp hw).1
      obtain ⟨w5, wl⟩ := W.word w (List.mem_of_getElem? hw)
      have tk : ∀ x, x ∈ ws.take (i + 1) ↔ x = w ∨ x ∈ ws.take i := fun x => by
        rw [List.take_add_one, hw, List.mem_append]
        simp only [Option.toList_some, List.mem_singleton]
        exact or_comm
      have wo : ∀ u ∈ us, u.length ≤ 5 ∧ ∀ c ∈ u, c ∈ ls := fun u m => W.word u (List.mem_of_mem_take ((mem u).mp m))
      refine ⟨_, rfl, _, rfl, fo, _, rfl, .inl (SqL.of hfo), rfl, flat_txs us, _, rfl, ?_⟩
      rw [in_txs]
      by_cases c : w ∈ us
      · rw [decide_eq_true c]
        refine iteF ⟨_, _, us, rfl, e1, hfo, by omega, fun x => ?_, up⟩
        rw [tk x, mem x]
        exact ⟨.inr, fun h => h.elim (fun h => by rw [h]; exact (mem w).mp c) id⟩
      · rw [decide_eq_false c]
        have W14 := W.many
        refine iteT ⟨_, rfl, fo, _, rfl, .inl (SqL.of hfo), fun J2 G2 wk2 hG2 D nD => lc_it wk2 (fun j H' => Same H2 H' ∧ H' D = some (.lst (txs ((us.take j).filter fun o => decide (key ls o < key ls w))))) ⟨same_new nD, upd_same⟩ (fun j H' _ z => hG2 H' fun o z' => z.1 _ _ z') ?_ ?_⟩
        · rintro j y H3 H4 hj ⟨e3, hD⟩ ⟨rfl, hy⟩
          have hj2 : j < us.length := by rwa [strs_len] at hj
          have eu := List.getElem?_eq_getElem hj2
          have ey : y = .str (S us[j]) := by
            have hy : (us.map fun w => V.str (S w))[j]? = some y := hy
            rw [List.getElem?_map, eu] at hy
            exact (Option.some.inj hy).symm
          subst ey
          obtain ⟨u5, ul⟩ := wo us[j] (List.getElem_mem hj2)
          have sm := LL.few
          refine ⟨rfl, _, rfl, _, rfl, ls, us[j], rfl, by omega, by omega, ul, fun t1 H5 e5 h5 => ?_⟩
          refine ⟨_, rfl, _, rfl, ls, w, rfl, by omega, by omega, wl, fun t2 H6 e6 h6 => ?_⟩
          refine ⟨t1, t2, _, _, rfl, rfl, SqL.of (e6 _ _ h5), SqL.of h6, _, rfl, ?_⟩
          rw [lex_key]
          have e46 := (e3.trans e5).trans e6
          have tj : us.take (j + 1) = us.take j ++ [us[j]] := by rw [List.take_add_one, eu]; rfl
          by_cases d : key ls us[j] < key ls w
          · rw [decide_eq_true d]
            refine iteT ⟨_, rfl, _, e6 _ _ (e5 _ _ hD), ?_, fun b' o z => ?_, ?_⟩
            · rw [strs_len]
              exact small10 (Nat.le_trans (List.length_filter_le _ _) (by rw [List.length_take]; omega))
            · rw [upd_ne (ne_of_none z nD)]
              exact e46 _ _ z
            · rw [upd_same, tj, List.filter_append, List.filter_cons_of_pos (by simpa using d)]
              unfold txs
              rw [List.map_append]
              rfl
          · rw [decide_eq_false d]
            refine iteF ⟨e46, ?_⟩
            rw [e6 _ _ (e5 _ _ hD), tj, List.filter_append, List.filter_cons_of_neg (by simpa using d)]
            simp
        · rintro H3 ⟨e3, hD⟩
          rw [strs_len, List.take_length] at hD
          have hfo3 := e3 _ _ hfo
          refine ⟨D, _, rfl, .inl (SqL.of hD), ?_⟩
          rw [strs_len, ← List.countP_eq_length_filter]
          have cl := List.countP_le_length (p := fun o => decide (key ls o < key ls w)) (l := us)
          refine ⟨_, rfl, .inl ⟨rfl, _, SqL.of hfo3⟩, _, rfl, _, rfl, fo, _, _, _, rfl, rfl, hfo3, by rw [strs_len]; exact small10 (by omega), by omega, by omega, ?_⟩
          have iu := ins_sorted (w := w) up fun u m e => c (key_inj (wo u m).2 wl e ▸ m)
          rw [Int.toNat_natCast]
          generalize us.countP (fun o => decide (key ls o < key ls w)) = p at iu cl ⊢
          refine ⟨_, _, us.take p ++ [w] ++ us.drop p, rfl, fun b' o z => (upd_ne (nH b' o z)).trans (e3 _ _ (e1 _ _ z)), ?_, ?_, fun x => ?_, iu⟩
          · rw [upd_same]
            unfold txs
            rw [List.map_append, List.map_append, List.map_take, List.map_drop]
            rfl
          · rw [List.length_append, List.length_append, List.length_take, List.length_drop, List.length_singleton]
            omega
          · rw [mem_ins, tk x, mem x]
    · rintro σ H1 ⟨a, b, us, rfl, e1, hfo, lu, mem, up⟩
      rw [strs_len, List.take_length] at mem
      rw [strs_len] at lu
      exact ⟨_, rfl, q fo us H1 ⟨lu, mem, up⟩ e1 hfo⟩
end
end K03
set_option Elab.async false
set_option linter.all false
set_option maxRecDepth 100001
set_option maxHeartbeats 3999999
namespace K03
open PySem L2
abbrev sNMp (j : Nat) : Stmt := inClass (topS 22) j
/-! ### the errors' own __init__ -/
section
variable {P : Program} {w : World} {K : PySem.W.Frag} {mg : Str → Option Value} {base : Heap}
/-! ### what a raise leaves -/
end
section
variable {X : Cx} {tg e : Expr} {w1 w2 : TI}
open PySem.Spec PyProof.Rows in
open PySem.Spec PyProof.Rows in
end
section
variable {X : Cx} {k j : Nat} {x : Str} {C : Addr} {sp : Sp} {e : Expr} {es : List Expr} {t : TA} {p pos : Pos}
end
/-! ### a map of numbers -/
def mapF (m : Int) (t : Addr) : List (Str × V) := putF "numbers" (.ref t) (putF "many" (.int m) [])
theorem mapF_many (m : Int) (t : Addr) : (mapF m t).lookup ("many" : Str) = some (.int m) := by
  unfold mapF
  rw [lookup_putF, if_neg (by decide +kernel), lookup_putF, if_pos rfl]
theorem mapF_numbers (m : Int) (t : Addr) : (mapF m t).lookup ("numbers" : Str) = some (.ref t) := by
  unfold mapF
  rw [lookup_putF, if_pos rfl]
theorem mapF_no (m : Int) (t : Addr) {x : Str} (h1 : ¬ x = "numbers") (h2 : ¬ x = "many") : (mapF m t).lookup x = none := by
  unfold mapF
  rw [lookup_putF, if_neg h1, lookup_putF, if_neg h2]
  rfl
/-- at p: a map to m new numbers -/
def IsMap (K : PySem.W.Frag) (C : Addr) (H : Hp) (p : Addr) (m : Int) (ns : List V) : Prop := ∃ dx t, H p = some (.ins C dx (mapF m t)) ∧ SqT K H t ns
theorem IsMap.same {K : PySem.W.Frag} {C : Addr} {H H' : Hp} {p : Addr} {m : Int} {ns : List V} (q : IsMap K C H p m ns) (e : Same H H') : IsMap K C H' p m ns :=
  let ⟨dx, t, h1, h2⟩ := q
  ⟨dx, t, e _ _ h1, Same.seqT e h2⟩
/-- what the first element is that does not ascend below m, from least on -/
def scan (m : Int) : Int → Nat → List V → Option Nat
  | _, _, [] => none
  | least, i, .non :: r => scan m least (i + 1) r
  | least, i, .int j :: r => if least ≤ j ∧ j ≤ m - 1 then scan m (j + 1) (i + 1) r else some i
  | _, i, _ :: _ => some i
theorem scan_non (m least : Int) (i : Nat) (r : List V) : scan m least i (.non :: r) = scan m least (i + 1) r := by simp only [scan]
theorem scan_in {m least j : Int} {i : Nat} {r : List V} (h : btw (.int j) least (m - 1) = true) : scan m least i (.int j :: r) = scan m (j + 1) (i + 1) r := by
  simp only [scan]
  rw [if_pos (of_decide_eq_true h)]
theorem scan_out {m least : Int} {v : V} {i : Nat} {r : List V} (n : v ≠ .non) (h : btw v least (m - 1) = false) : scan m least i (v :: r) = some i := by
  cases v with
  | non => exact absurd rfl n
  | int j =>
    simp only [scan]
    rw [if_neg (of_decide_eq_false h)]
  | _ => simp only [scan]
theorem btw_int {v : V} {lo hi : Int} (h : btw v lo hi = true) : ∃ j, v = .int j := by
  cases v with
  | int j => exact ⟨j, rfl⟩
  | _ => cases h
/-- the classes of the module -/
structure TxtM (K : PySem.W.Frag) (C : Addr) : Prop where
  cl : Cls K C
  nM : NoAttr K C "many"
  nN : NoAttr K C "numbers"
abbrev sMInit : Stmt := sNMp 0
section
variable {P : Program} {w : World} {K : PySem.W.Frag} {mg : Str → Option Value} {base : Heap}
theorem scMInit : FnScope ["self", "many", "numbers", "least", "index", "number"] ["self", "many", "numbers"] (defScope sMInit) := ⟨rfl, rfl, rfl, by decide +kernel, rfl, by decide +kernel, by decide +kernel⟩
end
/-! ### None or an int -/
section
variable {X : Cx}
end
end K03
set_option Elab.async false
set_option linter.all false
set_option maxRecDepth 100001
set_option maxHeartbeats 3999999
namespace K03
open PySem L2
abbrev sMEq : Stmt := sNMp 1
abbrev sFoll : Stmt := sNMp 4
abbrev sRanB : Stmt := sNMp 5
abbrev sFWR : Stmt := topS 23
abbrev sRanges : Stmt := topS 24
/-- what more the class is known by -/
structure TxEM (K : PySem.W.Frag) (C : Addr) : Prop where
  cc : PySem.W.findIn K (.ref C) "__class__" = some (some (.builtin "object.__class__"))
  gg : PySem.W.specialIn K (.builtin "object.__class__") "__get__" = some (some (.builtin "getset_descriptor.__get__"))
  tk : PySem.W.takesIn K (.builtin "object.__class__") = some true
  mr : PySem.W.mroIn K C (.type "object") = some true
  kT : PySem.W.kitOne K (.type "tuple") (.ref C) = some false
theorem IsMap.ty {K : PySem.W.Frag} {C : Addr} {H : Hp} {p : Addr} {m : Int} {ns : List V} (T : TxtM K C) (E : TxEM K C) (q : IsMap K C H p m ns) : TyX K H (.ref p) (.ref C) :=
  let ⟨_, _, h1, _⟩ := q
  .base (.ins h1 T.cl E.cc E.gg E.tk E.mr)
/-- one == other -/
def spEqM (K : PySem.W.Frag) (C : Addr) : Sp := fun vs H Q _ => ∃ p y m ns, vs = [.ref p, y] ∧ IsMap K C H p m ns ∧
  ((∃ q m2 ns2, y = .ref q ∧ IsMap K C H q m2 ns2 ∧ (∀ v ∈ ns, Num v) ∧ (∀ v ∈ ns2, Num v) ∧ Q (.bl (decide (m = m2) && decide (ns = ns2))) H) ∨ (∃ t xs, y = .ref t ∧ H t = some (.tup xs) ∧ Q (.bl false) H))
section
variable {P : Program} {w : World} {K : PySem.W.Frag} {mg : Str → Option Value} {base : Heap}
theorem scMEq : FnScope ["self", "other"] ["self", "other"] (defScope sMEq) := ⟨rfl, rfl, rfl, by decide +kernel, rfl, by decide +kernel, by decide +kernel⟩
theorem ok_meq {f C : Addr} {fd : FuncData} (F : Fun K "__eq__" "NumberMap.__eq__" sMEq f fd) (B : Bi mg) (T : TxtM K C) (TE : TxEM K C) (gC : mg "NumberMap" = some (.ref C)) : FnOk P w K mg base CX0 1 f fd ["self", "other"] (spEqM K C) := by
  refine F.ok scMEq (fun vs H Q E h => ?_) (fun cdv A outer s H vs Q E hr h => ?_)
  · obtain ⟨p, y, m, ns, rfl, _⟩ := h
    rfl
  · obtain ⟨p, y, m, ns, rfl, M, h⟩ := h
    refine ⟨_, pss_one (ps_ret (pe_and (pe_isi B.isi (pa_cons (pv 1) (pa_cons (pe_glob (v := .ref C) rfl gC rfl) pa_nil))) (pe_and (pe_cmpR op_eq (pe_fld (pv 0) rfl) (pe_fld (pv 1) rfl) (nomark _)) (pe_one (pe_cmpR (op_eqN (hu64 hr)) (pe_fld (pv 0) rfl) (pe_fld (pv 1) rfl) (nomark _)))))), ?_⟩
    obtain ⟨dx, t, h1, h2⟩ := id M
    rcases h with ⟨q, m2, ns2, rfl, M2, n1, n2, h⟩ | ⟨t2, xs, rfl, ht, h⟩
    · obtain ⟨dx2, t2, g1, g2⟩ := id M2
      refine ⟨_, rfl, _, _, _, _, _, rfl, .own C, M2.ty T TE, kit_self, _, rfl, ?_⟩
      refine ⟨_, rfl, p, C, dx, _, _, rfl, h1, T.cl, T.nM, mapF_many _ _, _, rfl, q, C, dx2, _, _, rfl, g1, T.cl, T.nM, mapF_many _ _, rfl, _, rfl, ?_⟩
      rw [dec_int]
      cases e : m == m2 with
      | true =>
        have em : m = m2 := by simpa using e
        rw [decide_eq_true em, Bool.true_and] at h
        exact ⟨_, rfl, p, C, dx, _, _, rfl, h1, T.cl, T.nN, mapF_numbers _ _, _, rfl, q, C, dx2, _, _, rfl, g1, T.cl, T.nN, mapF_numbers _ _, t, t2, ns, ns2, rfl, rfl, .inr ⟨h2, g2⟩, n1, n2, h⟩
      | false =>
        have em : ¬ m = m2 := by simpa using e
        rw [decide_eq_false em, Bool.false_and] at h
        exact h
    · exact ⟨_, rfl, _, _, _, _, _, rfl, .own C, .base (.tup ht), TE.kT, _, rfl, h⟩
end
section
variable {P : Program} {w : World} {K : PySem.W.Frag} {mg : Str → Option Value} {base : Heap}
end
section
variable {X : Cx} (K : PySem.W.Frag)
end
/-- the one map, then the other -/
def compF (ms : List V) : V → V
  | .int j => ms.getD j.toNat .non
  | _ => .non
section
variable {P : Program} {w : World} {K : PySem.W.Frag} {mg : Str → Option Value} {base : Heap}
theorem scFoll : FnScope ["self", "other", "behind", "number"] ["self", "other"] (defScope sFoll) := ⟨rfl, rfl, rfl, by decide +kernel, rfl, by decide +kernel, by decide +kernel⟩
end
/-- NumberMap(many, numbers) of what ascends -/
def spMInit (K : PySem.W.Frag) (C : Addr) : Sp := fun vs H Q _ => ∃ (p dx s : Addr) (m : Int) (ns : List V), vs = [.ref p, .int m, .ref s] ∧ H p = some (.ins C dx []) ∧ Sq K H s ns ∧ (∀ v ∈ ns, Num v) ∧ 0 ≤ m ∧ m ≤ 2000 ∧ ns.length ≤ 2000 ∧ scan m 0 0 ns = none ∧
  ∀ t H', (∀ b o, b ≠ p → H b = some o → H' b = some o) → H' p = some (.ins C dx (mapF m t)) → SqT K H' t ns → Q .non H'
section
variable {P : Program} {w : World} {K : PySem.W.Frag} {mg : Str → Option Value} {base : Heap}
theorem ok_minit {f C : Addr} {fd : FuncData} (F : Fun K "__init__" "NumberMap.__init__" sMInit f fd) (B : Bi mg) (T : TxtM K C) (cB : Cal CX0 P w K mg base 2 "is_between" spBetween) : FnOk P w K mg base CX0 3 f fd ["self", "many", "numbers"] (spMInit K C) := by
  refine F.ok scMInit (fun vs H Q E h => ?_) (fun cdv A outer s H vs Q E hr h => ?_)
  · obtain ⟨p, dx, s, m, ns, rfl, _⟩ := h
    rfl
  · obtain ⟨p, dx, sq, m, ns, rfl, hp, hs, num, m0, m1, len, sn, out⟩ := h
    refine ⟨_, pss_cons (ps_if (pt_not (pt_val (pe_c cB hr pass0 (pa_cons (pv 1) (pa_cons pe_int (pa_cons pe_int pa_nil)))))) pss_never pss_nil)
      (pss_cons (ps_if (pt_cmpR op_gt (pe_len B.len (pa_cons (pv 2) pa_nil)) pe_int (nomark _)) pss_never pss_nil)
      (pss_cons (ps_set (i := 3) scMInit.nd rfl (Or.inl rfl) pe_int)
      (pss_cons (ps_for PassesOwn.never rfl (pi_en B.enum (pa_cons (pv 2) pa_nil)) (pg_tup rfl (pgs_cons (pg_name (i := 4) scMInit.nd rfl (.inl rfl)) (pgs_cons (pg_name (i := 5) scMInit.nd rfl (.inl rfl)) pgs_nil)))
          (pss_one (ps_if (pt_cmpR op_notN (pv 5) pe_non (nomark _)) (pss_cons (ps_if (pt_not (pt_val (pe_c cB hr pass0 (pa_cons (pv 5) (pa_cons (pv 3) (pa_cons (pe_op op_sub (pv 1) pe_int) pa_nil))))))
            pss_never pss_nil) (pss_one (ps_set (i := 3) scMInit.nd rfl (Or.inl rfl) (pe_op op_add (pv 5) pe_int)))) pss_nil)))
      (pss_cons (ps_fld (pv 0) (pv 1) rfl) (pss_one (ps_fld (pv 0) (pe_tupleOf rfl B.tuple (pv 2)) rfl)))))), ?_⟩
    refine ⟨_, rfl, _, 0, 2000, rfl, .int _, _, rfl, ?_⟩
    rw [show btw (.int m) 0 2000 = true from decide_eq_true ⟨m0, m1⟩]
    refine iteF ⟨_, rfl, sq, ns, rfl, hs, _, _, rfl, rfl, _, rfl, ?_⟩
    rw [decide_eq_false (show ¬ (2000 : Int) < (ns.length : Int) by omega)]
    refine iteF ⟨_, rfl, sq, ns, rfl, hs, fun J G wk hG => for_it wk (fun i σ H' => ∃ (least : Int) (a b : Option V), σ = [some (.ref p), some (.int m), some (.ref sq), some (.int least), a, b] ∧ Same H H' ∧ scan m least i (ns.drop i) = scan m 0 0 ns) ⟨0, none, none, rfl, Same.refl H, rfl⟩
      (fun i σ H' _ ⟨_, _, _, _, e, _⟩ => hG H' fun o z => e _ _ z) ?_ ?_⟩
    · rintro i x σ H1 H2 hi ⟨least, a, b, rfl, e, sc⟩ ⟨T0, y, v, rfl, nT0, rfl, ey, hv⟩
      have ey : y = .int (i : Nat) := (Option.some.inj ey).symm
      subst ey
      have e2 : Same H (upd H1 T0 (.tup [.int (i : Nat), v])) := e.trans (same_new nT0)
      have kv : Kn (upd H1 T0 (.tup [.int (i : Nat), v])) v := num_kn (num v (List.mem_of_getElem? hv))
      have dr : ns.drop i = v :: ns.drop (i + 1) := by
        obtain ⟨lt, eq⟩ := List.getElem?_eq_some_iff.mp hv
        rw [List.drop_eq_getElem_cons lt, eq]
      rw [dr] at sc
      refine ⟨T0, _, rfl, SqT.of upd_same, rfl, _, _, rfl, _, _, rfl, rfl, ?_⟩
      refine ⟨v, rfl, rfl, _, rfl, ?_⟩
      refine ite2 (fun c => ?_) fun c => ?_
      · have nv : v ≠ .non := fun z => by
          rw [z] at c
          exact absurd c (by decide)
        refine ⟨v, rfl, _, rfl, _, rfl, _, _, rfl, rfl, v, least, m - 1, rfl, kv, _, rfl, ?_⟩
        cases eb : btw v least (m - 1) with
        | true =>
          obtain ⟨j, rfl⟩ := btw_int eb
          refine iteF ⟨_, rfl, _, _, rfl, rfl, j + 1, _, _, rfl, e2, ?_⟩
          rw [← sc, scan_in eb]
        | false =>
          have sc2 := scan_out (r := ns.drop (i + 1)) (i := i) nv eb
          rw [sc2, sn] at sc
          cases sc
      · have nv : v = .non := Classical.byContradiction fun z => c (by simp [z])
        subst nv
        exact ⟨least, _, _, rfl, e2, by rw [← sc, scan_non]⟩
    · rintro σ H1 ⟨least, a, b, rfl, e, sc⟩
      rw [List.drop_length] at sc
      refine ⟨_, rfl, _, rfl, p, C, dx, [], rfl, e _ _ hp, T.cl, T.nM, by show 0 < 1000; decide, _, rfl, ?_⟩
      have h1 : Sq K (upd H1 p (.ins C dx (putF "many" (.int m) []))) sq ns := by
        rcases hs.same e with h | h
        · rcases h with (h | ⟨o, h⟩) | h
          · exact .inl (.inl (.inl ((upd_ne (ne_of h (e _ _ hp) (fun z => by cases z))).trans h)))
          · exact .inl (.inl (.inr ⟨o, (upd_ne (ne_of h (e _ _ hp) (fun z => by cases z))).trans h⟩))
          · exact .inl (.inr h)
        · rcases h with (h | ⟨o, h⟩) | h
          · exact .inr (.inl (.inl ((upd_ne (ne_of h (e _ _ hp) (fun z => by cases z))).trans h)))
          · exact .inr (.inl (.inr ⟨o, (upd_ne (ne_of h (e _ _ hp) (fun z => by cases z))).trans h⟩))
          · exact .inr (.inr h)
      have keep : ∀ {b o}, b ≠ p → H b = some o → upd H1 p (.ins C dx (putF "many" (.int m) [])) b = some o := fun {b o} n z => (upd_ne n).trans (e _ _ z)
      rcases h1 with h1 | h1
      · refine .inl ⟨sq, ns, rfl, h1, fun t nt => ⟨_, rfl, p, C, dx, _, rfl, (upd_ne (ne_of_none upd_same nt)).trans upd_same, T.cl, T.nN, by show 1 < 1000; decide, ?_⟩⟩
        refine out t _ (fun b o n z => (upd_ne n).trans ((upd_ne (ne_of_none (keep n z) nt)).trans (keep n z))) upd_same (SqT.of ((upd_ne (Ne.symm (ne_of_none upd_same nt))).trans upd_same))
      · refine .inr ⟨sq, ns, rfl, h1, _, rfl, p, C, dx, _, rfl, upd_same, T.cl, T.nN, by show 1 < 1000; decide, ?_⟩
        refine out sq _ (fun b o n z => (upd_ne n).trans (keep n z)) upd_same ?_
        rcases h1 with (h | ⟨o, h⟩) | h
        · exact .inl (.inl ((upd_ne (ne_of h upd_same (fun z => by cases z))).trans h))
        · exact .inl (.inr ⟨o, (upd_ne (ne_of h upd_same (fun z => by cases z))).trans h⟩)
        · exact .inr h
end
theorem made_ok {K : PySem.W.Frag} {C : Addr} {H : Hp} {s : Addr} {ns : List V} {m : Int} {Rx : Addr → VK} {E : XK} (hs : Sq K H s ns) (num : ∀ v ∈ ns, Num v) (m0 : 0 ≤ m) (m1 : m ≤ 2000) (len : ns.length ≤ 2000) (sc : scan m 0 0 ns = none)
    (k : ∀ r H', Same H H' → H r = none → IsMap K C H' r m ns → Rx r .non H') : ∀ x dx, H x = none → H dx = none → dx ≠ x → spMInit K C (.ref x :: ([.int m, .ref s] ++ [])) (upd (upd H dx (.own x)) x (.ins C dx [])) (Rx x) E := by
  intro x dx nx nd ne
  have s0 : Same H (upd (upd H dx (.own x)) x (.ins C dx [])) := fun b o e => by
    rw [upd_ne (ne_of_none e nx), upd_ne (ne_of_none e nd)]
    exact e
  exact ⟨x, dx, s, m, ns, rfl, upd_same, hs.same s0, num, m0, m1, len, sc, fun t H' kp h1 h2 => k x H' (Same.made (C := C) nx nd fun b o z nb => kp b o nb z) nx ⟨dx, t, h1, h2⟩⟩
def spFoll (K : PySem.W.Frag) (C : Addr) : Sp := fun vs H Q _ => ∃ (p q : Addr) (m m2 : Int) (ns ms : List V), vs = [.ref p, .ref q] ∧ IsMap K C H p m ns ∧ IsMap K C H q m2 ms ∧
  (ms.length : Int) = m ∧ (∀ v ∈ ns, v = .non ∨ ∃ j : Nat, v = .int (j : Nat) ∧ j < ms.length) ∧ (∀ v ∈ ms, Num v) ∧ 0 ≤ m2 ∧ m2 ≤ 2000 ∧ ns.length ≤ 2000 ∧ scan m2 0 0 (ns.map (compF ms)) = none ∧
  ∀ r H', Same H H' → H r = none → IsMap K C H' r m2 (ns.map (compF ms)) → Q (.ref r) H'
section
variable {P : Program} {w : World} {K : PySem.W.Frag} {mg : Str → Option Value} {base : Heap}
theorem ok_foll {f C : Addr} {fd : FuncData} (F : Fun K "followed_by" "NumberMap.followed_by" sFoll f fd) (B : Bi mg) (T : TxtM K C) (mk : Mak CX0 P w K mg base 3 "NumberMap" C (spMInit K C)) : FnOk P w K mg base CX0 5 f fd ["self", "other"] (spFoll K C) := by
  refine F.ok scFoll (fun vs H Q E h => ?_) (fun cdv A outer s H vs Q E hr h => ?_)
  · obtain ⟨p, q, m, m2, ns, ms, rfl, _⟩ := h
    rfl
  · obtain ⟨p, q, m, m2, ns, ms, rfl, ⟨dx, t, h1, h2⟩, ⟨dy, u, g1, g2⟩, out⟩ := h
    refine ⟨_, pss_cons (ps_if (pt_cmpR op_ne (pe_len B.len (pa_cons (pe_fld (pv 1) rfl) pa_nil)) (pe_fld (pv 0) rfl) (nomark _)) pss_never pss_nil)
      (pss_cons (ps_setLc (i := 2) (own := [("number", 3)]) rfl scFoll.nd rfl rfl (sw_true rfl rfl rfl (by decide +kernel)) (pi_sq (pe_fld (pv 0) rfl)) (blkOk_by (N := ["self", "other", "behind", "number"]) (sc := defScope sFoll) (by decide +kernel))
        (fun _ _ _ _ _ => pg_name (i := 3) scFoll.nd rfl (Or.inl rfl)) (fun _ _ _ _ _ => pts_nil) (fun _ _ _ _ _ => pe_ifExp (pt_cmpR op_isN (pv 3) pe_non (nomark _)) pe_non (pe_ix (ix_tupK K rfl) (pe_fldK K rfl (pv 1)) (pv 3) (fun _ _ => rfl))))
      (pss_one (ps_ret (pe_mk mk hr pass0 (pa_cons (pe_fld (pv 1) rfl) (pa_cons (pv 2) pa_nil)))))), ?_⟩
    refine ⟨_, rfl, q, C, dy, _, _, rfl, g1, T.cl, T.nN, mapF_numbers _ _, u, ms, rfl, .inr g2, _, rfl, p, C, dx, _, _, rfl, h1, T.cl, T.nM, mapF_many _ _, rfl, _, rfl, ?_⟩
    rw [dec_int]
    obtain ⟨e1, nn, nm, m0, m1, len, sc, out⟩ := out
    · rw [show ((ms.length : Int) == m) = true by simpa using e1]
      refine iteF ⟨_, rfl, p, C, dx, _, _, rfl, h1, T.cl, T.nN, mapF_numbers _ _, t, ns, rfl, .inr h2, fun J G wk hG L nL => lc_it wk
        (fun i H' => Same H H' ∧ H' L = some (.lst ((ns.take i).map (compF ms)))) ⟨same_new nL, upd_same⟩ (fun i H' _ z => hG H' z.1) ?_ ?_⟩
      · rintro i x H1 H2 hi ⟨e, hL⟩ ⟨rfl, hx⟩
        refine ⟨rfl, ?_⟩
        unfold tYes
        refine iteT ?_
        have tk : ns.take (i + 1) = ns.take i ++ [x] := by
          obtain ⟨lt, eq⟩ := List.getElem?_eq_some_iff.mp hx
          rw [List.take_succ_eq_append_getElem lt, eq]
        have fin : ∀ y, y = compF ms x → ∃ acc, H2 L = some (.lst acc) ∧ acc.length < sizeLine ∧ Same H (upd H2 L (.lst (acc ++ [y]))) ∧ upd H2 L (.lst (acc ++ [y])) L = some (.lst ((ns.take (i + 1)).map (compF ms))) := fun y ey => by
          refine ⟨_, hL, small2000 (by rw [List.length_map, List.length_take]; omega), fun b o z => ?_, ?_⟩
          · rw [upd_ne (ne_of_none z nL)]
            exact e _ _ z
          · rw [upd_same, tk, List.map_append, ey]
            rfl
        refine ⟨x, rfl, rfl, _, rfl, ?_⟩
        rcases nn x (List.mem_of_getElem? hx) with rfl | ⟨j, rfl, hj⟩
        · refine ite2 (fun _ => fin _ rfl) fun c => absurd (by decide) c
        · refine ite2 (fun c => absurd c (by simp)) fun _ => ?_
          have hv : ms[j]? = some (compF ms (.int (j : Nat))) := by
            show ms[j]? = some (ms.getD ((j : Nat) : Int).toNat .non)
            rw [Int.toNat_natCast, List.getD_eq_getElem?_getD, List.getElem?_eq_getElem hj]
            rfl
          exact ⟨_, rfl, q, C, dy, _, _, rfl, e _ _ g1, T.cl, T.nN, mapF_numbers _ _, _, rfl, u, ms, _, _, rfl, rfl, Same.seqT e g2, atI_nat hv, fin _ rfl⟩
      · rintro H2 ⟨e, hL⟩
        rw [List.take_length] at hL
        refine ⟨_, rfl, q, C, dy, _, _, rfl, e _ _ g1, T.cl, T.nM, mapF_many _ _, _, rfl, ?_⟩
        refine made_ok (.inl (SqL.of hL)) (fun v hv => ?_) m0 m1 (by rw [List.length_map]; exact len) sc fun r H3 e3 nr M => ⟨rfl, out r H3 (e.trans e3) (e.free nr) M⟩
        obtain ⟨x, hx, rfl⟩ := List.mem_map.mp hv
        rcases nn x hx with rfl | ⟨j, rfl, hj⟩
        · exact .inl rfl
        · show Num (ms.getD ((j : Nat) : Int).toNat .non)
          rw [Int.toNat_natCast, List.getD_eq_getElem?_getD, List.getElem?_eq_getElem hj]
          exact nm _ (List.getElem_mem hj)
end

end K03
set_option Elab.async false
set_option linter.all false
set_option maxRecDepth 100001
set_option maxHeartbeats 3999999
namespace K03
open PySem L2
/-! ### ranges -/
/-- a pair's content -/
def pairOf (H : Hp) : V → Option (V × V)
  | .ref a => match H a with
    | some (.tup [x, y]) => some (x, y)
    | _ => none
  | _ => none
theorem pairOf_tup {H : Hp} {a : Addr} {x y : V} (e : H a = some (.tup [x, y])) : pairOf H (.ref a) = some (x, y) := by simp only [pairOf, e]
/-- the first one of ranges of the numbers below n that does not stand as it must -/
def rwrong (H : Hp) (n : Int) : Int → Nat → List V → Option Nat
  | _, _, [] => none
  | least, i, v :: r => match pairOf H v with
    | some (x, y) => match x with
      | .int f => if least ≤ f ∧ f ≤ n - 1 then (match y with
          | .int l => if f ≤ l ∧ l ≤ n - 1 then rwrong H n (l + 2) (i + 1) r else some i
          | _ => some i) else some i
      | _ => some i
    | none => some i
theorem rwrong_ok {H : Hp} {n least f l : Int} {i : Nat} {v : V} {r : List V} (e : pairOf H v = some (.int f, .int l)) (h1 : btw (.int f) least (n - 1) = true) (h2 : btw (.int l) f (n - 1) = true) : rwrong H n least i (v :: r) = rwrong H n (l + 2) (i + 1) r := by
  simp only [rwrong, e]
  rw [if_pos (of_decide_eq_true h1), if_pos (of_decide_eq_true h2)]
theorem rwrong_none {H : Hp} {n least : Int} {i : Nat} {v : V} {r : List V} (e : pairOf H v = none) : rwrong H n least i (v :: r) = some i := by simp only [rwrong, e]
theorem rwrong_1 {H : Hp} {n least : Int} {i : Nat} {v x y : V} {r : List V} (e : pairOf H v = some (x, y)) (h1 : btw x least (n - 1) = false) : rwrong H n least i (v :: r) = some i := by
  simp only [rwrong, e]
  cases x with
  | int f => simp only; rw [if_neg (of_decide_eq_false h1)]
  | _ => rfl
theorem rwrong_2 {H : Hp} {n least f : Int} {i : Nat} {v y : V} {r : List V} (e : pairOf H v = some (.int f, y)) (h1 : btw (.int f) least (n - 1) = true) (h2 : btw y f (n - 1) = false) : rwrong H n least i (v :: r) = some i := by
  simp only [rwrong, e]
  rw [if_pos (of_decide_eq_true h1)]
  cases y with
  | int l => simp only; rw [if_neg (of_decide_eq_false h2)]
  | _ => rfl
/-- a known value, its items known, too -/
structure Kp (H : Hp) (v : V) : Prop where
  kn : Kn H v
  items : ∀ a xs, v = .ref a → H a = some (.tup xs) → ∀ x ∈ xs, Kn H x
def oI : Option Nat → V
  | none => .non
  | some i => .int (i : Nat)
def spFWR (K : PySem.W.Frag) : Sp := fun vs H Q _ => ∃ s n ps, vs = [.ref s, .int n] ∧ Sq K H s ps ∧ (∀ v ∈ ps, Kp H v) ∧ ∀ H', Same H H' → Q (oI (rwrong H n 0 0 ps)) H'
section
variable {P : Program} {w : World} {K : PySem.W.Frag} {mg : Str → Option Value} {base : Heap}
theorem scFWR : FnScope ["ranges", "many", "least", "index", "pair", "first", "last"] ["ranges", "many"] (defScope sFWR) := ⟨rfl, rfl, rfl, by decide +kernel, rfl, by decide +kernel, by decide +kernel⟩
theorem kp_pair {H : Hp} {v : V} (k : Kp H v) : (isTn H v 2 = false ∧ pairOf H v = none) ∨ (isTn H v 2 = true ∧ ∃ a x y, v = .ref a ∧ H a = some (.tup [x, y]) ∧ pairOf H v = some (x, y) ∧ Kn H x ∧ Kn H y) := by
  cases hk : k.kn with
  | @tup a xs e =>
    match xs, e with
    | [x, y], e => exact .inr ⟨by simp [isTn, e], a, x, y, rfl, e, pairOf_tup e, k.items a _ rfl e x (by simp), k.items a _ rfl e y (by simp)⟩
    | [], e => exact .inl ⟨by simp [isTn, e], by simp [pairOf, e]⟩
    | [x], e => exact .inl ⟨by simp [isTn, e], by simp [pairOf, e]⟩
    | x :: y :: z :: r, e => exact .inl ⟨by simp [isTn, e]; omega, by simp [pairOf, e]⟩
  | lst e => exact .inl ⟨by simp [isTn, e], by simp [pairOf, e]⟩
  | _ => exact .inl ⟨rfl, rfl⟩
theorem kp_same {H H' : Hp} {v : V} (e : Same H H') (k : Kp H v) : isTn H' v 2 = isTn H v 2 := by
  cases k.kn with
  | tup h => simp [isTn, h, e _ _ h]
  | lst h => simp [isTn, h, e _ _ h]
  | _ => rfl
theorem ok_fwr {f : Addr} {fd : FuncData} (F : Fun K "first_wrong_range" "first_wrong_range" sFWR f fd) (B : Bi mg) (cT : Cal CX0 P w K mg base 1 "is_tuple_of" spTupOf) (cB : Cal CX0 P w K mg base 2 "is_between" spBetween) : FnOk P w K mg base CX0 3 f fd ["ranges", "many"] (spFWR K) := by
  refine F.ok scFWR (fun vs H Q E h => ?_) (fun cdv A outer s H vs Q E hr h => ?_)
  · obtain ⟨s, n, ps, rfl, _⟩ := h
    rfl
  · obtain ⟨s0, n, ps, rfl, hs, kp, q⟩ := h
    refine ⟨_, pss_cons (ps_set (i := 2) scFWR.nd rfl (Or.inl rfl) pe_int) (pss_cons (ps_for PassesOwn.never rfl (pi_en B.enum (pa_cons (pv 0) pa_nil)) (pg_tup rfl (pgs_cons (pg_name (i := 3) scFWR.nd rfl (.inl rfl)) (pgs_cons (pg_name (i := 4) scFWR.nd rfl (.inl rfl)) pgs_nil)))
        (pss_cons (ps_if (pt_not (pt_val (pe_c cT hr pass0 (pa_cons (pv 4) (pa_cons pe_int pa_nil))))) (pss_one (ps_ret (pv 3))) pss_nil)
        (pss_cons (ps_asg (pv 4) (pg_tup rfl (pgs_cons (pg_name (i := 5) scFWR.nd rfl (.inl rfl)) (pgs_cons (pg_name (i := 6) scFWR.nd rfl (.inl rfl)) pgs_nil))))
        (pss_cons (ps_if (PW.pt (pw_or (pt_not (pt_val (pe_c cB hr pass0 (pa_cons (pv 5) (pa_cons (pv 2) (pa_cons (pe_op op_sub (pv 1) pe_int) pa_nil)))))) (pw_or1 (pt_not (pt_val (pe_c cB hr pass0 (pa_cons (pv 6) (pa_cons (pv 5) (pa_cons (pe_op op_sub (pv 1) pe_int) pa_nil))))))))) (pss_one (ps_ret (pv 3))) pss_nil)
        (pss_one (ps_set (i := 2) scFWR.nd rfl (Or.inl rfl) (pe_op op_add (pv 6) pe_int)))))))
      (pss_one (ps_ret pe_non))), ?_⟩
    refine ⟨_, rfl, s0, ps, rfl, hs, fun J G wk hG => for_it wk (fun i σ H' => ∃ (least : Int) (a b c d : Option V), σ = [some (.ref s0), some (.int n), some (.int least), a, b, c, d] ∧ Same H H' ∧ rwrong H n least i (ps.drop i) = rwrong H n 0 0 ps) ⟨0, none, none, none, none, rfl, Same.refl H, rfl⟩
      (fun i σ H' _ ⟨_, _, _, _, _, _, e, _⟩ => hG H' fun o z => e _ _ z) ?_ ?_⟩
    · rintro i x σ H1 H2 hi ⟨least, a, b, c, d, rfl, e, sc⟩ ⟨T0, y, v, rfl, nT0, rfl, ey, hv⟩
      have ey : y = .int (i : Nat) := (Option.some.inj ey).symm
      subst ey
      have e2 : Same H (upd H1 T0 (.tup [.int (i : Nat), v])) := e.trans (same_new nT0)
      have kv : Kp H v := kp v (List.mem_of_getElem? hv)
      have dr : ps.drop i = v :: ps.drop (i + 1) := by
        obtain ⟨lt, eq⟩ := List.getElem?_eq_some_iff.mp hv
        rw [List.drop_eq_getElem_cons lt, eq]
      rw [dr] at sc
      have stop : rwrong H n least i (v :: ps.drop (i + 1)) = some i → Q (.int (i : Nat)) (upd H1 T0 (.tup [.int (i : Nat), v])) := fun z => by
        have q2 := q _ e2
        rw [← sc, z] at q2
        exact q2
      refine ⟨T0, _, rfl, SqT.of upd_same, rfl, _, _, rfl, _, _, rfl, rfl, ?_⟩
      refine ⟨v, rfl, v, 2, rfl, kv.kn.same e2, _, rfl, ?_⟩
      rw [kp_same e2 kv]
      rcases kp_pair kv with ⟨p1, p2⟩ | ⟨p1, a0, x, y, rfl, ha, p2, kx, ky⟩
      · rw [p1]
        exact iteT ⟨_, rfl, stop (rwrong_none p2)⟩
      rw [p1]
      refine iteF ⟨_, rfl, a0, [x, y], rfl, SqT.of (e2 _ _ ha), rfl, _, _, rfl, _, _, rfl, rfl, ?_⟩
      refine ⟨x, rfl, _, rfl, _, rfl, _, _, rfl, rfl, x, least, n - 1, rfl, kx.same e2, _, rfl, ?_⟩
      cases e3 : btw x least (n - 1) with
      | false => exact iteT (iteT ⟨_, rfl, stop (rwrong_1 p2 e3)⟩)
      | true =>
        obtain ⟨f0, rfl⟩ := btw_int e3
        refine iteF ⟨y, rfl, _, rfl, _, rfl, _, _, rfl, rfl, y, f0, n - 1, rfl, ky.same e2, _, rfl, ?_⟩
        cases e4 : btw y f0 (n - 1) with
        | false => exact iteT ⟨_, rfl, stop (rwrong_2 p2 e3 e4)⟩
        | true =>
          obtain ⟨l0, rfl⟩ := btw_int e4
          refine iteF ⟨_, rfl, _, _, rfl, rfl, l0 + 2, _, _, _, _, rfl, e2, ?_⟩
          rw [← sc, rwrong_ok p2 e3 e4]
    · rintro σ H1 ⟨least, a, b, c, d, rfl, e, sc⟩
      rw [List.drop_length] at sc
      have q2 := q _ e
      rw [← sc] at q2
      exact q2
end
/-! ### ranges of ascending numbers -/
def rstep (acc : List (Int × Int)) (n : Int) : List (Int × Int) := match acc.getLast? with
  | some p => if p.2 = n - 1 then acc.dropLast ++ [(p.1, n)] else acc ++ [(n, n)]
  | none => acc ++ [(n, n)]
def rngs (is : List Int) : List (Int × Int) := is.foldl rstep []
theorem rstep_nil (n : Int) : rstep [] n = [(n, n)] := rfl
theorem rstep_join (acc : List (Int × Int)) (p : Int × Int) (n : Int) (h : p.2 = n - 1) : rstep (acc ++ [p]) n = acc ++ [(p.1, n)] := by
  unfold rstep
  rw [List.getLast?_concat]
  show (if p.2 = n - 1 then (acc ++ [p]).dropLast ++ [(p.1, n)] else _) = _
  rw [if_pos h, List.dropLast_concat]
theorem rstep_new (acc : List (Int × Int)) (p : Int × Int) (n : Int) (h : ¬ p.2 = n - 1) : rstep (acc ++ [p]) n = acc ++ [p] ++ [(n, n)] := by
  unfold rstep
  rw [List.getLast?_concat]
  show (if p.2 = n - 1 then _ else _) = _
  rw [if_neg h]
theorem rngs_snoc (is : List Int) (n : Int) : rngs (is ++ [n]) = rstep (rngs is) n := by
  unfold rngs
  rw [List.foldl_append]
  rfl
theorem rstep_len (acc : List (Int × Int)) (n : Int) : (rstep acc n).length ≤ acc.length + 1 := by
  rcases List.eq_nil_or_concat acc with rfl | ⟨l, p, rfl⟩
  · exact Nat.le_refl _
  · rw [List.concat_eq_append]
    by_cases h : p.2 = n - 1
    · rw [rstep_join l p n h]
      simp
    · rw [rstep_new l p n h]
      simp
theorem fold_len : ∀ (is : List Int) (acc : List (Int × Int)), (is.foldl rstep acc).length ≤ acc.length + is.length
  | [], acc => Nat.le_refl _
  | n :: is, acc => by
    have h1 := fold_len is (rstep acc n)
    have h2 := rstep_len acc n
    show (is.foldl rstep (rstep acc n)).length ≤ acc.length + (is.length + 1)
    omega
theorem rngs_len (is : List Int) : (rngs is).length ≤ is.length := Nat.le_trans (fold_len is []) (by simp)
/-- pairs of ints in the heap -/
def PrAt (H : Hp) : List V → List (Int × Int) → Prop := Paired fun v p => ∃ a, v = .ref a ∧ H a = some (.tup [.int p.1, .int p.2])
theorem PrAt.same {H H' : Hp} {ts : List V} {prs : List (Int × Int)} (h : PrAt H ts prs) (e : Same H H') : PrAt H' ts prs := Paired.mapP h fun _ _ ⟨a, h1, h2⟩ => ⟨a, h1, e _ _ h2⟩
theorem PrAt.put {H : Hp} {L : Addr} {xs ys : List V} {ts : List V} {prs : List (Int × Int)} (h : PrAt H ts prs) (hL : H L = some (.lst xs)) : PrAt (upd H L (.lst ys)) ts prs :=
  Paired.mapP h fun _ _ ⟨a, h1, h2⟩ => ⟨a, h1, (upd_ne (ne_of h2 hL (fun z => by cases z))).trans h2⟩
section
variable {X : Cx} {tg e : Expr}
open PySem.Spec PyProof.Rows in
end
/-- ranges_of(numbers) -/
def spRngs : Sp := fun vs H Q _ => ∃ (s : Addr) (is : List Int), vs = [.ref s] ∧ H s = some (.lst (is.map V.int)) ∧ is.length ≤ 10000 ∧ ∀ l H' ts, H l = none → Same H H' → H' l = some (.lst ts) → PrAt H' ts (rngs is) → Q (.ref l) H'
section
variable {P : Program} {w : World} {K : PySem.W.Frag} {mg : Str → Option Value} {base : Heap}
theorem scRanges : FnScope ["numbers", "ranges", "number"] ["numbers"] (defScope sRanges) := ⟨rfl, rfl, rfl, by decide +kernel, rfl, by decide +kernel, by decide +kernel⟩
theorem ok_ranges {f : Addr} {fd : FuncData} (F : Fun K "ranges_of" "ranges_of" sRanges f fd) : FnOk P w K mg base CX0 1 f fd ["numbers"] spRngs := by
  refine F.ok scRanges (fun vs H Q E h => ?_) (fun cdv A outer s H vs Q E hr h => ?_)
  · obtain ⟨s, is, rfl, _⟩ := h
    rfl
  · obtain ⟨s0, is, rfl, hs, len, q⟩ := h
    refine ⟨_, pss_cons (ps_set (i := 1) scRanges.nd rfl (Or.inl rfl) (pe_lst pa_nil)) (pss_cons (ps_for PassesOwn.never rfl (pi_sqA (pv 0)) (pg_name (i := 2) scRanges.nd rfl (.inl rfl))
        (pss_one (ps_if (PW.pt (pw_and (pt_truth (pv 1) (by intro _; rfl)) (pw_and1 (pt_cmpR op_eq (pe_ix ix_tup (pe_ix ix_list (pv 1) (pe_un un_neg pe_int) (fun _ _ => rfl)) pe_int (fun _ _ => rfl)) (pe_op op_sub (pv 2) pe_int) (nomark _)))))
          (pss_one (ps_asg (pe_tup (pa_cons (pe_ix ix_tup (pe_ix ix_list (pv 1) (pe_un un_neg pe_int) (fun _ _ => rfl)) pe_int (fun _ _ => rfl)) (pa_cons (pv 2) pa_nil))) (pg_sub (pv 1) (pe_un un_neg pe_int) set_list)))
          (pss_one (ps_expr (pe_bm PySem.F.plainAttrs_list PySem.F.slot_list_append PySem.F.type_list_append mt_append (pv 1) (pa_cons (pe_tup (pa_cons (pv 2) (pa_cons (pv 2) pa_nil))) pa_nil)))))))
      (pss_one (ps_ret (pv 1)))), ?_⟩
    refine ⟨Nat.zero_le _, fun L nL => ?_⟩
    have ns0 : s0 ≠ L := ne_of_none hs nL
    refine ⟨_, rfl, s0, is.map V.int, rfl, .inl (SqL.of ((upd_ne ns0).trans hs)), fun J G wk hG => for_it wk (fun i σ H' => ∃ (a : Option V) (ts : List V), σ = [some (.ref s0), some (.ref L), a] ∧ Same H H' ∧ H' L = some (.lst ts) ∧ PrAt H' ts (rngs (is.take i)))
      ⟨none, [], rfl, same_new nL, upd_same, .nil⟩ (fun i σ H' _ ⟨_, _, _, e, _⟩ => hG H' fun o z => e _ _ (by rw [upd_ne ns0] at z; exact z)) ?_ ?_⟩
    · rintro i x σ H1 H2 hi ⟨a, ts, rfl, e, hL, pr⟩ ⟨rfl, hx⟩
      obtain ⟨n, hn, rfl⟩ : ∃ n, is[i]? = some n ∧ x = V.int n := by
        rw [List.getElem?_map] at hx
        cases q2 : is[i]? with
        | none => rw [q2] at hx; cases hx
        | some n => rw [q2] at hx; exact ⟨n, rfl, (Option.some.inj hx).symm⟩
      have tk : is.take (i + 1) = is.take i ++ [n] := by
        obtain ⟨lt, eq⟩ := List.getElem?_eq_some_iff.mp hn
        rw [List.take_succ_eq_append_getElem lt, eq]
      have lts : ts.length ≤ 10000 := by
        rw [Paired.length pr]
        exact Nat.le_trans (rngs_len _) (by rw [List.length_take]; omega)
      have fin : ∀ (t : Addr) (p : Int × Int) (us : List V) (ps : List (Int × Int)) (ts2 : List V), H2 t = none → PrAt H2 us ps → ts2 = us ++ [V.ref t] → rngs (is.take (i + 1)) = ps ++ [p] →
          (∃ (a : Option V) (ts : List V), [some (V.ref s0), some (.ref L), some (V.int n)] = [some (V.ref s0), some (.ref L), a] ∧ Same H (upd (upd H2 t (.tup [.int p.1, .int p.2])) L (.lst ts2)) ∧
            upd (upd H2 t (.tup [.int p.1, .int p.2])) L (.lst ts2) L = some (.lst ts) ∧ PrAt (upd (upd H2 t (.tup [.int p.1, .int p.2])) L (.lst ts2)) ts (rngs (is.take (i + 1)))) := by
        intro t p us ps ts2 nt pu et er
        have ntL : t ≠ L := Ne.symm (ne_of_none hL nt)
        refine ⟨_, ts2, rfl, fun b o z => ?_, upd_same, ?_⟩
        · rw [upd_ne (ne_of_none z nL), upd_ne (ne_of_none (e _ _ z) nt)]
          exact e _ _ z
        · rw [et, er]
          refine Paired.snoc ?_ ⟨t, rfl, (upd_ne ntL).trans upd_same⟩
          have h1 : upd H2 t (.tup [.int p.1, .int p.2]) L = some (.lst ts) := (upd_ne (Ne.symm ntL)).trans hL
          exact (pu.same (same_new nt)).put h1
      rcases List.eq_nil_or_concat (rngs (is.take i)) with en | ⟨ps, p, en⟩
      · rw [en] at pr
        cases pr
        refine ⟨_, rfl, false, .inl ⟨[], SqL.of hL, rfl⟩, ?_⟩
        refine iteF ?_
        refine iteF ⟨_, rfl, .inl ⟨rfl, _, SqL.of hL⟩, _, rfl, _, rfl, by show 2 ≤ sizeLine; decide, fun t nt => ⟨L, [], _, rfl, rfl, (upd_ne (ne_of_none hL nt)).trans hL, by show 0 < sizeLine; decide, ?_⟩⟩
        refine fin t (n, n) [] [] _ nt .nil rfl ?_
        rw [tk, rngs_snoc, en]
        rfl
      · rw [List.concat_eq_append] at en
        rw [en] at pr
        obtain ⟨us, v, rfl, pu, a0, rfl, ha0⟩ := paired_last pr
        refine ⟨_, rfl, true, .inl ⟨us ++ [V.ref a0], SqL.of hL, by cases us <;> rfl⟩, ?_⟩
        refine iteT ?_
        have two : atI [V.int p.1, V.int p.2] 1 = some (V.int p.2) := rfl
        have one : atI [V.int p.1, V.int p.2] 0 = some (V.int p.1) := rfl
        refine ⟨_, rfl, _, rfl, L, _, _, _, rfl, rfl, SqL.of hL, atI_last us (V.ref a0), a0, _, _, _, rfl, rfl, SqT.of ha0, two, _, rfl, _, _, rfl, rfl, rfl, _, rfl, ?_⟩
        refine ite2 (fun c => ?_) fun c => ?_
        · have c2 : p.2 = n - 1 := by simpa using c
          refine ⟨_, rfl, _, rfl, L, _, _, _, rfl, rfl, SqL.of hL, atI_last us (V.ref a0), a0, _, _, _, rfl, rfl, SqT.of ha0, one, _, rfl, by show 2 ≤ sizeLine; decide, fun t nt => ?_⟩
          refine ⟨_, rfl, _, rfl, L, _, _, us.length, rfl, rfl, (upd_ne (ne_of_none hL nt)).trans hL, (by simp [ixN]; omega), ?_⟩
          refine fin t (p.1, n) us ps _ nt pu ?_ ?_
          · rw [List.set_append_right _ _ (Nat.le_refl _), Nat.sub_self]
            rfl
          · rw [tk, rngs_snoc, en, rstep_join ps p n c2]
        · have c2 : ¬ p.2 = n - 1 := by simpa using c
          refine ⟨_, rfl, .inl ⟨rfl, _, SqL.of hL⟩, _, rfl, _, rfl, by show 2 ≤ sizeLine; decide, fun t nt => ⟨L, _, _, rfl, rfl, (upd_ne (ne_of_none hL nt)).trans hL, small10 lts, ?_⟩⟩
          refine fin t (n, n) (us ++ [V.ref a0]) (ps ++ [p]) _ nt pr rfl ?_
          rw [tk, rngs_snoc, en, rstep_new ps p n c2]
    · rintro σ H1 ⟨a, ts, rfl, e, hL, pr⟩
      rw [List.length_map, List.take_length] at pr
      exact ⟨_, rfl, q L H1 ts nL e hL pr⟩
end
end K03
set_option Elab.async false
set_option linter.all false
set_option maxRecDepth 100001
set_option maxHeartbeats 3999999
namespace K03
open PySem L2
/-- ranges as they must stand -/
def okR (n : Int) : Int → List (Int × Int) → Prop
  | _, [] => True
  | least, p :: r => least ≤ p.1 ∧ p.1 ≤ n - 1 ∧ p.1 ≤ p.2 ∧ p.2 ≤ n - 1 ∧ okR n (p.2 + 2) r
theorem rwrong_okR {H : Hp} {n : Int} : ∀ {ts : List V} {prs : List (Int × Int)} (least : Int) (i : Nat), PrAt H ts prs → okR n least prs → rwrong H n least i ts = none
  | _, _, _, _, .nil, _ => rfl
  | _, _, least, i, .cons ⟨a, e, h⟩ t, ⟨h1, h2, h3, h4, h5⟩ => by
    subst e
    rw [rwrong_ok (pairOf_tup h) (decide_eq_true ⟨h1, h2⟩) (decide_eq_true ⟨h3, h4⟩)]
    exact rwrong_okR _ _ t h5
/-- rwrong of good ranges and then a bad one -/
theorem rwrong_app {H : Hp} {n : Int} {v : V} : ∀ {ts : List V} {prs : List (Int × Int)} (least : Int) (i : Nat), PrAt H ts prs → okR n least prs → (∀ l j, (prs = [] → l = least) → (∀ p, prs.getLast? = some p → l = p.2 + 2) → rwrong H n l j [v] = some j) → rwrong H n least i (ts ++ [v]) = some (i + ts.length)
  | _, _, least, i, .nil, _, k => k least i (fun _ => rfl) (fun p z => by cases z)
  | _, _ :: prs, least, i, .cons (a := v0) (b := p0) (l₁ := ts) ⟨a, e, h⟩ t, ⟨h1, h2, h3, h4, h5⟩, k => by
    subst e
    rw [List.cons_append, rwrong_ok (pairOf_tup h) (decide_eq_true ⟨h1, h2⟩) (decide_eq_true ⟨h3, h4⟩)]
    rw [rwrong_app _ _ t h5 fun l j e1 e2 => k l j (fun z => by cases z) fun p z => ?_]
    · rw [List.length_cons]
      congr 1
      omega
    · cases prs with
      | nil =>
        cases z
        exact e1 rfl
      | cons q r => exact e2 p (by rw [List.getLast?_cons_cons] at z; exact z)
theorem prAt_kp {H : Hp} : ∀ {ts : List V} {prs : List (Int × Int)}, PrAt H ts prs → ∀ v ∈ ts, Kp H v
  | _, _, .cons ⟨a, e, h⟩ t, v, m => by
    rcases List.mem_cons.mp m with rfl | m
    · subst e
      refine ⟨.tup h, fun b xs eb hb x hx => ?_⟩
      cases eb
      rw [h] at hb
      cases hb
      rcases List.mem_cons.mp hx with rfl | hx
      · exact .int _
      · rw [List.mem_singleton.mp hx]
        exact .int _
    · exact prAt_kp t v m
/-- the ints of ns from f to l -/
def intsOf : List V → List Int
  | [] => []
  | .int i :: r => i :: intsOf r
  | _ :: r => intsOf r
def cutR (ns : List V) (p : Int × Int) : List V := (ns.drop p.1.toNat).take (p.2 + 1 - p.1).toNat
theorem intsOf_map (ns : List V) (h : ∀ v ∈ ns, Num v) : (intsOf ns).map V.int = ns.filter fun v => !decide (v = .non) := by
  induction ns with
  | nil => rfl
  | cons v r ih =>
    have ih := ih fun x hx => h x (List.mem_cons_of_mem _ hx)
    rcases h v List.mem_cons_self with rfl | ⟨i, rfl⟩
    · exact ih
    · show V.int i :: (intsOf r).map V.int = _
      rw [ih]
      rfl
theorem intsOf_append : ∀ a b : List V, intsOf (a ++ b) = intsOf a ++ intsOf b
  | [], _ => rfl
  | v :: a, b => by
    have ih := intsOf_append a b
    rw [List.cons_append]
    cases v <;> simp only [intsOf, ih, List.cons_append]
theorem intsOf_len (ns : List V) : (intsOf ns).length ≤ ns.length := by
  induction ns with
  | nil => exact Nat.le_refl _
  | cons v r ih => cases v <;> simp only [intsOf, List.length_cons] <;> omega
/-- the numbers behind ranges -/
def behR (ns : List V) (prs : List (Int × Int)) : List Int := (prs.map fun p => intsOf (cutR ns p)).flatten
theorem behR_snoc (ns : List V) (prs : List (Int × Int)) (p : Int × Int) : behR ns (prs ++ [p]) = behR ns prs ++ intsOf (cutR ns p) := by
  unfold behR
  rw [List.map_append, List.flatten_append]
  simp
theorem behR_len {ns : List V} : ∀ {prs : List (Int × Int)}, (behR ns prs).length ≤ prs.length * ns.length
  | [] => by simp [behR]
  | p :: r => by
    have ih := behR_len (ns := ns) (prs := r)
    have h1 : (intsOf (cutR ns p)).length ≤ ns.length := Nat.le_trans (intsOf_len _) (by unfold cutR; rw [List.length_take, List.length_drop]; omega)
    have e : behR ns (p :: r) = intsOf (cutR ns p) ++ behR ns r := rfl
    rw [e, List.length_append, List.length_cons, Nat.succ_mul]
    omega
theorem sl_both {K : PySem.W.Frag} {H : Hp} {a : Addr} {xs : List V} {lo hi : Option Int} {Q : VK} (h : SqT K H a xs) (k : ∀ t H3, Same H H3 → SqT K H3 t (cutV xs lo hi) → Q (.ref t) H3) : rSlA K (.ref a) lo hi H Q := by
  refine ⟨a, xs, rfl, h, fun ⟨c1, c2⟩ => k a H (Same.refl H) ?_, fun _ p np => k p _ (same_new np) (SqT.of upd_same)⟩
  have e : cutV xs lo hi = xs := by
    unfold cutV
    rw [c1, c2, List.drop_zero, Nat.sub_zero, List.take_length]
  rw [e]
  exact h
theorem cut_eq (ns : List V) (p : Int × Int) (h1 : 0 ≤ p.1) (h2 : p.1 ≤ p.2) (h3 : p.2 ≤ (ns.length : Int) - 1) : cutV ns (some p.1) (some (p.2 + 1)) = cutR ns p := by
  obtain ⟨f, l⟩ := p
  simp only at h1 h2 h3
  obtain ⟨f, rfl⟩ := Int.eq_ofNat_of_zero_le h1
  obtain ⟨l, rfl⟩ := Int.eq_ofNat_of_zero_le (Int.le_trans h1 h2)
  unfold cutV cutR
  have e : ((l : Int) + 1) = ((l + 1 : Nat) : Int) := by omega
  rw [e, HT.sIx_nat, HT.sIx_nat]
  simp only [Int.toNat_natCast]
  congr 1
  · omega
  · congr 1
    omega
theorem okR_at {n : Int} : ∀ {prs : List (Int × Int)} {least : Int} {i : Nat} {p : Int × Int}, 0 ≤ least → okR n least prs → prs[i]? = some p → 0 ≤ p.1 ∧ p.1 ≤ p.2 ∧ p.2 ≤ n - 1
  | [], _, i, _, _, _, h => by simp at h
  | q :: r, least, 0, p, h0, ⟨h1, _, h3, h4, _⟩, h => by
    cases h
    exact ⟨Int.le_trans h0 h1, h3, h4⟩
  | q :: r, least, i + 1, p, h0, ⟨h1, _, h3, h4, h5⟩, h => okR_at (by omega) h5 (by simpa using h)
theorem paired_at {α β : Type} {F : α → β → Prop} : ∀ {ts : List α} {ps : List β} {i : Nat} {v : α}, Paired F ts ps → ts[i]? = some v → ∃ p, ps[i]? = some p ∧ F v p
  | _, _, _, _, .nil, h => by simp at h
  | _, _, 0, _, .cons h _, e => by cases e; exact ⟨_, rfl, h⟩
  | _, _, i + 1, v, .cons _ t, e => paired_at (i := i) t (by simpa using e)
section
variable {P : Program} {w : World} {K : PySem.W.Frag} {mg : Str → Option Value} {base : Heap}
theorem scRanB : FnScope ["self", "ranges", "wrong", "behind", "first", "last", "number"] ["self", "ranges"] (defScope sRanB) := ⟨rfl, rfl, rfl, by decide +kernel, rfl, by decide +kernel, by decide +kernel⟩
end
abbrev sLRan : Stmt := topS 48
/-! ### lists of pairs of ints, compared -/
def dP (p : Int × Int) : PyData := .tuple [.int p.1, .int p.2]
theorem eqv_dP (p q : Int × Int) : PyData.eqv (dP p) (dP q) = decide (p = q) := by
  obtain ⟨a, b⟩ := p
  obtain ⟨c, d⟩ := q
  have e : decide ((a, b) = (c, d)) = (decide (a = c) && decide (b = d)) := by
    rw [← Bool.decide_and]
    exact decide_eq_decide.mpr ⟨fun h => by cases h; exact ⟨rfl, rfl⟩, fun ⟨h1, h2⟩ => by rw [h1, h2]⟩
  rw [e]
  simp only [dP, PyData.eqv, PyData.eqvAll, Bool.and_true]
  rfl
theorem eqvAll_pr : ∀ ps qs : List (Int × Int), PyData.eqvAll (ps.map dP) (qs.map dP) = decide (ps = qs)
  | [], [] => by simp [PyData.eqvAll]
  | [], _ :: _ => by simp [PyData.eqvAll]
  | _ :: _, [] => by simp [PyData.eqvAll]
  | x :: xs, y :: ys => by
    have ih := eqvAll_pr xs ys
    have e : PyData.eqvAll ((x :: xs).map dP) ((y :: ys).map dP) = (PyData.eqv (dP x) (dP y) && PyData.eqvAll (xs.map dP) (ys.map dP)) := by simp only [List.map_cons, PyData.eqvAll]
    rw [e, ih, eqv_dP]
    by_cases h1 : x = y
    · by_cases h2 : xs = ys
      · simp [h1, h2]
      · simp [h1, h2]
    · simp [h1]
theorem dp_dP {K : PySem.W.Frag} {H : Hp} {a : Addr} {p : Int × Int} (h : H a = some (.tup [.int p.1, .int p.2])) : Dp K H (.ref a) (dP p) := .tup (SqT.of h) (.cons (.int _) (.cons (.int _) .nil))
theorem dpAll_pr {K : PySem.W.Frag} {H : Hp} : ∀ {ts : List V} {ps : List (Int × Int)}, PrAt H ts ps → DpAll K H ts (ps.map dP)
  | _, _, .nil => .nil
  | _, _, .cons ⟨a, e, h⟩ t => by
    subst e
    exact .cons (dp_dP h) (dpAll_pr t)
theorem lay_pr : ∀ ps : List (Int × Int), PyData.canLayAll0 (ps.map dP) = true
  | [] => by simp [PyData.canLayAll0]
  | p :: ps => by
    rw [List.map_cons, PyData.canLayAll0, lay_pr ps, Bool.and_true]
    simp [dP, PyData.canLay0, PyData.canLayAll0]
theorem depth_pr : ∀ ps : List (Int × Int), PyData.depthAll (ps.map dP) ≤ 3
  | [] => by simp [PyData.depthAll]
  | p :: ps => by
    have ih := depth_pr ps
    simp only [List.map_cons, PyData.depthAll, dP, PyData.depth] at ih ⊢
    omega
theorem shL_pr (ps : List (Int × Int)) : SeqAt.shaped (.list (ps.map dP)) = true := by
  have h2 := depth_pr ps
  show (PyData.canLay0 (.list (ps.map dP)) && decide (PyData.depth (.list (ps.map dP)) ≤ 64)) = true
  rw [Bool.and_eq_true]
  refine ⟨by simp only [PyData.canLay0]; exact lay_pr ps, decide_eq_true ?_⟩
  simp only [PyData.depth]
  omega
/-- x != y, two lists of pairs -/
def rNePr (K : PySem.W.Frag) : R2 := fun x y H Q => ∃ a b xs ys ps qs, x = .ref a ∧ y = .ref b ∧ SqL K H a xs ∧ SqL K H b ys ∧ PrAt H xs ps ∧ PrAt H ys qs ∧ Q (.bl (!decide (ps = qs))) H
theorem op_nePr {X : Cx} (hu : X.A.units + 64 < cLine) : OpR X (compareOp .NotEq) (rNePr X.K) := by
  intro pins s σ H x y v u Q I rx ry h
  obtain ⟨a, b, xs, ys, ps, qs, rfl, rfl, d1, d2, p1, p2, q⟩ := h
  refine op_neD hu pins s σ H _ _ v u Q I rx ry ⟨.list (ps.map dP), .list (qs.map dP), .lst d1 (dpAll_pr p1), .lst d2 (dpAll_pr p2), shL_pr _, shL_pr _, ?_⟩
  rw [show PyData.eqv (.list (ps.map dP)) (.list (qs.map dP)) = decide (ps = qs) by rw [← eqvAll_pr]; simp only [PyData.eqv]]
  exact q
section
variable {P : Program} {w : World} {K : PySem.W.Frag} {mg : Str → Option Value} {base : Heap}
theorem scLRan : FnScope ["_law_numbers", "_law_found", "_law_number"] ["_law_numbers"] (defScope sLRan) := ⟨rfl, rfl, rfl, by decide +kernel, rfl, by decide +kernel, by decide +kernel⟩
theorem ok_lran {f : Addr} {fd : FuncData} (F : Fun K "_law_ranges" "_law_ranges" sLRan f fd) : FnOk P w K mg base CX0 1 f fd ["_law_numbers"] spRngs := by
  refine F.ok scLRan (fun vs H Q E h => ?_) (fun cdv A outer s H vs Q E hr h => ?_)
  · obtain ⟨s, is, rfl, _⟩ := h
    rfl
  · obtain ⟨s0, is, rfl, hs, len, q⟩ := h
    refine ⟨_, pss_cons (ps_set (i := 1) scLRan.nd rfl (Or.inl rfl) (pe_lst pa_nil)) (pss_cons (ps_for PassesOwn.never rfl (pi_sqA (pv 0)) (pg_name (i := 2) scLRan.nd rfl (.inl rfl))
        (pss_one (ps_if (PW.pt (pw_and (pt_cmpR (op_nePr (hu64 hr)) (pv 1) (pe_lst pa_nil) (nomark _)) (pw_and1 (pt_cmpR op_eq (pe_ix ix_tup (pe_ix ix_list (pv 1) (pe_un un_neg pe_int) (fun _ _ => rfl)) pe_int (fun _ _ => rfl)) (pe_op op_sub (pv 2) pe_int) (nomark _)))))
          (pss_one (ps_asg (pe_tup (pa_cons (pe_ix ix_tup (pe_ix ix_list (pv 1) (pe_un un_neg pe_int) (fun _ _ => rfl)) pe_int (fun _ _ => rfl)) (pa_cons (pv 2) pa_nil))) (pg_sub (pv 1) (pe_un un_neg pe_int) set_list)))
          (pss_one (ps_expr (pe_bm PySem.F.plainAttrs_list PySem.F.slot_list_append PySem.F.type_list_append mt_append (pv 1) (pa_cons (pe_tup (pa_cons (pv 2) (pa_cons (pv 2) pa_nil))) pa_nil)))))))
      (pss_one (ps_ret (pv 1)))), ?_⟩
    refine ⟨Nat.zero_le _, fun L nL => ?_⟩
    have ns0 : s0 ≠ L := ne_of_none hs nL
    refine ⟨_, rfl, s0, is.map V.int, rfl, .inl (SqL.of ((upd_ne ns0).trans hs)), fun J G wk hG => for_it wk (fun i σ H' => ∃ (a : Option V) (ts : List V), σ = [some (.ref s0), some (.ref L), a] ∧ Same H H' ∧ H' L = some (.lst ts) ∧ PrAt H' ts (rngs (is.take i)))
      ⟨none, [], rfl, same_new nL, upd_same, .nil⟩ (fun i σ H' _ ⟨_, _, _, e, _⟩ => hG H' fun o z => e _ _ (by rw [upd_ne ns0] at z; exact z)) ?_ ?_⟩
    · rintro i x σ H1 H2 hi ⟨a, ts, rfl, e, hL, pr⟩ ⟨rfl, hx⟩
      obtain ⟨n, hn, rfl⟩ : ∃ n, is[i]? = some n ∧ x = V.int n := by
        rw [List.getElem?_map] at hx
        cases q2 : is[i]? with
        | none => rw [q2] at hx; cases hx
        | some n => rw [q2] at hx; exact ⟨n, rfl, (Option.some.inj hx).symm⟩
      have tk : is.take (i + 1) = is.take i ++ [n] := by
        obtain ⟨lt, eq⟩ := List.getElem?_eq_some_iff.mp hn
        rw [List.take_succ_eq_append_getElem lt, eq]
      have lts : ts.length ≤ 10000 := by
        rw [Paired.length pr]
        exact Nat.le_trans (rngs_len _) (by rw [List.length_take]; omega)
      refine ⟨_, rfl, Nat.zero_le _, fun z nz => ?_⟩
      have e2 : Same H (upd H2 z (.lst [])) := e.trans (same_new nz)
      have hL2 : upd H2 z (.lst []) L = some (.lst ts) := (upd_ne (ne_of_none hL nz)).trans hL
      have pr2 : PrAt (upd H2 z (.lst [])) ts (rngs (is.take i)) := pr.same (same_new nz)
      have hz : upd H2 z (.lst []) z = some (.lst []) := upd_same
      generalize upd H2 z (.lst []) = H3 at e2 hL2 pr2 hz ⊢
      clear e hL pr nz
      refine ⟨L, z, ts, [], _, [], rfl, rfl, SqL.of hL2, SqL.of hz, pr2, .nil, ?_⟩
      have fin : ∀ (t : Addr) (p : Int × Int) (us : List V) (ps : List (Int × Int)) (ts2 : List V), H3 t = none → PrAt H3 us ps → ts2 = us ++ [V.ref t] → rngs (is.take (i + 1)) = ps ++ [p] →
          (∃ (a : Option V) (ts : List V), [some (V.ref s0), some (.ref L), some (V.int n)] = [some (V.ref s0), some (.ref L), a] ∧ Same H (upd (upd H3 t (.tup [.int p.1, .int p.2])) L (.lst ts2)) ∧
            upd (upd H3 t (.tup [.int p.1, .int p.2])) L (.lst ts2) L = some (.lst ts) ∧ PrAt (upd (upd H3 t (.tup [.int p.1, .int p.2])) L (.lst ts2)) ts (rngs (is.take (i + 1)))) := by
        intro t p us ps ts2 nt pu et er
        have ntL : t ≠ L := Ne.symm (ne_of_none hL2 nt)
        refine ⟨_, ts2, rfl, fun b o z => ?_, upd_same, ?_⟩
        · rw [upd_ne (ne_of_none z nL), upd_ne (ne_of_none (e2 _ _ z) nt)]
          exact e2 _ _ z
        · rw [et, er]
          refine Paired.snoc ?_ ⟨t, rfl, (upd_ne ntL).trans upd_same⟩
          have h1 : upd H3 t (.tup [.int p.1, .int p.2]) L = some (.lst ts) := (upd_ne (Ne.symm ntL)).trans hL2
          exact (pu.same (same_new nt)).put h1
      rcases List.eq_nil_or_concat (rngs (is.take i)) with en | ⟨ps, p, en⟩
      · rw [en] at pr2 ⊢
        cases pr2
        refine ⟨_, rfl, ?_⟩
        rw [show (!decide (([] : List (Int × Int)) = [])) = false by simp]
        refine iteF ?_
        refine iteF ⟨_, rfl, .inl ⟨rfl, _, SqL.of hL2⟩, _, rfl, _, rfl, by show 2 ≤ sizeLine; decide, fun t nt => ⟨L, [], _, rfl, rfl, (upd_ne (ne_of_none hL2 nt)).trans hL2, by show 0 < sizeLine; decide, ?_⟩⟩
        refine fin t (n, n) [] [] _ nt .nil rfl ?_
        rw [tk, rngs_snoc, en]
        rfl
      · rw [List.concat_eq_append] at en
        rw [en] at pr2 ⊢
        obtain ⟨us, v, rfl, pu, a0, rfl, ha0⟩ := paired_last pr2
        rw [show (!decide (ps ++ [p] = [])) = true by simp]
        refine ⟨_, rfl, ?_⟩
        refine iteT ?_
        have two : atI [V.int p.1, V.int p.2] 1 = some (V.int p.2) := rfl
        have one : atI [V.int p.1, V.int p.2] 0 = some (V.int p.1) := rfl
        refine ⟨_, rfl, _, rfl, L, _, _, _, rfl, rfl, SqL.of hL2, atI_last us (V.ref a0), a0, _, _, _, rfl, rfl, SqT.of ha0, two, _, rfl, _, _, rfl, rfl, rfl, _, rfl, ?_⟩
        refine ite2 (fun c => ?_) fun c => ?_
        · have c2 : p.2 = n - 1 := by simpa using c
          refine ⟨_, rfl, _, rfl, L, _, _, _, rfl, rfl, SqL.of hL2, atI_last us (V.ref a0), a0, _, _, _, rfl, rfl, SqT.of ha0, one, _, rfl, by show 2 ≤ sizeLine; decide, fun t nt => ?_⟩
          refine ⟨_, rfl, _, rfl, L, _, _, us.length, rfl, rfl, (upd_ne (ne_of_none hL2 nt)).trans hL2, (by simp [ixN]; omega), ?_⟩
          refine fin t (p.1, n) us ps _ nt pu ?_ ?_
          · rw [List.set_append_right _ _ (Nat.le_refl _), Nat.sub_self]
            rfl
          · rw [tk, rngs_snoc, en, rstep_join ps p n c2]
        · have c2 : ¬ p.2 = n - 1 := by simpa using c
          refine ⟨_, rfl, .inl ⟨rfl, _, SqL.of hL2⟩, _, rfl, _, rfl, by show 2 ≤ sizeLine; decide, fun t nt => ⟨L, _, _, rfl, rfl, (upd_ne (ne_of_none hL2 nt)).trans hL2, small10 lts, ?_⟩⟩
          refine fin t (n, n) (us ++ [V.ref a0]) (ps ++ [p]) _ nt pr2 rfl ?_
          rw [tk, rngs_snoc, en, rstep_new ps p n c2]
    · rintro σ H1 ⟨a, ts, rfl, e, hL, pr⟩
      rw [List.length_map, List.take_length] at pr
      exact ⟨_, rfl, q L H1 ts nL e hL pr⟩
end
/-! ### ranges of ascending numbers, and the numbers of ranges -/
def seg (p : Int × Int) : List Int := (List.range (p.2 + 1 - p.1).toNat).map fun k => p.1 + (k : Nat)
def expand (ps : List (Int × Int)) : List Int := (ps.map seg).flatten
theorem expand_snoc (ps : List (Int × Int)) (p : Int × Int) : expand (ps ++ [p]) = expand ps ++ seg p := by
  unfold expand
  rw [List.map_append, List.flatten_append]
  simp
theorem seg_one (n : Int) : seg (n, n) = [n] := by
  unfold seg
  rw [show (n + 1 - n).toNat = 1 by omega]
  simp [List.range_succ]
theorem seg_join {p : Int × Int} {n : Int} (h : p.2 = n - 1) (h2 : p.1 ≤ p.2) : seg (p.1, n) = seg p ++ [n] := by
  unfold seg
  have e : (n + 1 - p.1).toNat = (p.2 + 1 - p.1).toNat + 1 := by omega
  show (List.range (n + 1 - p.1).toNat).map _ = _
  rw [e, List.range_succ, List.map_append]
  congr 1
  simp only [List.map_cons, List.map_nil, List.cons.injEq, and_true]
  omega
theorem okR_snoc {n : Int} : ∀ {ps : List (Int × Int)} {least : Int} {p : Int × Int}, okR n least (ps ++ [p]) ↔ okR n least ps ∧ (ps = [] → least ≤ p.1) ∧ (∀ q, ps.getLast? = some q → q.2 + 2 ≤ p.1) ∧ p.1 ≤ n - 1 ∧ p.1 ≤ p.2 ∧ p.2 ≤ n - 1
  | [], least, p => by
    constructor
    · rintro ⟨h1, h2, h3, h4, _⟩
      exact ⟨True.intro, fun _ => h1, (fun q z => by cases z), h2, h3, h4⟩
    · rintro ⟨_, h1, _, h2, h3, h4⟩
      exact ⟨h1 rfl, h2, h3, h4, True.intro⟩
  | q :: r, least, p => by
    rw [List.cons_append]
    constructor
    · rintro ⟨h1, h2, h3, h4, h5⟩
      obtain ⟨k1, k2, k3, k4⟩ := okR_snoc.mp h5
      refine ⟨⟨h1, h2, h3, h4, k1⟩, (fun z => by cases z), fun q2 z => ?_, k4⟩
      cases r with
      | nil =>
        cases z
        exact k2 rfl
      | cons a b => exact k3 q2 (by rw [List.getLast?_cons_cons] at z; exact z)
    · rintro ⟨⟨h1, h2, h3, h4, h5⟩, _, k3, k4⟩
      refine ⟨h1, h2, h3, h4, okR_snoc.mpr ⟨h5, fun z => ?_, fun q2 z => ?_, k4⟩⟩
      · subst z
        exact k3 q rfl
      · cases r with
        | nil => cases z
        | cons a b => exact k3 q2 (by rw [List.getLast?_cons_cons]; exact z)
structure Upto (n : Int) (acc : List (Int × Int)) (done : List Int) : Prop where
  ok : okR n 0 acc
  ex : expand acc = done
  la : ∀ p, acc.getLast? = some p → ∃ js, done = js ++ [p.2]
theorem fold_up {n : Int} : ∀ (is done : List Int) (acc : List (Int × Int)), Upto n acc done → (∀ i ∈ done ++ is, 0 ≤ i ∧ i ≤ n - 1) → (done ++ is).Pairwise (· < ·) → Upto n (is.foldl rstep acc) (done ++ is)
  | [], done, acc, U, _, _ => by
    rw [List.append_nil]
    exact U
  | x :: is, done, acc, U, hb, hp => by
    have e : done ++ x :: is = (done ++ [x]) ++ is := by simp
    rw [e] at hb hp ⊢
    refine fold_up is (done ++ [x]) (rstep acc x) ?_ hb hp
    have hx := hb x (by simp)
    have hd : ∀ i ∈ done, i < x := fun i hi => (List.pairwise_append.mp (List.pairwise_append.mp hp).1).2.2 i hi x List.mem_cons_self
    rcases List.eq_nil_or_concat acc with rfl | ⟨ps, p, rfl⟩
    · rw [rstep_nil]
      refine ⟨⟨hx.1, hx.2, Int.le_refl _, hx.2, True.intro⟩, ?_, fun p z => ?_⟩
      · have := U.ex
        rw [show expand [] = [] from rfl] at this
        rw [← this]
        show expand ([] ++ [(x, x)]) = _
        rw [expand_snoc, seg_one]
        rfl
      · cases z
        exact ⟨done, rfl⟩
    · rw [List.concat_eq_append] at U ⊢
      obtain ⟨js, ej⟩ := U.la p (List.getLast?_concat ..)
      have lt : p.2 < x := hd _ (by rw [ej]; simp)
      obtain ⟨k1, k2, k3, k4, k5, k6⟩ := okR_snoc.mp U.ok
      by_cases c : p.2 = x - 1
      · rw [rstep_join ps p x c]
        refine ⟨okR_snoc.mpr ⟨k1, k2, k3, k4, by show p.1 ≤ x; omega, hx.2⟩, ?_, fun q z => ?_⟩
        · rw [expand_snoc, seg_join c k5, ← List.append_assoc, ← expand_snoc, U.ex]
        · rw [List.getLast?_concat] at z
          cases z
          exact ⟨done, rfl⟩
      · rw [rstep_new ps p x c]
        refine ⟨okR_snoc.mpr ⟨U.ok, (fun z => by simp at z), fun q z => ?_, hx.2, Int.le_refl _, hx.2⟩, ?_, fun q z => ?_⟩
        · rw [List.getLast?_concat] at z
          cases z
          show p.2 + 2 ≤ x
          omega
        · rw [expand_snoc, seg_one, U.ex]
        · rw [List.getLast?_concat] at z
          cases z
          exact ⟨done, rfl⟩
theorem rngs_up {n : Int} (is : List Int) (hb : ∀ i ∈ is, 0 ≤ i ∧ i ≤ n - 1) (hp : is.Pairwise (· < ·)) : Upto n (rngs is) is := by
  have h := fold_up (n := n) is [] [] ⟨True.intro, rfl, fun p z => by cases z⟩ (by simpa using hb) (by simpa using hp)
  simpa [rngs] using h
/-- what stands at a number -/
def atN (ns : List V) (i : Int) : V := ns.getD i.toNat .non
theorem cutR_seg {ns : List V} {p : Int × Int} (h1 : 0 ≤ p.1) (h2 : p.1 ≤ p.2) (h3 : p.2 ≤ (ns.length : Int) - 1) : cutR ns p = (seg p).map (atN ns) := by
  unfold cutR seg
  refine List.ext_getElem? fun i => ?_
  rw [List.map_map, List.getElem?_map]
  by_cases c : i < (p.2 + 1 - p.1).toNat
  · rw [List.getElem?_take_of_lt c, List.getElem?_drop, List.getElem?_range c]
    have lt : p.1.toNat + i < ns.length := by omega
    rw [List.getElem?_eq_getElem lt]
    show _ = some (ns.getD (p.1 + (i : Nat)).toNat .non)
    rw [show (p.1 + (i : Nat)).toNat = p.1.toNat + i by omega, List.getD_eq_getElem?_getD, List.getElem?_eq_getElem lt]
    rfl
  · rw [List.getElem?_eq_none (by rw [List.length_take]; omega), List.getElem?_eq_none (by rw [List.length_range]; omega)]
    rfl
theorem intsOf_flatten : ∀ ls : List (List V), intsOf ls.flatten = (ls.map intsOf).flatten
  | [] => rfl
  | l :: r => by rw [List.flatten_cons, intsOf_append, intsOf_flatten r]; rfl
theorem behR_expand {ns : List V} : ∀ {prs : List (Int × Int)} {least : Int}, 0 ≤ least → okR ns.length least prs → behR ns prs = intsOf ((expand prs).map (atN ns))
  | [], _, _, _ => rfl
  | p :: r, least, h0, ⟨h1, _, h3, h4, h5⟩ => by
    have ih := behR_expand (ns := ns) (prs := r) (least := p.2 + 2) (by omega) h5
    have e : behR ns (p :: r) = intsOf (cutR ns p) ++ behR ns r := rfl
    have e2 : expand (p :: r) = seg p ++ expand r := rfl
    rw [e, ih, e2, List.map_append, intsOf_append, cutR_seg (by omega) h3 h4]
theorem behR_rngs {ns : List V} {is : List Int} (hb : ∀ i ∈ is, 0 ≤ i ∧ i ≤ (ns.length : Int) - 1) (hp : is.Pairwise (· < ·)) : behR ns (rngs is) = intsOf (is.map (atN ns)) := by
  have U := rngs_up is hb hp
  rw [behR_expand (Int.le_refl 0) U.ok, U.ex]
def spRanB (K : PySem.W.Frag) (C : Addr) : Sp := fun vs H Q _ => ∃ (p s : Addr) (m : Int) (ns ps : List V), vs = [.ref p, .ref s] ∧ IsMap K C H p m ns ∧ (∀ v ∈ ns, Num v) ∧ ns.length ≤ 50 ∧ (∃ o, H s = some o) ∧ Sq K H s ps ∧ (∀ v ∈ ps, Kp H v) ∧
  ∃ prs, PrAt H ps prs ∧ okR ns.length 0 prs ∧ prs.length ≤ 50 ∧ ∀ l H' ts, H l = none → Same H H' → H' l = some (.lst ts) → PrAt H' ts (rngs (behR ns prs)) → Q (.ref l) H'
section
variable {P : Program} {w : World} {K : PySem.W.Frag} {mg : Str → Option Value} {base : Heap}
theorem ok_ranB {f C : Addr} {fd : FuncData} (F : Fun K "ranges_behind" "NumberMap.ranges_behind" sRanB f fd) (B : Bi mg) (T : TxtM K C) (cF : Cal CX0 P w K mg base 3 "first_wrong_range" (spFWR K)) (cR : Cal CX0 P w K mg base 1 "ranges_of" spRngs) : FnOk P w K mg base CX0 4 f fd ["self", "ranges"] (spRanB K C) := by
  refine F.ok scRanB (fun vs H Q E h => ?_) (fun cdv A outer s H vs Q E hr h => ?_)
  · obtain ⟨p, s, m, ns, ps, rfl, _⟩ := h
    rfl
  · obtain ⟨p, s0, m, ns, ps, rfl, ⟨dx, t, h1, h2⟩, nn, ln, ⟨o0, hs0⟩, hs, kp, prs, pr, okr, lp, out⟩ := h
    refine ⟨_, pss_cons (ps_set (i := 2) scRanB.nd rfl (Or.inl rfl) (pe_c cF hr pass0 (pa_cons (pv 1) (pa_cons (pe_len B.len (pa_cons (pe_fld (pv 0) rfl) pa_nil)) pa_nil))))
      (pss_cons (ps_if (pt_cmpR op_notN (pv 2) pe_non (nomark _)) pss_never pss_nil)
      (pss_cons (ps_set (i := 3) scRanB.nd rfl (Or.inl rfl) (pe_lst pa_nil))
      (pss_cons (ps_for PassesOwn.never rfl (pi_sqA (pv 1)) (pg_tup rfl (pgs_cons (pg_name (i := 4) scRanB.nd rfl (.inl rfl)) (pgs_cons (pg_name (i := 5) scRanB.nd rfl (.inl rfl)) pgs_nil)))
          (pss_one (ps_expr (pe_bm PySem.F.plainAttrs_list PySem.F.slot_list_extend PySem.F.type_list_extend mt_extend (pv 3) (pa_cons
            (pe_lc (own := [("number", 6)]) rfl scRanB.nd (pi_sq (pe_slice sl_tupA (pe_fld (pv 0) rfl) (po_some (pv 4)) (po_some (pe_op op_add (pv 5) pe_int)))) (blkOk_by (N := ["self", "ranges", "wrong", "behind", "first", "last", "number"]) (sc := defScope sRanB) (by decide +kernel))
              (fun _ _ _ _ _ => pg_name (i := 6) scRanB.nd rfl (Or.inl rfl)) (fun _ _ _ _ _ => pts_one (pt_cmpR op_notN (pv 6) pe_non (nomark _))) (fun _ _ _ _ _ => pv 6)) pa_nil)))))
      (pss_one (ps_ret (pe_c cR hr pass0 (pa_cons (pv 3) pa_nil))))))), ?_⟩
    refine ⟨_, rfl, _, rfl, p, C, dx, _, _, rfl, h1, T.cl, T.nN, mapF_numbers _ _, t, ns, rfl, .inr h2, s0, ns.length, ps, rfl, hs, kp, fun H1 e1 => ?_⟩
    refine ⟨_, rfl, rfl, _, rfl, ?_⟩
    rw [rwrong_okR 0 0 pr okr]
    refine ite2 (fun c => absurd c (by decide)) fun _ => ?_
    refine ⟨Nat.zero_le _, fun L nL => ?_⟩
    have e0 : Same H (upd H1 L (.lst [])) := e1.trans (same_new nL)
    have ns0 : s0 ≠ L := ne_of_none (e1 _ _ hs0) nL
    refine ⟨_, rfl, s0, ps, rfl, hs.same e0, fun J G wk hG => for_it wk (fun i σ H' => ∃ (a b : Option V), σ = [some (.ref p), some (.ref s0), some .non, some (.ref L), a, b, none] ∧ Same H H' ∧ H' L = some (.lst ((behR ns (prs.take i)).map V.int)))
      ⟨none, none, rfl, e0, upd_same⟩ (fun i σ H' _ ⟨_, _, _, e, _⟩ => hG H' fun o z => ?_) ?_ ?_⟩
    · rw [upd_ne ns0, e1 _ _ hs0] at z
      rw [← z]
      exact e _ _ hs0
    · rintro i x σ H2 H3 hi ⟨a, b, rfl, e, hL⟩ ⟨rfl, hx⟩
      obtain ⟨pq, hp, a0, rfl, ha0⟩ := paired_at pr hx
      obtain ⟨q1, q2, q3⟩ := okR_at (Int.le_refl 0) okr hp
      have tk : prs.take (i + 1) = prs.take i ++ [pq] := by
        obtain ⟨lt, eq⟩ := List.getElem?_eq_some_iff.mp hp
        rw [List.take_succ_eq_append_getElem lt, eq]
      refine ⟨a0, _, rfl, SqT.of (e _ _ ha0), rfl, _, _, rfl, _, _, rfl, rfl, ?_⟩
      refine ⟨_, rfl, .inl ⟨rfl, _, SqL.of hL⟩, _, rfl, p, C, dx, _, _, rfl, e _ _ h1, T.cl, T.nN, mapF_numbers _ _, _, rfl, _, rfl, _, rfl, _, _, rfl, rfl, _, rfl, ?_⟩
      refine sl_both (Same.seqT e h2) fun tt H4 e4 ht => ?_
      rw [cut_eq ns pq q1 q2 q3] at ht
      refine ⟨tt, cutR ns pq, rfl, .inr ht, fun J2 G2 wk2 hG2 D nD => lc_it wk2 (fun j H' => (∀ b o, H4 b = some o → H' b = some o) ∧ H' D = some (.lst ((intsOf ((cutR ns pq).take j)).map V.int))) ⟨same_new nD, upd_same⟩ (fun j H' _ z => hG2 H' z.1) ?_ ?_⟩
      · rintro j x H5 H6 hj ⟨e5, hD⟩ ⟨rfl, hx⟩
        have tj : (cutR ns pq).take (j + 1) = (cutR ns pq).take j ++ [x] := by
          obtain ⟨lt, eq⟩ := List.getElem?_eq_some_iff.mp hx
          rw [List.take_succ_eq_append_getElem lt, eq]
        have nx : Num x := nn x (List.mem_of_mem_drop (List.mem_of_mem_take (List.mem_of_getElem? hx)))
        have sz : (intsOf ((cutR ns pq).take j)).length ≤ 2100 := Nat.le_trans (intsOf_len _) (by unfold cutR; simp only [List.length_take, List.length_drop]; omega)
        refine ⟨rfl, x, rfl, rfl, _, rfl, ?_⟩
        rcases nx with rfl | ⟨n, rfl⟩
        · refine ite2 (fun c => absurd c (by decide)) fun _ => ⟨e5, ?_⟩
          rw [tj, intsOf_append, show intsOf [V.non] = [] from rfl, List.append_nil]
          exact hD
        · refine ite2 (fun _ => ?_) fun c => absurd (by simp) c
          refine ⟨_, rfl, _, hD, by rw [List.length_map]; exact small2000 sz, fun b o z => ?_, ?_⟩
          · rw [upd_ne (ne_of_none z nD)]
            exact e5 _ _ z
          · rw [upd_same, tj, intsOf_append, List.map_append]
            rfl
      · rintro H5 ⟨e5, hD⟩
        rw [List.take_length] at hD
        have hL5 : H5 L = some (.lst ((behR ns (prs.take i)).map V.int)) := e5 _ _ (e4 _ _ hL)
        have sz1 : (behR ns (prs.take i)).length ≤ 2500 := Nat.le_trans behR_len (Nat.le_trans (Nat.mul_le_mul (show (prs.take i).length ≤ 50 by rw [List.length_take]; omega) ln) (by decide))
        have sz2 : (intsOf (cutR ns pq)).length ≤ 50 := Nat.le_trans (intsOf_len _) (by unfold cutR; simp only [List.length_take, List.length_drop]; omega)
        refine ⟨L, D, _, _, rfl, rfl, hL5, hD, ?_, ?_⟩
        · rw [List.length_map, List.length_map]
          exact Nat.le_of_lt (small10 (by omega))
        · refine ⟨_, _, rfl, fun b o z => ?_, ?_⟩
          · have nb : b ≠ L := ne_of_none (e1 _ _ z) nL
            rw [upd_ne nb]
            exact e5 _ _ (e4 _ _ (e _ _ z))
          · rw [upd_same, tk, behR_snoc, List.map_append]
    · rintro σ H2 ⟨a, b, rfl, e, hL⟩
      rw [Paired.length pr, List.take_length] at hL
      exact ⟨_, rfl, L, _, rfl, hL, Nat.le_trans behR_len (Nat.le_trans (Nat.mul_le_mul lp ln) (by decide)), fun l H' ts nl e5 hl pt => out l H' ts (e.free nl) (e.trans e5) hl pt⟩
end

end K03
set_option Elab.async false
set_option linter.all false
set_option maxRecDepth 100001
set_option maxHeartbeats 3999999
namespace K03
open PySem L2
abbrev sPutIn : Stmt := sD 10
abbrev sStrike : Stmt := sD 11
abbrev sJoin : Stmt := sD 12
abbrev sMapTo : Stmt := sD 13
theorem ord_eq {ls : List Nat} : ∀ {us vs : List (List Nat)}, us.Perm vs → (us.Pairwise fun a b => key ls a < key ls b) → (vs.Pairwise fun a b => key ls a < key ls b) → us = vs
  | [], vs, h, _, _ => (List.Perm.nil_eq h)
  | u :: us, [], h, _, _ => absurd h.length_eq (by simp)
  | u :: us, v :: vs, h, h1, h2 => by
    obtain ⟨a1, a2⟩ := List.pairwise_cons.mp h1
    obtain ⟨b1, b2⟩ := List.pairwise_cons.mp h2
    have e : u = v := by
      have m1 := h.mem_iff.mp (List.mem_cons_self (a := u) (l := us))
      have m2 := h.mem_iff.mpr (List.mem_cons_self (a := v) (l := vs))
      rcases List.mem_cons.mp m1 with z | z
      · exact z
      · rcases List.mem_cons.mp m2 with y | y
        · exact y.symm
        · exact (lt_irr (List.lt_trans (b1 u z) (a1 v y))).elim
    subst e
    rw [ord_eq h.cons_inv a2 b2]
theorem cat_tup {K : PySem.W.Frag} {H : Hp} {a b : Addr} {xs ys : List V} {Q : VK} (ha : H a = some (.tup xs)) (hb : H b = some (.tup ys)) (l : xs.length + ys.length ≤ sizeLine) (k : ∀ t H', Same H H' → H' t = some (.tup (xs ++ ys)) → Q (.ref t) H') : rCatA K (.ref a) (.ref b) H Q := by
  refine ⟨a, b, xs, ys, rfl, rfl, SqT.of ha, SqT.of hb, l, fun e => ?_, fun _ e => ?_, fun _ _ p np => ?_⟩
  · subst e
    exact k b H (Same.refl H) hb
  · subst e
    exact k a H (Same.refl H) (by rw [List.append_nil]; exact ha)
  · exact k p _ (same_new np) upd_same
theorem sl_tup {K : PySem.W.Frag} {H : Hp} {a : Addr} {xs : List V} {lo hi : Option Int} {Q : VK} (h : H a = some (.tup xs)) (k : ∀ t H3, Same H H3 → H3 t = some (.tup (cutV xs lo hi)) → Q (.ref t) H3) : rSlA K (.ref a) lo hi H Q := by
  refine ⟨a, xs, rfl, SqT.of h, fun e => ?_, fun _ p np => k p _ (same_new np) upd_same⟩
  refine k a H (Same.refl H) ?_
  unfold cutV
  rw [e.1, e.2, List.drop_zero, Nat.sub_zero, List.take_length]
  exact h
/-! ### maps between dictionaries -/
def mv (us vs : List (List Nat)) : List V := us.map fun w => if w ∈ vs then .int ((vs.idxOf w : Nat) : Int) else .non
theorem mv_len (us vs : List (List Nat)) : (mv us vs).length = us.length := List.length_map ..
theorem mv_num {us vs : List (List Nat)} : ∀ v ∈ mv us vs, Num v := fun v h => by
  obtain ⟨w, _, rfl⟩ := List.mem_map.mp h
  split
  · exact .inr ⟨_, rfl⟩
  · exact .inl rfl
theorem idx_up {ls : List Nat} {vs : List (List Nat)} (up : vs.Pairwise fun a b => key ls a < key ls b) {a b : List Nat} (ha : a ∈ vs) (hb : b ∈ vs) (h : key ls a < key ls b) : vs.idxOf a < vs.idxOf b := by
  have la := List.idxOf_lt_length_of_mem ha
  have lb := List.idxOf_lt_length_of_mem hb
  have ga : vs[vs.idxOf a]? = some a := by rw [List.getElem?_eq_getElem la, List.getElem_idxOf la]
  have gb : vs[vs.idxOf b]? = some b := by rw [List.getElem?_eq_getElem lb, List.getElem_idxOf lb]
  rcases Nat.lt_trichotomy (vs.idxOf a) (vs.idxOf b) with z | z | z
  · exact z
  · rw [z, gb] at ga
    cases ga
    exact (lt_irr h).elim
  · exact (lt_irr (List.lt_trans h (up_at up z gb ga))).elim
theorem mv_scan {ls : List Nat} {vs : List (List Nat)} (up : vs.Pairwise fun a b => key ls a < key ls b) : ∀ (us : List (List Nat)) (least : Int) (i : Nat), (us.Pairwise fun a b => key ls a < key ls b) → (∀ w ∈ us, w ∈ vs → least ≤ ((vs.idxOf w : Nat) : Int)) → scan (vs.length : Nat) least i (mv us vs) = none
  | [], _, _, _, _ => rfl
  | u :: us, least, i, h, hl => by
    obtain ⟨h1, h2⟩ := List.pairwise_cons.mp h
    show scan (vs.length : Nat) least i ((if u ∈ vs then V.int ((vs.idxOf u : Nat) : Int) else .non) :: mv us vs) = none
    by_cases c : u ∈ vs
    · rw [if_pos c]
      have lu := List.idxOf_lt_length_of_mem c
      rw [scan_in (decide_eq_true ⟨hl u List.mem_cons_self c, by omega⟩)]
      refine mv_scan up us _ _ h2 fun w m mv' => ?_
      have := idx_up up c mv' (h1 w m)
      omega
    · rw [if_neg c, scan_non]
      exact mv_scan up us _ _ h2 fun w m => hl w (List.mem_cons_of_mem _ m)
section
variable {K : PySem.W.Frag} {C CM : Addr} {Tb : List (Addr × Str)}
def spMapTo (K : PySem.W.Frag) (C CM : Addr) : Sp := fun vs H Q _ => ∃ p q ls us ws, vs = [.ref p, .ref q] ∧ IsD C H p ls us ∧ OkD ls us ∧ IsD C H q ls ws ∧ OkD ls ws ∧ ∀ r H', Same H H' → IsMap K CM H' r (ws.length : Nat) (mv us ws) → Q (.ref r) H'
def spPut (K : PySem.W.Frag) (C CM : Addr) (Tb : List (Addr × Str)) : Sp := fun vs H Q _ => ∃ p ls us w, vs = [.ref p, .str (S w)] ∧ IsD C H p ls us ∧ OkD ls us ∧ w.length ≤ 200 ∧ (∀ c ∈ w, c ∈ ls) ∧ w ∉ us ∧ us.length < 2000 ∧ LamX.Tabs Tb H ∧
  ∀ tt m r ws H', ws.Perm (us ++ [w]) → OkD ls ws → LamX.ExtN H H' → LamX.Tabs Tb H' → H' tt = some (.tup [.ref m, .ref r]) → IsD C H' m ls ws → IsMap K CM H' r (ws.length : Nat) (mv us ws) → Q (.ref tt) H'
def spStrike (K : PySem.W.Frag) (C CM : Addr) (Tb : List (Addr × Str)) : Sp := fun vs H Q _ => ∃ p ls us w, vs = [.ref p, .str (S w)] ∧ IsD C H p ls us ∧ OkD ls us ∧ w ∈ us ∧ LamX.Tabs Tb H ∧
  ∀ tt m r H', OkD ls (us.erase w) → LamX.ExtN H H' → LamX.Tabs Tb H' → H' tt = some (.tup [.ref m, .ref r]) → IsD C H' m ls (us.erase w) → IsMap K CM H' r ((us.erase w).length : Nat) (mv us (us.erase w)) → Q (.ref tt) H'
def spJoin (K : PySem.W.Frag) (C CM : Addr) (Tb : List (Addr × Str)) : Sp := fun vs H Q _ => ∃ p q ls us vs', vs = [.ref p, .ref q] ∧ IsD C H p ls us ∧ OkD ls us ∧ IsD C H q ls vs' ∧ OkD ls vs' ∧ us.length + vs'.length ≤ 2000 ∧ LamX.Tabs Tb H ∧
  ∀ tt m r r2 ws H', ws.Perm (us ++ vs'.filter fun w => decide (w ∉ us)) → OkD ls ws → LamX.ExtN H H' → H' tt = some (.tup [.ref m, .ref r, .ref r2]) → IsD C H' m ls ws → IsMap K CM H' r (ws.length : Nat) (mv us ws) → IsMap K CM H' r2 (ws.length : Nat) (mv vs' ws) → Q (.ref tt) H'
theorem mk_d {H : Hp} {s : Addr} {ls : List Nat} {ws : List (List Nat)} {Qx : Addr → VK} {E : XK} (hs : Lt H s (txs ws)) (L : Lets ls) (nd : ws.Nodup) (lw : ws.length ≤ 2000) (hw : ∀ w ∈ ws, w.length ≤ 200 ∧ ∀ c ∈ w, c ∈ ls) (tabs : LamX.Tabs Tb H)
    (k : ∀ x us H', us.Perm ws → OkD ls us → LamX.ExtN H H' → IsD C H' x ls us → LamX.Tabs Tb H' → Qx x .non H') : ∀ x dx, H x = none → H dx = none → dx ≠ x → spInitD K C Tb (.ref x :: ([.str (S ls), .ref s] ++ [])) (upd (upd H dx (.own x)) x (.ins C dx [])) (Qx x) E := by
  intro x dx nx nd' ne
  have e : Same H (upd (upd H dx (.own x)) x (.ins C dx [])) := fun b o z => by
    rw [upd_ne (ne_of_none z nx), upd_ne (ne_of_none z nd')]
    exact z
  exact ⟨x, dx, s, ls, ws, rfl, upd_same, hs.same e, L, nd, lw, hw, tabs.ext e, fun us H' pu O keep D wr t => k x us H' pu O (fun b o z nt => keep b o (ne_of_none z nx) (e _ _ z) nt) D t⟩
end
theorem IsMap.ext {K : PySem.W.Frag} {C : Addr} {H H' : Hp} {p : Addr} {m : Int} {ns : List V} (q : IsMap K C H p m ns) (e : LamX.ExtN H H') : IsMap K C H' p m ns := by
  obtain ⟨dx, t, h1, h2⟩ := q
  refine ⟨dx, t, e _ _ h1 (fun _ z => nomatch z), ?_⟩
  rcases h2 with (h | ⟨o, h⟩) | h
  · exact .inl (.inl (e _ _ h fun _ z => nomatch z))
  · exact .inl (.inr ⟨o, e _ _ h fun _ z => nomatch z⟩)
  · exact .inr h
section
variable {P : Program} {w : World} {K : PySem.W.Frag} {mg : Str → Option Value} {base : Heap}
theorem scMapTo : FnScope ["self", "other", "word"] ["self", "other"] (defScope sMapTo) := ⟨rfl, rfl, rfl, by decide +kernel, rfl, by decide +kernel, by decide +kernel⟩
theorem ok_mapTo {f C CM CN : Addr} {fd : FuncData} (F : Fun K "map_to" "Dictionary.map_to" sMapTo f fd) (T : Txd K C) (mH : Met CX0 P w K mg base 1 C "has_word" (spHas C)) (mN : Met (L2.CX P w) P w K mg base 5 C "number_of" (spNumOf C CN)) (mkM : Mak CX0 P w K mg base 3 "NumberMap" CM (spMInit K CM)) : FnOk P w K mg base CX0 6 f fd ["self", "other"] (spMapTo K C CM) := by
  refine F.ok scMapTo (fun vs H Q E h => ?_) (fun cdv A outer s H vs Q E hr h => ?_)
  · obtain ⟨p, q, ls, us, ws, rfl, _⟩ := h
    rfl
  · obtain ⟨p, q, ls, us, ws, rfl, D, O, D2, O2, k⟩ := h
    obtain ⟨dx, pl, t, kk, nn, h1, h2, h3, h4, h5⟩ := id D
    obtain ⟨dx', pl', t', kk', nn', g1, g2, g3, g4, g5⟩ := id D2
    refine ⟨_, pss_cons (ps_if (pt_cmpR op_ne (pe_fld (pv 0) rfl) (pe_fld (pv 1) rfl) (nomark _)) pss_never pss_nil)
      (pss_one (ps_ret (pe_mk mkM hr pass0 (pa_cons (pe_fld (pv 1) rfl) (pa_cons (pe_lc (own := [("word", 2)]) rfl scMapTo.nd (pi_sqA (pe_fld (pv 0) rfl)) (blkOk_by (N := ["self", "other", "word"]) (sc := defScope sMapTo) (by decide +kernel))
          (fun _ _ _ _ _ => pg_name (i := 2) scMapTo.nd rfl (Or.inl rfl)) (fun _ _ _ _ _ => pts_nil) (fun _ _ _ _ _ => pe_ifExp (pt_val (pe_mt mH hr pass0 (pv 1) (pa_cons (pv 2) pa_nil))) (pe_mt mN hr passL (pv 1) (pa_cons (pv 2) pa_nil)) pe_non)) pa_nil))))), ?_⟩
    refine ⟨_, rfl, p, C, dx, _, _, rfl, h1, T.cl, T.nL, df_letters _ _ _ _ _ _, _, rfl, q, C, dx', _, _, rfl, g1, T.cl, T.nL, df_letters _ _ _ _ _ _, ?_⟩
    refine ⟨rfl, _, rfl, ?_⟩
    rw [decS, decide_eq_true rfl]
    refine iteF ?_
    refine ⟨_, rfl, q, C, dx', _, _, rfl, g1, T.cl, T.nM, df_many _ _ _ _ _ _, _, rfl, p, C, dx, _, _, rfl, h1, T.cl, T.nW, df_words _ _ _ _ _ _, t, _, rfl, .inr (SqT.of h3), fun J G wk hG L nL => lc_it wk (fun i H' => Same H H' ∧ H' L = some (.lst (mv (us.take i) ws))) ⟨same_new nL, upd_same⟩ (fun i H' _ z => hG H' fun o z' => z.1 _ _ z') ?_ ?_⟩
    · rintro i y H3 H4 hi ⟨e3, hL⟩ ⟨rfl, hy⟩
      have hi2 : i < us.length := by rwa [strs_len] at hi
      have eu := List.getElem?_eq_getElem hi2
      have ey : y = .str (S us[i]) := by
        have hy : (us.map fun w => V.str (S w))[i]? = some y := hy
        rw [List.getElem?_map, eu] at hy
        exact (Option.some.inj hy).symm
      subst ey
      have tj : us.take (i + 1) = us.take i ++ [us[i]] := by rw [List.take_add_one, eu]; rfl
      have := O.many
      have fin : ∀ y, y = (if us[i] ∈ ws then V.int ((ws.idxOf us[i] : Nat) : Int) else .non) → ∃ acc, H4 L = some (.lst acc) ∧ acc.length < sizeLine ∧ Same H (upd H4 L (.lst (acc ++ [y]))) ∧ upd H4 L (.lst (acc ++ [y])) L = some (.lst (mv (us.take (i + 1)) ws)) := fun y ey => by
        refine ⟨_, hL, ?_, fun b o z => ?_, ?_⟩
        · rw [mv_len, List.length_take]
          exact small10 (by omega)
        · rw [upd_ne (ne_of_none z nL)]
          exact e3 _ _ z
        · rw [upd_same, tj, ey]
          unfold mv
          rw [List.map_append]
          rfl
      refine ⟨rfl, yesT ⟨_, rfl, q, dx', _, rfl, e3 _ _ g1, df_no, _, rfl, q, _, ls, ws, rfl, D2.same e3, O2.nd, .str _, _, rfl, ?_⟩⟩
      show (if decide (us[i] ∈ ws) = true then _ else _)
      by_cases c : us[i] ∈ ws
      · rw [decide_eq_true c]
        have li := List.idxOf_lt_length_of_mem c
        have gi : ws[ws.idxOf us[i]]? = some us[i] := by rw [List.getElem?_eq_getElem li, List.getElem_idxOf li]
        exact iteT ⟨_, rfl, q, dx', _, rfl, e3 _ _ g1, df_no, _, rfl, q, _, ls, ws, rfl, D2.same e3, O2.nd, .inl ⟨_, _, rfl, gi, fin _ (by rw [if_pos c])⟩⟩
      · rw [decide_eq_false c]
        exact iteF (fin _ (by rw [if_neg c]))
    · rintro H3 ⟨e3, hL⟩
      rw [strs_len, List.take_length] at hL
      refine made_ok (.inl (SqL.of hL)) mv_num (by omega) (by have := O2.many; omega) (by rw [mv_len]; exact O.many) (mv_scan O2.up us 0 0 O.up fun _ _ _ => by omega) fun r H4 e4 nr M => ⟨rfl, k r H4 (e3.trans e4) M⟩
theorem scStrike : FnScope ["self", "word", "struck", "less"] ["self", "word"] (defScope sStrike) := ⟨rfl, rfl, rfl, by decide +kernel, rfl, by decide +kernel, by decide +kernel⟩
theorem erase_at {w : List Nat} : ∀ {us : List (List Nat)}, w ∈ us → us.take (us.idxOf w) ++ us.drop (us.idxOf w + 1) = us.erase w
  | [], h => nomatch h
  | a :: us, h => by
    by_cases c : a = w
    · subst c
      rw [List.idxOf_cons_self, List.erase_cons_head]
      rfl
    · have h' : w ∈ us := (List.mem_cons.mp h).resolve_left fun z => c z.symm
      have e : (a :: us).idxOf w = us.idxOf w + 1 := by rw [List.idxOf_cons, show (a == w) = false from by simpa using c]; rfl
      rw [e, List.erase_cons_tail (by simpa using c), ← erase_at h']
      rfl
theorem ok_strike {f C CM CN : Addr} {fd : FuncData} {Tb : List (Addr × Str)} (F : Fun K "strike_out" "Dictionary.strike_out" sStrike f fd) (T : Txd K C) (mN : Met (L2.CX P w) P w K mg base 5 C "number_of" (spNumOf C CN)) (mkD : Mak CX0 P w K mg base 5 "Dictionary" C (spInitD K C Tb)) (mM : Met CX0 P w K mg base 6 C "map_to" (spMapTo K C CM)) :
    FnOk P w K mg base CX0 7 f fd ["self", "word"] (spStrike K C CM Tb) := by
  refine F.ok scStrike (fun vs H Q E h => ?_) (fun cdv A outer s H vs Q E hr h => ?_)
  · obtain ⟨p, ls, us, w, rfl, _⟩ := h
    rfl
  · obtain ⟨p, ls, us, w, rfl, D, O, mw, tabs, k⟩ := h
    obtain ⟨dx, pl, t, kk, nn, h1, h2, h3, h4, h5⟩ := id D
    refine ⟨_, pss_cons (ps_set (i := 2) scStrike.nd rfl (Or.inl rfl) (pe_mt mN hr passL (pv 0) (pa_cons (pv 1) pa_nil)))
      (pss_cons (ps_set (i := 3) scStrike.nd rfl (Or.inl rfl) (pe_mk mkD hr pass0 (pa_cons (pe_fld (pv 0) rfl) (pa_cons (pe_op op_catA (pe_slice sl_tupA (pe_fld (pv 0) rfl) po_none (po_some (pv 2))) (pe_slice sl_tupA (pe_fld (pv 0) rfl) (po_some (pe_op op_add (pv 2) pe_int)) po_none)) pa_nil))))
      (pss_one (ps_ret (pe_tup (pa_cons (pv 3) (pa_cons (pe_mt mM hr pass0 (pv 0) (pa_cons (pv 3) pa_nil)) pa_nil)))))), ?_⟩
    have li := List.idxOf_lt_length_of_mem mw
    have gi : us[us.idxOf w]? = some w := by rw [List.getElem?_eq_getElem li, List.getElem_idxOf li]
    have lm := O.many
    refine ⟨_, rfl, p, dx, _, rfl, h1, df_no, _, rfl, p, _, ls, us, rfl, D, O.nd, .inl ⟨_, _, rfl, gi, ?_⟩⟩
    refine ⟨_, rfl, p, C, dx, _, _, rfl, h1, T.cl, T.nL, df_letters _ _ _ _ _ _, _, rfl, p, C, dx, _, _, rfl, h1, T.cl, T.nW, df_words _ _ _ _ _ _, _, rfl, _, rfl, ?_⟩
    refine sl_tup h3 fun t1 H1 e1 ht1 => ?_
    rw [cut_to (by rw [strs_len]; omega)] at ht1
    refine ⟨_, rfl, p, C, dx, _, _, rfl, e1 _ _ h1, T.cl, T.nW, df_words _ _ _ _ _ _, _, rfl, _, _, rfl, rfl, _, rfl, ?_⟩
    dsimp only [tNoPart]
    refine sl_tup (e1 _ _ h3) fun t2 H2 e2 ht2 => ?_
    rw [show ((us.idxOf w : Nat) : Int) + 1 = ((us.idxOf w + 1 : Nat) : Int) by omega, cut_from (by rw [strs_len]; omega)] at ht2
    refine cat_tup (e2 _ _ ht1) ht2 ?_ fun t3 H3 e3 ht3 => ?_
    · rw [List.length_take, List.length_drop, strs_len]
      exact Nat.le_of_lt (small10 (by omega))
    have et : (txs us).take (us.idxOf w) ++ (txs us).drop (us.idxOf w + 1) = txs (us.erase w) := by
      rw [← erase_at mw]
      unfold txs
      rw [List.map_append, List.map_take, List.map_drop]
    rw [et] at ht3
    have e13 := e1.trans (e2.trans e3)
    have sub : (us.erase w).Sublist us := List.erase_sublist
    have le : (us.erase w).length ≤ us.length := sub.length_le
    refine mk_d (ws := us.erase w) (.inr ht3) O.L (sub.nodup O.nd) (by omega) (fun u m => O.word u (sub.mem m)) (tabs.ext e13) fun x vs H4 pu O4 ext4 D4 tab4 => ⟨rfl, ?_⟩
    obtain rfl : vs = us.erase w := ord_eq pu O4.up (O.up.sublist sub)
    have D14 := (D.same e13).ext ext4
    obtain ⟨dx4, _, _, _, _, i4, _⟩ := id D14
    refine ⟨_, rfl, _, rfl, p, dx4, _, rfl, i4, df_no, _, rfl, p, x, ls, us, us.erase w, rfl, D14, O, D4, O4, fun r H5 e5 M => ⟨by show 2 ≤ sizeLine; decide, fun tt ntt => ?_⟩⟩
    have e6 := same_new (o := .tup [.ref x, .ref r]) ntt
    exact k tt x r _ O4 ((ext_of e13).trans (ext4.trans (ext_of (e5.trans e6)))) (tab4.ext (e5.trans e6)) upd_same (D4.same (e5.trans e6)) (M.same e6)
theorem idx_get {vs : List (List Nat)} (nd : vs.Nodup) {i : Nat} {u : List Nat} (h : vs[i]? = some u) : vs.idxOf u = i := by
  have m := List.mem_of_getElem? h
  have li := List.idxOf_lt_length_of_mem m
  obtain ⟨hi, e⟩ := List.getElem?_eq_some_iff.mp h
  refine nd_at (d := []) nd li hi ?_
  rw [List.getD_eq_getElem?_getD, List.getD_eq_getElem?_getD, h, List.getElem?_eq_getElem li, List.getElem_idxOf li]
theorem mv_put {us : List (List Nat)} {w : List Nat} {a : Nat} (ha : a ≤ us.length) (nd : (us.take a ++ [w] ++ us.drop a).Nodup) : ((List.range' 0 us.length).map fun (j : Nat) => if (j : Int) < (a : Nat) then (j : Int) else (j : Int) + 1).map V.int = mv us (us.take a ++ [w] ++ us.drop a) := by
  have lt : (us.take a).length = a := by rw [List.length_take]; omega
  refine List.ext_getElem? fun i => ?_
  unfold mv
  rw [List.getElem?_map, List.getElem?_map, List.getElem?_map]
  by_cases c : i < us.length
  · rw [List.getElem?_range' c, List.getElem?_eq_getElem c, Option.map_some, Option.map_some, Option.map_some, Nat.zero_add, Nat.one_mul]
    congr 1
    have g := List.getElem?_eq_getElem c
    by_cases d : i < a
    · have h : (us.take a ++ [w] ++ us.drop a)[i]? = some us[i] := by
        rw [List.append_assoc, List.getElem?_append_left (by omega), List.getElem?_take_of_lt d, g]
      rw [if_pos (by omega), if_pos (List.mem_of_getElem? h), idx_get nd h]
    · have h : (us.take a ++ [w] ++ us.drop a)[i + 1]? = some us[i] := by
        have l2 : (us.take a ++ [w]).length = a + 1 := by rw [List.length_append, lt]; rfl
        rw [List.getElem?_append_right (by omega), l2, List.getElem?_drop, ← g]
        congr 1
        omega
      rw [if_neg (by omega), if_pos (List.mem_of_getElem? h), idx_get nd h]
      congr 1
  · rw [List.getElem?_eq_none (by rw [List.length_range']; omega), List.getElem?_eq_none (by omega)]
    rfl
theorem scPutIn : FnScope ["self", "word", "place", "more", "moved", "number"] ["self", "word"] (defScope sPutIn) := ⟨rfl, rfl, rfl, by decide +kernel, rfl, by decide +kernel, by decide +kernel⟩
theorem ok_put {f C CN CM : Addr} {fd : FuncData} {Tb : List (Addr × Str)} (F : Fun K "put_in" "Dictionary.put_in" sPutIn f fd) (B : Bi mg) (T : Txd K C) (mP : Met (L2.CX P w) P w K mg base 5 C "place_for" (spPlace C CN)) (mH : Met CX0 P w K mg base 1 C "has_word" (spHas C))
    (mkD : Mak CX0 P w K mg base 5 "Dictionary" C (spInitD K C Tb)) (mkM : Mak CX0 P w K mg base 3 "NumberMap" CM (spMInit K CM)) :
    FnOk P w K mg base CX0 7 f fd ["self", "word"] (spPut K C CM Tb) := by
  refine F.ok scPutIn (fun vs H Q E h => ?_) (fun cdv A outer s H vs Q E hr h => ?_)
  · obtain ⟨p, ls, us, w, rfl, _⟩ := h
    rfl
  · obtain ⟨p, ls, us, w, rfl, D, O, lw, hw, nm, room, tabs, k⟩ := h
    obtain ⟨dx, pl, t, kk, nn, h1, h2, h3, h4, h5⟩ := id D
    refine ⟨_, pss_cons (ps_set (i := 2) scPutIn.nd rfl (Or.inr rfl) (pe_mt mP hr passL (pv 0) (pa_cons (pv 1) pa_nil)))
      (pss_cons (ps_if (pt_val (pe_mt mH hr pass0 (pv 0) (pa_cons (pv 1) pa_nil))) pss_never pss_nil)
      (pss_cons (ps_set (i := 3) scPutIn.nd rfl (Or.inl rfl) (pe_mk mkD hr pass0 (pa_cons (pe_fld (pv 0) rfl) (pa_cons (pe_op op_catA (pe_fld (pv 0) rfl) (pe_tup (pa_cons (pv 1) pa_nil))) pa_nil))))
      (pss_cons (ps_setLc (i := 4) (own := [("number", 5)]) rfl scPutIn.nd rfl rfl (sw_true rfl rfl rfl (by decide +kernel)) (pi_range1 rfl B.range (pa_cons (pe_fld (pv 0) rfl) pa_nil)) (blkOk_by (N := ["self", "word", "place", "more", "moved", "number"]) (sc := defScope sPutIn) (by decide +kernel))
          (fun _ _ _ _ _ => pg_name (i := 5) scPutIn.nd rfl (Or.inl rfl)) (fun _ _ _ _ _ => pts_nil) (fun _ _ _ _ _ => pe_ifExp (pt_cmpR op_lt (pv 5) (pv 2) (nomark _)) (pv 5) (pe_op op_add (pv 5) pe_int)))
      (pss_one (ps_ret (pe_tup (pa_cons (pv 3) (pa_cons (pe_mk mkM hr pass0 (pa_cons (pe_fld (pv 3) rfl) (pa_cons (pv 4) pa_nil))) pa_nil)))))))), ?_⟩
    have lm := O.many
    refine ⟨_, rfl, p, dx, _, rfl, h1, df_no, _, rfl, p, _, ls, us, rfl, D, O, .inl ⟨w, rfl, lw, hw, fun H1 e1 => ?_⟩⟩
    have h11 := e1 _ _ h1
    refine ⟨_, rfl, p, dx, _, rfl, h11, df_no, _, rfl, p, _, ls, us, rfl, D.same e1, O.nd, .str _, _, rfl, ?_⟩
    show (if decide (w ∈ us) = true then _ else _)
    rw [decide_eq_false nm]
    refine iteF ?_
    refine ⟨_, rfl, p, C, dx, _, _, rfl, h11, T.cl, T.nL, df_letters _ _ _ _ _ _, _, rfl, p, C, dx, _, _, rfl, h11, T.cl, T.nW, df_words _ _ _ _ _ _, _, rfl, by show 1 ≤ sizeLine; decide, fun tt ntt => ?_⟩
    have e4 : Same H1 (upd H1 tt (.tup [.str (S w)])) := same_new ntt
    have htt : upd H1 tt (.tup [.str (S w)]) tt = some (.tup [.str (S w)]) := upd_same
    generalize upd H1 tt (.tup [.str (S w)]) = H4 at e4 htt ⊢
    refine cat_tup (e4 _ _ (e1 _ _ h3)) htt ?_ fun u H5 e5 hu => ?_
    · rw [strs_len]
      exact Nat.le_of_lt (small10 (by show us.length + 1 ≤ _; omega))
    have et : txs us ++ [.str (S w)] = txs (us ++ [w]) := by
      unfold txs
      rw [List.map_append]
      rfl
    rw [et] at hu
    have e15 : Same H H5 := e1.trans (e4.trans e5)
    have ln : (us ++ [w]).length = us.length + 1 := by rw [List.length_append]; rfl
    have nd2 : (us ++ [w]).Nodup := List.nodup_append.mpr ⟨O.nd, by simp, fun a ha b hb => by
      rw [List.mem_singleton.mp hb]
      intro z
      exact nm (z ▸ ha)⟩
    have hw2 : ∀ u ∈ us ++ [w], u.length ≤ 200 ∧ ∀ c ∈ u, c ∈ ls := fun u m => by
      rcases List.mem_append.mp m with m | m
      · exact O.word u m
      · rw [List.mem_singleton.mp m]
        exact ⟨lw, hw⟩
    have kinj : ∀ u ∈ us, key ls u ≠ key ls w := fun u m z => nm (key_inj (O.word u m).2 hw z ▸ m)
    have ins := ins_sorted (ls := ls) (w := w) O.up kinj
    have pins : (us.take (ahead ls us (key ls w)) ++ [w] ++ us.drop (ahead ls us (key ls w))).Perm (us ++ [w]) := by
      rw [List.append_assoc]
      refine (List.perm_middle (a := w) (l₁ := us.take (ahead ls us (key ls w))) (l₂ := us.drop (ahead ls us (key ls w)))).trans ?_
      rw [List.take_append_drop]
      exact (List.perm_append_singleton w us).symm
    have ale : ahead ls us (key ls w) ≤ us.length := List.countP_le_length
    refine mk_d (ws := us ++ [w]) (.inr hu) O.L nd2 (by rw [ln]; omega) hw2 (tabs.ext e15) fun x vs H6 pu O6 ext56 D6 tab6 => ⟨rfl, ?_⟩
    obtain rfl : us.take (ahead ls us (key ls w)) ++ [w] ++ us.drop (ahead ls us (key ls w)) = vs := ord_eq (pins.trans pu.symm) ins O6.up
    have ext6 : LamX.ExtN H H6 := (ext_of e15).trans ext56
    have h16 := ext6 _ _ h1 fun _ z => nomatch z
    have mvp := mv_put (w := w) ale O6.nd
    generalize ahead ls us (key ls w) = a at ale mvp ins pins pu O6 D6 ⊢
    generalize hvs : us.take a ++ [w] ++ us.drop a = vs at mvp ins pins pu O6 D6 ⊢
    refine ⟨_, rfl, p, C, dx, _, _, rfl, h16, T.cl, T.nM, df_many _ _ _ _ _ _, _, rfl, by omega, by omega, fun L nL => ?_⟩
    refine lc_range (n := ((us.length : Nat) : Int).toNat) (fun i H' => Same H6 H' ∧ H' L = some (.lst (((List.range' 0 i).map fun (j : Nat) => if (j : Int) < (a : Nat) then (j : Int) else (j : Int) + 1).map V.int))) ⟨same_new nL, upd_same⟩ ?_ ?_
    · rintro i H7 hi ⟨e7, hL⟩
      have lt : i < us.length := by simpa using hi
      rw [Int.zero_add]
      have sm : ((((List.range' 0 i).map fun (j : Nat) => if (j : Int) < (a : Nat) then (j : Int) else (j : Int) + 1).map V.int)).length < sizeLine := by
        rw [List.length_map, List.length_map, List.length_range']
        exact small10 (by omega)
      have fin : ∀ y : V, y = .int (if (i : Int) < (a : Nat) then (i : Int) else (i : Int) + 1) → Same H6 (upd H7 L (.lst ((((List.range' 0 i).map fun (j : Nat) => if (j : Int) < (a : Nat) then (j : Int) else (j : Int) + 1).map V.int) ++ [y]))) ∧ (upd H7 L (.lst ((((List.range' 0 i).map fun (j : Nat) => if (j : Int) < (a : Nat) then (j : Int) else (j : Int) + 1).map V.int) ++ [y]))) L = some (.lst (((List.range' 0 (i + 1)).map fun (j : Nat) => if (j : Int) < (a : Nat) then (j : Int) else (j : Int) + 1).map V.int)) := fun y ey => by
        refine ⟨fun b o z => ?_, ?_⟩
        · rw [upd_ne (ne_of_none z nL)]
          exact e7 _ _ z
        · rw [upd_same, ey, List.range'_concat, List.map_append, List.map_append]
          simp
      refine ⟨rfl, yesT ⟨_, rfl, _, rfl, _, _, rfl, rfl, _, rfl, ?_⟩⟩
      by_cases c : (i : Int) < (a : Nat)
      · rw [decide_eq_true c]
        exact iteT ⟨_, rfl, _, hL, sm, fin _ (by rw [if_pos c])⟩
      · rw [decide_eq_false c]
        exact iteF ⟨_, rfl, _, _, rfl, rfl, _, hL, sm, fin _ (by rw [if_neg c])⟩
    · rintro H7 ⟨e7, hL⟩
      rw [Int.toNat_natCast, mvp] at hL
      have D7 := D6.same e7
      obtain ⟨dx7, pl7, t7, kk7, nn7, i1, _⟩ := id D7
      have lvs : vs.length = us.length + 1 := by rw [pu.length_eq, ln]
      refine ⟨_, rfl, _, rfl, x, C, dx7, _, _, rfl, i1, T.cl, T.nM, df_many _ _ _ _ _ _, _, rfl, ?_⟩
      refine made_ok (.inl (SqL.of hL)) mv_num (by omega) (by omega) (by rw [mv_len]; omega) (mv_scan O6.up us 0 0 O.up fun _ _ _ => by omega) fun r H8 e8 nr M => ⟨rfl, by show 2 ≤ sizeLine; decide, fun t9 nt9 => ?_⟩
      have e9 := same_new (o := .tup [.ref x, .ref r]) nt9
      have e69 := e7.trans (e8.trans e9)
      exact k t9 x r vs _ pu O6 (ext6.trans (ext_of e69)) (tab6.ext e69) upd_same (D6.same e69) (M.same e9)
theorem scJoin : FnScope ["self", "other", "added", "whole", "word"] ["self", "other"] (defScope sJoin) := ⟨rfl, rfl, rfl, by decide +kernel, rfl, by decide +kernel, by decide +kernel⟩
theorem ok_join {f C CM : Addr} {fd : FuncData} {Tb : List (Addr × Str)} (F : Fun K "join_with" "Dictionary.join_with" sJoin f fd) (B : Bi mg) (T : Txd K C) (mH : Met CX0 P w K mg base 1 C "has_word" (spHas C)) (mkD : Mak CX0 P w K mg base 5 "Dictionary" C (spInitD K C Tb)) (mM : Met CX0 P w K mg base 6 C "map_to" (spMapTo K C CM)) :
    FnOk P w K mg base CX0 7 f fd ["self", "other"] (spJoin K C CM Tb) := by
  refine F.ok scJoin (fun vs H Q E h => ?_) (fun cdv A outer s H vs Q E hr h => ?_)
  · obtain ⟨p, q, ls, ws, ws2, rfl, _⟩ := h
    rfl
  · obtain ⟨p, q, ls, ws, ws2, rfl, D, O, D2, O2, room, tabs, k⟩ := h
    obtain ⟨dx, pl, t, kk, nn, h1, h2, h3, h4, h5⟩ := id D
    obtain ⟨dx', pl', t', kk', nn', g1, g2, g3, g4, g5⟩ := id D2
    refine ⟨_, pss_cons (ps_if (pt_cmpR op_ne (pe_fld (pv 0) rfl) (pe_fld (pv 1) rfl) (nomark _)) pss_never pss_nil)
      (pss_cons (ps_setLc (i := 2) (own := [("word", 4)]) rfl scJoin.nd rfl rfl (sw_true rfl rfl rfl (by decide +kernel)) (pi_sqA (pe_fld (pv 1) rfl)) (blkOk_by (N := ["self", "other", "added", "whole", "word"]) (sc := defScope sJoin) (by decide +kernel))
          (fun _ _ _ _ _ => pg_name (i := 4) scJoin.nd rfl (Or.inl rfl)) (fun _ _ _ _ _ => pts_one (pt_not (pt_val (pe_mt mH hr pass0 (pv 0) (pa_cons (pv 4) pa_nil))))) (fun _ _ _ _ _ => pv 4))
      (pss_cons (ps_set (i := 3) scJoin.nd rfl (Or.inl rfl) (pe_mk mkD hr pass0 (pa_cons (pe_fld (pv 0) rfl) (pa_cons (pe_op op_catA (pe_fld (pv 0) rfl) (pe_tupleOf rfl B.tuple (pv 2))) pa_nil))))
      (pss_one (ps_ret (pe_tup (pa_cons (pv 3) (pa_cons (pe_mt mM hr pass0 (pv 0) (pa_cons (pv 3) pa_nil)) (pa_cons (pe_mt mM hr pass0 (pv 1) (pa_cons (pv 3) pa_nil)) pa_nil)))))))), ?_⟩
    refine ⟨_, rfl, p, C, dx, _, _, rfl, h1, T.cl, T.nL, df_letters _ _ _ _ _ _, _, rfl, q, C, dx', _, _, rfl, g1, T.cl, T.nL, df_letters _ _ _ _ _ _, ?_⟩
    refine ⟨rfl, _, rfl, ?_⟩
    rw [decS, decide_eq_true rfl]
    refine iteF ?_
    refine ⟨_, rfl, q, C, dx', _, _, rfl, g1, T.cl, T.nW, df_words _ _ _ _ _ _, t', _, rfl, .inr (SqT.of g3), fun J G wk hG L nL => lc_it wk (fun i H' => Same H H' ∧ H' L = some (.lst (txs ((ws2.take i).filter fun o => decide (o ∉ ws))))) ⟨same_new nL, upd_same⟩ (fun i H' _ z => hG H' fun o z' => z.1 _ _ z') ?_ ?_⟩
    · rintro i y H3 H4 hi ⟨e3, hL⟩ ⟨rfl, hy⟩
      have hi2 : i < ws2.length := by rwa [strs_len] at hi
      have eu := List.getElem?_eq_getElem hi2
      have ey : y = .str (S ws2[i]) := by
        have hy : (ws2.map fun w => V.str (S w))[i]? = some y := hy
        rw [List.getElem?_map, eu] at hy
        exact (Option.some.inj hy).symm
      subst ey
      refine ⟨rfl, _, rfl, p, dx, _, rfl, e3 _ _ h1, df_no, _, rfl, p, _, ls, ws, rfl, D.same e3, O.nd, .str _, _, rfl, ?_⟩
      have tj : ws2.take (i + 1) = ws2.take i ++ [ws2[i]] := by rw [List.take_add_one, eu]; rfl
      have lf : ((ws2.take i).filter fun o => decide (o ∉ ws)).length ≤ i := Nat.le_trans (List.length_filter_le _ _) (by rw [List.length_take]; omega)
      have := O2.many
      show (if (!decide (ws2[i] ∈ ws)) = true then _ else _)
      by_cases c : ws2[i] ∈ ws
      · rw [decide_eq_true c]
        refine iteF ⟨e3, ?_⟩
        rw [tj, List.filter_append, hL]
        simp [c]
      · rw [decide_eq_false c]
        refine iteT ⟨_, rfl, _, hL, ?_, fun b o z => ?_, ?_⟩
        · rw [strs_len]
          exact small10 (by omega)
        · rw [upd_ne (ne_of_none z nL)]
          exact e3 _ _ z
        · rw [upd_same, tj, List.filter_append]
          unfold txs
          rw [List.map_append]
          simp [c]
    · rintro H3 ⟨e3, hL⟩
      rw [strs_len, List.take_length] at hL
      have fsub : (ws2.filter fun o => decide (o ∉ ws)).Sublist ws2 := List.filter_sublist
      have fno : ∀ u ∈ ws2.filter fun o => decide (o ∉ ws), u ∉ ws := fun u m => of_decide_eq_true (List.mem_filter.mp m).2
      generalize ef : (ws2.filter fun o => decide (o ∉ ws)) = fs at hL fsub fno k
      have lf : fs.length ≤ ws2.length := fsub.length_le
      have l1 := O.many
      have h13 := e3 _ _ h1
      refine ⟨_, rfl, p, C, dx, _, _, rfl, h13, T.cl, T.nL, df_letters _ _ _ _ _ _, _, rfl, p, C, dx, _, _, rfl, h13, T.cl, T.nW, df_words _ _ _ _ _ _, _, rfl, .inl ⟨L, _, rfl, SqL.of hL, fun tt ntt => ?_⟩⟩
      have e4 : Same H3 (upd H3 tt (.tup (txs fs))) := same_new ntt
      have htt : upd H3 tt (.tup (txs fs)) tt = some (.tup (txs fs)) := upd_same
      generalize upd H3 tt (.tup (txs fs)) = H4 at e4 htt ⊢
      refine cat_tup (e4 _ _ (e3 _ _ h3)) htt ?_ fun u H5 e5 hu => ?_
      · rw [strs_len, strs_len]
        exact Nat.le_of_lt (small10 (by omega))
      have et : txs ws ++ txs fs = txs (ws ++ fs) := by
        unfold txs
        rw [List.map_append]
      rw [et] at hu
      have e15 := e3.trans (e4.trans e5)
      refine mk_d (ws := ws ++ fs) (.inr hu) O.L (List.nodup_append.mpr ⟨O.nd, fsub.nodup O2.nd, fun a ha b hb z => fno b hb (z ▸ ha)⟩) (by rw [List.length_append]; omega) (fun u m => ?_) (tabs.ext e15) fun x vs H6 pu O6 ext56 D6 tab6 => ⟨rfl, ?_⟩
      · rcases List.mem_append.mp m with m | m
        · exact O.word u m
        · exact O2.word u (fsub.mem m)
      have D16 := (D.same e15).ext ext56
      have D26 := (D2.same e15).ext ext56
      obtain ⟨dx6, _, _, _, _, i6, _⟩ := id D16
      refine ⟨_, rfl, _, rfl, p, dx6, _, rfl, i6, df_no, _, rfl, p, x, ls, ws, vs, rfl, D16, O, D6, O6, fun r H7 e7 M => ?_⟩
      have D27 := D26.same e7
      have D67 := D6.same e7
      obtain ⟨dx7, _, _, _, _, i7, _⟩ := id D27
      refine ⟨_, rfl, q, dx7, _, rfl, i7, df_no, _, rfl, q, x, ls, ws2, vs, rfl, D27, O2, D67, O6, fun r2 H8 e8 M2 => ⟨by show 3 ≤ sizeLine; decide, fun t9 nt9 => ?_⟩⟩
      have e9 := same_new (o := .tup [.ref x, .ref r, .ref r2]) nt9
      exact k t9 x r r2 vs _ pu O6 ((ext_of e15).trans (ext56.trans (ext_of (e7.trans (e8.trans e9))))) upd_same (D67.same (e8.trans e9)) (M.same (e8.trans e9)) (M2.same e9)
end
end K03
set_option Elab.async false
set_option linter.all false
set_option maxRecDepth 100001
set_option maxHeartbeats 3999999
namespace K03
open PySem L2
abbrev sPart : Stmt := topS 34
abbrev sItem : Stmt := topS 35
abbrev sNodes : Stmt := topS 36
abbrev sR (j : Nat) : Stmt := inClass (topS 37) j
/-- an item of a row -/
def OkI (ls it : List Nat) : Prop := it = [42] ∨ it = [63] ∨ (it ≠ [] ∧ it.Nodup ∧ ∀ c ∈ it, c ∈ ls)
def spPart : Sp := fun vs H Q _ => ∃ a b xs, vs = [.ref a] ∧ H a = some (.tup [.str "row", .ref b]) ∧ H b = some (.tup xs) ∧ Q (.bl true) H
def spItem : Sp := fun vs H Q _ => ∃ it ls, vs = [.str (S it), .str (S ls)] ∧ OkI ls it ∧ ls.length ≤ 1000 ∧ it.length ≤ 100 ∧ ∀ H', Same H H' → Q (.bl true) H'
/-- nodes_of a row -/
def spNodes : Sp := fun vs H Q _ => ∃ a b ls its, vs = [.ref a, .str (S ls)] ∧ H a = some (.tup [.str "row", .ref b]) ∧ H b = some (.tup (txs its)) ∧ its.length ≤ 50 ∧ (∀ it ∈ its, OkI ls it ∧ it.length ≤ 100) ∧ ls.length ≤ 1000 ∧
  ∀ L n l H', Same H H' → H' L = some (.lst [.ref n]) → H' n = some (.tup [.str "row", .ref l]) → H' l = some (.lst (txs its)) → Q (.ref L) H'
/-- names of the module -/
structure Cm (mg : Str → Option Value) : Prop where
  parts : ∃ u, mg "MOST_PARTS" = some u ∧ RelV (.int 60) u
  stand : ∃ u, mg "MOST_STANDINGS" = some u ∧ RelV (.int 2000) u
section
variable {P : Program} {w : World} {K : PySem.W.Frag} {mg : Str → Option Value} {base : Heap}
theorem scPart : FnScope ["value"] ["value"] (defScope sPart) := ⟨rfl, rfl, rfl, by decide +kernel, rfl, by decide +kernel, by decide +kernel⟩
theorem ok_part {f : Addr} {fd : FuncData} (F : Fun K "is_part" "is_part" sPart f fd) (B : Bi mg) (C : Bs mg) : FnOk P w K mg base CX0 1 f fd ["value"] spPart := by
  refine F.ok scPart (fun vs H Q E h => ?_) (fun cdv A outer s H vs Q E hr h => ?_)
  · obtain ⟨a, b, xs, rfl, _⟩ := h
    rfl
  · obtain ⟨a, b, xs, rfl, ha, hb, q⟩ := h
    refine ⟨_, pss_cons (ps_if (PW.pt (pw_or (pt_not (pt_val (pe_isi B.isi (pa_cons (pv 0) (pa_cons (pe_ty "tuple" B.tuple) pa_nil))))) (pw_or (pt_not (pt_truth (pv 0) (by intro _; rfl))) (pw_or1 (pt_not (pt_val (pe_isStr B.isi (pa_cons (pe_ix ix_tup (pv 0) pe_int (fun _ _ => rfl)) (pa_cons (pe_ty "str" C.str) pa_nil)))))))) ) pss_never pss_nil)
      (pss_cons (ps_if (pt_cmpR op_eq (pe_ix ix_tup (pv 0) pe_int (fun _ _ => rfl)) pe_str (nomark _)) (pss_one (ps_ret (pe_and (pe_cmpR op_eq (pe_len B.len (pa_cons (pv 0) pa_nil)) pe_int (nomark _)) (pe_one (pe_isi B.isi (pa_cons (pe_ix ix_tup (pv 0) pe_int (fun _ _ => rfl)) (pa_cons (pe_ty "tuple" B.tuple) pa_nil))))))) pss_nil)
      pss_never), ?_⟩
    obtain ⟨t, ty, _, _, k3, k4, k5⟩ := (Kn.tup ha).kinds K
    rw [isT_tup ha] at k3
    obtain ⟨t2, ty2, _, _, k32, k42, k52⟩ := (Kn.tup hb).kinds K
    rw [isT_tup hb] at k32
    obtain ⟨t3, ty3, ks⟩ := (Kn.str ("row" : Str) : Kn H _).isStr K
    refine ⟨_, rfl, _, _, _, _, _, rfl, .ty "tuple", ty, k3, _, rfl, iteF ?_⟩
    refine ⟨_, rfl, true, .inr (.inl ⟨_, SqT.of ha, rfl⟩), iteF ?_⟩
    refine ⟨_, rfl, a, _, _, _, rfl, rfl, SqT.of ha, atI_nat (j := 0) rfl, _, _, _, _, _, rfl, .ty "str", ty3, ks, _, rfl, iteF ?_⟩
    refine ⟨_, rfl, a, _, _, _, rfl, rfl, SqT.of ha, atI_nat (j := 0) rfl, rfl, _, rfl, ?_⟩
    rw [decide_eq_true rfl]
    refine iteT ?_
    refine ⟨_, rfl, a, _, rfl, .inr (SqT.of ha), rfl, true, rfl, iteT ?_⟩
    exact ⟨_, rfl, a, _, _, _, rfl, rfl, SqT.of ha, atI_nat (j := 1) rfl, _, _, _, _, _, rfl, .ty "tuple", ty2, k32, q⟩
theorem star_S : ("*" : Str) = S [42] := by decide +kernel
theorem any_S : ("?" : Str) = S [63] := by decide +kernel
theorem scItem : FnScope ["value", "letters", "letter"] ["value", "letters"] (defScope sItem) := ⟨rfl, rfl, rfl, by decide +kernel, rfl, by decide +kernel, by decide +kernel⟩
theorem ok_item {f : Addr} {fd : FuncData} (F : Fun K "is_item" "is_item" sItem f fd) (B : Bi mg) (C : Bs mg) : FnOk P w K mg base CX0 1 f fd ["value", "letters"] spItem := by
  refine F.ok scItem (fun vs H Q E h => ?_) (fun cdv A outer s H vs Q E hr h => ?_)
  · obtain ⟨it, ls, rfl, _⟩ := h
    rfl
  · obtain ⟨it, ls, rfl, ok, l1, l2, q⟩ := h
    refine ⟨_, pss_cons (ps_if (PW.pt (pw_or (pt_not (pt_val (pe_isStr B.isi (pa_cons (pv 0) (pa_cons (pe_ty "str" C.str) pa_nil))))) (pw_or1 (pt_not (pt_truth (pv 0) (by intro _; rfl)))))) pss_never pss_nil)
      (pss_cons (ps_if (pt_cmpR op_in_seq (pv 0) (pe_tup (pa_cons pe_str (pa_cons pe_str pa_nil))) rfl) (pss_one (ps_ret pe_bl)) pss_nil)
      (pss_one (ps_ret (pe_and (pe_all rfl C.all (pa_cons (pe_lc (own := [("letter", 2)]) rfl scItem.nd (pi_str (pv 0)) (blkOk_by (N := ["value", "letters", "letter"]) (sc := defScope sItem) (by decide +kernel))
          (fun _ _ _ _ _ => pg_name (i := 2) scItem.nd rfl (Or.inl rfl)) (fun _ _ _ _ _ => pts_nil) (fun _ _ _ _ _ => pe_cmpR op_in_sign (pv 2) (pv 1) rfl)) pa_nil))
        (pe_one (pe_cmpR op_eq (pe_lenSetS rfl rfl B.len rfl C.set (pv 0)) (pe_lenS B.len (pa_cons (pv 0) pa_nil)) (nomark _))))))), ?_⟩
    obtain ⟨t, ty, k1⟩ := (Kn.str (S it) : Kn H _).isStr K
    have small : (S it).length ≤ sizeLine := Nat.le_of_lt (small10 (by rw [S_len]; omega))
    refine ⟨_, rfl, _, _, _, _, _, rfl, .ty "str", ty, k1, _, rfl, iteF ⟨_, rfl, true, ⟨small, ?_⟩, iteF ?_⟩⟩
    · have : it ≠ [] := by
        rcases ok with rfl | rfl | ⟨h, _⟩
        · exact fun z => nomatch z
        · exact fun z => nomatch z
        · exact h
      have p := List.length_pos_iff.mpr this
      rw [S_len]
      have : ((it.length : Nat) : Int) ≠ 0 := by omega
      simpa using this
    refine ⟨_, rfl, by show 2 ≤ sizeLine; decide, fun p np => ⟨p, _, rfl, .inr (SqT.of upd_same), rfl, rfl, ?_⟩⟩
    have e1 := same_new (o := .tup [.str "?", .str "*"]) np
    generalize upd H p (.tup [.str "?", .str "*"]) = H1 at e1 ⊢
    have ei : inV (.str (S it)) [.str "?", .str "*"] = decide (it ∈ [[63], [42]]) := by
      rw [star_S, any_S]
      exact in_txs (w := it) (us := [[63], [42]])
    show (∃ k, _ ∧ _)
    refine ⟨_, rfl, ?_⟩
    rw [show (if (false : Bool) = true then !inV (V.str (S it)) [V.str "?", V.str "*"] else inV (V.str (S it)) [V.str "?", V.str "*"]) = decide (it ∈ [[63], [42]]) from ei]
    by_cases c : it ∈ [[63], [42]]
    · rw [decide_eq_true c]
      exact iteT (q H1 e1)
    rw [decide_eq_false c]
    have ok3 : it ≠ [] ∧ it.Nodup ∧ ∀ c ∈ it, c ∈ ls := by
      rcases ok with rfl | rfl | h
      · exact absurd (by simp) c
      · exact absurd (by simp) c
      · exact h
    refine iteF ⟨_, rfl, _, rfl, fun D nD => lcS (fun c => .bl (decide (c ∈ ls))) (by rw [S_size]; omega) nD ?_ ?_⟩
    · intro c H2 Q N hc e q
      exact ⟨rfl, yesT ⟨_, rfl, _, rfl, c, S ls, rfl, rfl, q⟩⟩
    · intro H2 e hD
      refine ⟨D, (it.map fun c => decide (c ∈ ls)), rfl, ?_, ?_⟩
      · rw [List.map_map]
        exact SqL.of hD
      rw [List.all_map, show (it.all (id ∘ fun c => decide (c ∈ ls))) = true from List.all_eq_true.mpr fun c hc => decide_eq_true (ok3.2.2 c hc)]
      refine ⟨true, rfl, iteT ⟨_, rfl, S it, rfl, ok3.2.1, by rw [S_size]; omega, _, rfl, S it, rfl, small, rfl, ?_⟩⟩
      rw [S_len, S_size, decide_eq_true rfl]
      exact q H2 (e1.trans e)
abbrev NNo : List Str := ["shape", "letters", "nodes", "todo", "many", "path", "value", "above", "number", "item", "place"]
theorem scNodes : FnScope NNo ["shape", "letters"] (defScope sNodes) := ⟨rfl, rfl, rfl, by decide +kernel, rfl, by decide +kernel, by decide +kernel⟩
theorem ok_nodes {f : Addr} {fd : FuncData} (F : Fun K "nodes_of" "nodes_of" sNodes f fd) (B : Bi mg) (M : Cm mg) (cP : Cal CX0 P w K mg base 1 "is_part" spPart) (cI : Cal CX0 P w K mg base 1 "is_item" spItem) : FnOk P w K mg base CX0 2 f fd ["shape", "letters"] spNodes := by
  refine F.ok scNodes (fun vs H Q E h => ?_) (fun cdv A outer s H vs Q E hr h => ?_)
  · obtain ⟨a, b, ls, its, rfl, _⟩ := h
    rfl
  · obtain ⟨a, b, ls, its, rfl, ha, hb, len, oki, ll, q⟩ := h
    refine ⟨_, pss_cons (ps_set (i := 2) scNodes.nd rfl (Or.inl rfl) (pe_lst pa_nil))
      (pss_cons (ps_set (i := 3) scNodes.nd rfl (Or.inl rfl) (pe_lst (pa_cons (pe_tup (pa_cons (pe_tup pa_nil) (pa_cons (pv 0) (pa_cons pe_non pa_nil)))) pa_nil)))
      (pss_cons (ps_set (i := 4) scNodes.nd rfl (Or.inl rfl) pe_int)
      (pss_cons (ps_while PassesOwn.never (pt_truth (pv 3) (by intro _; rfl))
        (pss_cons (ps_asg (pe_bm0 PySem.F.plainAttrs_list PySem.F.slot_list_pop PySem.F.type_list_pop mt_pop (pv 3)) (pg_tup rfl (pgs_cons (pg_name (i := 5) scNodes.nd rfl (.inl rfl)) (pgs_cons (pg_name (i := 6) scNodes.nd rfl (.inl rfl)) (pgs_cons (pg_name (i := 7) scNodes.nd rfl (.inl rfl)) pgs_nil)))))
        (pss_cons (ps_aug (i := 4) scNodes.nd rfl (Or.inl rfl) pe_int ip_add (.inl rfl))
        (pss_cons (ps_if (pt_not (pt_val (pe_c cP hr pass0 (pa_cons (pv 6) pa_nil)))) pss_never pss_nil)
        (pss_cons (ps_if (pt_cmpR op_notN (pv 7) pe_non (nomark _)) pss_never pss_nil)
        (pss_one (ps_if (pt_cmpR op_eq (pe_ix ix_tup (pv 6) pe_int (fun _ _ => rfl)) pe_str (nomark _))
          (pss_cons (ps_for PassesOwn.never rfl (pi_en B.enum (pa_cons (pe_ix ix_tup (pv 6) pe_int (fun _ _ => rfl)) pa_nil)) (pg_tup rfl (pgs_cons (pg_name (i := 8) scNodes.nd rfl (.inl rfl)) (pgs_cons (pg_name (i := 9) scNodes.nd rfl (.inl rfl)) pgs_nil)))
              (pss_one (ps_if (pt_not (pt_val (pe_c cI hr pass0 (pa_cons (pv 9) (pa_cons (pv 1) pa_nil))))) pss_never pss_nil)))
          (pss_cons (ps_aug (i := 4) scNodes.nd rfl (Or.inl rfl) (pe_len B.len (pa_cons (pe_ix ix_tup (pv 6) pe_int (fun _ _ => rfl)) pa_nil)) ip_add (.inl rfl))
          (pss_one (ps_expr (pe_bm PySem.F.plainAttrs_list PySem.F.slot_list_append PySem.F.type_list_append mt_append (pv 2) (pa_cons (pe_tup (pa_cons pe_str (pa_cons (pe_callTy call_list_of rfl B.list (by decide +kernel) (pa_cons (pe_ix ix_tup (pv 6) pe_int (fun _ _ => rfl)) pa_nil)) pa_nil))) pa_nil))))))
          pss_never)))))))
      (pss_cons (ps_if (pt_cmpR op_gt (pv 4) (C8.pe_gc rfl M.parts) (nomark _)) pss_never pss_nil)
      (pss_one (ps_ret (pv 2))))))), ?_⟩
    refine ⟨by decide, fun L nL => ?_⟩
    have e1 := same_new (o := .lst []) nL
    have hL : upd H L (.lst []) L = some (.lst []) := upd_same
    generalize upd H L (.lst []) = H1 at e1 hL ⊢
    refine ⟨by show 0 ≤ sizeLine; decide, fun t0 nt0 => ?_⟩
    have e2 := same_new (o := .tup []) nt0
    generalize upd H1 t0 (.tup []) = H2 at e2 ⊢
    refine ⟨_, rfl, by show 3 ≤ sizeLine; decide, fun t1 nt1 => ⟨by show 1 ≤ sizeLine; decide, fun T nT => ?_⟩⟩
    have e3 := same_new (o := .tup [.ref t0, .ref a, .non]) nt1
    have ht1 : upd H2 t1 (.tup [.ref t0, .ref a, .non]) t1 = some (.tup [.ref t0, .ref a, .non]) := upd_same
    generalize upd H2 t1 (.tup [.ref t0, .ref a, .non]) = H3 at e3 ht1 nT ⊢
    have e4 := same_new (o := .lst [.ref t1]) nT
    have hT : upd H3 T (.lst [.ref t1]) T = some (.lst [.ref t1]) := upd_same
    have ht14 := e4 _ _ ht1
    generalize upd H3 T (.lst [.ref t1]) = H4 at e4 hT ht14 ⊢
    have e04 : Same H H4 := e1.trans (e2.trans (e3.trans e4))
    have hL4 : H4 L = some (.lst []) := e4 _ _ (e3 _ _ (e2 _ _ hL))
    have nTa : ∀ b o, H b = some o → b ≠ T := fun b o z => ne_of_none (e3 _ _ (e2 _ _ (e1 _ _ z))) nT
    have nLa : ∀ b o, H b = some o → b ≠ L := fun b o z => ne_of_none z nL
    have nLT : L ≠ T := ne_of_none (e3 _ _ (e2 _ _ hL)) nT
    clear e1 e2 e3 e4 ht1 nT nt1 nt0 hL
    dsimp only [gName, tSeq, tAsg, tC]
    show tWhile _ _ _ [some (.ref a), some (.str (S ls)), some (.ref L), some (.ref T), some (.int 0), none, none, none, none, none, none] H4
    refine while_by (fun σ H' => (σ = [some (.ref a), some (.str (S ls)), some (.ref L), some (.ref T), some (.int 0), none, none, none, none, none, none] ∧ H' = H4) ∨
        (∃ (l n : Addr) (x1 x2 x3 x4 x5 x6 : Option V) (m : Nat), σ = [some (.ref a), some (.str (S ls)), some (.ref L), some (.ref T), some (.int ((m + 1 : Nat) : Int)), x1, x2, x3, x4, x5, x6] ∧ m + 1 ≤ 60 ∧ Same H H' ∧ H' T = some (.lst []) ∧ H' L = some (.lst [.ref n]) ∧ H' n = some (.tup [.str "row", .ref l]) ∧ H' l = some (.lst (txs its))))
      (fun σ _ => if σ[4]? = some (some (.int 0)) then 1 else 0) (.inl ⟨rfl, rfl⟩) ?_ (fun σ H Q Q' m ⟨x, hx, k, t, q⟩ => ⟨x, hx, k, t, m _ _ q⟩)
    rintro σ H5 (⟨rfl, rfl⟩ | ⟨l, n, x1, x2, x3, x4, x5, x6, m, rfl, hm, e5, hT5, hL5, hn5, hl5⟩)
    · refine ⟨_, rfl, true, .inl ⟨_, SqL.of hT, rfl⟩, ?_⟩
      refine iteT ?_
      refine ⟨_, rfl, .inl ⟨rfl, _, SqL.of hT⟩, T, _, _, rfl, rfl, hT, rfl, ?_⟩
      have hT6 : upd H5 T (.lst ([V.ref t1] : List V).dropLast) T = some (.lst []) := upd_same
      have ht6 : upd H5 T (.lst ([V.ref t1] : List V).dropLast) t1 = some (.tup [.ref t0, .ref a, .non]) := (upd_ne (ne_of ht14 hT fun z => nomatch z)).trans ht14
      have hL6 : upd H5 T (.lst ([V.ref t1] : List V).dropLast) L = some (.lst []) := (upd_ne nLT).trans hL4
      have e6 : Same H (upd H5 T (.lst ([V.ref t1] : List V).dropLast)) := fun b o z => (upd_ne (nTa b o z)).trans (e04 _ _ z)
      generalize upd H5 T (.lst ([V.ref t1] : List V).dropLast) = H6 at hT6 ht6 hL6 e6 ⊢
      refine ⟨t1, _, rfl, SqT.of ht6, rfl, _, _, rfl, _, _, rfl, _, _, rfl, rfl, ?_⟩
      refine ⟨_, rfl, _, _, rfl, rfl, ?_⟩
      refine ⟨_, rfl, a, b, _, rfl, e6 _ _ ha, e6 _ _ hb, _, rfl, iteF ?_⟩
      refine ⟨_, rfl, rfl, _, rfl, iteF ?_⟩
      refine ⟨_, rfl, a, _, _, _, rfl, rfl, SqT.of (e6 _ _ ha), atI_nat (j := 0) rfl, rfl, _, rfl, ?_⟩
      rw [decide_eq_true rfl]
      refine iteT ?_
      refine ⟨_, rfl, a, _, _, _, rfl, rfl, SqT.of (e6 _ _ ha), atI_nat (j := 1) rfl, b, _, rfl, .inr (SqT.of (e6 _ _ hb)), fun J G wk hG => for_it wk (fun i σ H' => ∃ y1 y2 : Option V, σ = [some (.ref a), some (.str (S ls)), some (.ref L), some (.ref T), some (.int 1), some (.ref t0), some (.ref a), some .non, y1, y2, none] ∧ Same H6 H') ⟨_, _, rfl, Same.refl _⟩ (fun i σ H' _ ⟨_, _, _, e⟩ => hG H' fun o z => e _ _ z) ?_ ?_⟩
      · rintro i x σ H7 H8 hi ⟨y1, y2, rfl, e7⟩ ⟨T0, y, v, rfl, nT0, rfl, ey, hv⟩
        cases ey
        have hv : (its.map fun w => V.str (S w))[i]? = some v := hv
        rw [strs_len] at hi
        rw [List.getElem?_map, List.getElem?_eq_getElem hi] at hv
        cases hv
        obtain ⟨o1, o2⟩ := oki its[i] (List.getElem_mem hi)
        refine ⟨T0, _, rfl, SqT.of upd_same, rfl, _, _, rfl, _, _, rfl, rfl, ?_⟩
        exact ⟨_, rfl, _, rfl, its[i], ls, rfl, o1, ll, o2, fun H9 e9 => ⟨_, rfl, iteF ⟨_, _, rfl, (e7.trans (same_new nT0)).trans e9⟩⟩⟩
      · rintro σ H7 ⟨y1, y2, rfl, e7⟩
        have e07 := e6.trans e7
        refine ⟨_, rfl, _, rfl, a, _, _, _, rfl, rfl, SqT.of (e07 _ _ ha), atI_nat (j := 1) rfl, b, _, rfl, .inr (SqT.of (e07 _ _ hb)), _, _, rfl, rfl, ?_⟩
        have em : (1 : Int) + (((txs its).length : Nat) : Int) = ((its.length + 1 : Nat) : Int) := by rw [strs_len]; omega
        have nlT : b ≠ T := nTa _ _ hb
        have hT7 := e7 _ _ hT6
        have hL7 := e7 _ _ hL6
        refine ⟨_, rfl, .inl ⟨rfl, _, SqL.of hL7⟩, _, rfl, a, _, _, _, rfl, rfl, SqT.of (e07 _ _ ha), atI_nat (j := 1) rfl, b, _, rfl, .inr (SqT.of (e07 _ _ hb)), fun l nl => ⟨by show 2 ≤ sizeLine; decide, fun n nn => ?_⟩⟩
        have e8 := same_new (o := .lst (txs its)) nl
        have hl8 : upd H7 l (.lst (txs its)) l = some (.lst (txs its)) := upd_same
        generalize upd H7 l (.lst (txs its)) = H8 at e8 hl8 nn ⊢
        have e9 := same_new (o := .tup [.str "row", .ref l]) nn
        have hn9 : upd H8 n (.tup [.str "row", .ref l]) n = some (.tup [.str "row", .ref l]) := upd_same
        generalize upd H8 n (.tup [.str "row", .ref l]) = H9 at e9 hn9 ⊢
        have hL9 := e9 _ _ (e8 _ _ hL7)
        have hT9 := e9 _ _ (e8 _ _ hT7)
        have hl9 := e9 _ _ hl8
        refine ⟨L, _, _, rfl, rfl, hL9, small10 (by decide), ?_⟩
        have nlL : l ≠ L := fun z => by
          rw [z, hL7] at nl
          cases nl
        have nnL : n ≠ L := fun z => by
          rw [z, e8 _ _ hL7] at nn
          cases nn
        refine ⟨.inr ⟨l, n, some (.ref t0), some (.ref a), some .non, y1, y2, none, its.length, ?_, by omega, fun b' o z => ?_, (upd_ne nLT.symm).trans hT9, upd_same, (upd_ne nnL).trans hn9, (upd_ne nlL).trans hl9⟩, ?_⟩
        · rw [← em]
          rfl
        · exact (upd_ne (nLa b' o z)).trans (e9 _ _ (e8 _ _ (e07 _ _ z)))
        · refine Nat.lt_of_le_of_lt (Nat.le_of_eq (if_neg fun z => ?_)) (Nat.lt_of_lt_of_le Nat.zero_lt_one (Nat.le_of_eq (if_pos rfl).symm))
          have z2 : (1 : Int) + (((txs its).length : Nat) : Int) = 0 := V.int.inj (Option.some.inj (Option.some.inj z))
          omega
    · refine ⟨_, rfl, false, .inl ⟨_, SqL.of hT5, rfl⟩, ?_⟩
      refine iteF ?_
      refine ⟨_, rfl, _, _, rfl, rfl, _, rfl, ?_⟩
      rw [decide_eq_false (by omega)]
      exact iteF ⟨_, rfl, q L n l H5 e5 hL5 hn5 hl5⟩
end
end K03
set_option Elab.async false
set_option linter.all false
set_option maxRecDepth 100001
set_option maxHeartbeats 3999999
namespace K03
open PySem L2
/-! ### bits -/
def mask (p : Nat → Bool) : Nat → Nat
  | 0 => 0
  | n + 1 => mask p n ||| (if p n = true then 2 ^ n else 0)
theorem testBit_one (n i : Nat) : (2 ^ n).testBit i = decide (i = n) := by
  rw [Nat.testBit_two_pow]
  exact decide_eq_decide.mpr eq_comm
theorem testBit_mask (p : Nat → Bool) : ∀ n i, (mask p n).testBit i = (decide (i < n) && p i)
  | 0, i => by simp [mask]
  | n + 1, i => by
    unfold mask
    rw [Nat.testBit_or, testBit_mask p n i]
    by_cases c : i = n
    · subst c
      cases h : p i with
      | true => rw [if_pos rfl, testBit_one]; simp
      | false => rw [if_neg (by simp)]; simp
    · have e : (if p n = true then 2 ^ n else 0).testBit i = false := by
        split
        · rw [testBit_one, decide_eq_false c]
        · exact Nat.zero_testBit i
      rw [e, Bool.or_false]
      congr 1
      exact decide_eq_decide.mpr ⟨fun h => by omega, fun h => by omega⟩
theorem mask_lt (p : Nat → Bool) (n : Nat) : mask p n < 2 ^ n := by
  refine Nat.lt_pow_two_of_testBit _ fun i hi => ?_
  rw [testBit_mask, decide_eq_false (by omega), Bool.false_and]
theorem mask_congr {p q : Nat → Bool} {n : Nat} (h : ∀ i, i < n → p i = q i) : mask p n = mask q n := Nat.eq_of_testBit_eq fun i => by
  rw [testBit_mask, testBit_mask]
  by_cases c : i < n
  · rw [h i c]
  · rw [decide_eq_false c, Bool.false_and, Bool.false_and]
theorem bitAnd_nat (m n : Nat) : Builtin.bitAnd (m : Int) (n : Int) = ((m &&& n : Nat) : Int) := by
  unfold Builtin.bitAnd
  rw [decide_eq_true (show (0 : Int) ≤ (m : Int) by omega), decide_eq_true (show (0 : Int) ≤ (n : Int) by omega)]
  rfl
theorem bitOr_nat (m n : Nat) : Builtin.bitOr (m : Int) (n : Int) = ((m ||| n : Nat) : Int) := by
  rw [bitOr_nn (by omega) (by omega)]
  rfl
section
variable {X : Cx}
def rBit (g : Nat → Nat → Nat) : R2 := fun x y H Q => ∃ m n : Nat, x = .int (m : Nat) ∧ y = .int (n : Nat) ∧ Q (.int ((g m n : Nat) : Int)) H
theorem op_orS : OpR X (binaryOp .BitOr) (rBit (· ||| ·)) := by
  intro pins s σ H x y v u Q I rx ry ⟨m, n, ex, ey, q⟩
  refine op_or pins s σ H x y v u Q I rx ry ⟨_, _, ex, ey, ?_⟩
  show Q (.int (Builtin.bitOr (m : Int) (n : Int))) H
  rw [bitOr_nat]
  exact q
theorem op_andS : OpR X (binaryOp .BitAnd) (rBit (· &&& ·)) := by
  intro pins s σ H x y v u Q I rx ry ⟨m, n, ex, ey, q⟩
  refine op_and pins s σ H x y v u Q I rx ry ⟨_, _, ex, ey, ?_⟩
  show Q (.int (Builtin.bitAnd (m : Int) (n : Int))) H
  rw [bitAnd_nat]
  exact q
theorem ip_orS : PIp X .BitOr (rBit (· ||| ·)) := by
  intro pins s σ H x y v u Q I rx ry ⟨m, n, ex, ey, q⟩
  refine iop_or pins s σ H x y v u Q I rx ry ⟨_, _, ex, ey, ?_⟩
  show Q (.int (Builtin.bitOr (m : Int) (n : Int))) H
  rw [bitOr_nat]
  exact q
def rShl : R2 := fun x y H Q => ∃ m k : Nat, x = .int (m : Nat) ∧ y = .int (k : Nat) ∧ m < 2 ^ 60 ∧ k ≤ 1000 ∧ Q (.int ((m * 2 ^ k : Nat) : Int)) H
theorem op_shlS : OpR X (binaryOp .LShift) rShl := by
  intro pins s σ H x y v u Q I rx ry ⟨m, k, ex, ey, hm, hk, q⟩
  refine op_shl pins s σ H x y v u Q I rx ry ⟨_, _, ex, ey, ⟨by omega, by omega, by omega⟩, ?_⟩
  show Q (.int ((m : Int) * 2 ^ ((k : Nat) : Int).toNat)) H
  rw [Int.toNat_natCast, show (m : Int) * 2 ^ k = ((m * 2 ^ k : Nat) : Int) by rw [Int.natCast_mul, PySem.W.kbt_cast]]
  exact q
/-- xs[k], for a change in place -/
def rGetL : V → V → Hp → VK → Prop := fun x y H Q => ∃ p xs k v, x = .ref p ∧ y = .int ((k : Nat) : Int) ∧ H p = some (.lst xs) ∧ xs[k]? = some v ∧ Q v H
theorem get_list : PGet X rGetL := by
  intro pins s σ H x y v u Q I rx ry ⟨p, xs, k, z, ex, ey, hp, hv, q⟩
  subst ex ey
  cases rx
  obtain ⟨t, rfl⟩ := ry
  obtain ⟨its, r, pl, hz⟩ := I.list (SqL.of hp)
  obtain ⟨w, ew, rw'⟩ := r.get hv
  have hl := r.length
  have hn := line63
  have lt := (List.getElem?_eq_some_iff.mp hv).1
  exact wpAny_getItem_list pl.isList (by omega) (by omega) (by rw [Int.toNat_natCast]; simpa using ew) ⟨z, H, I, rw', q⟩
end
/-! ### rows of items -/
def isStar (it : List Nat) : Bool := decide (it = [42])
def isTk (it : List Nat) (c : Nat) : Bool := !isStar it && (decide (it = [63]) || decide (c ∈ it))
def starF (its : List (List Nat)) (j : Nat) : Bool := isStar (its.getD j [])
def tkF (its : List (List Nat)) (c j : Nat) : Bool := isTk (its.getD j []) c
/-- the fields of a reading -/
structure RF (fs : List (Str × V)) (ls : List Nat) (N : Addr) (st : Nat) (Tk : Addr) (sa : Nat) (En : Addr) : Prop where
  l : fs.lookup ("letters" : Str) = some (.str (S ls))
  n : fs.lookup ("nodes" : Str) = some (.ref N)
  s : fs.lookup ("stars" : Str) = some (.int (st : Nat))
  t : fs.lookup ("takes" : Str) = some (.ref Tk)
  a : fs.lookup ("start" : Str) = some (.int (sa : Nat))
  e : fs.lookup ("ends" : Str) = some (.ref En)
  no : ∀ x, x ∉ (["letters", "nodes", "stars", "takes", "start", "ends"] : List Str) → fs.lookup x = none
  len : fs.length ≤ 6
theorem len_putF {f : Str} {v w : V} : ∀ {fs : List (Str × V)}, fs.lookup f = some w → (putF f v fs).length = fs.length
  | [], h => by cases h
  | (g, x) :: r, h => by
    unfold putF
    by_cases c : g = f
    · rw [if_pos c]
      rfl
    · rw [if_neg c]
      have h2 : r.lookup f = some w := by
        rw [List.lookup_cons, show (f == g) = false from by simpa using fun z : f = g => c z.symm] at h
        exact h
      rw [List.length_cons, List.length_cons, len_putF h2]
theorem RF.stars {fs : List (Str × V)} {ls : List Nat} {N : Addr} {st : Nat} {Tk : Addr} {sa : Nat} {En : Addr} (r : RF fs ls N st Tk sa En) (st2 : Nat) : RF (putF "stars" (.int (st2 : Nat)) fs) ls N st2 Tk sa En :=
  ⟨by rw [lookup_putF, if_neg (by decide +kernel)]; exact r.l, by rw [lookup_putF, if_neg (by decide +kernel)]; exact r.n, by rw [lookup_putF, if_pos rfl], by rw [lookup_putF, if_neg (by decide +kernel)]; exact r.t,
   by rw [lookup_putF, if_neg (by decide +kernel)]; exact r.a, by rw [lookup_putF, if_neg (by decide +kernel)]; exact r.e, fun x h => by rw [lookup_putF, if_neg fun z : x = "stars" => h (by rw [z]; decide +kernel)]; exact r.no x h, by rw [len_putF r.s]; exact r.len⟩
theorem RF.start {fs : List (Str × V)} {ls : List Nat} {N : Addr} {st : Nat} {Tk : Addr} {sa : Nat} {En : Addr} (r : RF fs ls N st Tk sa En) (sa2 : Nat) : RF (putF "start" (.int (sa2 : Nat)) fs) ls N st Tk sa2 En :=
  ⟨by rw [lookup_putF, if_neg (by decide +kernel)]; exact r.l, by rw [lookup_putF, if_neg (by decide +kernel)]; exact r.n, by rw [lookup_putF, if_neg (by decide +kernel)]; exact r.s, by rw [lookup_putF, if_neg (by decide +kernel)]; exact r.t,
   by rw [lookup_putF, if_pos rfl], by rw [lookup_putF, if_neg (by decide +kernel)]; exact r.e, fun x h => by rw [lookup_putF, if_neg fun z : x = "start" => h (by rw [z]; decide +kernel)]; exact r.no x h, by rw [len_putF r.a]; exact r.len⟩
/-- a reading at p, in the making: its stars, what it takes, its start -/
def IsRp (C : Addr) (H : Hp) (p : Addr) (ls : List Nat) (N : Addr) (st : Nat) (Tk : Addr) (tv : Nat → Nat) (sa : Nat) (En : Addr) : Prop := ∃ dx fs, H p = some (.ins C dx fs) ∧ RF fs ls N st Tk sa En ∧ H Tk = some (.lst (ls.map fun c => .int ((tv c : Nat) : Int)))
structure TxR (K : PySem.W.Frag) (C : Addr) : Prop where
  cl : Cls K C
  l : NoAttr K C "letters"
  n : NoAttr K C "nodes"
  s : NoAttr K C "stars"
  t : NoAttr K C "takes"
  a : NoAttr K C "start"
  e : NoAttr K C "ends"
/-- all but two stay -/
def But2 (p d : Addr) (H H' : Hp) : Prop := ∀ b o, b ≠ p → b ≠ d → H b = some o → H' b = some o
def spLay (C : Addr) : Sp := fun vs H Q _ => ∃ p it j ls N st Tk tv sa En, vs = [.ref p, .str (S it), .int ((2 ^ j : Nat) : Int)] ∧ IsRp C H p ls N st Tk tv sa En ∧ ls.length ≤ 1000 ∧ it.length ≤ 100 ∧ ls.Nodup ∧
  ∀ H', But2 p Tk H H' → IsRp C H' p ls N (if isStar it = true then st ||| 2 ^ j else st) Tk (fun c => if isTk it c = true then tv c ||| 2 ^ j else tv c) sa En → Q .non H'
section
variable {P : Program} {w : World} {K : PySem.W.Frag} {mg : Str → Option Value} {base : Heap}
abbrev sLay : Stmt := sR 1
theorem scLay : FnScope ["self", "item", "bit", "column", "letter"] ["self", "item", "bit"] (defScope sLay) := ⟨rfl, rfl, rfl, by decide +kernel, rfl, by decide +kernel, by decide +kernel⟩
theorem ok_lay {f C : Addr} {fd : FuncData} (F : Fun K "lay_item" "Readings.lay_item" sLay f fd) (B : Bi mg) (T : TxR K C) : FnOk P w K mg base CX0 1 f fd ["self", "item", "bit"] (spLay C) := by
  refine F.ok scLay (fun vs H Q E h => ?_) (fun cdv A outer s H vs Q E hr h => ?_)
  · obtain ⟨p, it, j, ls, N, st, Tk, tv, sa, En, rfl, _⟩ := h
    rfl
  · obtain ⟨p, it, j, ls, N, st, Tk, tv, sa, En, rfl, ⟨dx, fs, hp, rf, hT⟩, l1, l2, nd, q⟩ := h
    refine ⟨_, pss_one (ps_if (pt_cmpR op_eq (pv 1) pe_str (nomark _)) (pss_one (ps_fldaug (pv 0) (pv 2) ip_orS))
      (pss_one (ps_for PassesOwn.never rfl (pi_enS rfl B.enum (pa_cons (pe_fld (pv 0) rfl) pa_nil)) (pg_tup rfl (pgs_cons (pg_name (i := 3) scLay.nd rfl (.inl rfl)) (pgs_cons (pg_name (i := 4) scLay.nd rfl (.inl rfl)) pgs_nil)))
        (pss_one (ps_if (PW.pt (pw_or (pt_cmpR op_eq (pv 1) pe_str (nomark _)) (pw_or1 (pt_cmpR op_in_sign (pv 4) (pv 1) rfl))))
          (pss_one (ps_augS (pe_fld (pv 0) rfl) (pv 3) get_list (pv 2) ip_orS set_list)) pss_nil))))), ?_⟩
    refine ⟨_, rfl, rfl, _, rfl, ?_⟩
    rw [star_S, decS]
    have eS : decide (it = [42]) = isStar it := rfl
    rw [eS]
    have npT : Tk ≠ p := ne_of hT hp fun z => nomatch z
    cases hs : isStar it with
    | true =>
      refine iteT ?_
      refine ⟨_, rfl, p, C, dx, fs, _, rfl, hp, T.cl, T.s, rf.s, _, rfl, st, 2 ^ j, rfl, rfl, dx, fs, hp, by have := rf.len; omega, ?_⟩
      refine q _ (fun b o h1 _ z => (upd_ne h1).trans z) ⟨dx, _, upd_same, by rw [hs, if_pos rfl]; exact rf.stars _, (upd_ne npT).trans ?_⟩
      rw [hT]
      have : (fun c => V.int ((tv c : Nat) : Int)) = fun c => V.int (((if isTk it c = true then tv c ||| 2 ^ j else tv c) : Nat) : Int) := funext fun c => by
        rw [show isTk it c = false by unfold isTk; rw [hs]; rfl]
        rfl
      rw [this]
    | false =>
      refine iteF ?_
      have ftk : ∀ c, isTk it c = (decide (it = [63]) || decide (c ∈ it)) := fun c => by
        unfold isTk
        rw [hs]
        rfl
      refine ⟨_, rfl, p, C, dx, _, _, rfl, hp, T.cl, T.l, rf.l, S ls, rfl, for_it walk_enS (fun i σ H' => ∃ y1 y2 : Option V, σ = [some (.ref p), some (.str (S it)), some (.int ((2 ^ j : Nat) : Int)), y1, y2] ∧ But2 p Tk H H' ∧ H' p = some (.ins C dx fs) ∧ H' Tk = some (.lst ((ls.take i).map (fun c => V.int (((if isTk it c = true then tv c ||| 2 ^ j else tv c) : Nat) : Int)) ++ (ls.drop i).map fun c => V.int ((tv c : Nat) : Int)))) ⟨none, none, rfl, fun _ _ _ _ z => z, hp, by simpa using hT⟩ (fun _ _ _ _ _ => True.intro) ?_ ?_⟩
      · rintro i x σ H1 H2 hi ⟨y1, y2, rfl, bt, hp1, hT1⟩ ⟨T0, y, v, rfl, nT0, rfl, ey, hv⟩
        rw [S_size] at hi
        cases ey
        have hv : ((S ls).cps[i]?).map (fun c => V.str ⟨#[c]⟩) = some v := hv
        rw [S_get, List.getElem?_eq_getElem hi] at hv
        cases hv
        have e2 := same_new (o := .tup [.int (i : Nat), .str (S [ls[i]])]) nT0
        have ht0 : upd H1 T0 (.tup [.int (i : Nat), .str (S [ls[i]])]) T0 = some (.tup [.int (i : Nat), .str (S [ls[i]])]) := upd_same
        have hp2 := e2 _ _ hp1
        have hT2 := e2 _ _ hT1
        have bt2 : But2 p Tk H (upd H1 T0 (.tup [.int (i : Nat), .str (S [ls[i]])])) := fun b o h1 h2 z => e2 _ _ (bt b o h1 h2 z)
        show gTup _ _ _ (.ref T0) _ (upd H1 T0 (.tup [.int (i : Nat), .str (S [ls[i]])])) _
        generalize upd H1 T0 (.tup [.int (i : Nat), .str (S [ls[i]])]) = H2 at ht0 hp2 hT2 bt2 ⊢
        refine ⟨T0, _, rfl, SqT.of ht0, rfl, _, _, rfl, _, _, rfl, rfl, ?_⟩
        have dr : ls.drop i = ls[i] :: ls.drop (i + 1) := List.drop_eq_getElem_cons hi
        have tk : ls.take (i + 1) = ls.take i ++ [ls[i]] := by rw [List.take_add_one, List.getElem?_eq_getElem hi]; rfl
        have lt : ((ls.take i).map fun c => V.int (((if isTk it c = true then tv c ||| 2 ^ j else tv c) : Nat) : Int)).length = i := by rw [List.length_map, List.length_take]; omega
        have fin0 : isTk it ls[i] = false → H2 Tk = some (.lst ((ls.take (i + 1)).map (fun c => V.int (((if isTk it c = true then tv c ||| 2 ^ j else tv c) : Nat) : Int)) ++ (ls.drop (i + 1)).map fun c => V.int ((tv c : Nat) : Int))) := fun h => by
          have e : V.int (((if isTk it ls[i] = true then tv ls[i] ||| 2 ^ j else tv ls[i]) : Nat) : Int) = V.int ((tv ls[i] : Nat) : Int) := by rw [if_neg (by rw [h]; simp)]
          rw [hT2, dr, tk, List.map_append, List.append_assoc, List.map_cons, List.map_cons, e]
          rfl
        have fin1 : isTk it ls[i] = true → (((ls.take i).map fun c => V.int (((if isTk it c = true then tv c ||| 2 ^ j else tv c) : Nat) : Int)) ++ (ls.drop i).map fun c => V.int ((tv c : Nat) : Int)).set i (.int ((tv ls[i] ||| 2 ^ j : Nat) : Int)) = (ls.take (i + 1)).map (fun c => V.int (((if isTk it c = true then tv c ||| 2 ^ j else tv c) : Nat) : Int)) ++ (ls.drop (i + 1)).map fun c => V.int ((tv c : Nat) : Int) := fun h => by
          have e : V.int (((if isTk it ls[i] = true then tv ls[i] ||| 2 ^ j else tv ls[i]) : Nat) : Int) = V.int ((tv ls[i] ||| 2 ^ j : Nat) : Int) := by rw [if_pos h]
          rw [List.set_append_right _ _ (by omega), lt, Nat.sub_self, dr, tk, List.map_append, List.append_assoc, List.map_cons, List.map_cons, e]
          rfl
        have get1 : (((ls.take i).map fun c => V.int (((if isTk it c = true then tv c ||| 2 ^ j else tv c) : Nat) : Int)) ++ (ls.drop i).map fun c => V.int ((tv c : Nat) : Int))[i]? = some (.int ((tv ls[i] : Nat) : Int)) := by
          rw [List.getElem?_append_right (by omega), lt, Nat.sub_self, dr]
          rfl
        have ixn : ixN (((ls.take i).map fun c => V.int (((if isTk it c = true then tv c ||| 2 ^ j else tv c) : Nat) : Int)) ++ (ls.drop i).map fun c => V.int ((tv c : Nat) : Int)).length ((i : Nat) : Int) = some i := by
          have l3 := (List.getElem?_eq_some_iff.mp get1).1
          unfold ixN
          rw [if_pos (by omega), if_pos (by omega), Int.toNat_natCast]
        refine ⟨_, rfl, rfl, _, rfl, ?_⟩
        rw [any_S, decS]
        have upd2 : ∀ zz, But2 p Tk H (upd H2 Tk zz) := fun zz b o h1 h2 z => (upd_ne h2).trans (bt2 b o h1 h2 z)
        cases c1 : decide (it = [63]) with
        | true =>
          have h : isTk it ls[i] = true := by rw [ftk, c1]; rfl
          refine iteT ⟨_, rfl, p, C, dx, fs, _, rfl, hp2, T.cl, T.t, rf.t, _, rfl, Tk, _, i, _, rfl, rfl, hT2, get1, _, rfl, tv ls[i], 2 ^ j, rfl, rfl, Tk, _, ((i : Nat) : Int), i, rfl, rfl, hT2, ixn, _, _, rfl, upd2 _, (upd_ne npT.symm).trans hp2, ?_⟩
          rw [upd_same]
          exact congrArg (fun z => some (HO.lst z)) (fin1 h)
        | false =>
          refine iteF ⟨_, rfl, _, rfl, ls[i], S it, rfl, rfl, _, rfl, ?_⟩
          rw [S_list]
          cases c2 : decide (ls[i] ∈ it) with
          | true =>
            have h : isTk it ls[i] = true := by rw [ftk, c1, c2]; rfl
            refine iteT ⟨_, rfl, p, C, dx, fs, _, rfl, hp2, T.cl, T.t, rf.t, _, rfl, Tk, _, i, _, rfl, rfl, hT2, get1, _, rfl, tv ls[i], 2 ^ j, rfl, rfl, Tk, _, ((i : Nat) : Int), i, rfl, rfl, hT2, ixn, _, _, rfl, upd2 _, (upd_ne npT.symm).trans hp2, ?_⟩
            rw [upd_same]
            exact congrArg (fun z => some (HO.lst z)) (fin1 h)
          | false =>
            have h : isTk it ls[i] = false := by rw [ftk, c1, c2]; rfl
            exact iteF ⟨_, _, rfl, bt2, hp2, fin0 h⟩
      · rintro σ H1 ⟨y1, y2, rfl, bt, hp1, hT1⟩
        rw [S_size, List.take_length, List.drop_length, List.map_nil, List.append_nil] at hT1
        exact q H1 bt ⟨dx, fs, hp1, by rw [hs, if_neg (by simp)]; exact rf, hT1⟩
end
end K03
set_option Elab.async false
set_option linter.all false
set_option maxRecDepth 100001
set_option maxHeartbeats 3999999
namespace K03
open PySem L2
/-- what is reached by a star more -/
def mo (st s : Nat) : Nat := s ||| (s &&& st) * 2 ^ 1
theorem testBit_two (x : Nat) : ∀ i, (x * 2 ^ 1).testBit i = (decide (0 < i) && x.testBit (i - 1))
  | 0 => by
    rw [Nat.pow_one, Nat.testBit_zero, Nat.mul_mod_left]
    rfl
  | i + 1 => by
    rw [Nat.pow_one, Nat.testBit_succ, Nat.mul_div_cancel _ (by decide : 0 < 2)]
    rw [decide_eq_true (Nat.succ_pos i), Bool.true_and]
    rfl
theorem testBit_mo (st s i : Nat) : (mo st s).testBit i = (s.testBit i || (decide (0 < i) && (s.testBit (i - 1) && st.testBit (i - 1)))) := by
  unfold mo
  rw [Nat.testBit_or, testBit_two, Nat.testBit_and]
theorem mo_le (st s : Nat) : s ≤ mo st s := Nat.left_le_or
theorem mo_lt {st s n : Nat} (hs : s < 2 ^ (n + 1)) (ht : st < 2 ^ n) : mo st s < 2 ^ (n + 1) := by
  refine Nat.or_lt_two_pow hs ?_
  have : s &&& st ≤ st := Nat.and_le_right
  rw [Nat.pow_succ]
  omega
/-- the bits of what is reached by stars -/
def cb (st s : Nat) : Nat → Bool
  | 0 => s.testBit 0
  | i + 1 => s.testBit (i + 1) || (st.testBit i && cb st s i)
def itr (st s : Nat) : Nat → Nat
  | 0 => s
  | i + 1 => mo st (itr st s i)
theorem high {x n i : Nat} (h : x < 2 ^ n) (hi : n ≤ i) : x.testBit i = false := Nat.testBit_lt_two_pow (Nat.lt_of_lt_of_le h (Nat.pow_le_pow_right (by decide) hi))
theorem cb_high {st s n : Nat} (hs : s < 2 ^ (n + 1)) (ht : st < 2 ^ n) : ∀ i, n + 1 ≤ i → cb st s i = false
  | 0, h => absurd h (by omega)
  | i + 1, h => by
    unfold cb
    rw [high hs h, high ht (by omega)]
    rfl
theorem cb_rec {st s n : Nat} (hs : s < 2 ^ (n + 1)) (ht : st < 2 ^ n) (i : Nat) : (mask (cb st s) (n + 1)).testBit i = (s.testBit i || (decide (0 < i) && (st.testBit (i - 1) && (mask (cb st s) (n + 1)).testBit (i - 1)))) := by
  have e : ∀ i, (mask (cb st s) (n + 1)).testBit i = cb st s i := fun i => by
    rw [testBit_mask]
    by_cases c : i < n + 1
    · rw [decide_eq_true c, Bool.true_and]
    · rw [cb_high hs ht i (by omega), Bool.and_false]
  rw [e, e]
  cases i with
  | zero =>
    show s.testBit 0 = _
    simp
  | succ i =>
    show (s.testBit (i + 1) || (st.testBit i && cb st s i)) = _
    rw [decide_eq_true (Nat.succ_pos i), Bool.true_and]
    rfl
theorem itr_sub {st s T : Nat} (hT : ∀ i, T.testBit i = (s.testBit i || (decide (0 < i) && (st.testBit (i - 1) && T.testBit (i - 1))))) : ∀ k i, (itr st s k).testBit i = true → T.testBit i = true
  | 0, i, h => by
    have h : s.testBit i = true := h
    rw [hT, h]
    rfl
  | k + 1, i, h => by
    have h : (mo st (itr st s k)).testBit i = true := h
    rw [testBit_mo] at h
    rcases (Bool.or_eq_true _ _).mp h with h | h
    · exact itr_sub hT k i h
    · obtain ⟨h1, h2⟩ := (Bool.and_eq_true _ _).mp h
      obtain ⟨h2, h3⟩ := (Bool.and_eq_true _ _).mp h2
      rw [hT, h1, h3, itr_sub hT k _ h2]
      simp
theorem itr_base {st s : Nat} : ∀ k i, s.testBit i = true → (itr st s k).testBit i = true
  | 0, i, h => h
  | k + 1, i, h => by
    show (mo st (itr st s k)).testBit i = true
    rw [testBit_mo, itr_base k i h]
    rfl
theorem clo_eq {st s n r k : Nat} (hs : s < 2 ^ (n + 1)) (ht : st < 2 ^ n) (h1 : mo st r = r) (h2 : r = itr st s k) : r = mask (cb st s) (n + 1) := by
  have hT := cb_rec hs ht
  refine Nat.eq_of_testBit_eq fun i => Bool.eq_iff_iff.mpr ⟨fun h => itr_sub hT k i (h2 ▸ h), ?_⟩
  induction i with
  | zero =>
    intro h
    rw [hT] at h
    have : s.testBit 0 = true := by simpa using h
    rw [h2]
    exact itr_base k 0 this
  | succ i ih =>
    intro h
    rw [hT, decide_eq_true (Nat.succ_pos i), Bool.true_and] at h
    rcases (Bool.or_eq_true _ _).mp h with h | h
    · rw [h2]
      exact itr_base k _ h
    · obtain ⟨h3, h4⟩ := (Bool.and_eq_true _ _).mp h
      rw [← h1, testBit_mo, decide_eq_true (Nat.succ_pos i)]
      have h4 : (mask (cb st s) (n + 1)).testBit i = true := h4
      have h3 : st.testBit i = true := h3
      show (_ || (true && (r.testBit i && st.testBit i))) = true
      rw [ih h4, h3]
      simp
theorem pigeon : ∀ (n : Nat) (l : List Nat), l.Nodup → (∀ x ∈ l, x < n) → l.length ≤ n
  | 0, [], _, _ => Nat.le_refl _
  | 0, a :: l, _, h => absurd (h a List.mem_cons_self) (Nat.not_lt_zero _)
  | n + 1, l, nd, h => by
    have sub : (l.erase n).Sublist l := List.erase_sublist
    have h2 := pigeon n (l.erase n) (sub.nodup nd) fun x m => by
      have h3 := h x (sub.mem m)
      have : x ≠ n := fun z => by
        rw [z] at m
        exact (List.Nodup.mem_erase_iff nd).mp m |>.1 rfl
      omega
    by_cases c : n ∈ l
    · rw [List.length_erase_of_mem c] at h2
      omega
    · rw [List.erase_of_not_mem c] at h2
      omega
abbrev sPassed : Stmt := sR 2
abbrev sFits : Stmt := sR 3
abbrev sMvf : Stmt := sR 4
abbrev sAll : Stmt := sR 5
def spPassed (C : Addr) : Sp := fun vs H Q _ => ∃ p s ls N st Tk tv sa En n, vs = [.ref p, .int ((s : Nat) : Int)] ∧ IsRp C H p ls N st Tk tv sa En ∧ s < 2 ^ (n + 1) ∧ st < 2 ^ n ∧ n ≤ 50 ∧ Q (.int ((mask (cb st s) (n + 1) : Nat) : Int)) H
section
variable {P : Program} {w : World} {K : PySem.W.Frag} {mg : Str → Option Value} {base : Heap}
theorem scPassed : FnScope ["self", "standing", "more"] ["self", "standing"] (defScope sPassed) := ⟨rfl, rfl, rfl, by decide +kernel, rfl, by decide +kernel, by decide +kernel⟩
theorem ok_passed {f C : Addr} {fd : FuncData} (F : Fun K "passed" "Readings.passed" sPassed f fd) (T : TxR K C) : FnOk P w K mg base CX0 1 f fd ["self", "standing"] (spPassed C) := by
  refine F.ok scPassed (fun vs H Q E h => ?_) (fun cdv A outer s H vs Q E hr h => ?_)
  · obtain ⟨p, s, ls, N, st, Tk, tv, sa, En, n, rfl, _⟩ := h
    rfl
  · obtain ⟨p, s0, ls, N, st, Tk, tv, sa, En, n, rfl, ⟨dx, fs, hp, rf, hT⟩, hs, ht, n50, q⟩ := h
    refine ⟨_, pss_cons (ps_set (i := 2) scPassed.nd rfl (Or.inl rfl) (pe_op op_orS (pv 1) (pe_op op_shlS (pe_op op_andS (pv 1) (pe_fld (pv 0) rfl)) pe_int)))
      (pss_cons (ps_while PassesOwn.never (pt_cmpR op_ne (pv 2) (pv 1) (nomark _))
        (pss_cons (ps_set (i := 1) scPassed.nd rfl (Or.inl rfl) (pv 2))
        (pss_one (ps_set (i := 2) scPassed.nd rfl (Or.inl rfl) (pe_op op_orS (pv 1) (pe_op op_shlS (pe_op op_andS (pv 1) (pe_fld (pv 0) rfl)) pe_int))))))
      (pss_one (ps_ret (pv 1)))), ?_⟩
    have p60 : (2 : Nat) ^ (n + 1) ≤ 2 ^ 51 := Nat.pow_le_pow_right (by decide) (by omega)
    have q60 : (2 : Nat) ^ 51 < 2 ^ 60 := by decide
    have land : ∀ r : Nat, r < 2 ^ (n + 1) → r &&& st < 2 ^ 60 := fun r h => by
      have : r &&& st ≤ r := Nat.and_le_left
      omega
    refine ⟨_, rfl, _, rfl, _, rfl, p, C, dx, fs, _, rfl, hp, T.cl, T.s, rf.s, s0, st, rfl, rfl, s0 &&& st, 1, rfl, rfl, land s0 hs, by decide, s0, (s0 &&& st) * 2 ^ 1, rfl, rfl, ?_⟩
    dsimp only [gName, tSeq, tAsg, tC]
    show tWhile _ _ _ [some (.ref p), some (.int ((s0 : Nat) : Int)), some (.int ((mo st s0 : Nat) : Int))] H
    refine while_by (fun σ H' => ∃ r k : Nat, σ = [some (.ref p), some (.int ((r : Nat) : Int)), some (.int ((mo st r : Nat) : Int))] ∧ H' = H ∧ r < 2 ^ (n + 1) ∧ r = itr st s0 k)
      (fun σ _ => match σ with | [_, some (.int r), _] => (2 ^ (n + 1) - r.toNat) | _ => 0) ⟨s0, 0, rfl, rfl, hs, rfl⟩ ?_ (fun σ H Q Q' m ⟨x, hx, y, hy, k, b, e, q⟩ => ⟨x, hx, y, hy, k, b, e, m _ _ q⟩)
    rintro σ H1 ⟨r, k, rfl, rfl, hr2, ek⟩
    have hm := mo_lt hr2 ht
    have hle := mo_le st r
    refine ⟨_, rfl, _, rfl, rfl, _, rfl, ?_⟩
    by_cases c : mo st r = r
    · rw [show (!decide (V.int ((mo st r : Nat) : Int) = V.int ((r : Nat) : Int))) = false by rw [c]; simp]
      refine iteF ⟨_, rfl, ?_⟩
      rw [clo_eq hs ht c ek]
      exact q
    · have ne : ¬ V.int ((mo st r : Nat) : Int) = V.int ((r : Nat) : Int) := fun z => c (by have := V.int.inj z; omega)
      rw [show (!decide (V.int ((mo st r : Nat) : Int) = V.int ((r : Nat) : Int))) = true by rw [decide_eq_false ne]; rfl]
      refine iteT ⟨_, rfl, ?_⟩
      refine ⟨_, rfl, _, rfl, _, rfl, p, C, dx, fs, _, rfl, hp, T.cl, T.s, rf.s, mo st r, st, rfl, rfl, mo st r &&& st, 1, rfl, rfl, land _ hm, by decide, mo st r, (mo st r &&& st) * 2 ^ 1, rfl, rfl, ⟨mo st r, k + 1, rfl, rfl, hm, ?_⟩, ?_⟩
      · rw [ek]
        rfl
      · show 2 ^ (n + 1) - ((mo st r : Nat) : Int).toNat < 2 ^ (n + 1) - ((r : Nat) : Int).toNat
        rw [Int.toNat_natCast, Int.toNat_natCast]
        omega
def stars (its : List (List Nat)) : Nat := mask (starF its) its.length
def takes (its : List (List Nat)) (c : Nat) : Nat := mask (tkF its c) its.length
def startS (its : List (List Nat)) : Nat := mask (cb (stars its) 1) (its.length + 1)
/-- a reading of a row -/
def IsR (C : Addr) (H : Hp) (p : Addr) (ls : List Nat) (its : List (List Nat)) : Prop := ∃ N n l Tk En dx fs, H p = some (.ins C dx fs) ∧ RF fs ls N (stars its) Tk (startS its) En ∧ H Tk = some (.lst (ls.map fun c => .int ((takes its c : Nat) : Int))) ∧ H N = some (.lst [.ref n]) ∧ H n = some (.tup [.str "row", .ref l]) ∧ H En = some (.dK [(.inl 0, .int ((2 ^ its.length : Nat) : Int))])
theorem IsR.same {C : Addr} {H H' : Hp} {p : Addr} {ls : List Nat} {its : List (List Nat)} (r : IsR C H p ls its) (e : Same H H') : IsR C H' p ls its :=
  let ⟨N, n, l, Tk, En, dx, fs, h1, h2, h3, h4, h5, h6⟩ := r
  ⟨N, n, l, Tk, En, dx, fs, e _ _ h1, h2, e _ _ h3, e _ _ h4, e _ _ h5, e _ _ h6⟩
def spFits (C : Addr) : Sp := fun vs H Q _ => ∃ p s ls its, vs = [.ref p, .int ((s : Nat) : Int)] ∧ IsR C H p ls its ∧ its.length ≤ 50 ∧ ∀ H', Same H H' → Q (.bl (s.testBit its.length)) H'
theorem and_bit (s k : Nat) : (!decide (V.int ((s &&& 2 ^ k : Nat) : Int) = V.int 0)) = s.testBit k := by
  have e : s &&& 2 ^ k = (if s.testBit k = true then 2 ^ k else 0) := Nat.eq_of_testBit_eq fun i => by
    rw [Nat.testBit_and, testBit_one]
    by_cases c : i = k
    · subst c
      cases h : s.testBit i <;> simp
    · rw [decide_eq_false c, Bool.and_false]
      split
      · rw [testBit_one, decide_eq_false c]
      · exact (Nat.zero_testBit i).symm
  rw [e]
  have p : 0 < 2 ^ k := Nat.two_pow_pos k
  cases h : s.testBit k with
  | true =>
    rw [if_pos rfl, decide_eq_false]
    · rfl
    · intro z
      have := V.int.inj z
      omega
  | false =>
    rw [if_neg (by simp)]
    rfl
abbrev NFt : List Str := ["self", "standing", "told", "node", "kind", "parts", "part"]
theorem scFits : FnScope NFt ["self", "standing"] (defScope sFits) := ⟨rfl, rfl, rfl, by decide +kernel, rfl, by decide +kernel, by decide +kernel⟩
theorem ok_fits {f C : Addr} {fd : FuncData} (F : Fun K "fits" "Readings.fits" sFits f fd) (B : Bi mg) (T : TxR K C) : FnOk P w K mg base CX0 1 f fd ["self", "standing"] (spFits C) := by
  refine F.ok scFits (fun vs H Q E h => ?_) (fun cdv A outer s H vs Q E hr h => ?_)
  · obtain ⟨p, s, ls, its, rfl, _⟩ := h
    rfl
  · obtain ⟨p, s0, ls, its, rfl, R, l50, q⟩ := h
    obtain ⟨N, n, l, Tk, En, dx, fs, hp, rf, hTk, hN, hn, hEn⟩ := id R
    refine ⟨_, pss_cons (ps_set (i := 2) scFits.nd rfl (Or.inr rfl) pe_dnewK)
      (pss_cons (ps_for PassesOwn.never rfl (pi_range3 rfl B.range (pa_cons (pe_op op_sub (pe_len B.len (pa_cons (pe_fld (pv 0) rfl) pa_nil)) pe_int) (pa_cons (pe_un un_neg pe_int) (pa_cons (pe_un un_neg pe_int) pa_nil)))) (pg_name (i := 3) scFits.nd rfl (.inl rfl))
        (pss_cons (ps_asg (pe_ix ix_list (pe_fld (pv 0) rfl) (pv 3) (fun _ _ => rfl)) (pg_tup rfl (pgs_cons (pg_name (i := 4) scFits.nd rfl (.inl rfl)) (pgs_cons (pg_name (i := 5) scFits.nd rfl (.inl rfl)) pgs_nil))))
        (pss_one (ps_if (pt_cmpR op_eq (pv 4) pe_str (nomark _)) (pss_one (ps_dput (hu_of hr) (pv 2) (pv 3) (pe_cmpR op_ne (pe_op op_andS (pv 1) (pe_dget (hu_of hr) (pe_fld (pv 0) rfl) (pv 3) (fun _ _ => rfl))) pe_int (nomark _)) rfl))
          pss_never))))
      (pss_one (ps_ret (pe_dget (hu_of hr) (pv 2) pe_int (fun _ _ => rfl))))), ?_⟩
    refine fun D nD => ?_
    have e1 := same_new (o := .dK []) nD
    have hD1 : upd H D (.dK []) D = some (.dK []) := upd_same
    generalize upd H D (.dK []) = H1 at e1 hD1 ⊢
    have hp1 := e1 _ _ hp
    have R1 := R.same e1
    have nd : ∀ b o, H b = some o → b ≠ D := fun b o z => ne_of_none z nD
    refine ⟨_, rfl, p, C, dx, fs, _, rfl, hp1, T.cl, T.n, rf.n, N, _, rfl, .inl (SqL.of (e1 _ _ hN)), _, _, rfl, rfl, _, rfl, _, rfl, _, _, _, 1, rfl, (show RgC 0 (-1) (-1) 1 from RgC.neg (by decide) (by decide) (by decide) (by decide)), ?_⟩
    refine for_it walk_rangeC (fun i σ H' => ∃ a b c : Option V, σ = [some (.ref p), some (.int ((s0 : Nat) : Int)), some (.ref D), a, b, c, none] ∧ Same H H' ∧ H' D = some (.dK (if i = 0 then [] else [(.inl 0, .bl (s0.testBit its.length))]))) ⟨none, none, none, rfl, e1, hD1⟩ (fun _ _ _ _ _ => True.intro) ?_ ?_
    · rintro i x σ H2 H3 hi ⟨a, b, c, rfl, e2, hD2⟩ ⟨rfl, hx⟩
      obtain rfl : i = 0 := by omega
      cases hx
      have hp2 := e2 _ _ hp
      refine ⟨_, rfl, p, C, dx, fs, _, rfl, hp2, T.cl, T.n, rf.n, _, rfl, N, _, _, _, rfl, rfl, SqL.of (e2 _ _ hN), atI_nat (j := 0) rfl, n, _, rfl, SqT.of (e2 _ _ hn), rfl, _, _, rfl, _, _, rfl, rfl, ?_⟩
      refine ⟨_, rfl, rfl, _, rfl, ?_⟩
      rw [decide_eq_true rfl]
      refine iteT ⟨_, rfl, _, rfl, p, C, dx, fs, _, rfl, hp2, T.cl, T.e, rf.e, _, rfl, En, _, rfl, DGet.k (k := Sum.inl 0) (e2 _ _ hEn), s0, 2 ^ its.length, rfl, rfl, rfl, ?_⟩
      rw [and_bit]
      refine ⟨_, rfl, _, rfl, D, _, rfl, DPut.k (k := Sum.inl 0) hD2 (small10 (by show 0 ≤ 10000; decide)), _, _, _, rfl, fun b' o z => (upd_ne (nd b' o z)).trans (e2 _ _ z), ?_⟩
      rw [upd_same]
      rfl
    · rintro σ H2 ⟨a, b, c, rfl, e2, hD2⟩
      exact ⟨_, rfl, D, _, rfl, DGet.k (k := Sum.inl 0) hD2, q H2 e2⟩
/-- where a standing leads by a sign that takes t -/
def gS (st n s t : Nat) : Nat := mask (cb st ((s &&& t) * 2 ^ 1 ||| (s &&& st))) (n + 1)
theorem gS_lt (st n s t : Nat) : gS st n s t < 2 ^ (n + 1) := mask_lt _ _
def spMvf (C : Addr) : Sp := fun vs H Q _ => ∃ p s ls its, vs = [.ref p, .int ((s : Nat) : Int)] ∧ IsR C H p ls its ∧ its.length ≤ 50 ∧ ls.length ≤ 1000 ∧ s < 2 ^ (its.length + 1) ∧
  ∀ L H', (∀ b o, H b = some o → b ≠ L) → Same H H' → H' L = some (.lst (ls.map fun c => .int ((gS (stars its) its.length s (takes its c) : Nat) : Int))) → Q (.ref L) H'
abbrev NMv : List Str := ["self", "standing", "behind", "moves", "taken"]
theorem scMvf : FnScope NMv ["self", "standing"] (defScope sMvf) := ⟨rfl, rfl, rfl, by decide +kernel, rfl, by decide +kernel, by decide +kernel⟩
theorem ok_mvf {f C : Addr} {fd : FuncData} (F : Fun K "moves_from" "Readings.moves_from" sMvf f fd) (T : TxR K C) (mP : Met CX0 P w K mg base 1 C "passed" (spPassed C)) : FnOk P w K mg base CX0 2 f fd ["self", "standing"] (spMvf C) := by
  refine F.ok scMvf (fun vs H Q E h => ?_) (fun cdv A outer s H vs Q E hr h => ?_)
  · obtain ⟨p, s, ls, its, rfl, _⟩ := h
    rfl
  · obtain ⟨p, s0, ls, its, rfl, R, l50, ll, hs, q⟩ := h
    obtain ⟨N, n, l, Tk, En, dx, fs, hp, rf, hTk, hN, hn, hEn⟩ := id R
    refine ⟨_, pss_cons (ps_set (i := 2) scMvf.nd rfl (Or.inl rfl) pe_dnewK)
      (pss_cons (ps_set (i := 3) scMvf.nd rfl (Or.inl rfl) (pe_lst pa_nil))
      (pss_cons (ps_for PassesOwn.never rfl (pi_sqA (pe_fld (pv 0) rfl)) (pg_name (i := 4) scMvf.nd rfl (.inl rfl))
        (pss_cons (ps_if (pt_cmp (pc_dnotin (hu_of hr) (pv 4) (pv 2))) (pss_one (ps_dput (hu_of hr) (pv 2) (pv 4) (pe_mt mP hr pass0 (pv 0) (pa_cons (pe_op op_orS (pe_op op_shlS (pe_op op_andS (pv 1) (pv 4)) pe_int) (pe_op op_andS (pv 1) (pe_fld (pv 0) rfl))) pa_nil)) rfl)) pss_nil)
        (pss_one (ps_expr (pe_bm PySem.F.plainAttrs_list PySem.F.slot_list_append PySem.F.type_list_append mt_append (pv 3) (pa_cons (pe_dget (hu_of hr) (pv 2) (pv 4) (fun _ _ => rfl)) pa_nil))))))
      (pss_one (ps_ret (pv 3))))), ?_⟩
    refine fun D nD => ?_
    have e1 := same_new (o := .dK []) nD
    have hD1 : upd H D (.dK []) D = some (.dK []) := upd_same
    generalize upd H D (.dK []) = H1 at e1 hD1 ⊢
    refine ⟨by decide, fun L nL => ?_⟩
    have e2 := same_new (o := .lst []) nL
    have hL2 : upd H1 L (.lst []) L = some (.lst []) := upd_same
    have hD2 := e2 _ _ hD1
    have nDL : D ≠ L := ne_of_none hD1 nL
    have nLo : ∀ b o, H b = some o → b ≠ L := fun b o z => ne_of_none (e1 _ _ z) nL
    have nDo : ∀ b o, H b = some o → b ≠ D := fun b o z => ne_of_none z nD
    have e12 := e1.trans e2
    generalize upd H1 L (.lst []) = H2 at e2 hL2 hD2 e12 ⊢
    clear e1 e2 hD1 nL
    have st_lt : stars its < 2 ^ its.length := mask_lt _ _
    have tk_lt : ∀ c, takes its c < 2 ^ its.length := fun c => mask_lt _ _
    have p60 : (2 : Nat) ^ its.length ≤ 2 ^ 50 := Nat.pow_le_pow_right (by decide) l50
    have q60 : (2 : Nat) ^ 50 < 2 ^ 60 := by decide
    refine ⟨_, rfl, p, C, dx, fs, _, rfl, e12 _ _ hp, T.cl, T.t, rf.t, Tk, _, rfl, .inl (SqL.of (e12 _ _ hTk)), fun J G wk hG => for_it wk (fun i σ H' => ∃ (a : Option V) (kvs : List (Key × V)), σ = [some (.ref p), some (.int ((s0 : Nat) : Int)), some (.ref D), some (.ref L), a] ∧ Same H H' ∧ H' D = some (.dK kvs) ∧ kvs.length ≤ i ∧ (∀ (t : Int) v, valV kvs (.inl t) = some v → ∃ tn : Nat, t = (tn : Nat) ∧ v = .int ((gS (stars its) its.length s0 tn : Nat) : Int)) ∧
        H' L = some (.lst ((ls.take i).map fun c => .int ((gS (stars its) its.length s0 (takes its c) : Nat) : Int)))) ⟨none, [], rfl, e12, hD2, Nat.le_refl _, (fun t v z => by cases z), hL2⟩ (fun i σ H' _ ⟨_, _, _, e, _⟩ => hG H' fun o z => ?_) ?_ ?_⟩
    · rw [e12 _ _ hTk] at z
      cases z
      exact e _ _ hTk
    · rintro i x σ H3 H4 hi ⟨a, kvs, rfl, e3, hD3, lk, gp, hL3⟩ ⟨rfl, hx⟩
      have hi2 : i < ls.length := by simpa using hi
      rw [List.getElem?_map, List.getElem?_eq_getElem hi2] at hx
      cases hx
      have tk : ls.take (i + 1) = ls.take i ++ [ls[i]] := by rw [List.take_add_one, List.getElem?_eq_getElem hi2]; rfl
      refine ⟨_, rfl, _, rfl, D, _, rfl, DGet.k (k := Sum.inl ((takes its ls[i] : Nat) : Int)) hD3, ?_⟩
      cases ev : valV kvs (.inl ((takes its ls[i] : Nat) : Int)) with
      | some v =>
        obtain ⟨tn, et, ev2⟩ := gp _ _ ev
        obtain rfl : takes its ls[i] = tn := by omega
        subst ev2
        refine ⟨_, rfl, iteF ?_⟩
        refine ⟨_, rfl, .inl ⟨rfl, _, SqL.of hL3⟩, _, rfl, _, rfl, D, _, rfl, (by
          have := DGet.k (k := Sum.inl ((takes its ls[i] : Nat) : Int)) hD3
          rw [ev] at this
          exact this), L, _, _, rfl, rfl, hL3, by rw [List.length_map, List.length_take]; exact small10 (by omega), ?_⟩
        refine ⟨_, kvs, rfl, fun b o z => (upd_ne (nLo b o z)).trans (e3 _ _ z), (upd_ne nDL).trans hD3, by omega, gp, ?_⟩
        rw [upd_same, tk, List.map_append]
        rfl
      | none =>
        refine ⟨_, rfl, iteT ?_⟩
        have h3p := e3 _ _ hp
        have la : s0 &&& takes its ls[i] < 2 ^ its.length := Nat.lt_of_le_of_lt Nat.and_le_right (tk_lt _)
        refine ⟨_, rfl, p, dx, fs, rfl, h3p, rf.no _ (by decide +kernel), _, rfl, _, rfl, s0, takes its ls[i], rfl, rfl, s0 &&& takes its ls[i], 1, rfl, rfl, by omega, by decide, _, rfl, _, rfl, p, C, dx, fs, _, rfl, h3p, T.cl, T.s, rf.s, s0, stars its, rfl, rfl, _, _, rfl, rfl, ?_⟩
        refine ⟨p, _, ls, N, stars its, Tk, takes its, startS its, En, its.length, rfl, ⟨dx, fs, h3p, rf, e3 _ _ hTk⟩, Nat.or_lt_two_pow (by rw [Nat.pow_one, Nat.pow_succ]; omega) (Nat.lt_of_le_of_lt Nat.and_le_left hs), st_lt, l50, ?_⟩
        rw [show mask (cb (stars its) ((s0 &&& takes its ls[i]) * 2 ^ 1 ||| (s0 &&& stars its))) (its.length + 1) = gS (stars its) its.length s0 (takes its ls[i]) from rfl]
        refine ⟨_, rfl, _, rfl, D, _, rfl, DPut.k (k := Sum.inl ((takes its ls[i] : Nat) : Int)) hD3 (small10 (by omega)), ?_⟩
        have vput : valV (putK kvs (.inl ((takes its ls[i] : Nat) : Int)) (.int ((gS (stars its) its.length s0 (takes its ls[i]) : Nat) : Int))) (.inl ((takes its ls[i] : Nat) : Int)) = some (.int ((gS (stars its) its.length s0 (takes its ls[i]) : Nat) : Int)) := by rw [valV_put, if_pos rfl]
        have gp2 : ∀ (t : Int) v, valV (putK kvs (.inl ((takes its ls[i] : Nat) : Int)) (.int ((gS (stars its) its.length s0 (takes its ls[i]) : Nat) : Int))) (.inl t) = some v → ∃ tn : Nat, t = (tn : Nat) ∧ v = .int ((gS (stars its) its.length s0 tn : Nat) : Int) := fun t v h => by
          rw [valV_put] at h
          split at h
          · rename_i c
            cases h
            exact ⟨_, Sum.inl.inj c, rfl⟩
          · exact gp t v h
        have hD5 : upd H4 D (.dK (putK kvs (.inl ((takes its ls[i] : Nat) : Int)) (.int ((gS (stars its) its.length s0 (takes its ls[i]) : Nat) : Int)))) D = some (.dK (putK kvs (.inl ((takes its ls[i] : Nat) : Int)) (.int ((gS (stars its) its.length s0 (takes its ls[i]) : Nat) : Int)))) := upd_same
        have hL5 : upd H4 D (.dK (putK kvs (.inl ((takes its ls[i] : Nat) : Int)) (.int ((gS (stars its) its.length s0 (takes its ls[i]) : Nat) : Int)))) L = _ := (upd_ne nDL.symm).trans hL3
        have e5 : Same H (upd H4 D (.dK (putK kvs (.inl ((takes its ls[i] : Nat) : Int)) (.int ((gS (stars its) its.length s0 (takes its ls[i]) : Nat) : Int))))) := fun b o z => (upd_ne (nDo b o z)).trans (e3 _ _ z)
        have lk2 := length_putK kvs (.inl ((takes its ls[i] : Nat) : Int)) (.int ((gS (stars its) its.length s0 (takes its ls[i]) : Nat) : Int))
        dsimp only
        generalize upd H4 D (.dK (putK kvs (.inl ((takes its ls[i] : Nat) : Int)) (.int ((gS (stars its) its.length s0 (takes its ls[i]) : Nat) : Int)))) = H5 at hD5 hL5 e5 ⊢
        refine ⟨_, rfl, .inl ⟨rfl, _, SqL.of hL5⟩, _, rfl, _, rfl, D, _, rfl, (by
          have := DGet.k (k := Sum.inl ((takes its ls[i] : Nat) : Int)) hD5
          rw [vput] at this
          exact this), L, _, _, rfl, rfl, hL5, by rw [List.length_map, List.length_take]; exact small10 (by omega), ?_⟩
        refine ⟨_, _, rfl, fun b o z => (upd_ne (nLo b o z)).trans (e5 _ _ z), (upd_ne nDL).trans hD5, by omega, gp2, ?_⟩
        rw [upd_same, tk, List.map_append]
        rfl
    · rintro σ H3 ⟨a, kvs, rfl, e3, hD3, lk, gp, hL3⟩
      rw [List.length_map, List.take_length] at hL3
      exact ⟨_, rfl, q L H3 nLo e3 hL3⟩
end
end K03
set_option Elab.async false
set_option linter.all false
set_option maxRecDepth 100001
set_option maxHeartbeats 3999999
namespace K03
open PySem L2
theorem idx_app {α : Type} [BEq α] [LawfulBEq α] {xs ys : List α} {x : α} (h : x ∈ xs) : (xs ++ ys).idxOf x = xs.idxOf x := by
  rw [List.idxOf_append, if_pos h]
def intsN (xs : List Nat) : List V := xs.map fun s => .int ((s : Nat) : Int)
theorem intsN_len (xs : List Nat) : (intsN xs).length = xs.length := List.length_map ..
/-- numbers of the standings -/
def numD (sts : List Nat) : List (Key × V) := asc (fun i => Sum.inl ((sts.getD i 0 : Nat) : Int)) (fun i => .int ((i : Nat) : Int)) sts.length
theorem numD_at {sts : List Nat} (nd : sts.Nodup) {s : Nat} (h : s ∈ sts) : valV (numD sts) (.inl ((s : Nat) : Int)) = some (.int ((sts.idxOf s : Nat) : Int)) := by
  have li := List.idxOf_lt_length_of_mem h
  have g : sts.getD (sts.idxOf s) 0 = s := by
    rw [List.getD_eq_getElem?_getD, List.getElem?_eq_getElem li, List.getElem_idxOf li]
    rfl
  have := asc_at (kf := fun i => Sum.inl ((sts.getD i 0 : Nat) : Int)) (vf := fun i => V.int ((i : Nat) : Int)) (n := sts.length) li fun i l hi hl e => nd_at (d := 0) nd hi hl (by have := Sum.inl.inj e; omega)
  simp only [g] at this
  exact this
theorem numD_none {sts : List Nat} {s : Nat} (h : s ∉ sts) : valV (numD sts) (.inl ((s : Nat) : Int)) = none := asc_none fun j hj e => h (by
  have e2 : sts.getD j 0 = s := by have := Sum.inl.inj e; omega
  rw [List.getD_eq_getElem?_getD, List.getElem?_eq_getElem hj] at e2
  have e3 : sts[j] = s := e2
  exact e3 ▸ List.getElem_mem hj)
theorem numD_put {sts : List Nat} {s : Nat} (h : s ∉ sts) : putK (numD sts) (.inl ((s : Nat) : Int)) (.int ((sts.length : Nat) : Int)) = numD (sts ++ [s]) := by
  have gl : ∀ i, i < sts.length → (sts ++ [s]).getD i 0 = sts.getD i 0 := fun i hi => by
    rw [List.getD_eq_getElem?_getD, List.getD_eq_getElem?_getD, List.getElem?_append_left hi]
  have gr : (sts ++ [s]).getD sts.length 0 = s := by
    rw [List.getD_eq_getElem?_getD, List.getElem?_append_right (Nat.le_refl _), Nat.sub_self]
    rfl
  have e : numD sts = asc (fun i => Sum.inl (((sts ++ [s]).getD i 0 : Nat) : Int)) (fun i => V.int ((i : Nat) : Int)) sts.length := by
    unfold numD asc
    refine List.map_congr_left fun i hi => ?_
    show (Sum.inl ((sts.getD i 0 : Nat) : Int), V.int ((i : Nat) : Int)) = (Sum.inl (((sts ++ [s]).getD i 0 : Nat) : Int), V.int ((i : Nat) : Int))
    rw [gl i (List.mem_range.mp hi)]
  have := asc_put (kf := fun i => Sum.inl (((sts ++ [s]).getD i 0 : Nat) : Int)) (vf := fun i => V.int ((i : Nat) : Int)) (n := sts.length) fun j hj z => h (by
    have e2 := Sum.inl.inj z
    rw [gl j hj, gr] at e2
    have e3 : sts.getD j 0 = s := by omega
    rw [List.getD_eq_getElem?_getD, List.getElem?_eq_getElem hj] at e3
    have e4 : sts[j] = s := e3
    exact e4 ▸ List.getElem_mem hj)
  rw [e]
  simp only [gr] at this
  rw [this]
  unfold numD
  rw [List.length_append]
  rfl
/-- the moves of the first m standings -/
def RowsAt (H : Hp) (its : List (List Nat)) (ls : List Nat) (sts : List Nat) (mv : List V) : Prop := ∀ (i : Nat) (v : V), mv[i]? = some v → ∃ (s : Nat) (a : Addr), sts[i]? = some s ∧ v = .ref a ∧ H a = some (.tup (ls.map fun c => .int ((sts.idxOf (gS (stars its) its.length s (takes its c)) : Nat) : Int))) ∧ ∀ c ∈ ls, gS (stars its) its.length s (takes its c) ∈ sts
theorem RowsAt.grow {H H' : Hp} {its : List (List Nat)} {ls sts : List Nat} {mv : List V} (r : RowsAt H its ls sts mv) (xs : List Nat) (e : ∀ a ys, H a = some (.tup ys) → H' a = some (.tup ys)) : RowsAt H' its ls (sts ++ xs) mv := fun i v h => by
  obtain ⟨s, a, h1, h2, h3, h4⟩ := r i v h
  refine ⟨s, a, ?_, h2, ?_, fun c hc => List.mem_append_left _ (h4 c hc)⟩
  · rw [List.getElem?_append_left (List.getElem?_eq_some_iff.mp h1).1, h1]
  · rw [e _ _ h3]
    congr 2
    refine List.map_congr_left fun c hc => ?_
    rw [idx_app (h4 c hc)]
theorem RowsAt.same {H H' : Hp} {its : List (List Nat)} {ls sts : List Nat} {mv : List V} (r : RowsAt H its ls sts mv) (e : ∀ a ys, H a = some (.tup ys) → H' a = some (.tup ys)) : RowsAt H' its ls sts mv := by
  have := r.grow [] e
  rwa [List.append_nil] at this
def spAll (C : Addr) : Sp := fun vs H Q _ => ∃ p ls its, vs = [.ref p] ∧ IsR C H p ls its ∧ its.length ≤ 5 ∧ ls.length ≤ 1000 ∧
  ∀ tt M Kk sts mv H', Same H H' → H' tt = some (.tup [.ref M, .ref Kk]) → H' M = some (.lst mv) → mv.length = sts.length → RowsAt H' its ls sts mv → H' Kk = some (.lst (sts.map fun s => .bl (s.testBit its.length))) → sts[0]? = some (startS its) → sts.length ≤ 100 → Q (.ref tt) H'
section
variable {P : Program} {w : World} {K : PySem.W.Frag} {mg : Str → Option Value} {base : Heap}
abbrev NAl : List Str := ["self", "numbers", "order", "moves", "row", "standing"]
theorem scAll : FnScope NAl ["self"] (defScope sAll) := ⟨rfl, rfl, rfl, by decide +kernel, rfl, by decide +kernel, by decide +kernel⟩
theorem ok_all {f C : Addr} {fd : FuncData} (F : Fun K "all_moves" "Readings.all_moves" sAll f fd) (B : Bi mg) (M : Cm mg) (T : TxR K C) (mM : Met CX0 P w K mg base 2 C "moves_from" (spMvf C)) (mF : Met CX0 P w K mg base 1 C "fits" (spFits C)) : FnOk P w K mg base CX0 3 f fd ["self"] (spAll C) := by
  refine F.ok scAll (fun vs H Q E h => ?_) (fun cdv A outer s H vs Q E hr h => ?_)
  · obtain ⟨p, ls, its, rfl, _⟩ := h
    rfl
  · obtain ⟨p, ls, its, rfl, R, l3, ll, q⟩ := h
    obtain ⟨N, n, l, Tk, En, dx, fs, hp, rf, hTk, hN, hn, hEn⟩ := id R
    refine ⟨_, pss_cons (ps_set (i := 1) scAll.nd rfl (Or.inl rfl) (pe_disp (pps_cons (pe_fld (pv 0) rfl) pe_int pps_nil) rfl rfl (by simp) (by decide)))
      (pss_cons (ps_set (i := 2) scAll.nd rfl (Or.inl rfl) (pe_lst (pa_cons (pe_fld (pv 0) rfl) pa_nil)))
      (pss_cons (ps_set (i := 3) scAll.nd rfl (Or.inl rfl) (pe_lst pa_nil))
      (pss_cons (ps_while PassesOwn.never (pt_cmpR op_lt (pe_len B.len (pa_cons (pv 3) pa_nil)) (pe_len B.len (pa_cons (pv 2) pa_nil)) (nomark _))
        (pss_cons (ps_set (i := 4) scAll.nd rfl (Or.inl rfl) (pe_lst pa_nil))
        (pss_cons (ps_for PassesOwn.never rfl (pi_sqA (pe_mt mM hr pass0 (pv 0) (pa_cons (pe_ix ix_list (pv 2) (pe_len B.len (pa_cons (pv 3) pa_nil)) (fun _ _ => rfl)) pa_nil))) (pg_name (i := 5) scAll.nd rfl (.inl rfl))
          (pss_cons (ps_if (pt_cmp (pc_dnotin (hu_of hr) (pv 5) (pv 1)))
              (pss_cons (ps_if (pt_cmpR op_eq (pe_len B.len (pa_cons (pv 2) pa_nil)) (C8.pe_gc rfl M.stand) (nomark _)) pss_never pss_nil)
              (pss_cons (ps_dput (hu_of hr) (pv 1) (pv 5) (pe_len B.len (pa_cons (pv 2) pa_nil)) rfl)
              (pss_one (ps_expr (pe_bm PySem.F.plainAttrs_list PySem.F.slot_list_append PySem.F.type_list_append mt_append (pv 2) (pa_cons (pv 5) pa_nil)))))) pss_nil)
          (pss_one (ps_expr (pe_bm PySem.F.plainAttrs_list PySem.F.slot_list_append PySem.F.type_list_append mt_append (pv 4) (pa_cons (pe_dget (hu_of hr) (pv 1) (pv 5) (fun _ _ => rfl)) pa_nil))))))
        (pss_one (ps_expr (pe_bm PySem.F.plainAttrs_list PySem.F.slot_list_append PySem.F.type_list_append mt_append (pv 3) (pa_cons (pe_tupleOf rfl B.tuple (pv 4)) pa_nil))))))
      )
      (pss_one (ps_ret (pe_tup (pa_cons (pv 3) (pa_cons (pe_lc (own := [("standing", 5)]) rfl scAll.nd (pi_sqA (pv 2)) (blkOk_by (N := NAl) (sc := defScope sAll) (by decide +kernel))
          (fun _ _ _ _ _ => pg_name (i := 5) scAll.nd rfl (Or.inl rfl)) (fun _ _ _ _ _ => pts_nil) (fun _ _ _ _ _ => pe_mt mF hr pass0 (pv 0) (pa_cons (pv 5) pa_nil))) pa_nil)))))))), ?_⟩
    have p60 : (2 : Nat) ^ (its.length + 1) ≤ 2 ^ 6 := Nat.pow_le_pow_right (by decide) (by omega)
    have p64 : (2 : Nat) ^ 6 = 64 := by decide
    refine fun Dn nDn => ?_
    have e1 := same_new (o := .dK []) nDn
    have hDn1 : upd H Dn (.dK []) Dn = some (.dK []) := upd_same
    generalize upd H Dn (.dK []) = H1 at e1 hDn1 ⊢
    refine ⟨_, rfl, p, C, dx, fs, _, rfl, e1 _ _ hp, T.cl, T.a, rf.a, hDn1, [(.inl ((startS its : Nat) : Int), .int 0)], rfl, by show 1 ≤ 15; decide, ?_⟩
    have nDo : ∀ b o, H b = some o → b ≠ Dn := fun b o z => ne_of_none z nDn
    have e2 : Same H (upd H1 Dn (.dK (mergeK [] [(.inl ((startS its : Nat) : Int), .int 0)]))) := fun b o z => (upd_ne (nDo b o z)).trans (e1 _ _ z)
    have hDn2 : upd H1 Dn (.dK (mergeK [] [(.inl ((startS its : Nat) : Int), .int 0)])) Dn = some (.dK (numD [startS its])) := upd_same
    generalize upd H1 Dn (.dK (mergeK [] [(.inl ((startS its : Nat) : Int), .int 0)])) = H2 at e2 hDn2 ⊢
    refine ⟨_, rfl, p, C, dx, fs, _, rfl, e2 _ _ hp, T.cl, T.a, rf.a, by show 1 ≤ sizeLine; decide, fun Lo nLo => ?_⟩
    have nLoo : ∀ b o, H b = some o → b ≠ Lo := fun b o z => ne_of_none (e2 _ _ z) nLo
    have nDLo : Dn ≠ Lo := ne_of_none hDn2 nLo
    have e3 := same_new (o := .lst [.int ((startS its : Nat) : Int)]) nLo
    have hLo3 : upd H2 Lo (.lst [.int ((startS its : Nat) : Int)]) Lo = some (.lst (intsN [startS its])) := upd_same
    have hDn3 := e3 _ _ hDn2
    have e13 := e2.trans e3
    generalize upd H2 Lo (.lst [.int ((startS its : Nat) : Int)]) = H3 at e3 hLo3 hDn3 e13 ⊢
    refine ⟨by decide, fun Lm nLm => ?_⟩
    have nLmo : ∀ b o, H b = some o → b ≠ Lm := fun b o z => ne_of_none (e13 _ _ z) nLm
    have nDLm : Dn ≠ Lm := ne_of_none hDn3 nLm
    have nLoLm : Lo ≠ Lm := ne_of_none hLo3 nLm
    have e4 := same_new (o := .lst []) nLm
    have hLm4 : upd H3 Lm (.lst []) Lm = some (.lst []) := upd_same
    have hDn4 := e4 _ _ hDn3
    have hLo4 := e4 _ _ hLo3
    have e14 := e13.trans e4
    dsimp only [gName, tSeq, tAsg, tC]
    generalize upd H3 Lm (.lst []) = H4 at e4 hLm4 hDn4 hLo4 e14 ⊢
    clear e1 e2 e3 e13 e4 hDn1 hDn2 hDn3 hLo3 nDn nLo nLm
    show tWhile _ _ _ [some (.ref p), some (.ref Dn), some (.ref Lo), some (.ref Lm), none, none] H4
    have sl : startS its < 2 ^ (its.length + 1) := mask_lt _ _
    refine while_by (fun σ H' => ∃ (sts : List Nat) (mv : List V) (a b : Option V), σ = [some (.ref p), some (.ref Dn), some (.ref Lo), some (.ref Lm), a, b] ∧ Same H H' ∧ H' Dn = some (.dK (numD sts)) ∧ H' Lo = some (.lst (intsN sts)) ∧ H' Lm = some (.lst mv) ∧ mv.length ≤ sts.length ∧ RowsAt H' its ls sts mv ∧ sts.Nodup ∧ (∀ s ∈ sts, s < 2 ^ (its.length + 1)) ∧ sts[0]? = some (startS its))
      (fun _ H' => match H' Lm with | some (.lst xs) => 2 ^ (its.length + 1) - xs.length | _ => 0)
      ⟨[startS its], [], none, none, rfl, e14, hDn4, hLo4, hLm4, Nat.zero_le _, (fun i v h => by cases h), by simp, (fun s h => by rw [List.mem_singleton.mp h]; exact sl), rfl⟩ ?_
      (fun σ H Q Q' m ⟨x, hx, y, ys, ey, sy, z, hz, w, ws, ew, sw, i, j, ei, ej, b, eb, q⟩ => ⟨x, hx, y, ys, ey, sy, z, hz, w, ws, ew, sw, i, j, ei, ej, b, eb, m _ _ q⟩)
    rintro σ H5 ⟨sts, mv, a, b, rfl, e5, hDn5, hLo5, hLm5, lmv, rows, nd, bd, s0⟩
    have lst : sts.length ≤ 2 ^ (its.length + 1) := pigeon _ sts nd bd
    refine ⟨_, rfl, Lm, _, rfl, .inl (SqL.of hLm5), _, rfl, Lo, _, rfl, .inl (SqL.of hLo5), _, _, rfl, rfl, _, rfl, ?_⟩
    rw [intsN_len]
    by_cases c : mv.length < sts.length
    · rw [decide_eq_true (show (mv.length : Int) < ((sts.length : Nat) : Int) by omega)]
      refine iteT ?_
      have hc := List.getElem?_eq_getElem c
      have mc : sts[mv.length] ∈ sts := List.getElem_mem c
      generalize sts[mv.length] = sc at hc mc
      have hcV : (intsN sts)[mv.length]? = some (.int ((sc : Nat) : Int)) := by
        unfold intsN
        rw [List.getElem?_map, hc]
        rfl
      refine ⟨by decide, fun Rw nRw => ?_⟩
      have nDR : Dn ≠ Rw := ne_of_none hDn5 nRw
      have nLoR : Lo ≠ Rw := ne_of_none hLo5 nRw
      have nLmR : Lm ≠ Rw := ne_of_none hLm5 nRw
      have nRo : ∀ b o, H b = some o → b ≠ Rw := fun b o z => ne_of_none (e5 _ _ z) nRw
      have e6 := same_new (o := .lst []) nRw
      have hR6 : upd H5 Rw (.lst []) Rw = some (.lst []) := upd_same
      generalize upd H5 Rw (.lst []) = H6 at e6 hR6 ⊢
      refine ⟨_, rfl, p, dx, fs, rfl, e6 _ _ (e5 _ _ hp), rf.no _ (by decide +kernel), _, rfl, _, rfl, Lm, _, rfl, .inl (SqL.of (e6 _ _ hLm5)), Lo, _, _, _, rfl, rfl, SqL.of (e6 _ _ hLo5), atI_nat hcV, ?_⟩
      refine ⟨p, sc, ls, its, rfl, (R.same e5).same e6, by omega, ll, bd sc mc, fun L2 H7 nL2 e7 hL2 => ⟨L2, _, rfl, .inl (SqL.of hL2), ?_⟩⟩
      have nR2' : L2 ≠ Rw := (nL2 _ _ hR6).symm
      have nDL2 : L2 ≠ Dn := (nL2 _ _ (e6 _ _ hDn5)).symm
      have nLoL2 : L2 ≠ Lo := (nL2 _ _ (e6 _ _ hLo5)).symm
      have e57 := e6.trans e7
      have hR7 := e7 _ _ hR6
      have hDn7 := e57 _ _ hDn5
      have hLo7 := e57 _ _ hLo5
      have hLm7 := e57 _ _ hLm5
      have e07 := e5.trans e57
      have rows7 : RowsAt H7 its ls sts mv := rows.same fun a ys z => e57 _ _ z
      clear e6 hR6 e57 e7 hDn5 hLo5
      refine fun J G wk hG => for_it wk (fun i σ H' => ∃ (ys : List Nat) (b : Option V), σ = [some (.ref p), some (.ref Dn), some (.ref Lo), some (.ref Lm), some (.ref Rw), b] ∧ Same H H' ∧ (∀ a xs, H7 a = some (.tup xs) → H' a = some (.tup xs)) ∧ H' Dn = some (.dK (numD (sts ++ ys))) ∧ H' Lo = some (.lst (intsN (sts ++ ys))) ∧ H' Lm = some (.lst mv) ∧
          H' L2 = some (.lst (ls.map fun c => .int ((gS (stars its) its.length sc (takes its c) : Nat) : Int))) ∧ H' Rw = some (.lst ((ls.take i).map fun c => .int (((sts ++ ys).idxOf (gS (stars its) its.length sc (takes its c)) : Nat) : Int))) ∧ (∀ c ∈ ls.take i, gS (stars its) its.length sc (takes its c) ∈ sts ++ ys) ∧ (sts ++ ys).Nodup ∧ (∀ s ∈ sts ++ ys, s < 2 ^ (its.length + 1)))
        ⟨[], _, rfl, e07, (fun a xs z => z), by rw [List.append_nil]; exact hDn7, by rw [List.append_nil]; exact hLo7, hLm7, hL2, hR7, (fun c h => by cases h), by rw [List.append_nil]; exact nd, by rw [List.append_nil]; exact bd⟩
        (fun i σ H' _ ⟨_, _, _, _, _, _, _, _, h, _⟩ => hG H' fun o z => by
          rw [hL2] at z
          cases z
          exact h) ?_ ?_
      · rintro i x σ H8 H9 hi ⟨ys, b, rfl, e8, kt8, hDn8, hLo8, hLm8, hL28, hR8, mem8, nd8, bd8⟩ ⟨rfl, hx⟩
        have hi2 : i < ls.length := by simpa using hi
        rw [List.getElem?_map, List.getElem?_eq_getElem hi2] at hx
        cases hx
        have tk : ls.take (i + 1) = ls.take i ++ [ls[i]] := by rw [List.take_add_one, List.getElem?_eq_getElem hi2]; rfl
        have glt := gS_lt (stars its) its.length sc (takes its ls[i])
        have mt : ∀ zs : List Nat, (∀ c ∈ ls.take i, gS (stars its) its.length sc (takes its c) ∈ zs) → gS (stars its) its.length sc (takes its ls[i]) ∈ zs → ∀ c ∈ ls.take (i + 1), gS (stars its) its.length sc (takes its c) ∈ zs := fun zs h1 h2 c hc => by
          rw [tk] at hc
          rcases List.mem_append.mp hc with hc | hc
          · exact h1 c hc
          · rw [List.mem_singleton.mp hc]
            exact h2
        have nR2 : L2 ≠ Rw := nR2'
        refine ⟨_, rfl, _, rfl, Dn, _, rfl, DGet.k (k := Sum.inl ((gS (stars its) its.length sc (takes its ls[i]) : Nat) : Int)) hDn8, ?_⟩
        by_cases g : gS (stars its) its.length sc (takes its ls[i]) ∈ sts ++ ys
        · rw [numD_at nd8 g]
          refine ⟨_, rfl, iteF ?_⟩
          refine ⟨_, rfl, .inl ⟨rfl, _, SqL.of hR8⟩, _, rfl, _, rfl, Dn, _, rfl, (by
            have := DGet.k (k := Sum.inl ((gS (stars its) its.length sc (takes its ls[i]) : Nat) : Int)) hDn8
            rw [numD_at nd8 g] at this
            exact this), Rw, _, _, rfl, rfl, hR8, by rw [List.length_map, List.length_take]; exact small10 (by omega), ?_⟩
          refine ⟨ys, _, rfl, fun b o z => (upd_ne (nRo b o z)).trans (e8 _ _ z), fun a xs z => (upd_ne (ne_of (kt8 a xs z) hR8 fun y => nomatch y)).trans (kt8 a xs z), (upd_ne nDR).trans hDn8, (upd_ne nLoR).trans hLo8, (upd_ne nLmR).trans hLm8, (upd_ne nR2).trans hL28, ?_, mt _ mem8 g, nd8, bd8⟩
          rw [upd_same, tk, List.map_append]
          rfl
        · rw [numD_none g]
          have l8 : (sts ++ ys).length ≤ 2 ^ (its.length + 1) := pigeon _ _ nd8 bd8
          refine ⟨_, rfl, iteT ?_⟩
          refine ⟨_, rfl, Lo, _, rfl, .inl (SqL.of hLo8), rfl, _, rfl, ?_⟩
          rw [intsN_len, decide_eq_false (fun z => by have := V.int.inj z; omega)]
          refine iteF ?_
          refine ⟨_, rfl, Lo, _, rfl, .inl (SqL.of hLo8), _, rfl, _, rfl, Dn, _, rfl, DPut.k (k := Sum.inl ((gS (stars its) its.length sc (takes its ls[i]) : Nat) : Int)) hDn8 (by unfold numD; rw [asc_len]; exact small10 (by omega)), ?_⟩
          rw [intsN_len, numD_put g]
          generalize egn : gS (stars its) its.length sc (takes its ls[i]) = gn at g glt ⊢
          have hD9 : upd H9 Dn (.dK (numD (sts ++ ys ++ [gn]))) Dn = some (.dK (numD (sts ++ ys ++ [gn]))) := upd_same
          have hLo9 : upd H9 Dn (.dK (numD (sts ++ ys ++ [gn]))) Lo = some (.lst (intsN (sts ++ ys))) := (upd_ne nDLo.symm).trans hLo8
          have hLm9 : upd H9 Dn (.dK (numD (sts ++ ys ++ [gn]))) Lm = some (.lst mv) := (upd_ne nDLm.symm).trans hLm8
          have hL29 : upd H9 Dn (.dK (numD (sts ++ ys ++ [gn]))) L2 = _ := (upd_ne nDL2).trans hL28
          have hR9 : upd H9 Dn (.dK (numD (sts ++ ys ++ [gn]))) Rw = _ := (upd_ne nDR.symm).trans hR8
          have e9 : Same H (upd H9 Dn (.dK (numD (sts ++ ys ++ [gn])))) := fun b o z => (upd_ne (nDo b o z)).trans (e8 _ _ z)
          have kt9 : ∀ a xs, H7 a = some (.tup xs) → upd H9 Dn (.dK (numD (sts ++ ys ++ [gn]))) a = some (.tup xs) := fun a xs z => (upd_ne (ne_of (kt8 a xs z) hDn8 fun y => nomatch y)).trans (kt8 a xs z)
          generalize upd H9 Dn (.dK (numD (sts ++ ys ++ [gn]))) = H10 at hD9 hLo9 hLm9 hL29 hR9 e9 kt9 ⊢
          refine ⟨_, rfl, .inl ⟨rfl, _, SqL.of hLo9⟩, _, rfl, Lo, _, _, rfl, rfl, hLo9, by rw [intsN_len]; exact small10 (by omega), ?_⟩
          have ei : intsN (sts ++ ys) ++ [V.int ((gn : Nat) : Int)] = intsN (sts ++ ys ++ [gn]) := by
            simp [intsN]
          dsimp only
          rw [egn, ei]
          have hDa : upd H10 Lo (.lst (intsN (sts ++ ys ++ [gn]))) Dn = _ := (upd_ne nDLo).trans hD9
          have hLoa : upd H10 Lo (.lst (intsN (sts ++ ys ++ [gn]))) Lo = some (.lst (intsN (sts ++ ys ++ [gn]))) := upd_same
          have hLma : upd H10 Lo (.lst (intsN (sts ++ ys ++ [gn]))) Lm = _ := (upd_ne nLoLm.symm).trans hLm9
          have hL2a : upd H10 Lo (.lst (intsN (sts ++ ys ++ [gn]))) L2 = _ := (upd_ne nLoL2).trans hL29
          have hRa : upd H10 Lo (.lst (intsN (sts ++ ys ++ [gn]))) Rw = _ := (upd_ne nLoR.symm).trans hR9
          have ea : Same H (upd H10 Lo (.lst (intsN (sts ++ ys ++ [gn])))) := fun b o z => (upd_ne (nLoo b o z)).trans (e9 _ _ z)
          have kta : ∀ a xs, H7 a = some (.tup xs) → upd H10 Lo (.lst (intsN (sts ++ ys ++ [gn]))) a = some (.tup xs) := fun a xs z => (upd_ne (ne_of (kt9 a xs z) hLo9 fun y => nomatch y)).trans (kt9 a xs z)
          generalize upd H10 Lo (.lst (intsN (sts ++ ys ++ [gn]))) = H11 at hDa hLoa hLma hL2a hRa ea kta ⊢
          have nda : (sts ++ ys ++ [gn]).Nodup := List.nodup_append.mpr ⟨nd8, by simp, fun a ha b hb z => by
            rw [List.mem_singleton.mp hb] at z
            exact g (z ▸ ha)⟩
          have mga : gn ∈ sts ++ ys ++ [gn] := List.mem_append_right _ List.mem_cons_self
          refine ⟨_, rfl, .inl ⟨rfl, _, SqL.of hRa⟩, _, rfl, _, rfl, Dn, _, rfl, (by
            have := DGet.k (k := Sum.inl ((gn : Nat) : Int)) hDa
            rw [numD_at nda mga] at this
            exact this), Rw, _, _, rfl, rfl, hRa, by rw [List.length_map, List.length_take]; exact small10 (by omega), ?_⟩
          refine ⟨ys ++ [gn], _, rfl, fun b o z => (upd_ne (nRo b o z)).trans (ea _ _ z), fun a xs z => (upd_ne (ne_of (kta a xs z) hRa fun y => nomatch y)).trans (kta a xs z), ?_, ?_, (upd_ne nLmR).trans hLma, (upd_ne nR2).trans hL2a, ?_, ?_, ?_, ?_⟩
          · rw [← List.append_assoc]
            exact (upd_ne nDR).trans hDa
          · rw [← List.append_assoc]
            exact (upd_ne nLoR).trans hLoa
          · rw [upd_same, tk, List.map_append, ← List.append_assoc]
            congr 3
            · refine List.map_congr_left fun c hc => ?_
              rw [idx_app (mem8 c hc)]
            · show [V.int (((sts ++ ys ++ [gn]).idxOf gn : Nat) : Int)] = [V.int (((sts ++ ys ++ [gn]).idxOf (gS (stars its) its.length sc (takes its ls[i])) : Nat) : Int)]
              rw [egn]
          · rw [← List.append_assoc]
            exact mt _ (fun c hc => List.mem_append_left _ (mem8 c hc)) (by rw [egn]; exact mga)
          · rw [← List.append_assoc]
            exact nda
          · rw [← List.append_assoc]
            intro s hs
            rcases List.mem_append.mp hs with hs | hs
            · exact bd8 s hs
            · rw [List.mem_singleton.mp hs]
              exact glt
      · rintro σ H8 ⟨ys, b, rfl, e8, kt8, hDn8, hLo8, hLm8, hL28, hR8, mem8, nd8, bd8⟩
        rw [List.length_map, List.take_length] at hR8 mem8
        refine ⟨_, rfl, .inl ⟨rfl, _, SqL.of hLm8⟩, _, rfl, .inl ⟨Rw, _, rfl, SqL.of hR8, fun tt ntt => ?_⟩⟩
        have e9 := same_new (o := .tup (ls.map fun c => .int (((sts ++ ys).idxOf (gS (stars its) its.length sc (takes its c)) : Nat) : Int))) ntt
        have htt : upd H8 tt (.tup (ls.map fun c => .int (((sts ++ ys).idxOf (gS (stars its) its.length sc (takes its c)) : Nat) : Int))) tt = some (.tup (ls.map fun c => .int (((sts ++ ys).idxOf (gS (stars its) its.length sc (takes its c)) : Nat) : Int))) := upd_same
        generalize upd H8 tt (.tup (ls.map fun c => .int (((sts ++ ys).idxOf (gS (stars its) its.length sc (takes its c)) : Nat) : Int))) = H9 at e9 htt ⊢
        have hLm9 := e9 _ _ hLm8
        have kt : ∀ xs, ∀ a zs, H9 a = some (.tup zs) → upd H9 Lm (.lst xs) a = some (.tup zs) := fun xs a zs z => (upd_ne (ne_of z hLm9 fun y => nomatch y)).trans z
        refine ⟨Lm, _, _, rfl, rfl, hLm9, small10 (by omega), ⟨sts ++ ys, mv ++ [.ref tt], _, _, rfl, fun b' o z => (upd_ne (nLmo b' o z)).trans (e9 _ _ (e8 _ _ z)), (upd_ne nDLm).trans (e9 _ _ hDn8), (upd_ne nLoLm).trans (e9 _ _ hLo8), upd_same, ?_, ?_, nd8, bd8, ?_⟩, ?_⟩
        · rw [List.length_append, List.length_append]
          show mv.length + 1 ≤ _
          omega
        · intro i v hv
          by_cases d : i < mv.length
          · rw [List.getElem?_append_left d] at hv
            exact (rows7.grow ys fun a zs z => kt _ a zs (e9 _ _ (kt8 _ _ z))) i v hv
          · have di : i = mv.length := by
              have := (List.getElem?_eq_some_iff.mp hv).1
              rw [List.length_append] at this
              have : i < mv.length + 1 := this
              omega
            subst di
            rw [List.getElem?_append_right (Nat.le_refl _), Nat.sub_self] at hv
            cases hv
            exact ⟨sc, tt, by rw [List.getElem?_append_left c]; exact hc, rfl, kt _ _ _ htt, mem8⟩
        · rw [List.getElem?_append_left (by omega)]
          exact s0
        · show (match upd H9 Lm (.lst (mv ++ [.ref tt])) Lm with | some (.lst xs) => 2 ^ (its.length + 1) - xs.length | _ => 0) < (match H5 Lm with | some (.lst xs) => 2 ^ (its.length + 1) - xs.length | _ => 0)
          rw [upd_same, hLm5]
          show 2 ^ (its.length + 1) - (mv ++ [V.ref tt]).length < 2 ^ (its.length + 1) - mv.length
          rw [List.length_append]
          show 2 ^ (its.length + 1) - (mv.length + 1) < _
          omega
    · rw [decide_eq_false (show ¬ (mv.length : Int) < ((sts.length : Nat) : Int) by omega)]
      refine iteF ?_
      have em : mv.length = sts.length := by omega
      refine ⟨_, rfl, _, rfl, Lo, _, rfl, .inl (SqL.of hLo5), fun J G wk hG Kk nK => lc_it wk (fun i H' => Same H5 H' ∧ H' Kk = some (.lst ((sts.take i).map fun s => .bl (s.testBit its.length)))) ⟨same_new nK, upd_same⟩ (fun i H' _ z => hG H' fun o z' => z.1 _ _ z') ?_ ?_⟩
      · rintro i x H6 H7 hi ⟨e6, hK6⟩ ⟨rfl, hx⟩
        have hi2 : i < sts.length := by rwa [intsN_len] at hi
        have hx : (sts.map fun s => V.int ((s : Nat) : Int))[i]? = some x := hx
        rw [List.getElem?_map, List.getElem?_eq_getElem hi2] at hx
        cases hx
        have tk : sts.take (i + 1) = sts.take i ++ [sts[i]] := by rw [List.take_add_one, List.getElem?_eq_getElem hi2]; rfl
        have R7 := (R.same e5).same e6
        refine ⟨rfl, yesT ⟨_, rfl, p, dx, fs, rfl, e6 _ _ (e5 _ _ hp), rf.no _ (by decide +kernel), _, rfl, p, sts[i], ls, its, rfl, R7, by omega, fun H8 e8 => ⟨_, e8 _ _ hK6, by rw [List.length_map, List.length_take]; exact small10 (by omega), fun b o z => ?_, ?_⟩⟩⟩
        · exact (upd_ne (ne_of_none z nK)).trans (e8 _ _ (e6 _ _ z))
        · rw [upd_same, tk, List.map_append]
          rfl
      · rintro H6 ⟨e6, hK6⟩
        rw [intsN_len, List.take_length] at hK6
        refine ⟨by show 2 ≤ sizeLine; decide, fun tt ntt => ?_⟩
        have e7 := same_new (o := .tup [.ref Lm, .ref Kk]) ntt
        exact q tt Lm Kk sts mv _ (e5.trans (e6.trans e7)) upd_same (e7 _ _ (e6 _ _ hLm5)) em (rows.same fun a ys z => e7 _ _ (e6 _ _ z)) (e7 _ _ hK6) s0 (by omega)
end
end K03
set_option Elab.async false
set_option linter.all false
set_option maxRecDepth 100001
set_option maxHeartbeats 3999999
namespace K03
open PySem L2
section
variable {X : Cx} {o : Expr} {f : Str} {pos : Pos} {ta : TE}
/-- o.f, as a target -/
def gFld (K : PySem.W.Frag) (ta : TE) (f : Str) : TG := fun y σ H Q => ta σ H fun x H2 => ∃ a C dx fs, x = .ref a ∧ H2 a = some (.ins C dx fs) ∧ Cls K C ∧ NoAttr K C f ∧ fs.length < 1000 ∧ Q σ (upd H2 a (.ins C dx (putF f y fs)))
theorem pg_fld (ha : PE X o ta)
    (he : ∀ v, assign (.Attribute o f pos) X.env v = (do
      let ov ← holding [v] (eval o X.env)
      standAt pos.atName
      holding [v, ov] (setAttr ov f v)
      release [v, ov] []) := by intro _; rfl) : PG X (.Attribute o f pos) (gFld X.K ta f) := by
  refine ⟨fun pins s σ H v u Q I r h => ?_⟩
  rw [he]
  refine wpAny_bind (wpAny_holding (thn (ha.run pins s σ H _ I h) fun ov s1 ⟨x, H1, I1, rx, a, C, dx, fs, ex, ea, c, n, l, q⟩ => ?_))
  subst ex
  obtain rfl : ov = Value.ref a := rx
  refine wpAny_bind (wpAny_standAt (wpAny_bind (wpAny_holding (setattr_ok I1 ea c n l r fun s2 I2 => ?_))))
  exact wpAny_release ⟨σ, _, I2, q⟩
end
abbrev sRInit : Stmt := sR 0
def spRInit (C : Addr) : Sp := fun vs H Q _ => ∃ p dx a b ls its, vs = [.ref p, .ref a, .str (S ls)] ∧ H p = some (.ins C dx []) ∧ H a = some (.tup [.str "row", .ref b]) ∧ H b = some (.tup (txs its)) ∧ its.length ≤ 5 ∧ (∀ it ∈ its, OkI ls it ∧ it.length ≤ 100) ∧ ls.length ≤ 1000 ∧ ls.Nodup ∧
  ∀ H', (∀ b o, b ≠ p → H b = some o → H' b = some o) → IsR C H' p ls its → Q .non H'
theorem RF.first {ls : List Nat} {N Tk En : Addr} : RF (putF "ends" (.ref En) (putF "start" (.int 0) (putF "takes" (.ref Tk) (putF "stars" (.int 0) (putF "nodes" (.ref N) (putF "letters" (.str (S ls)) [])))))) ls N 0 Tk 0 En := by
  refine ⟨?_, ?_, ?_, ?_, ?_, ?_, fun x h => ?_, ?_⟩
  · rw [lookup_putF, if_neg (by decide +kernel), lookup_putF, if_neg (by decide +kernel), lookup_putF, if_neg (by decide +kernel), lookup_putF, if_neg (by decide +kernel), lookup_putF, if_neg (by decide +kernel), lookup_putF, if_pos rfl]
  · rw [lookup_putF, if_neg (by decide +kernel), lookup_putF, if_neg (by decide +kernel), lookup_putF, if_neg (by decide +kernel), lookup_putF, if_neg (by decide +kernel), lookup_putF, if_pos rfl]
  · rw [lookup_putF, if_neg (by decide +kernel), lookup_putF, if_neg (by decide +kernel), lookup_putF, if_neg (by decide +kernel), lookup_putF, if_pos rfl]
    rfl
  · rw [lookup_putF, if_neg (by decide +kernel), lookup_putF, if_neg (by decide +kernel), lookup_putF, if_pos rfl]
  · rw [lookup_putF, if_neg (by decide +kernel), lookup_putF, if_pos rfl]
    rfl
  · rw [lookup_putF, if_pos rfl]
  · simp only [List.mem_cons, List.not_mem_nil, not_or] at h
    obtain ⟨h1, h2, h3, h4, h5, h6, _⟩ := h
    rw [lookup_putF, if_neg h6, lookup_putF, if_neg h5, lookup_putF, if_neg h4, lookup_putF, if_neg h3, lookup_putF, if_neg h2, lookup_putF, if_neg h1]
    rfl
  · exact Nat.le_refl 6
theorem starF_at {its : List (List Nat)} {j : Nat} {it : List Nat} (h : its[j]? = some it) : starF its j = isStar it := by
  unfold starF
  rw [List.getD_eq_getElem?_getD, h]
  rfl
theorem tkF_at {its : List (List Nat)} {j c : Nat} {it : List Nat} (h : its[j]? = some it) : tkF its c j = isTk it c := by
  unfold tkF
  rw [List.getD_eq_getElem?_getD, h]
  rfl
theorem mask_step {p : Nat → Bool} {j : Nat} {b : Bool} (h : p j = b) : (if b = true then mask p j ||| 2 ^ j else mask p j) = mask p (j + 1) := by
  subst h
  show _ = mask p j ||| (if p j = true then 2 ^ j else 0)
  cases p j with
  | true => rfl
  | false => exact (Nat.or_zero _).symm
section
variable {P : Program} {w : World} {K : PySem.W.Frag} {mg : Str → Option Value} {base : Heap}
abbrev NRI : List Str := ["self", "shape", "letters", "place", "node", "kind", "items", "item", "_"]
theorem scRInit : FnScope NRI ["self", "shape", "letters"] (defScope sRInit) := ⟨rfl, rfl, rfl, by decide +kernel, rfl, by decide +kernel, by decide +kernel⟩
theorem ok_rinit {f C : Addr} {fd : FuncData} (F : Fun K "__init__" "Readings.__init__" sRInit f fd) (B : Bi mg) (T : TxR K C) (cN : Cal CX0 P w K mg base 2 "nodes_of" spNodes) (mL : Met CX0 P w K mg base 1 C "lay_item" (spLay C)) (mP : Met CX0 P w K mg base 1 C "passed" (spPassed C)) : FnOk P w K mg base CX0 3 f fd ["self", "shape", "letters"] (spRInit C) := by
  refine F.ok scRInit (fun vs H Q E h => ?_) (fun cdv A outer s H vs Q E hr h => ?_)
  · obtain ⟨p, dx, a, b, ls, its, rfl, _⟩ := h
    rfl
  · obtain ⟨p, dx, a, b, ls, its, rfl, hp, ha, hb, l5, oki, ll, nd, q⟩ := h
    refine ⟨_, pss_cons (ps_fld (pv 0) (pv 2) rfl)
      (pss_cons (ps_fld (pv 0) (pe_c cN hr pass0 (pa_cons (pv 1) (pa_cons (pv 2) pa_nil))) rfl)
      (pss_cons (ps_fld (pv 0) pe_int rfl)
      (pss_cons (ps_fld (pv 0) (pe_lc (own := [("_", 8)]) rfl scRInit.nd (pi_str (pv 2)) (blkOk_by (N := NRI) (sc := defScope sRInit) (by decide +kernel))
          (fun _ _ _ _ _ => pg_name (i := 8) scRInit.nd rfl (Or.inl rfl)) (fun _ _ _ _ _ => pts_nil) (fun _ _ _ _ _ => pe_int)) rfl)
      (pss_cons (ps_fld (pv 0) pe_int rfl)
      (pss_cons (ps_fld (pv 0) pe_dnewK rfl)
      (pss_cons (ps_set (i := 3) scRInit.nd rfl (Or.inl rfl) pe_int)
      (pss_cons (ps_for PassesOwn.never rfl (pi_en B.enum (pa_cons (pe_fld (pv 0) rfl) pa_nil)) (pg_tup rfl (pgs_cons (pg_name (i := 4) scRInit.nd rfl (.inl rfl)) (pgs_cons (pg_tup rfl (pgs_cons (pg_name (i := 5) scRInit.nd rfl (.inl rfl)) (pgs_cons (pg_name (i := 6) scRInit.nd rfl (.inl rfl)) pgs_nil))) pgs_nil)))
        (pss_one (ps_if (pt_cmpR op_eq (pv 5) pe_str (nomark _))
          (pss_cons (ps_fldaug (pv 0) (pe_op op_shlS pe_int (pv 3)) ip_orS)
          (pss_cons (ps_for PassesOwn.never rfl (pi_sqA (pv 6)) (pg_name (i := 7) scRInit.nd rfl (.inl rfl))
            (pss_cons (ps_expr (pe_mt mL hr pass0 (pv 0) (pa_cons (pv 7) (pa_cons (pe_op op_shlS pe_int (pv 3)) pa_nil))))
            (pss_one (ps_aug (i := 3) scRInit.nd rfl (Or.inl rfl) pe_int ip_add (.inl rfl)))))
          (pss_cons (ps_dput (hu_of hr) (pe_fld (pv 0) rfl) (pv 4) (pe_op op_shlS pe_int (pv 3)) rfl)
          (pss_one (ps_aug (i := 3) scRInit.nd rfl (Or.inl rfl) pe_int ip_add (.inl rfl)))))) pss_nil)))
      (pss_one (ps_fld (pv 0) (pe_mt mP hr pass0 (pv 0) (pa_cons (pe_fld (pv 0) rfl) pa_nil)) rfl))))))))), ?_⟩
    -- letters
    refine ⟨_, rfl, _, rfl, p, C, dx, [], rfl, hp, T.cl, T.l, by decide, ?_⟩
    have b1 : ButI p H (upd H p (.ins C dx (putF "letters" (.str (S ls)) []))) := fun b o n z => (upd_ne n).trans z
    have hp1 : upd H p (.ins C dx (putF "letters" (.str (S ls)) [])) p = some (.ins C dx (putF "letters" (.str (S ls)) [])) := upd_same
    generalize upd H p (.ins C dx (putF "letters" (.str (S ls)) [])) = H1 at b1 hp1 ⊢
    -- nodes
    refine ⟨_, rfl, _, rfl, a, b, ls, its, rfl, b1 _ _ (ne_of ha hp fun z => nomatch z) ha, b1 _ _ (ne_of hb hp fun z => nomatch z) hb, by omega, oki, ll, fun N n l H2 e2 hN2 hn2 hl2 => ?_⟩
    have hp2 := e2 _ _ hp1
    have b2 : ButI p H H2 := fun b o n z => e2 _ _ (b1 b o n z)
    refine ⟨_, rfl, p, C, dx, _, rfl, hp2, T.cl, T.n, by show 1 < 1000; decide, ?_⟩
    have u3 : ButI p H2 (upd H2 p (.ins C dx (putF "nodes" (.ref N) (putF "letters" (.str (S ls)) [])))) := fun b o n z => (upd_ne n).trans z
    have hp3 : upd H2 p (.ins C dx (putF "nodes" (.ref N) (putF "letters" (.str (S ls)) []))) p = some (.ins C dx (putF "nodes" (.ref N) (putF "letters" (.str (S ls)) []))) := upd_same
    generalize upd H2 p (.ins C dx (putF "nodes" (.ref N) (putF "letters" (.str (S ls)) []))) = H3 at u3 hp3 ⊢
    have npN : N ≠ p := ne_of hN2 hp2 fun z => nomatch z
    have npn : n ≠ p := ne_of hn2 hp2 fun z => nomatch z
    have npl : l ≠ p := ne_of hl2 hp2 fun z => nomatch z
    have b3 : ButI p H H3 := fun b o n z => u3 b o n (b2 b o n z)
    have hN3 := u3 _ _ npN hN2
    have hn3 := u3 _ _ npn hn2
    have hl3 := u3 _ _ npl hl2
    clear b1 hp1 e2 b2 hp2 hN2 hn2 hl2 u3
    -- stars
    refine ⟨_, rfl, p, C, dx, _, rfl, hp3, T.cl, T.s, by show 2 < 1000; decide, ?_⟩
    have u4 : ButI p H3 (upd H3 p (.ins C dx (putF "stars" (.int 0) (putF "nodes" (.ref N) (putF "letters" (.str (S ls)) []))))) := fun b o n z => (upd_ne n).trans z
    have hp4 : upd H3 p (.ins C dx (putF "stars" (.int 0) (putF "nodes" (.ref N) (putF "letters" (.str (S ls)) [])))) p = some (.ins C dx (putF "stars" (.int 0) (putF "nodes" (.ref N) (putF "letters" (.str (S ls)) [])))) := upd_same
    generalize upd H3 p (.ins C dx (putF "stars" (.int 0) (putF "nodes" (.ref N) (putF "letters" (.str (S ls)) [])))) = H4 at u4 hp4 ⊢
    have b4 : ButI p H H4 := fun b o n z => u4 b o n (b3 b o n z)
    have hN4 := u4 _ _ npN hN3
    have hn4 := u4 _ _ npn hn3
    have hl4 := u4 _ _ npl hl3
    clear b3 hp3 hN3 hn3 hl3 u4
    -- takes
    refine ⟨_, rfl, _, rfl, fun Tk nTk => lcS (fun _ => .int 0) (by rw [S_size]; omega) nTk (fun c H1 Q N hc e q => ⟨rfl, yesT q⟩) fun H5 e5 hTk5 => ?_⟩
    have hp5 := e5 _ _ hp4
    have nTo : ∀ b o, H4 b = some o → b ≠ Tk := fun b o z => ne_of_none z nTk
    refine ⟨_, rfl, p, C, dx, _, rfl, hp5, T.cl, T.t, by show 3 < 1000; decide, ?_⟩
    have npT : Tk ≠ p := ne_of hTk5 hp5 fun z => nomatch z
    have u6 : ButI p H5 (upd H5 p (.ins C dx (putF "takes" (.ref Tk) (putF "stars" (.int 0) (putF "nodes" (.ref N) (putF "letters" (.str (S ls)) [])))))) := fun b o n z => (upd_ne n).trans z
    have hp6 : upd H5 p (.ins C dx (putF "takes" (.ref Tk) (putF "stars" (.int 0) (putF "nodes" (.ref N) (putF "letters" (.str (S ls)) []))))) p = some (.ins C dx (putF "takes" (.ref Tk) (putF "stars" (.int 0) (putF "nodes" (.ref N) (putF "letters" (.str (S ls)) []))))) := upd_same
    generalize upd H5 p (.ins C dx (putF "takes" (.ref Tk) (putF "stars" (.int 0) (putF "nodes" (.ref N) (putF "letters" (.str (S ls)) []))))) = H6 at u6 hp6 ⊢
    have b6 : ButI p H H6 := fun b o n z => u6 b o n (e5 _ _ (b4 b o n z))
    have hN6 := u6 _ _ npN (e5 _ _ hN4)
    have hn6 := u6 _ _ npn (e5 _ _ hn4)
    have hl6 := u6 _ _ npl (e5 _ _ hl4)
    have hTk6 := u6 _ _ npT hTk5
    have nTN := nTo _ _ hN4
    have nTn := nTo _ _ hn4
    have nTl := nTo _ _ hl4
    have nTb : ∀ b o, b ≠ p → H b = some o → b ≠ Tk := fun b o n z => nTo _ _ (b4 b o n z)
    clear b4 hp4 hN4 hn4 hl4 e5 hp5 hTk5 u6 nTk nTo
    -- start
    refine ⟨_, rfl, p, C, dx, _, rfl, hp6, T.cl, T.a, by show 4 < 1000; decide, ?_⟩
    have u7 : ButI p H6 (upd H6 p (.ins C dx (putF "start" (.int 0) (putF "takes" (.ref Tk) (putF "stars" (.int 0) (putF "nodes" (.ref N) (putF "letters" (.str (S ls)) []))))))) := fun b o n z => (upd_ne n).trans z
    have hp7 : upd H6 p (.ins C dx (putF "start" (.int 0) (putF "takes" (.ref Tk) (putF "stars" (.int 0) (putF "nodes" (.ref N) (putF "letters" (.str (S ls)) [])))))) p = some (.ins C dx (putF "start" (.int 0) (putF "takes" (.ref Tk) (putF "stars" (.int 0) (putF "nodes" (.ref N) (putF "letters" (.str (S ls)) [])))))) := upd_same
    generalize upd H6 p (.ins C dx (putF "start" (.int 0) (putF "takes" (.ref Tk) (putF "stars" (.int 0) (putF "nodes" (.ref N) (putF "letters" (.str (S ls)) [])))))) = H7 at u7 hp7 ⊢
    -- ends
    refine fun En nEn => ?_
    have e8 := same_new (o := .dK []) nEn
    have hEn8 : upd H7 En (.dK []) En = some (.dK []) := upd_same
    have npE : En ≠ p := (ne_of_none hp7 nEn).symm
    have nEo : ∀ b o, H7 b = some o → b ≠ En := fun b o z => ne_of_none z nEn
    generalize upd H7 En (.dK []) = H8 at e8 hEn8 ⊢
    have hp8 := e8 _ _ hp7
    refine ⟨_, rfl, p, C, dx, _, rfl, hp8, T.cl, T.e, by show 5 < 1000; decide, ?_⟩
    have u9 : ButI p H8 (upd H8 p (.ins C dx (putF "ends" (.ref En) (putF "start" (.int 0) (putF "takes" (.ref Tk) (putF "stars" (.int 0) (putF "nodes" (.ref N) (putF "letters" (.str (S ls)) [])))))))) := fun b o n z => (upd_ne n).trans z
    have hp9 : upd H8 p (.ins C dx (putF "ends" (.ref En) (putF "start" (.int 0) (putF "takes" (.ref Tk) (putF "stars" (.int 0) (putF "nodes" (.ref N) (putF "letters" (.str (S ls)) []))))))) p = some (.ins C dx (putF "ends" (.ref En) (putF "start" (.int 0) (putF "takes" (.ref Tk) (putF "stars" (.int 0) (putF "nodes" (.ref N) (putF "letters" (.str (S ls)) []))))))) := upd_same
    generalize upd H8 p (.ins C dx (putF "ends" (.ref En) (putF "start" (.int 0) (putF "takes" (.ref Tk) (putF "stars" (.int 0) (putF "nodes" (.ref N) (putF "letters" (.str (S ls)) []))))))) = H9 at u9 hp9 ⊢
    have rf9 : RF (putF "ends" (.ref En) (putF "start" (.int 0) (putF "takes" (.ref Tk) (putF "stars" (.int 0) (putF "nodes" (.ref N) (putF "letters" (.str (S ls)) [])))))) ls N 0 Tk 0 En := RF.first
    generalize putF "ends" (.ref En) (putF "start" (.int 0) (putF "takes" (.ref Tk) (putF "stars" (.int 0) (putF "nodes" (.ref N) (putF "letters" (.str (S ls)) []))))) = fs9 at hp9 rf9
    have b9 : ButI p H H9 := fun b o n z => u9 b o n (e8 _ _ (u7 b o n (b6 b o n z)))
    have hN9 := u9 _ _ npN (e8 _ _ (u7 _ _ npN hN6))
    have hn9 := u9 _ _ npn (e8 _ _ (u7 _ _ npn hn6))
    have hl9 := u9 _ _ npl (e8 _ _ (u7 _ _ npl hl6))
    have hTk9 := u9 _ _ npT (e8 _ _ (u7 _ _ npT hTk6))
    have hEn9 := u9 _ _ npE hEn8
    have nEN := nEo _ _ (u7 _ _ npN hN6)
    have nEn' := nEo _ _ (u7 _ _ npn hn6)
    have nEl := nEo _ _ (u7 _ _ npl hl6)
    have nET := nEo _ _ (u7 _ _ npT hTk6)
    have nEb : ∀ b o, b ≠ p → H b = some o → b ≠ En := fun b o n z => nEo _ _ (u7 _ _ n (b6 b o n z))
    clear b6 hp6 hN6 hn6 hl6 hTk6 u7 hp7 nEo nEn e8 hp8 u9 hEn8
    rw [S_list] at hTk9
    have klt : its.length < 60 := by omega
    have st_lt : stars its < 2 ^ its.length := mask_lt _ _
    dsimp only [gName, tSeq, tAsg, tC]
    refine ⟨_, rfl, p, C, dx, _, _, rfl, hp9, T.cl, T.n, rf9.n, N, _, rfl, .inl (SqL.of hN9), fun J G wk hG => for_it wk (fun i σ H' => (i = 0 ∧ σ = [some (.ref p), some (.ref a), some (.str (S ls)), some (.int 0), none, none, none, none, none] ∧ H' = H9) ∨
        (i = 1 ∧ ∃ (x3 x4 x5 x6 x7 x8 : Option V) (dx : Addr) (fs : List (Str × V)), σ = [some (.ref p), some (.ref a), some (.str (S ls)), x3, x4, x5, x6, x7, x8] ∧ ButI p H H' ∧ H' p = some (.ins C dx fs) ∧ RF fs ls N (stars its) Tk 1 En ∧ H' Tk = some (.lst (ls.map fun c => .int ((takes its c : Nat) : Int))) ∧ H' N = some (.lst [.ref n]) ∧ H' n = some (.tup [.str "row", .ref l]) ∧ H' En = some (.dK [(.inl 0, .int ((2 ^ its.length : Nat) : Int))])))
        (.inl ⟨rfl, rfl, rfl⟩) (fun i σ H' _ h => hG H' fun o z => ?_) ?_ ?_⟩
    · rw [hN9] at z
      cases z
      rcases h with ⟨_, _, rfl⟩ | ⟨_, _, _, _, _, _, _, _, _, _, _, _, _, _, h, _⟩
      · exact hN9
      · exact h
    · rintro i x σ H10 H11 hi h ⟨T0, y, v, rfl, nT0, rfl, ey, hv⟩
      have i0 : i = 0 := by
        have hi : i < 1 := hi
        omega
      subst i0
      obtain ⟨_, rfl, rfl⟩ : 0 = 0 ∧ σ = _ ∧ H10 = H9 := by
        rcases h with h | ⟨h, _⟩
        · exact h
        · cases h
      cases ey
      cases hv
      have e11 := same_new (o := .tup [.int ((0 : Nat) : Int), .ref n]) nT0
      have ht11 : upd H10 T0 (.tup [.int ((0 : Nat) : Int), .ref n]) T0 = some (.tup [.int ((0 : Nat) : Int), .ref n]) := upd_same
      show gTup _ _ _ (.ref T0) _ (upd H10 T0 (.tup [.int ((0 : Nat) : Int), .ref n])) _
      generalize upd H10 T0 (.tup [.int ((0 : Nat) : Int), .ref n]) = H11 at e11 ht11 ⊢
      refine ⟨T0, _, rfl, SqT.of ht11, rfl, _, _, rfl, _, _, rfl, ?_⟩
      have hn11 := e11 _ _ hn9
      have hp11 := e11 _ _ hp9
      refine ⟨n, _, rfl, SqT.of hn11, rfl, _, _, rfl, _, _, rfl, rfl, rfl, ?_⟩
      refine ⟨_, rfl, rfl, _, rfl, ?_⟩
      rw [decide_eq_true rfl]
      refine iteT ⟨_, rfl, p, C, dx, fs9, _, rfl, hp11, T.cl, T.a, rf9.a, _, rfl, 1, 0, rfl, rfl, by decide, by decide, 0, 1 * 2 ^ 0, rfl, rfl, dx, fs9, hp11, by have := rf9.len; omega, ?_⟩
      dsimp only
      rw [show (0 ||| 1 * 2 ^ 0 : Nat) = 1 from rfl]
      have rf12 := rf9.start 1
      have hp12 : upd H11 p (.ins C dx (putF "start" (.int ((1 : Nat) : Int)) fs9)) p = some (.ins C dx (putF "start" (.int ((1 : Nat) : Int)) fs9)) := upd_same
      have u12 : ButI p H11 (upd H11 p (.ins C dx (putF "start" (.int ((1 : Nat) : Int)) fs9))) := fun b o n z => (upd_ne n).trans z
      generalize upd H11 p (.ins C dx (putF "start" (.int ((1 : Nat) : Int)) fs9)) = H12 at hp12 u12 ⊢
      generalize putF "start" (.int ((1 : Nat) : Int)) fs9 = fs12 at rf12 hp12
      have b12 : ButI p H H12 := fun b o n z => u12 b o n (e11 _ _ (b9 b o n z))
      have hN12 := u12 _ _ npN (e11 _ _ hN9)
      have hn12 := u12 _ _ npn hn11
      have hl12 := u12 _ _ npl (e11 _ _ hl9)
      have hTk12 := u12 _ _ npT (e11 _ _ hTk9)
      have hEn12 := u12 _ _ npE (e11 _ _ hEn9)
      clear u12 e11 ht11 hn11 hp11
      refine ⟨_, rfl, l, _, rfl, .inl (SqL.of hl12), fun J2 G2 wk2 hG2 => for_it wk2 (fun j σ H' => ∃ (x7 : Option V), σ = [some (.ref p), some (.ref a), some (.str (S ls)), some (.int ((j : Nat) : Int)), some (.int ((0 : Nat) : Int)), some (.str "row"), some (.ref l), x7, none] ∧ ButI p H H' ∧ IsRp C H' p ls N (mask (starF its) j) Tk (fun c => mask (tkF its c) j) 1 En ∧ H' N = some (.lst [.ref n]) ∧ H' n = some (.tup [.str "row", .ref l]) ∧ H' l = some (.lst (txs its)) ∧ H' En = some (.dK []))
        ⟨none, rfl, b12, ⟨dx, fs12, hp12, rf12, hTk12⟩, hN12, hn12, hl12, hEn12⟩ (fun i σ H' _ ⟨_, _, _, _, _, _, h, _⟩ => hG2 H' fun o z => by
          rw [hl12] at z
          cases z
          exact h) ?_ ?_⟩
      · rintro j x σ H13 H14 hj ⟨x7, rfl, b13, R13, hN13, hn13, hl13, hEn13⟩ ⟨rfl, hx⟩
        have hj2 : j < its.length := by rwa [strs_len] at hj
        have ej := List.getElem?_eq_getElem hj2
        have hx : (its.map fun w => V.str (S w))[j]? = some x := hx
        rw [List.getElem?_map, ej] at hx
        cases hx
        obtain ⟨dx', fs', hp', rf', hTk'⟩ := id R13
        obtain ⟨o1, o2⟩ := oki its[j] (List.getElem_mem hj2)
        refine ⟨_, rfl, p, dx', fs', rfl, hp', rf'.no _ (by decide +kernel), _, rfl, _, rfl, 1, j, rfl, rfl, by decide, by omega, ?_⟩
        rw [Nat.one_mul]
        refine ⟨p, its[j], j, ls, N, _, Tk, _, 1, En, rfl, R13, ll, o2, nd, fun H15 bt15 R15 => ?_⟩
        have eS : (if isStar its[j] = true then mask (starF its) j ||| 2 ^ j else mask (starF its) j) = mask (starF its) (j + 1) := mask_step (starF_at ej)
        have eT : (fun c => if isTk its[j] c = true then mask (tkF its c) j ||| 2 ^ j else mask (tkF its c) j) = fun c => mask (tkF its c) (j + 1) := funext fun c => mask_step (tkF_at ej)
        rw [eS, eT] at R15
        exact ⟨_, rfl, _, _, rfl, rfl, some (.str (S its[j])), rfl, fun b o n z => bt15 b o n (nTb b o n z) (b13 b o n z), R15, bt15 _ _ npN nTN hN13, bt15 _ _ npn nTn hn13, bt15 _ _ npl nTl hl13, bt15 _ _ npE nET.symm hEn13⟩
      · rintro σ H13 ⟨x7, rfl, b13, R13, hN13, hn13, hl13, hEn13⟩
        rw [strs_len] at R13
        obtain ⟨dx3, fs3, hp3, rf3, hTk3⟩ := R13
        refine ⟨_, rfl, 1, (txs its).length, rfl, rfl, by decide, by rw [strs_len]; omega, ?_⟩
        refine ⟨_, rfl, p, C, dx3, fs3, _, rfl, hp3, T.cl, T.e, rf3.e, _, rfl, En, _, rfl, DPut.k (k := Sum.inl 0) hEn13 (small10 (by decide)), ?_⟩
        rw [strs_len, Nat.one_mul]
        refine ⟨_, rfl, _, _, rfl, rfl, .inr ⟨rfl, _, _, _, _, _, _, dx3, fs3, rfl, fun b o n z => (upd_ne (nEb b o n z)).trans (b13 b o n z), (upd_ne npE.symm).trans hp3, rf3, (upd_ne nET).trans hTk3, (upd_ne nEN).trans hN13, (upd_ne nEn').trans hn13, ?_⟩⟩
        rw [upd_same]
        rfl
    · rintro σ H10 (⟨h, _⟩ | ⟨_, x3, x4, x5, x6, x7, x8, dx, fs, rfl, b10, hp10, rf, hTk10, hN10, hn10, hEn10⟩)
      · cases h
      refine ⟨_, rfl, p, dx, fs, rfl, hp10, rf.no _ (by decide +kernel), _, rfl, p, C, dx, fs, _, rfl, hp10, T.cl, T.a, rf.a, p, 1, ls, N, stars its, Tk, takes its, 1, En, its.length, rfl, ⟨dx, fs, hp10, rf, hTk10⟩, Nat.one_lt_two_pow (by omega), st_lt, by omega, ?_⟩
      refine ⟨_, rfl, p, C, dx, fs, rfl, hp10, T.cl, T.a, by have := rf.len; omega, ?_⟩
      have npN' := npN
      refine q _ (fun b o n z => (upd_ne n).trans (b10 b o n z)) ⟨N, n, l, Tk, En, dx, _, upd_same, rf.start (startS its), (upd_ne npT).trans hTk10, (upd_ne npN).trans hN10, (upd_ne npn).trans hn10, (upd_ne npE).trans hEn10⟩
end
end K03
set_option Elab.async false
set_option linter.all false
set_option maxRecDepth 100001
set_option maxHeartbeats 3999999
namespace K03
open PySem L2
abbrev sP (j : Nat) : Stmt := inClass (topS 39) j
abbrev sPInit : Stmt := sP 0
abbrev sLead : Stmt := sP 3
abbrev sRin : Stmt := sP 4
/-- the standing behind a word -/
def sW (its : List (List Nat)) (w : List Nat) : Nat := w.foldl (fun s c => gS (stars its) its.length s (takes its c)) (startS its)
theorem sW_snoc (its : List (List Nat)) (w : List Nat) (c : Nat) : sW its (w ++ [c]) = gS (stars its) its.length (sW its w) (takes its c) := by
  unfold sW
  rw [List.foldl_append]
  rfl
def fitB (its : List (List Nat)) (w : List Nat) : Bool := (sW its w).testBit its.length
def colF (ls : List Nat) (j : Nat) : Key := .inr (S [ls.getD j 0])
def colK (ls : List Nat) : List (Key × V) := asc (colF ls) (fun j => .int ((j : Nat) : Int)) ls.length
theorem col_at {ls : List Nat} (nd : ls.Nodup) {c : Nat} (h : c ∈ ls) : valV (colK ls) (.inr (S [c])) = some (.int ((ls.idxOf c : Nat) : Int)) := by
  have li := List.idxOf_lt_length_of_mem h
  have g : ls.getD (ls.idxOf c) 0 = c := by
    rw [List.getD_eq_getElem?_getD, List.getElem?_eq_getElem li, List.getElem_idxOf li]
    rfl
  have := asc_at (kf := colF ls) (vf := fun j => V.int ((j : Nat) : Int)) (n := ls.length) li (plain_inj nd)
  unfold colF at this
  rw [g] at this
  exact this
def patF (ls : List Nat) (a M Kk Cl : Addr) : List (Str × V) := putF "_columns" (.ref Cl) (putF "kinds" (.ref Kk) (putF "moves" (.ref M) (putF "shape" (.ref a) (putF "letters" (.str (S ls)) []))))
theorem pf_cols {ls : List Nat} {a M Kk Cl : Addr} : (patF ls a M Kk Cl).lookup ("_columns" : Str) = some (.ref Cl) := by
  unfold patF
  rw [lookup_putF, if_pos rfl]
theorem pf_kinds {ls : List Nat} {a M Kk Cl : Addr} : (patF ls a M Kk Cl).lookup ("kinds" : Str) = some (.ref Kk) := by
  unfold patF
  rw [lookup_putF, if_neg (by decide +kernel), lookup_putF, if_pos rfl]
theorem pf_moves {ls : List Nat} {a M Kk Cl : Addr} : (patF ls a M Kk Cl).lookup ("moves" : Str) = some (.ref M) := by
  unfold patF
  rw [lookup_putF, if_neg (by decide +kernel), lookup_putF, if_neg (by decide +kernel), lookup_putF, if_pos rfl]
theorem pf_letters {ls : List Nat} {a M Kk Cl : Addr} : (patF ls a M Kk Cl).lookup ("letters" : Str) = some (.str (S ls)) := by
  unfold patF
  rw [lookup_putF, if_neg (by decide +kernel), lookup_putF, if_neg (by decide +kernel), lookup_putF, if_neg (by decide +kernel), lookup_putF, if_neg (by decide +kernel), lookup_putF, if_pos rfl]
theorem pf_no {ls : List Nat} {a M Kk Cl : Addr} {x : Str} (h : x ∉ (["_columns", "kinds", "moves", "shape", "letters"] : List Str) := by decide +kernel) : (patF ls a M Kk Cl).lookup x = none := by
  simp only [List.mem_cons, List.not_mem_nil, not_or] at h
  obtain ⟨h1, h2, h3, h4, h5, _⟩ := h
  unfold patF
  rw [lookup_putF, if_neg h1, lookup_putF, if_neg h2, lookup_putF, if_neg h3, lookup_putF, if_neg h4, lookup_putF, if_neg h5]
  rfl
structure TxP (K : PySem.W.Frag) (C : Addr) : Prop where
  cl : Cls K C
  l : NoAttr K C "letters"
  s : NoAttr K C "shape"
  m : NoAttr K C "moves"
  k : NoAttr K C "kinds"
  c : NoAttr K C "_columns"
/-- a pattern of a row -/
def IsP (C : Addr) (H : Hp) (p : Addr) (ls : List Nat) (its : List (List Nat)) : Prop := ∃ dx a M Kk Cl sts mv, H p = some (.ins C dx (patF ls a M Kk Cl)) ∧ H M = some (.lst mv) ∧ mv.length = sts.length ∧ RowsAt H its ls sts mv ∧ H Kk = some (.lst (sts.map fun s => .bl (s.testBit its.length))) ∧ sts[0]? = some (startS its) ∧ H Cl = some (.dK (colK ls))
theorem IsP.same {C : Addr} {H H' : Hp} {p : Addr} {ls : List Nat} {its : List (List Nat)} (h : IsP C H p ls its) (e : Same H H') : IsP C H' p ls its :=
  let ⟨dx, a, M, Kk, Cl, sts, mv, h1, h2, h3, h4, h5, h6, h7⟩ := h
  ⟨dx, a, M, Kk, Cl, sts, mv, e _ _ h1, e _ _ h2, h3, h4.same fun a ys z => e _ _ z, e _ _ h5, h6, e _ _ h7⟩
def spPInit (C : Addr) : Sp := fun vs H Q _ => ∃ p dx a b ls its, vs = [.ref p, .str (S ls), .ref a] ∧ H p = some (.ins C dx []) ∧ H a = some (.tup [.str "row", .ref b]) ∧ H b = some (.tup (txs its)) ∧ its.length ≤ 5 ∧ (∀ it ∈ its, OkI ls it ∧ it.length ≤ 100) ∧ Lets ls ∧
  ∀ H', (∀ b o, b ≠ p → H b = some o → H' b = some o) → IsP C H' p ls its → Q .non H'
def spLead (C : Addr) : Sp := fun vs H Q _ => ∃ p w ls its, vs = [.ref p, .str (S w)] ∧ IsP C H p ls its ∧ (∀ c ∈ w, c ∈ ls) ∧ ls.Nodup ∧ w.length ≤ 1000 ∧ Q (.bl (fitB its w)) H
def fitN (its us : List (List Nat)) : List Int := ((List.range us.length).filter fun i => fitB its (us.getD i [])).map fun (i : Nat) => (i : Int)
def spRin (C CD : Addr) : Sp := fun vs H Q _ => ∃ p q ls its us, vs = [.ref p, .ref q] ∧ IsP C H p ls its ∧ IsD CD H q ls us ∧ OkD ls us ∧
  ∀ l H' ts, H l = none → Same H H' → H' l = some (.lst ts) → PrAt H' ts (rngs (fitN its us)) → Q (.ref l) H'
section
variable {P : Program} {w : World} {K : PySem.W.Frag} {mg : Str → Option Value} {base : Heap}
theorem scLead : FnScope ["self", "word", "standing", "letter"] ["self", "word"] (defScope sLead) := ⟨rfl, rfl, rfl, by decide +kernel, rfl, by decide +kernel, by decide +kernel⟩
theorem ok_lead {f C : Addr} {fd : FuncData} (F : Fun K "_leads_to_fit" "Pattern._leads_to_fit" sLead f fd) (T : TxP K C) : FnOk P w K mg base CX0 1 f fd ["self", "word"] (spLead C) := by
  refine F.ok scLead (fun vs H Q E h => ?_) (fun cdv A outer s H vs Q E hr h => ?_)
  · obtain ⟨p, w, ls, its, rfl, _⟩ := h
    rfl
  · obtain ⟨p, w, ls, its, rfl, ⟨dx, a, M, Kk, Cl, sts, mv, hp, hM, lm, rows, hK, s0, hC⟩, hw, nd, lw, q⟩ := h
    refine ⟨_, pss_cons (ps_set (i := 2) scLead.nd rfl (Or.inl rfl) pe_int)
      (pss_cons (ps_for PassesOwn.never rfl (pi_str (pv 1)) (pg_name (i := 3) scLead.nd rfl (.inl rfl))
        (pss_one (ps_set (i := 2) scLead.nd rfl (Or.inl rfl) (pe_ix ix_tup (pe_ix ix_list (pe_fld (pv 0) rfl) (pv 2) (fun _ _ => rfl)) (pe_dget (hu_of hr) (pe_fld (pv 0) rfl) (pv 3) (fun _ _ => rfl)) (fun _ _ => rfl)))))
      (pss_one (ps_ret (pe_ix ix_list (pe_fld (pv 0) rfl) (pv 2) (fun _ _ => rfl))))), ?_⟩
    refine ⟨_, rfl, _, rfl, for_it walk_str (fun i σ H' => ∃ (x : Option V) (j : Nat), σ = [some (.ref p), some (.str (S w)), some (.int ((j : Nat) : Int)), x] ∧ H' = H ∧ sts[j]? = some (sW its (w.take i))) ⟨none, 0, rfl, rfl, s0⟩ (fun _ _ _ _ _ => True.intro) ?_ ?_⟩
    · rintro i x σ H1 H2 hi ⟨x3, j, rfl, rfl, hj⟩ ⟨rfl, c, hc, rfl⟩
      rw [S_get] at hc
      have hi2 := (List.getElem?_eq_some_iff.mp hc).1
      have mc := hw c (List.mem_of_getElem? hc)
      have jl := (List.getElem?_eq_some_iff.mp hj).1
      have hm := List.getElem?_eq_getElem (show j < mv.length by omega)
      obtain ⟨st, ra, h1, h2, h3, h4⟩ := rows j _ hm
      obtain rfl : st = sW its (w.take i) := Option.some.inj (h1.symm.trans hj)
      rw [h2] at hm
      have li := List.idxOf_lt_length_of_mem mc
      have gc : ls[ls.idxOf c]? = some c := by rw [List.getElem?_eq_getElem li, List.getElem_idxOf li]
      have g3 : (ls.map fun c => V.int ((sts.idxOf (gS (stars its) its.length (sW its (w.take i)) (takes its c)) : Nat) : Int))[ls.idxOf c]? = some (.int ((sts.idxOf (gS (stars its) its.length (sW its (w.take i)) (takes its c)) : Nat) : Int)) := by
        rw [List.getElem?_map, gc]
        rfl
      refine ⟨_, rfl, p, C, dx, _, _, rfl, hp, T.cl, T.m, pf_moves, _, rfl, M, _, _, _, rfl, rfl, SqL.of hM, atI_nat hm, _, rfl, p, C, dx, _, _, rfl, hp, T.cl, T.c, pf_cols, _, rfl, Cl, _, rfl, (by
        have := DGet.k (k := Sum.inr (S [c])) hC
        rw [col_at nd mc] at this
        exact this), ra, _, _, _, rfl, rfl, SqT.of h3, atI_nat g3, some (.str (S [c])), _, rfl, rfl, ?_⟩
      have tk : w.take (i + 1) = w.take i ++ [c] := by rw [List.take_add_one, hc]; rfl
      have m4 := h4 c mc
      rw [tk, sW_snoc, List.getElem?_eq_getElem (List.idxOf_lt_length_of_mem m4), List.getElem_idxOf]
    · rintro σ H1 ⟨x3, j, rfl, rfl, hj⟩
      rw [S_size, List.take_length] at hj
      have hk : (sts.map fun s => V.bl (s.testBit its.length))[j]? = some (.bl (fitB its w)) := by
        rw [List.getElem?_map, hj]
        rfl
      exact ⟨_, rfl, p, C, dx, _, _, rfl, hp, T.cl, T.k, pf_kinds, _, rfl, Kk, _, _, _, rfl, rfl, SqL.of hK, atI_nat hk, q⟩
theorem scRin : FnScope ["self", "dictionary", "number", "word"] ["self", "dictionary"] (defScope sRin) := ⟨rfl, rfl, rfl, by decide +kernel, rfl, by decide +kernel, by decide +kernel⟩
theorem ok_rin {f C CD : Addr} {fd : FuncData} (F : Fun K "ranges_in" "Pattern.ranges_in" sRin f fd) (B : Bi mg) (T : TxP K C) (TD : Txd K CD) (mL : Met CX0 P w K mg base 1 C "_leads_to_fit" (spLead C)) (cR : Cal CX0 P w K mg base 1 "ranges_of" spRngs) : FnOk P w K mg base CX0 2 f fd ["self", "dictionary"] (spRin C CD) := by
  refine F.ok scRin (fun vs H Q E h => ?_) (fun cdv A outer s H vs Q E hr h => ?_)
  · obtain ⟨p, q, ls, its, us, rfl, _⟩ := h
    rfl
  · obtain ⟨p, q, ls, its, us, rfl, IP, D, O, k⟩ := h
    obtain ⟨dx, a, M, Kk, Cl, sts, mv, hp, _⟩ := id IP
    obtain ⟨dx', pl, t, kk, nn, g1, g2, g3, g4, g5⟩ := id D
    refine ⟨_, pss_cons (ps_if (pt_cmpR op_ne (pe_fld (pv 0) rfl) (pe_fld (pv 1) rfl) (nomark _)) pss_never pss_nil)
      (pss_one (ps_ret (pe_c cR hr pass0 (pa_cons (pe_lc (own := [("number", 2), ("word", 3)]) rfl scRin.nd (pi_en B.enum (pa_cons (pe_fld (pv 1) rfl) pa_nil)) (blkOk_by (N := ["self", "dictionary", "number", "word"]) (sc := defScope sRin) (by decide +kernel))
          (fun _ _ _ _ _ => pg_pairK K rfl rfl (pg_name (i := 2) scRin.nd rfl (Or.inl rfl) (.inr rfl)) (pg_name (i := 3) scRin.nd rfl (Or.inl rfl) (.inr rfl))) (fun _ _ _ _ _ => pts_one (pt_val (pe_mt mL hr pass0 (pv 0) (pa_cons (pv 3) pa_nil)))) (fun _ _ _ _ _ => pv 2)) pa_nil)))), ?_⟩
    refine ⟨_, rfl, p, C, dx, _, _, rfl, hp, T.cl, T.l, pf_letters, _, rfl, q, CD, dx', _, _, rfl, g1, TD.cl, TD.nL, df_letters _ _ _ _ _ _, rfl, _, rfl, ?_⟩
    rw [decS, decide_eq_true rfl]
    refine iteF ?_
    have lm := O.many
    refine ⟨_, rfl, q, CD, dx', _, _, rfl, g1, TD.cl, TD.nW, df_words _ _ _ _ _ _, t, _, rfl, .inr (SqT.of g3), fun J G wk hG L nL => lc_it wk (fun i H' => Same H H' ∧ H' L = some (.lst ((((List.range i).filter fun i => fitB its (us.getD i [])).map fun (i : Nat) => (i : Int)).map V.int))) ⟨same_new nL, upd_same⟩ (fun i H' _ z => hG H' fun o z' => z.1 _ _ z') ?_ ?_⟩
    · rintro i x H3 H4 hi ⟨e3, hL⟩ ⟨T0, y, v, rfl, nT0, rfl, ey, hv⟩
      have hi2 : i < us.length := by rwa [strs_len] at hi
      cases ey
      have eu := List.getElem?_eq_getElem hi2
      have hv : (us.map fun w => V.str (S w))[i]? = some v := hv
      rw [List.getElem?_map, eu] at hv
      cases hv
      have e4 := same_new (o := .tup [.int ((i : Nat) : Int), .str (S us[i])]) nT0
      have ht4 : upd H3 T0 (.tup [.int ((i : Nat) : Int), .str (S us[i])]) T0 = some (.tup [.int ((i : Nat) : Int), .str (S us[i])]) := upd_same
      have e34 := e3.trans e4
      have hL4 := e4 _ _ hL
      obtain ⟨w1, w2⟩ := O.word us[i] (List.getElem_mem hi2)
      have gd : us.getD i [] = us[i] := by rw [List.getD_eq_getElem?_getD, eu]; rfl
      show gTup _ _ _ (.ref T0) _ (upd H3 T0 (.tup [.int ((i : Nat) : Int), .str (S us[i])])) _
      generalize upd H3 T0 (.tup [.int ((i : Nat) : Int), .str (S us[i])]) = H5 at e4 ht4 e34 hL4 ⊢
      have fl : ((List.range i).filter fun i => fitB its (us.getD i [])).length ≤ i := Nat.le_trans (List.length_filter_le _ _) (by rw [List.length_range]; exact Nat.le_refl _)
      refine ⟨T0, _, rfl, SqT.of ht4, rfl, _, _, rfl, _, _, rfl, rfl, rfl, ?_⟩
      refine ⟨_, rfl, p, dx, _, rfl, e34 _ _ hp, pf_no, _, rfl, p, us[i], ls, its, rfl, IP.same e34, w2, O.L.nd, by omega, _, rfl, ?_⟩
      rw [← gd]
      cases c : fitB its (us.getD i []) with
      | true =>
        refine iteT ⟨_, rfl, _, hL4, by rw [List.length_map, List.length_map]; exact small10 (by omega), fun b o z => (upd_ne (ne_of_none z nL)).trans (e34 _ _ z), ?_⟩
        rw [upd_same, List.range_succ, List.filter_append, List.map_append, List.map_append, List.filter_cons_of_pos (p := fun i => fitB its (us.getD i [])) c]
        rfl
      | false =>
        refine iteF ⟨e34, ?_⟩
        rw [List.range_succ, List.filter_append, List.filter_cons_of_neg (p := fun i => fitB its (us.getD i [])) (by rw [c]; simp), List.filter_nil, List.append_nil]
        exact hL4
    · rintro H3 ⟨e3, hL⟩
      rw [strs_len] at hL
      have hL : H3 L = some (.lst ((fitN its us).map V.int)) := hL
      refine ⟨L, fitN its us, rfl, hL, ?_, fun l H4 ts nl e4 hl pr => k l H4 ts (e3.free nl) (e3.trans e4) hl pr⟩
      unfold fitN
      rw [List.length_map]
      exact Nat.le_trans (List.length_filter_le _ _) (by rw [List.length_range]; omega)
abbrev NPI : List Str := ["self", "letters", "shape", "letter", "column"]
theorem scPInit : FnScope NPI ["self", "letters", "shape"] (defScope sPInit) := ⟨rfl, rfl, rfl, by decide +kernel, rfl, by decide +kernel, by decide +kernel⟩
theorem ok_pinit {f C CR : Addr} {fd : FuncData} (F : Fun K "__init__" "Pattern.__init__" sPInit f fd) (B : Bi mg) (T : TxP K C) (TR : TxR K CR) (cL : Cal CX0 P w K mg base 1 "are_letters" spLets) (mkR : Mak CX0 P w K mg base 3 "Readings" CR (spRInit CR)) (mA : Met CX0 P w K mg base 3 CR "all_moves" (spAll CR)) : FnOk P w K mg base CX0 5 f fd ["self", "letters", "shape"] (spPInit C) := by
  refine F.ok scPInit (fun vs H Q E h => ?_) (fun cdv A outer s H vs Q E hr h => ?_)
  · obtain ⟨p, dx, a, b, ls, its, rfl, _⟩ := h
    rfl
  · obtain ⟨p, dx, a, b, ls, its, rfl, hp, ha, hb, l5, oki, L, q⟩ := h
    refine ⟨_, pss_cons (ps_if (pt_not (pt_val (pe_c cL hr pass0 (pa_cons (pv 1) pa_nil)))) pss_never pss_nil)
      (pss_cons (ps_fld (pv 0) (pv 1) rfl)
      (pss_cons (ps_fld (pv 0) (pv 2) rfl)
      (pss_cons (ps_asg (pe_mt0 mA hr pass0 (pe_mk mkR hr pass0 (pa_cons (pv 2) (pa_cons (pv 1) pa_nil)))) (pg_tup rfl (pgs_cons (pg_fld (pv 0)) (pgs_cons (pg_fld (pv 0)) pgs_nil))))
      (pss_one (ps_fld (pv 0) (pe_dc (own := [("column", 4), ("letter", 3)]) rfl scPInit.nd (pi_enS rfl B.enum (pa_cons (pv 1) pa_nil)) (blkOk_by (N := NPI) (sc := defScope sPInit) (by decide +kernel))
          (fun _ _ _ _ _ => pg_pairK K rfl rfl (pg_name (i := 4) scPInit.nd rfl (Or.inl rfl) (.inr rfl)) (pg_name (i := 3) scPInit.nd rfl (Or.inl rfl) (.inr rfl))) (fun _ _ _ _ _ => pts_nil) (fun _ _ _ _ _ => pv 3) (fun _ _ _ _ _ => pv 4)) rfl))))), ?_⟩
    have ll : ls.length ≤ 1000 := by have := L.hi; omega
    refine ⟨_, rfl, ls, rfl, L, fun H1 e1 => ⟨_, rfl, iteF ?_⟩⟩
    have hp1 := e1 _ _ hp
    refine ⟨_, rfl, _, rfl, p, C, dx, [], rfl, hp1, T.cl, T.l, by decide, ?_⟩
    have u2 : ButI p H1 (upd H1 p (.ins C dx (putF "letters" (.str (S ls)) []))) := fun b o n z => (upd_ne n).trans z
    have hp2 : upd H1 p (.ins C dx (putF "letters" (.str (S ls)) [])) p = some (.ins C dx (putF "letters" (.str (S ls)) [])) := upd_same
    generalize upd H1 p (.ins C dx (putF "letters" (.str (S ls)) [])) = H2 at u2 hp2 ⊢
    have b2 : ButI p H H2 := fun b o n z => u2 b o n (e1 _ _ z)
    refine ⟨_, rfl, _, rfl, p, C, dx, _, rfl, hp2, T.cl, T.s, by show 1 < 1000; decide, ?_⟩
    have u3 : ButI p H2 (upd H2 p (.ins C dx (putF "shape" (.ref a) (putF "letters" (.str (S ls)) [])))) := fun b o n z => (upd_ne n).trans z
    have hp3 : upd H2 p (.ins C dx (putF "shape" (.ref a) (putF "letters" (.str (S ls)) []))) p = some (.ins C dx (putF "shape" (.ref a) (putF "letters" (.str (S ls)) []))) := upd_same
    generalize upd H2 p (.ins C dx (putF "shape" (.ref a) (putF "letters" (.str (S ls)) []))) = H3 at u3 hp3 ⊢
    have b3 : ButI p H H3 := fun b o n z => u3 b o n (b2 b o n z)
    clear u2 hp2 b2 u3 hp1 e1
    have ha3 := b3 _ _ (ne_of ha hp fun z => nomatch z) ha
    have hb3 := b3 _ _ (ne_of hb hp fun z => nomatch z) hb
    -- the reading
    refine ⟨_, rfl, _, rfl, fun x dz nx nd ne => ?_⟩
    have e4 : Same H3 (upd (upd H3 dz (.own x)) x (.ins CR dz [])) := fun b o z => by
      rw [upd_ne (ne_of_none z nx), upd_ne (ne_of_none z nd)]
      exact z
    have hx4 : upd (upd H3 dz (.own x)) x (.ins CR dz []) x = some (.ins CR dz []) := upd_same
    generalize upd (upd H3 dz (.own x)) x (.ins CR dz []) = H4 at e4 hx4 ⊢
    have nxo : ∀ b o, H3 b = some o → b ≠ x := fun b o z => ne_of_none z nx
    refine ⟨x, dz, a, b, ls, its, rfl, hx4, e4 _ _ ha3, e4 _ _ hb3, l5, oki, ll, L.nd, fun H5 b5 R5 => ⟨rfl, ?_⟩⟩
    have e5 : Same H3 H5 := fun b o z => b5 b o (nxo b o z) (e4 _ _ z)
    obtain ⟨N, n, l, Tk, En, dx5, fs5, h51, rf5, _⟩ := id R5
    refine ⟨x, dx5, fs5, rfl, h51, rf5.no _ (by decide +kernel), ?_⟩
    refine ⟨x, ls, its, rfl, R5, l5, ll, fun tt M Kk sts mv H6 e6 htt hM lm rows hK s0 ls2 => ?_⟩
    have e36 := e5.trans e6
    have hp6 := e36 _ _ hp3
    refine ⟨tt, _, rfl, SqT.of htt, rfl, _, _, rfl, _, rfl, p, C, dx, _, rfl, hp6, T.cl, T.m, by show 2 < 1000; decide, ?_⟩
    have u7 : ButI p H6 (upd H6 p (.ins C dx (putF "moves" (.ref M) (putF "shape" (.ref a) (putF "letters" (.str (S ls)) []))))) := fun b o n z => (upd_ne n).trans z
    have hp7 : upd H6 p (.ins C dx (putF "moves" (.ref M) (putF "shape" (.ref a) (putF "letters" (.str (S ls)) [])))) p = some (.ins C dx (putF "moves" (.ref M) (putF "shape" (.ref a) (putF "letters" (.str (S ls)) [])))) := upd_same
    generalize upd H6 p (.ins C dx (putF "moves" (.ref M) (putF "shape" (.ref a) (putF "letters" (.str (S ls)) [])))) = H7 at u7 hp7 ⊢
    refine ⟨_, _, rfl, _, rfl, p, C, dx, _, rfl, hp7, T.cl, T.k, by show 3 < 1000; decide, rfl, ?_⟩
    have u8 : ButI p H7 (upd H7 p (.ins C dx (putF "kinds" (.ref Kk) (putF "moves" (.ref M) (putF "shape" (.ref a) (putF "letters" (.str (S ls)) [])))))) := fun b o n z => (upd_ne n).trans z
    have hp8 : upd H7 p (.ins C dx (putF "kinds" (.ref Kk) (putF "moves" (.ref M) (putF "shape" (.ref a) (putF "letters" (.str (S ls)) []))))) p = some (.ins C dx (putF "kinds" (.ref Kk) (putF "moves" (.ref M) (putF "shape" (.ref a) (putF "letters" (.str (S ls)) []))))) := upd_same
    generalize upd H7 p (.ins C dx (putF "kinds" (.ref Kk) (putF "moves" (.ref M) (putF "shape" (.ref a) (putF "letters" (.str (S ls)) []))))) = H8 at u8 hp8 ⊢
    have u68 : ButI p H6 H8 := fun b o n z => u8 b o n (u7 b o n z)
    have npM : M ≠ p := ne_of hM hp6 fun z => nomatch z
    have npK : Kk ≠ p := ne_of hK hp6 fun z => nomatch z
    have hM8 := u68 _ _ npM hM
    have hK8 := u68 _ _ npK hK
    have b8 : ButI p H H8 := fun b o n z => u68 b o n (e36 _ _ (b3 b o n z))
    have rows8 : RowsAt H8 its ls sts mv := rows.same fun a ys z => u68 _ _ (ne_of z hp6 fun y => nomatch y) z
    clear u7 hp7 u8 u68 hp6 hM hK rows e36 htt e6 R5 e5 b5 h51 rf5 hx4 e4 nxo
    -- columns
    refine ⟨_, rfl, _, rfl, fun D nD => dcA walk_enS (colF ls) (fun j => .int ((j : Nat) : Int)) (by rw [S_size]; have := L.hi; omega) (fun i l hi hl => plain_inj L.nd i l (by rwa [S_size] at hi) (by rwa [S_size] at hl)) (fun _ _ => True.intro) nD ?_ ?_⟩
    · intro i T0 a' b' H9 R N3 hi ea eb e9 hT r
      rw [S_size] at hi
      cases ea
      rw [S_get, List.getElem?_eq_getElem hi] at eb
      cases eb
      refine ⟨T0, _, rfl, SqT.of hT, rfl, _, _, rfl, _, _, rfl, rfl, rfl, ?_⟩
      unfold tYes
      have ek : colF ls i = .inr (S [ls[i]]) := by
        unfold colF
        rw [List.getD_eq_getElem?_getD, List.getElem?_eq_getElem hi]
        rfl
      rw [ek] at r
      exact iteT ⟨_, rfl, _, rfl, r⟩
    intro H9 e9 hD9
    rw [S_size] at hD9
    have hp9 := e9 _ _ hp8
    refine ⟨_, rfl, p, C, dx, _, rfl, hp9, T.cl, T.c, by show 4 < 1000; decide, ?_⟩
    have npD : D ≠ p := ne_of hD9 hp9 fun z => nomatch z
    have u10 : ButI p H9 (upd H9 p (.ins C dx (putF "_columns" (.ref D) (putF "kinds" (.ref Kk) (putF "moves" (.ref M) (putF "shape" (.ref a) (putF "letters" (.str (S ls)) []))))))) := fun b o n z => (upd_ne n).trans z
    exact q _ (fun b o n z => u10 b o n (e9 _ _ (b8 b o n z))) ⟨dx, a, M, Kk, D, sts, mv, upd_same, u10 _ _ npM (e9 _ _ hM8), lm, rows8.same fun a ys z => u10 _ _ (ne_of (e9 _ _ z) hp9 fun y => nomatch y) (e9 _ _ z), u10 _ _ npK (e9 _ _ hK8), s0, u10 _ _ npD hD9⟩
end
end K03
set_option Elab.async false
set_option linter.all false
set_option maxRecDepth 100001
set_option maxHeartbeats 3999999
namespace K03
open PySem L2
/-! ### the law's reading of items -/
def upto (f : Nat → Bool) : Nat → Bool
  | 0 => f 0
  | n + 1 => upto f n || f (n + 1)
theorem upto_true {f : Nat → Bool} : ∀ {n a : Nat}, a ≤ n → f a = true → upto f n = true
  | 0, a, h, e => by
    obtain rfl : a = 0 := by omega
    exact e
  | n + 1, a, h, e => by
    show (upto f n || f (n + 1)) = true
    by_cases c : a = n + 1
    · rw [← c, e, Bool.or_true]
    · rw [upto_true (show a ≤ n by omega) e, Bool.true_or]
def Rd (its : List (List Nat)) (w : List Nat) : Nat → Nat → Bool
  | 0, 0 => true
  | 0, _ + 1 => false
  | j + 1, 0 => if starF its j = true then Rd its w j 0 else false
  | j + 1, a + 1 => if starF its j = true then upto (Rd its w j) (a + 1) else Rd its w j a && tkF its (w.getD a 0) j
theorem stars_bit (its : List (List Nat)) (i : Nat) : (stars its).testBit i = starF its i := by
  unfold stars
  rw [testBit_mask]
  by_cases c : i < its.length
  · rw [decide_eq_true c, Bool.true_and]
  · rw [decide_eq_false c, Bool.false_and]
    unfold starF
    rw [List.getD_eq_getElem?_getD, List.getElem?_eq_none (by omega)]
    rfl
theorem takes_bit (its : List (List Nat)) (c i : Nat) : (takes its c).testBit i = tkF its c i := by
  unfold takes
  rw [testBit_mask]
  by_cases d : i < its.length
  · rw [decide_eq_true d, Bool.true_and]
  · rw [decide_eq_false d, Bool.false_and]
    unfold tkF
    rw [List.getD_eq_getElem?_getD, List.getElem?_eq_none (by omega)]
    rfl
theorem tk_star {its : List (List Nat)} {c j : Nat} (h : starF its j = true) : tkF its c j = false := by
  unfold tkF isTk
  unfold starF at h
  rw [h]
  rfl
theorem gS_bit {its : List (List Nat)} {s c : Nat} : ∀ {i : Nat}, i ≤ its.length → (gS (stars its) its.length s (takes its c)).testBit i = ((decide (0 < i) && (s.testBit (i - 1) && tkF its c (i - 1))) || (s.testBit i && starF its i) || (decide (0 < i) && (starF its (i - 1) && (gS (stars its) its.length s (takes its c)).testBit (i - 1))))
  | 0, _ => by
    unfold gS
    rw [testBit_mask, decide_eq_true (Nat.succ_pos _), Bool.true_and]
    show (_ : Nat).testBit 0 = _
    rw [Nat.testBit_or, testBit_two, Nat.testBit_and, Nat.testBit_and, stars_bit]
    simp
  | i + 1, h => by
    have e : (gS (stars its) its.length s (takes its c)).testBit i = cb (stars its) ((s &&& takes its c) * 2 ^ 1 ||| (s &&& stars its)) i := by
      unfold gS
      rw [testBit_mask, decide_eq_true (by omega), Bool.true_and]
    rw [decide_eq_true (Nat.succ_pos i), Bool.true_and, Bool.true_and, Nat.add_sub_cancel, e]
    unfold gS
    rw [testBit_mask, decide_eq_true (by omega), Bool.true_and]
    show (_ || ((stars its).testBit i && _)) = _
    rw [Nat.testBit_or, testBit_two, Nat.testBit_and, Nat.testBit_and, stars_bit, stars_bit, takes_bit, decide_eq_true (Nat.succ_pos i), Bool.true_and, Nat.add_sub_cancel]
theorem start_bit {its : List (List Nat)} : ∀ {i : Nat}, i ≤ its.length → (startS its).testBit i = (decide (i = 0) || (starF its (i - 1) && (startS its).testBit (i - 1)))
  | 0, _ => by
    unfold startS
    rw [testBit_mask, decide_eq_true (Nat.succ_pos _), Bool.true_and]
    show (1 : Nat).testBit 0 = _
    simp
  | i + 1, h => by
    have e : (startS its).testBit i = cb (stars its) 1 i := by
      unfold startS
      rw [testBit_mask, decide_eq_true (by omega), Bool.true_and]
    rw [Nat.add_sub_cancel, e]
    unfold startS
    rw [testBit_mask, decide_eq_true (by omega), Bool.true_and]
    show ((1 : Nat).testBit (i + 1) || ((stars its).testBit i && _)) = _
    rw [stars_bit, Nat.testBit_succ]
    simp
/-- a standing tells what the law reads -/
theorem bit_rd (its : List (List Nat)) (w : List Nat) : ∀ (a : Nat), a ≤ w.length → ∀ (j : Nat), j ≤ its.length → (sW its (w.take a)).testBit j = if starF its j = true then upto (Rd its w j) a else Rd its w j a
  | 0, _, 0, _ => by
    show (startS its).testBit 0 = _
    rw [start_bit (Nat.zero_le _)]
    split <;> rfl
  | 0, ha, j + 1, hj => by
    have ih := bit_rd its w 0 ha j (by omega)
    have ih : (startS its).testBit j = if starF its j = true then upto (Rd its w j) 0 else Rd its w j 0 := ih
    show (startS its).testBit (j + 1) = _
    rw [start_bit hj, Nat.add_sub_cancel, ih]
    show _ = if starF its (j + 1) = true then Rd its w (j + 1) 0 else Rd its w (j + 1) 0
    rw [ite_self]
    show _ = if starF its j = true then Rd its w j 0 else false
    cases h : starF its j with
    | true => simp [upto]
    | false => simp
  | a + 1, ha, 0, _ => by
    have ih := bit_rd its w a (by omega) 0 (Nat.zero_le _)
    have tk : w.take (a + 1) = w.take a ++ [w.getD a 0] := by
      rw [List.take_add_one, List.getD_eq_getElem?_getD, List.getElem?_eq_getElem (by omega)]
      rfl
    rw [tk, sW_snoc, gS_bit (Nat.zero_le _), ih]
    cases h : starF its 0 with
    | true =>
      have : upto (Rd its w 0) a = true := upto_true (Nat.zero_le _) rfl
      have h2 : upto (Rd its w 0) (a + 1) = true := upto_true (Nat.zero_le _) rfl
      simp [this, h2]
    | false => simp [Rd]
  | a + 1, ha, j + 1, hj => by
    have ih1 := bit_rd its w a (by omega) j (by omega)
    have ih2 := bit_rd its w a (by omega) (j + 1) hj
    have ih3 := bit_rd its w (a + 1) ha j (by omega)
    have tk : w.take (a + 1) = w.take a ++ [w.getD a 0] := by
      rw [List.take_add_one, List.getD_eq_getElem?_getD, List.getElem?_eq_getElem (by omega)]
      rfl
    rw [tk, sW_snoc] at ih3 ⊢
    rw [gS_bit hj, Nat.add_sub_cancel, ih3, ih1, ih2, decide_eq_true (Nat.succ_pos j), Bool.true_and, Bool.true_and]
    have e : Rd its w (j + 1) (a + 1) = if starF its j = true then upto (Rd its w j) (a + 1) else Rd its w j a && tkF its (w.getD a 0) j := rfl
    have eu : upto (Rd its w (j + 1)) (a + 1) = (upto (Rd its w (j + 1)) a || Rd its w (j + 1) (a + 1)) := rfl
    rw [eu, e]
    cases h : starF its j with
    | true =>
      rw [tk_star h]
      cases h2 : starF its (j + 1) <;> simp
    | false =>
      cases h2 : starF its (j + 1) <;> simp [Bool.or_comm]
theorem fit_rd (its : List (List Nat)) (w : List Nat) : fitB its w = Rd its w its.length w.length := by
  have := bit_rd its w w.length (Nat.le_refl _) its.length (Nat.le_refl _)
  rw [List.take_length] at this
  unfold fitB
  rw [this, if_neg]
  unfold starF
  rw [List.getD_eq_getElem?_getD, List.getElem?_eq_none (Nat.le_refl _)]
  decide
abbrev sRow : Stmt := topS 49
abbrev sReads : Stmt := topS 50
abbrev sMoves : Stmt := topS 51
abbrev sOwn : Stmt := topS 53
def spReads : Sp := fun vs H Q _ => ∃ b its w, vs = [.ref b, .str (S w)] ∧ H b = some (.tup (txs its)) ∧ w.length ≤ 1000 ∧ its.length ≤ 100 ∧ (∀ it ∈ its, it.length ≤ 100) ∧ ∀ H', Same H H' → Q (.bl (Rd its w its.length w.length)) H'
theorem orV {ta tb : TE} {σ : St} {H : Hp} {Q : VK} (b1 b2 : Bool) (h1 : ∀ Q' : VK, Q' (.bl b1) H → ta σ H Q') (h2 : b1 = false → ∀ Q' : VK, Q' (.bl b2) H → tb σ H Q') (q : Q (.bl (b1 || b2)) H) : tOrV ta tb σ H Q := by
  refine h1 _ ⟨b1, rfl, ?_⟩
  cases b1 with
  | true => exact iteT q
  | false => exact iteF (h2 rfl _ q)
theorem andV {ta tb : TE} {σ : St} {H : Hp} {Q : VK} (b1 b2 : Bool) (h1 : ∀ Q' : VK, Q' (.bl b1) H → ta σ H Q') (h2 : b1 = true → ∀ Q' : VK, Q' (.bl b2) H → tb σ H Q') (q : Q (.bl (b1 && b2)) H) : tAndV ta tb σ H Q := by
  refine h1 _ ⟨b1, rfl, ?_⟩
  cases b1 with
  | true => exact iteT (h2 rfl _ q)
  | false => exact iteF q
theorem sn_succ (f : Nat → Bool) (a : Nat) : ((if a = 0 then false else upto f (a - 1)) || f a) = upto f a := by
  cases a with
  | zero => rfl
  | succ a => rfl
def blsR (its : List (List Nat)) (w : List Nat) (j n : Nat) : List V := (List.range n).map fun a => .bl (Rd its w j a)
theorem bls_at {its : List (List Nat)} {w : List Nat} {j n a : Nat} (h : a < n) : (blsR its w j n)[a]? = some (.bl (Rd its w j a)) := by
  unfold blsR
  rw [List.getElem?_map, List.getElem?_range h]
  rfl
theorem bls_len (its : List (List Nat)) (w : List Nat) (j n : Nat) : (blsR its w j n).length = n := by simp [blsR]
theorem bls_succ (its : List (List Nat)) (w : List Nat) (j n : Nat) : blsR its w j (n + 1) = blsR its w j n ++ [.bl (Rd its w j n)] := by
  unfold blsR
  rw [List.range_succ, List.map_append]
  rfl
theorem bls_zero (its : List (List Nat)) (w : List Nat) : ∀ n, blsR its w 0 (n + 1) = [V.bl true] ++ List.replicate n (.bl false)
  | 0 => rfl
  | n + 1 => by
    rw [bls_succ, bls_zero its w n, show Rd its w 0 (n + 1) = false from rfl, List.append_assoc, ← List.replicate_succ']
section
variable {P : Program} {w : World} {K : PySem.W.Frag} {mg : Str → Option Value} {base : Heap}
abbrev NRd : List Str := ["_law_items", "_law_word_here", "_law_found", "_law_item", "_law_row_here", "_law_seen", "_law_at"]
theorem scReads : FnScope NRd ["_law_items", "_law_word_here"] (defScope sReads) := ⟨rfl, rfl, rfl, by decide +kernel, rfl, by decide +kernel, by decide +kernel⟩
theorem ok_reads {f : Addr} {fd : FuncData} (F : Fun K "_law_reads" "_law_reads" sReads f fd) (B : Bi mg) : FnOk P w K mg base CX0 1 f fd ["_law_items", "_law_word_here"] spReads := by
  refine F.ok scReads (fun vs H Q E h => ?_) (fun cdv A outer s H vs Q E hr h => ?_)
  · obtain ⟨b, its, w, rfl, _⟩ := h
    rfl
  · obtain ⟨b, its, w, rfl, hb, lw, li, lit, q⟩ := h
    refine ⟨_, pss_cons (ps_set (i := 2) scReads.nd rfl (Or.inl rfl) (pe_op op_cat (pe_lst (pa_cons pe_bl pa_nil)) (pe_op op_rep (pe_lst (pa_cons pe_bl pa_nil)) (pe_lenS B.len (pa_cons (pv 1) pa_nil)))))
      (pss_cons (ps_for PassesOwn.never rfl (pi_sqA (pv 0)) (pg_name (i := 3) scReads.nd rfl (.inl rfl))
        (pss_cons (ps_par (i := 4) (j := 5) rfl scReads.nd rfl rfl (by decide) rfl rfl (pa_cons (pe_lst pa_nil) (pa_cons pe_bl pa_nil)) rfl)
        (pss_cons (ps_for PassesOwn.never rfl (pi_range1 rfl B.range (pa_cons (pe_op op_add (pe_lenS B.len (pa_cons (pv 1) pa_nil)) pe_int) pa_nil)) (pg_name (i := 6) scReads.nd rfl (.inl rfl))
          (pss_cons (ps_set (i := 5) scReads.nd rfl (Or.inl rfl) (pe_or (pv 5) (pe_one (pe_ix ix_list (pv 2) (pv 6) (fun _ _ => rfl)))))
          (pss_one (ps_if (pt_cmpR op_eq (pv 3) pe_str (nomark _))
            (pss_one (ps_expr (pe_bm PySem.F.plainAttrs_list PySem.F.slot_list_append PySem.F.type_list_append mt_append (pv 4) (pa_cons (pv 5) pa_nil))))
            (pss_one (ps_expr (pe_bm PySem.F.plainAttrs_list PySem.F.slot_list_append PySem.F.type_list_append mt_append (pv 4) (pa_cons (pe_and (pe_cmpR op_gt (pv 6) pe_int rfl) (pe_and (pe_ix ix_list (pv 2) (pe_op op_sub (pv 6) pe_int) (fun _ _ => rfl)) (pe_one (pe_or (pe_cmpR op_eq (pv 3) pe_str (nomark _)) (pe_one (pe_cmpR op_in_sign (pe_ix ix_str (pv 1) (pe_op op_sub (pv 6) pe_int) (fun _ _ => rfl)) (pv 3) rfl)))))) pa_nil))))))))
        (pss_one (ps_set (i := 2) scReads.nd rfl (Or.inl rfl) (pv 4))))))
      (pss_one (ps_ret (pe_ix ix_list (pv 2) (pe_lenS B.len (pa_cons (pv 1) pa_nil)) (fun _ _ => rfl))))), ?_⟩
    have smw : (S w).length ≤ sizeLine := Nat.le_of_lt (small10 (by rw [S_len]; omega))
    refine ⟨by show 1 ≤ sizeLine; decide, fun L1 nL1 => ?_⟩
    have e1 := same_new (o := .lst [.bl true]) nL1
    have h1 : upd H L1 (.lst [.bl true]) L1 = some (.lst [.bl true]) := upd_same
    generalize upd H L1 (.lst [.bl true]) = H1 at e1 h1 ⊢
    refine ⟨by show 1 ≤ sizeLine; decide, fun L2 nL2 => ?_⟩
    have e2 := same_new (o := .lst [.bl false]) nL2
    have h2 : upd H1 L2 (.lst [.bl false]) L2 = some (.lst [.bl false]) := upd_same
    generalize upd H1 L2 (.lst [.bl false]) = H2 at e2 h2 ⊢
    refine ⟨_, rfl, _, rfl, smw, L2, ((S w).length : Nat), _, rfl, rfl, h2, by omega, by rw [S_len]; omega, by rw [S_len, Int.toNat_natCast]; show 1 * w.length ≤ _; exact Nat.le_of_lt (small10 (by omega)), fun L3 nL3 => ?_⟩
    rw [S_len, Int.toNat_natCast, List.flatten_replicate_singleton]
    have e3 := same_new (o := .lst (List.replicate w.length (V.bl false))) nL3
    have h3 : upd H2 L3 (.lst (List.replicate w.length (V.bl false))) L3 = some (.lst (List.replicate w.length (V.bl false))) := upd_same
    generalize upd H2 L3 (.lst (List.replicate w.length (V.bl false))) = H3 at e3 h3 ⊢
    refine ⟨L1, L3, _, _, rfl, rfl, e3 _ _ (e2 _ _ h1), h3, by rw [List.length_replicate]; exact Nat.le_of_lt (small10 (by show 1 + w.length ≤ _; omega)), fun f0 nf0 => ?_⟩
    rw [← bls_zero its w]
    have e4 := same_new (o := .lst (blsR its w 0 (w.length + 1))) nf0
    have h4 : upd H3 f0 (.lst (blsR its w 0 (w.length + 1))) f0 = some (.lst (blsR its w 0 (w.length + 1))) := upd_same
    generalize upd H3 f0 (.lst (blsR its w 0 (w.length + 1))) = H4 at e4 h4 ⊢
    have e04 := e1.trans (e2.trans (e3.trans e4))
    clear e1 e2 e3 e4 h1 h2 h3 nL1 nL2 nL3 nf0
    dsimp only [gName, tSeq, tAsg]
    refine ⟨_, rfl, b, _, rfl, .inr (SqT.of (e04 _ _ hb)), fun J G wk hG => for_it wk (fun j σ H' => ∃ (f : Addr) (x3 x4 x5 x6 : Option V), σ = [some (.ref b), some (.str (S w)), some (.ref f), x3, x4, x5, x6] ∧ Same H H' ∧ H' f = some (.lst (blsR its w j (w.length + 1)))) ⟨f0, none, none, none, none, rfl, e04, h4⟩ (fun i σ H' _ ⟨_, _, _, _, _, _, e, _⟩ => hG H' fun o z => ?_) ?_ ?_⟩
    · rw [e04 _ _ hb] at z
      cases z
      exact e _ _ hb
    · rintro j x σ H5 H6 hj ⟨f, x3, x4, x5, x6, rfl, e5, hf⟩ ⟨rfl, hx⟩
      have hj2 : j < its.length := by rwa [strs_len] at hj
      have ej := List.getElem?_eq_getElem hj2
      have hx : (its.map fun w => V.str (S w))[j]? = some x := hx
      rw [List.getElem?_map, ej] at hx
      cases hx
      refine ⟨by decide, fun R nR => ⟨_, _, rfl, ?_⟩⟩
      have e6 := same_new (o := .lst []) nR
      have hR6 : upd H6 R (.lst []) R = some (.lst []) := upd_same
      have nRo : ∀ b o, H b = some o → b ≠ R := fun b o z => ne_of_none (e5 _ _ z) nR
      have nfR : f ≠ R := ne_of_none hf nR
      have hf6 := e6 _ _ hf
      have e06 := e5.trans e6
      generalize upd H6 R (.lst []) = H7 at e6 hR6 hf6 e06 ⊢
      refine ⟨_, rfl, _, rfl, smw, _, _, rfl, rfl, _, rfl, by rw [S_len]; omega, by rw [S_len]; omega, ?_⟩
      rw [S_len]
      refine for_range (n := (((w.length : Nat) : Int) + 1).toNat) (fun a σ H' => ∃ x6, σ = [some (.ref b), some (.str (S w)), some (.ref f), some (.str (S its[j])), some (.ref R), some (.bl (if a = 0 then false else upto (Rd its w j) (a - 1))), x6] ∧ Same H H' ∧ H' f = some (.lst (blsR its w j (w.length + 1))) ∧ H' R = some (.lst (blsR its w (j + 1) a))) ⟨_, rfl, e06, hf6, hR6⟩ ?_ ?_
      · rintro a σ H8 ha ⟨x6, rfl, e8, hf8, hR8⟩
        have ha2 : a < w.length + 1 := by omega
        rw [Int.zero_add]
        refine orV (if a = 0 then false else upto (Rd its w j) (a - 1)) (Rd its w j a) (fun Q' q => ⟨_, rfl, q⟩) (fun _ Q' q => ⟨_, rfl, _, rfl, f, _, _, _, rfl, rfl, SqL.of hf8, atI_nat (bls_at ha2), q⟩) ?_
        rw [sn_succ]
        have nx : (if a + 1 = 0 then false else upto (Rd its w j) (a + 1 - 1)) = upto (Rd its w j) a := rfl
        have sm8 : (blsR its w (j + 1) a).length < sizeLine := by rw [bls_len]; exact small10 (by omega)
        have inv : ∀ v : Bool, v = Rd its w (j + 1) a → Same H (upd H8 R (.lst (blsR its w (j + 1) a ++ [V.bl v]))) ∧ upd H8 R (.lst (blsR its w (j + 1) a ++ [V.bl v])) f = some (.lst (blsR its w j (w.length + 1))) ∧ upd H8 R (.lst (blsR its w (j + 1) a ++ [V.bl v])) R = some (.lst (blsR its w (j + 1) (a + 1))) := fun v ev => by
          refine ⟨fun b' o z => (upd_ne (nRo b' o z)).trans (e8 _ _ z), (upd_ne nfR).trans hf8, ?_⟩
          rw [upd_same, bls_succ, ev]
        refine ⟨_, rfl, rfl, _, rfl, ?_⟩
        rw [star_S, decS]
        have sj : starF its j = isStar its[j] := starF_at ej
        have eS : decide (its[j] = [42]) = starF its j := sj.symm
        rw [eS]
        cases hs : starF its j with
        | true =>
          refine iteT ⟨_, rfl, .inl ⟨rfl, _, SqL.of hR8⟩, _, rfl, R, _, _, rfl, rfl, hR8, sm8, _, rfl, inv _ ?_⟩
          cases a with
          | zero =>
            show Rd its w j 0 = if starF its j = true then Rd its w j 0 else false
            rw [if_pos hs]
          | succ a =>
            show upto (Rd its w j) (a + 1) = if starF its j = true then upto (Rd its w j) (a + 1) else _
            rw [if_pos hs]
        | false =>
          refine iteF ⟨_, rfl, .inl ⟨rfl, _, SqL.of hR8⟩, ?_⟩
          have fin : ∀ v : Bool, v = Rd its w (j + 1) a → True := fun _ _ => True.intro
          refine andV (decide (0 < a)) (Rd its w j (a - 1) && tkF its (w.getD (a - 1) 0) j) (fun Q' q => ⟨_, rfl, _, _, rfl, rfl, ?_⟩) (fun h Q' q => ?_) ?_
          · have e : decide (((a : Nat) : Int) > 0) = decide (0 < a) := decide_eq_decide.mpr ⟨fun h => by omega, fun h => by omega⟩
            show Q' (.bl (decide (((a : Nat) : Int) > 0))) H8
            rw [e]
            exact q
          · have a0 : 0 < a := of_decide_eq_true h
            have ea : ((a : Nat) : Int) - 1 = ((a - 1 : Nat) : Int) := by omega
            have wl : a - 1 < w.length := by omega
            have gw : w[a - 1]? = some (w.getD (a - 1) 0) := by
              rw [List.getD_eq_getElem?_getD, List.getElem?_eq_getElem wl]
              rfl
            refine andV (Rd its w j (a - 1)) (tkF its (w.getD (a - 1) 0) j) (fun Q2 q2 => ⟨_, rfl, _, rfl, _, _, rfl, rfl, f, _, _, _, rfl, rfl, SqL.of hf8, ?_, q2⟩) (fun _ Q2 q2 => ?_) q
            · show atI _ (((a : Nat) : Int) - 1) = _
              rw [ea]
              exact atI_nat (bls_at (by omega))
            · have et : tkF its (w.getD (a - 1) 0) j = (decide (its[j] = [63]) || decide (w.getD (a - 1) 0 ∈ its[j])) := by
                rw [tkF_at ej]
                unfold isTk
                rw [← sj, hs]
                rfl
              rw [et] at q2
              refine orV (decide (its[j] = [63])) (decide (w.getD (a - 1) 0 ∈ its[j])) (fun Q3 q3 => ⟨_, rfl, rfl, ?_⟩) (fun _ Q3 q3 => ⟨_, rfl, _, rfl, _, _, rfl, rfl, S w, _, _, rfl, rfl, smw, ?_, _, rfl, w.getD (a - 1) 0, S its[j], rfl, rfl, q3⟩) q2
              · show Q3 (.bl (decide (V.str (S its[j]) = V.str "?"))) H8
                rw [any_S, decS]
                exact q3
              · show atI _ (((a : Nat) : Int) - 1) = _
                rw [ea]
                exact atI_nat (by rw [S_list]; exact gw)
          · refine ⟨R, _, _, rfl, rfl, hR8, sm8, _, rfl, inv _ ?_⟩
            cases a with
            | zero =>
              show (decide (0 < 0) && _) = if starF its j = true then Rd its w j 0 else false
              rw [hs]
              rfl
            | succ a =>
              show (decide (0 < a + 1) && (Rd its w j a && tkF its (w.getD a 0) j)) = if starF its j = true then upto (Rd its w j) (a + 1) else Rd its w j a && tkF its (w.getD a 0) j
              rw [hs, decide_eq_true (Nat.succ_pos a)]
              rfl
      · rintro σ H8 ⟨x6, rfl, e8, hf8, hR8⟩
        have en : (((w.length : Nat) : Int) + 1).toNat = w.length + 1 := by omega
        rw [en] at hR8
        exact ⟨_, rfl, R, _, _, _, _, rfl, e8, hR8⟩
    · rintro σ H5 ⟨f, x3, x4, x5, x6, rfl, e5, hf⟩
      rw [strs_len] at hf
      refine ⟨_, rfl, _, rfl, _, rfl, smw, f, _, _, _, rfl, rfl, SqL.of hf, (by rw [S_len]; exact atI_nat (j := w.length) (bls_at (Nat.lt_succ_self _))), q H5 e5⟩
end
end K03
set_option Elab.async false
set_option linter.all false
set_option maxRecDepth 100001
set_option maxHeartbeats 3999999
namespace K03
open PySem L2
theorem mt_indexK {X : Cx} (K : PySem.W.Frag) (hK : X.K = K) : MtR X "list.index" (rIndex K) := by
  subst hK
  exact mt_index
theorem op_in_seqK {X : Cx} (K : PySem.W.Frag) (hK : X.K = K) : OpR X (compareOp .In) (rIn K false) := by
  subst hK
  exact op_in_seq
theorem op_notIn_seqK {X : Cx} (K : PySem.W.Frag) (hK : X.K = K) : OpR X (compareOp .NotIn) (rIn K true) := by
  subst hK
  exact op_notIn_seq
theorem pe_bmK {X : Cx} (K : PySem.W.Frag) (hK : X.K = K) {o e : Expr} {es : List Expr} {to : TE} {t : TA} {name : Str} {apos cpos : Pos} {T id : String} {r : V → List V → Hp → VK → Prop} (pa : PlainAttrs T) (slot : Slot T name id) (hty : typeOf (.builtin id) = pure (.type "method_descriptor")) (hm : MtR X id r) (ho : PE X o to) (ha : PA X (e :: es) t)
    (hbase : attributeBase o name X.env (eval o X.env) = eval o X.env := by rfl)
    (hfew : ((((backTo cpos (starEach (e :: es) X.env)).all fun x => !x.1) && (backToKw cpos (keywordEach [] X.env)).all fun x => x.1.isSome) && decide (((e :: es).length + ([] : List Keyword).length + if ([] : List Keyword).isEmpty = true then 0 else 1) < 30)) = true := by rfl)
    (hline : (apos.endLine == cpos.line) = true := by rfl) (hs : starEach (e :: es) X.env = (false, eval e X.env) :: starEach es X.env := by rfl) (hpl : ((backTo cpos (starEach es X.env)).any fun x => x.1) = false := by rfl) :
    PE X ((o.Attribute name apos).Call (e :: es) [] cpos) (tBM K T r to t) := by
  subst hK
  exact pe_bm pa slot hty hm ho ha hbase hfew hline hs hpl
theorem eq_S {u w : List Nat} : eqV (.str (S u)) (.str (S w)) = decide (u = w) := by
  show (S u == S w) = _
  by_cases c : u = w
  · subst c
    rw [decide_eq_true rfl, beq_self_eq_true]
  · rw [decide_eq_false c]
    exact beq_eq_false_iff_ne.mpr fun e => c (S_inj e)
theorem idx_txs {ws : List (List Nat)} {u : List Nat} (h : u ∈ ws) : (txs ws)[ws.idxOf u]? = some (.str (S u)) ∧ ∀ (m : Nat) (z : V), m < ws.idxOf u → (txs ws)[m]? = some z → eqV z (.str (S u)) = false := by
  have hl := List.idxOf_lt_length_iff.mpr h
  constructor
  · show (ws.map fun w => V.str (S w))[ws.idxOf u]? = _
    rw [List.getElem?_map, List.getElem?_eq_getElem hl, List.getElem_idxOf hl]
    rfl
  · intro m z hm hz
    have hz : (ws.map fun w => V.str (S w))[m]? = some z := hz
    rw [List.getElem?_map, List.getElem?_eq_getElem (Nat.lt_trans hm hl)] at hz
    cases hz
    refine eq_S.trans (decide_eq_false fun e => ?_)
    have := List.not_of_lt_findIdx hm
    rw [e] at this
    simp at this
def spMoves : Sp := fun vs H Q _ => ∃ s1 s2 us ws, vs = [.ref s1, .ref s2] ∧ H s1 = some (.lst (txs us)) ∧ H s2 = some (.lst (txs ws)) ∧ us.length ≤ 2000 ∧ ws.length ≤ 2000 ∧ ∀ t H', Same H H' → H' t = some (.tup (mv us ws)) → Q (.ref t) H'
def spOwn (C : Addr) : Sp := fun vs H Q _ => ∃ p ls us w, vs = [.ref p, .str (S w)] ∧ IsD C H p ls us ∧ us.Nodup ∧ ∀ l H', Same H H' → H' l = some (.lst (if w ∈ us then [.int ((us.idxOf w : Nat) : Int)] else [])) → Q (.ref l) H'
def spRow : Sp := fun vs H Q _ => ∃ (pn cl : Addr) (ls : List Nat) (b : Nat), vs = [.ref pn, .str (S ls)] ∧ Pen H pn cl b ∧ b ≤ 800000 ∧ LLet ls ∧
  ∀ t u its H', its.length ≤ 3 → (∀ it ∈ its, OkI ls it ∧ it.length ≤ 100) → But pn H H' → Pen H' pn cl (b + 10) → H' t = some (.tup [.str "row", .ref u]) → H' u = some (.tup (txs its)) → Q (.ref t) H'
section
variable {P : Program} {w : World} {K : PySem.W.Frag} {mg : Str → Option Value} {base : Heap}
abbrev NMo : List Str := ["_law_before", "_law_behind", "_law_word_here"]
theorem scMoves : FnScope NMo ["_law_before", "_law_behind"] (defScope sMoves) := ⟨rfl, rfl, rfl, by decide +kernel, rfl, by decide +kernel, by decide +kernel⟩
theorem ok_moves {f : Addr} {fd : FuncData} (F : Fun K "_law_moves" "_law_moves" sMoves f fd) (B : Bi mg) : FnOk P w K mg base CX0 1 f fd ["_law_before", "_law_behind"] spMoves := by
  refine F.ok scMoves (fun vs H Q E h => ?_) (fun cdv A outer s H vs Q E hr h => ?_)
  · obtain ⟨s1, s2, us, ws, rfl, _⟩ := h
    rfl
  · obtain ⟨s1, s2, us, ws, rfl, h1, h2, l1, l2, q⟩ := h
    refine ⟨_, pss_one (ps_ret (pe_tupleOf rfl B.tuple (pe_lc (own := [("_law_word_here", 2)]) rfl scMoves.nd (pi_sqA (pv 0)) (blkOk_by (N := NMo) (sc := defScope sMoves) (by decide +kernel))
          (fun _ _ _ _ _ => pg_name (i := 2) scMoves.nd rfl (Or.inl rfl)) (fun _ _ _ _ _ => pts_nil) (fun _ _ _ _ _ => pe_ifExp (pt_cmpR (op_in_seqK K rfl) (pv 2) (pv 1) rfl) (pe_bmK K rfl PySem.F.plainAttrs_list PySem.F.slot_list_index PySem.F.type_list_index (mt_indexK K rfl) (pv 1) (pa_cons (pv 2) pa_nil)) pe_non)))), ?_⟩
    refine ⟨_, rfl, s1, _, rfl, .inl (SqL.of h1), fun J G wk hG L nL => lc_it wk (fun i H' => Same H H' ∧ H' L = some (.lst (mv (us.take i) ws))) ⟨same_new nL, upd_same⟩ (fun i H' _ z => hG H' fun o z' => z.1 _ _ z') ?_ ?_⟩
    · rintro i x H3 H4 hi ⟨e3, hL⟩ ⟨rfl, hx⟩
      have hi2 : i < us.length := by rwa [strs_len] at hi
      have eu := List.getElem?_eq_getElem hi2
      have hx : (us.map fun w => V.str (S w))[i]? = some x := hx
      rw [List.getElem?_map, eu] at hx
      cases hx
      have tk : us.take (i + 1) = us.take i ++ [us[i]] := by rw [List.take_add_one, eu]; rfl
      have fin : ∀ y, y = (if us[i] ∈ ws then V.int ((ws.idxOf us[i] : Nat) : Int) else .non) → ∃ acc, H4 L = some (.lst acc) ∧ acc.length < sizeLine ∧ Same H (upd H4 L (.lst (acc ++ [y]))) ∧ upd H4 L (.lst (acc ++ [y])) L = some (.lst (mv (us.take (i + 1)) ws)) := fun y ey => by
        refine ⟨_, hL, ?_, fun b o z => ?_, ?_⟩
        · rw [mv_len, List.length_take]
          exact small10 (by omega)
        · rw [upd_ne (ne_of_none z nL)]
          exact e3 _ _ z
        · rw [upd_same, tk, ey]
          unfold mv
          rw [List.map_append]
          rfl
      refine ⟨rfl, yesT ⟨_, rfl, _, rfl, s2, _, rfl, .inl (SqL.of (e3 _ _ h2)), rfl, flat_txs ws, _, rfl, ?_⟩⟩
      rw [show (if (false : Bool) = true then !inV (V.str (S us[i])) (txs ws) else inV (V.str (S us[i])) (txs ws)) = decide (us[i] ∈ ws) from in_txs]
      by_cases c : us[i] ∈ ws
      · rw [decide_eq_true c]
        refine iteT ⟨_, rfl, .inl ⟨rfl, _, SqL.of (e3 _ _ h2)⟩, _, rfl, ?_⟩
        obtain ⟨hx1, hx2⟩ := idx_txs c
        refine ⟨s2, _, _, _, _, rfl, rfl, SqL.of (e3 _ _ h2), rfl, flat_txs ws, hx1, eq_S.trans (decide_eq_true rfl), hx2, ?_⟩
        exact fin _ (by rw [if_pos c])
      · rw [decide_eq_false c]
        exact iteF (fin _ (by rw [if_neg c]))
    · rintro H3 ⟨e3, hL⟩
      rw [strs_len, List.take_length] at hL
      exact .inl ⟨L, _, rfl, SqL.of hL, fun t nt => q t _ (e3.trans (same_new nt)) upd_same⟩
end
end K03
set_option Elab.async false
set_option linter.all false
set_option maxRecDepth 100001
set_option maxHeartbeats 3999999
namespace K03
open PySem L2
section
variable {P : Program} {w : World} {K : PySem.W.Frag} {mg : Str → Option Value} {base : Heap}
theorem scOwn : FnScope ["_law_more", "_law_word_here"] ["_law_more", "_law_word_here"] (defScope sOwn) := ⟨rfl, rfl, rfl, by decide +kernel, rfl, by decide +kernel, by decide +kernel⟩
theorem ok_own {f C CN : Addr} {fd : FuncData} (F : Fun K "_law_own" "_law_own" sOwn f fd) (mH : Met CX0 P w K mg base 1 C "has_word" (spHas C)) (mN : Met (L2.CX P w) P w K mg base 5 C "number_of" (spNumOf C CN)) : FnOk P w K mg base CX0 6 f fd ["_law_more", "_law_word_here"] (spOwn C) := by
  refine F.ok scOwn (fun vs H Q E h => ?_) (fun cdv A outer s H vs Q E hr h => ?_)
  · obtain ⟨p, ls, us, w, rfl, _⟩ := h
    rfl
  · obtain ⟨p, ls, us, w, rfl, D, nd, q⟩ := h
    refine ⟨_, pss_one (ps_ret (pe_ifExp (pt_val (pe_mt mH hr pass0 (pv 0) (pa_cons (pv 1) pa_nil))) (pe_lst (pa_cons (pe_mt mN hr passL (pv 0) (pa_cons (pv 1) pa_nil)) pa_nil)) (pe_lst pa_nil))), ?_⟩
    obtain ⟨dx, _, _, _, _, g1, _⟩ := id D
    refine ⟨_, rfl, p, dx, _, rfl, g1, df_no, _, rfl, p, _, ls, us, rfl, D, nd, .str _, _, rfl, ?_⟩
    show (if decide (w ∈ us) = true then _ else _)
    by_cases c : w ∈ us
    · rw [decide_eq_true c]
      rw [if_pos c] at q
      have li := List.idxOf_lt_length_of_mem c
      have gi : us[us.idxOf w]? = some w := by rw [List.getElem?_eq_getElem li, List.getElem_idxOf li]
      exact iteT ⟨_, rfl, p, dx, _, rfl, g1, df_no, _, rfl, p, _, ls, us, rfl, D, nd, .inl ⟨_, _, rfl, gi, by show 1 ≤ sizeLine; decide, fun L nL => q L _ (same_new nL) upd_same⟩⟩
    · rw [decide_eq_false c]
      rw [if_neg c] at q
      exact iteF ⟨by decide, fun L nL => q L _ (same_new nL) upd_same⟩
abbrev NRw : List Str := ["_law_pen_here", "_law_letters_here", "_law_items", "_law_k", "_law_kind"]
theorem scRow : FnScope NRw ["_law_pen_here", "_law_letters_here"] (defScope sRow) := ⟨rfl, rfl, rfl, by decide +kernel, rfl, by decide +kernel, by decide +kernel⟩
theorem ok_row {f : Addr} {fd : FuncData} (F : Fun K "_law_row" "_law_row" sRow f fd) (B : Bi mg) (cD : Cal CX0 P w K mg base 1 "_law_draw" spDraw) (cP : Cal CX0 P w K mg base 2 "_law_pick" spPickS) : FnOk P w K mg base CX0 3 f fd ["_law_pen_here", "_law_letters_here"] spRow := by
  refine F.ok scRow (fun vs H Q E h => ?_) (fun cdv A outer s H vs Q E hr h => ?_)
  · obtain ⟨pn, cl, ls, b, rfl, _⟩ := h
    rfl
  · obtain ⟨pn, cl, ls, b, rfl, pen, hb, LL, q⟩ := h
    refine ⟨_, pss_cons (ps_set (i := 2) scRow.nd rfl (Or.inl rfl) (pe_lst pa_nil))
      (pss_cons (ps_for PassesOwn.never rfl (pi_range1 rfl B.range (pa_cons (pe_c cD hr pass0 (pa_cons (pv 0) (pa_cons pe_int pa_nil))) pa_nil)) (pg_name (i := 3) scRow.nd rfl (.inl rfl))
        (pss_cons (ps_set (i := 4) scRow.nd rfl (Or.inl rfl) (pe_c cD hr pass0 (pa_cons (pv 0) (pa_cons pe_int pa_nil))))
        (pss_one (ps_if (pt_cmpR op_lt (pv 4) pe_int (nomark _))
          (pss_one (ps_expr (pe_bm PySem.F.plainAttrs_list PySem.F.slot_list_append PySem.F.type_list_append mt_append (pv 2) (pa_cons pe_str pa_nil))))
          (pss_one (ps_if (pt_cmpR op_eq (pv 4) pe_int (nomark _))
            (pss_one (ps_expr (pe_bm PySem.F.plainAttrs_list PySem.F.slot_list_append PySem.F.type_list_append mt_append (pv 2) (pa_cons pe_str pa_nil))))
            (pss_one (ps_if (pt_cmpR op_eq (pv 4) pe_int (nomark _))
              (pss_one (ps_expr (pe_bm PySem.F.plainAttrs_list PySem.F.slot_list_append PySem.F.type_list_append mt_append (pv 2) (pa_cons (pe_revS (pe_slice sl_str (pv 1) po_none (po_some pe_int))) pa_nil))))
              (pss_one (ps_expr (pe_bm PySem.F.plainAttrs_list PySem.F.slot_list_append PySem.F.type_list_append mt_append (pv 2) (pa_cons (pe_c cP hr pass0 (pa_cons (pv 0) (pa_cons (pv 1) pa_nil))) pa_nil))))))))))))
      (pss_one (ps_ret (pe_tup (pa_cons pe_str (pa_cons (pe_tupleOf rfl B.tuple (pv 2)) pa_nil)))))), ?_⟩
    refine ⟨by decide, fun I nI => ?_⟩
    have e1 := same_new (o := .lst []) nI
    have hI : upd H I (.lst []) I = some (.lst []) := upd_same
    have pen1 := pen.upd (o := .lst []) (pen.off nI).1 (pen.off nI).2
    have npI := (pen.off nI).1
    have ncI := (pen.off nI).2
    generalize upd H I (.lst []) = H1 at e1 hI pen1 ⊢
    refine ⟨_, rfl, pn, cl, _, b, rfl, pen1, by omega, by decide, by decide, fun r H2 r0 r1 e2 pen2 => ⟨_, rfl, by omega, by omega, ?_⟩⟩
    obtain ⟨n, rfl⟩ := Int.eq_ofNat_of_zero_le r0
    have n4 : n < 4 := by omega
    refine for_range (n := ((n : Nat) : Int).toNat) (fun i σ H' => ∃ (x3 x4 : Option V) (its : List (List Nat)), σ = [some (.ref pn), some (.str (S ls)), some (.ref I), x3, x4] ∧ its.length = i ∧ (∀ it ∈ its, OkI ls it ∧ it.length ≤ 100) ∧ But pn H H' ∧ Pen H' pn cl (b + 1 + 2 * i) ∧ H' I = some (.lst (txs its))) ⟨none, none, [], rfl, rfl, (fun _ h => nomatch h), (fun c o n z => e2 _ _ n (e1 _ _ z)), pen2, e2 _ _ npI.symm hI⟩ ?_ ?_
    · rintro i σ H3 hi ⟨x3, x4, its, rfl, li, oi, e3, pen3, hI3⟩
      refine ⟨_, rfl, pn, cl, _, _, rfl, pen3, by omega, by decide, by decide, fun d H4 d0 d1 e4 pen4 => ?_⟩
      have hI4 := e4 _ _ npI.symm hI3
      have bt4 : But pn H H4 := e3.trans e4
      have lt : (txs its).length < sizeLine := by rw [strs_len]; exact small10 (by omega)
      have done : ∀ (it : List Nat) (H5 : Hp), OkI ls it → it.length ≤ 100 → But pn H H5 → Pen H5 pn cl (b + 1 + 2 * i + 2) → H5 I = some (.lst (txs its)) → ∃ (x3 x4 : Option V) (its' : List (List Nat)), [some (V.ref pn), some (.str (S ls)), some (.ref I), some (.int (0 + ((i : Nat) : Int))), some (.int d)] = [some (.ref pn), some (.str (S ls)), some (.ref I), x3, x4] ∧ its'.length = i + 1 ∧ (∀ it ∈ its', OkI ls it ∧ it.length ≤ 100) ∧ But pn H (upd H5 I (.lst (txs its ++ [.str (S it)]))) ∧ Pen (upd H5 I (.lst (txs its ++ [.str (S it)]))) pn cl (b + 1 + 2 * (i + 1)) ∧ upd H5 I (.lst (txs its ++ [.str (S it)])) I = some (.lst (txs its')) := by
        intro it H5 ok l1 b5 p5 h5
        refine ⟨_, _, its ++ [it], rfl, by rw [List.length_append, li]; rfl, fun x hx => ?_, fun c o n z => ?_, (p5.mono (by omega)).upd npI ncI, ?_⟩
        · rcases List.mem_append.mp hx with h | h
          · exact oi x h
          · rw [List.mem_singleton.mp h]
            exact ⟨ok, l1⟩
        · rw [upd_ne (ne_of_none z nI)]
          exact b5 _ _ n z
        · rw [upd_same]
          unfold txs
          rw [List.map_append]
          rfl
      refine ⟨_, rfl, _, _, rfl, rfl, _, rfl, ?_⟩
      show (if decide (d < 2) = true then _ else _)
      by_cases c2 : d < 2
      · rw [decide_eq_true c2]
        refine iteT ⟨_, rfl, .inl ⟨rfl, _, SqL.of hI4⟩, I, _, _, rfl, rfl, hI4, lt, ?_⟩
        exact done [42] H4 (.inl rfl) (by decide) bt4 (pen4.mono (by omega)) hI4
      · rw [decide_eq_false c2]
        refine iteF ⟨_, rfl, rfl, _, rfl, ?_⟩
        show (if decide (V.int d = V.int 2) = true then _ else _)
        by_cases c3 : d = 2
        · rw [decide_eq_true (congrArg V.int c3)]
          refine iteT ⟨_, rfl, .inl ⟨rfl, _, SqL.of hI4⟩, I, _, _, rfl, rfl, hI4, lt, ?_⟩
          skip
          exact done [63] H4 (.inr (.inl rfl)) (by decide) bt4 (pen4.mono (by omega)) hI4
        · rw [decide_eq_false fun z : V.int d = V.int 2 => c3 (V.int.inj z)]
          refine iteF ⟨_, rfl, rfl, _, rfl, ?_⟩
          show (if decide (V.int d = V.int 3) = true then _ else _)
          by_cases c4 : d = 3
          · rw [decide_eq_true (congrArg V.int c4)]
            refine iteT ⟨_, rfl, .inl ⟨rfl, _, SqL.of hI4⟩, _, rfl, _, rfl, ?_⟩
            have lo := LL.L.lo
            have few := LL.few
            refine ⟨_, rfl, by rw [S_len]; exact Nat.le_of_lt (small10 (by omega)), ?_⟩
            dsimp only
            rw [show (2 : Int) = ((2 : Nat) : Int) from rfl, cut_S lo]
            refine ⟨_, rfl, by rw [S_len, List.length_take]; exact Nat.le_of_lt (small10 (by omega)), ?_⟩
            refine ⟨I, _, _, rfl, rfl, hI4, lt, ?_⟩
            rw [show revS (S (ls.take 2)) = S (ls.take 2).reverse from rfl]
            refine done _ H4 (.inr (.inr ⟨?_, ?_, fun x hx => List.mem_of_mem_take (List.mem_reverse.mp hx)⟩)) ?_ bt4 (pen4.mono (by omega)) hI4
            · intro z
              have := congrArg List.length z
              rw [List.length_reverse, List.length_take, List.length_nil] at this
              omega
            · exact List.pairwise_reverse.mpr ((LL.L.nd.sublist (List.take_sublist _ _)).imp fun h => Ne.symm h)
            · rw [List.length_reverse, List.length_take]
              omega
          · rw [decide_eq_false fun z : V.int d = V.int 3 => c4 (V.int.inj z)]
            refine iteF ⟨_, rfl, .inl ⟨rfl, _, SqL.of hI4⟩, _, rfl, _, rfl, pn, cl, ls, _, rfl, pen4, by omega, by have := LL.L.lo; omega, by have := LL.few; omega, fun c H5 hc e5 pen5 => ?_⟩
            refine ⟨I, _, _, rfl, rfl, e5 _ _ npI.symm hI4, lt, ?_⟩
            exact done [c] H5 (.inr (.inr ⟨by simp, by simp, fun x hx => by rw [List.mem_singleton.mp hx]; exact hc⟩)) (by show 1 ≤ 100; decide) (bt4.trans e5) (pen5.mono (by omega)) (e5 _ _ npI.symm hI4)
    · rintro σ H3 ⟨x3, x4, its, rfl, li, oi, e3, pen3, hI3⟩
      refine ⟨_, rfl, .inl ⟨I, _, rfl, SqL.of hI3, fun u nu => ⟨by show 2 ≤ sizeLine; decide, fun t nt => ?_⟩⟩⟩
      have e5 := same_new (o := .tup (txs its)) nu
      have hu : upd H3 u (.tup (txs its)) u = some (.tup (txs its)) := upd_same
      generalize upd H3 u (.tup (txs its)) = H5 at e5 hu nt ⊢
      have e6 := same_new (o := .tup [.str "row", .ref u]) nt
      exact q t u its _ (by omega) oi (fun c o n z => e6 _ _ (e5 _ _ (e3 _ _ n z))) (((pen3.same e5).same e6).mono (by omega)) upd_same (e6 _ _ hu)
end
end K03
set_option Elab.async false
set_option linter.all false
set_option maxRecDepth 100001
set_option maxHeartbeats 3999999
namespace K03
open PySem L2
/-! ### numbers moved, and moved again -/
def mvp (p : List Nat → Bool) (us vs : List (List Nat)) : List V := us.map fun w => if p w = true then .int ((vs.idxOf w : Nat) : Int) else .non
theorem mvp_len (p : List Nat → Bool) (us vs : List (List Nat)) : (mvp p us vs).length = us.length := List.length_map ..
theorem mv_mvp (us vs : List (List Nat)) : mv us vs = mvp (fun u => decide (u ∈ vs)) us vs := by
  unfold mv mvp
  refine List.map_congr_left fun u _ => ?_
  by_cases c : u ∈ vs
  · rw [if_pos c, if_pos (decide_eq_true c)]
  · rw [if_neg c, if_neg (by simpa using c)]
theorem mvp_congr {p q : List Nat → Bool} {us vs : List (List Nat)} (h : ∀ u ∈ us, p u = q u) : mvp p us vs = mvp q us vs := by
  unfold mvp
  exact List.map_congr_left fun u hu => by rw [h u hu]
theorem mvp_num {p : List Nat → Bool} {us vs : List (List Nat)} : ∀ v ∈ mvp p us vs, Num v := fun v h => by
  obtain ⟨u, _, rfl⟩ := List.mem_map.mp h
  split
  · exact .inr ⟨_, rfl⟩
  · exact .inl rfl
theorem mv_get {us vs : List (List Nat)} {u : List Nat} (h : u ∈ us) : (mv us vs).getD (us.idxOf u) .non = if u ∈ vs then .int ((vs.idxOf u : Nat) : Int) else .non := by
  have hl := List.idxOf_lt_length_iff.mpr h
  unfold mv
  rw [List.getD_eq_getElem?_getD, List.getElem?_map, List.getElem?_eq_getElem hl, List.getElem_idxOf hl]
  rfl
theorem mvp_comp {p : List Nat → Bool} {us vs zs : List (List Nat)} (h : ∀ u ∈ us, p u = true → u ∈ vs) : (mvp p us vs).map (compF (mv vs zs)) = mvp (fun u => p u && decide (u ∈ zs)) us zs := by
  unfold mvp
  rw [List.map_map]
  refine List.map_congr_left fun u hu => ?_
  show compF _ (if p u = true then _ else _) = _
  by_cases c : p u = true
  · rw [if_pos c]
    simp only [c, Bool.true_and]
    show (mv vs zs).getD (((vs.idxOf u : Nat) : Int)).toNat .non = _
    rw [Int.toNat_natCast, mv_get (h u hu c)]
    by_cases d : u ∈ zs
    · rw [if_pos d, if_pos (decide_eq_true d)]
    · rw [if_neg d, if_neg (by simpa using d)]
  · rw [if_neg c, if_neg (by intro z; exact c (Bool.and_eq_true_iff.mp z).1)]
    rfl
theorem mvp_scan {ls : List Nat} {p : List Nat → Bool} {vs : List (List Nat)} (up : vs.Pairwise fun a b => key ls a < key ls b) : ∀ (us : List (List Nat)) (least : Int) (i : Nat), (∀ w ∈ us, p w = true → w ∈ vs) → (us.Pairwise fun a b => key ls a < key ls b) → (∀ w ∈ us, w ∈ vs → least ≤ ((vs.idxOf w : Nat) : Int)) → scan (vs.length : Nat) least i (mvp p us vs) = none
  | [], _, _, _, _, _ => by
    unfold mvp
    simp only [List.map_nil, scan]
  | u :: us, least, i, hp, h, hl => by
    obtain ⟨h1, h2⟩ := List.pairwise_cons.mp h
    show scan (vs.length : Nat) least i ((if p u = true then V.int ((vs.idxOf u : Nat) : Int) else .non) :: mvp p us vs) = none
    have hp' : ∀ w ∈ us, p w = true → w ∈ vs := fun w m => hp w (List.mem_cons_of_mem _ m)
    by_cases c : p u = true
    · have cv := hp u List.mem_cons_self c
      rw [if_pos c]
      have lu := List.idxOf_lt_length_of_mem cv
      rw [scan_in (decide_eq_true ⟨hl u List.mem_cons_self cv, by omega⟩)]
      refine mvp_scan up us _ _ hp' h2 fun w m mv' => ?_
      have := idx_up up cv mv' (h1 w m)
      omega
    · rw [if_neg c, scan_non]
      exact mvp_scan up us _ _ hp' h2 fun w m => hl w (List.mem_cons_of_mem _ m)
theorem due_mvp {us : List (List Nat)} {p : List Nat → Bool} (nd : us.Nodup) : ((List.range us.length).map fun i => if p (us.getD i []) = true then V.int ((i : Nat) : Int) else .non) = mvp p us us := by
  refine List.ext_getElem? fun i => ?_
  unfold mvp
  rw [List.getElem?_map, List.getElem?_map]
  by_cases c : i < us.length
  · rw [List.getElem?_range c, List.getElem?_eq_getElem c]
    show some (if p (us.getD i []) = true then V.int ((i : Nat) : Int) else .non) = _
    rw [List.getD_eq_getElem?_getD, List.getElem?_eq_getElem c]
    show some (if p us[i] = true then _ else _) = some (if p us[i] = true then _ else _)
    rw [idx_get nd (List.getElem?_eq_getElem c)]
  · rw [List.getElem?_eq_none (by rw [List.length_range]; omega), List.getElem?_eq_none (by omega)]
    rfl
theorem te_mid {te : TE} {σ : St} {H : Hp} {Q : VK} (R : V → Hp → Prop) (h1 : ∀ Q' : VK, (∀ v H', R v H' → Q' v H') → te σ H Q') (h2 : ∀ v H', R v H' → Q v H') : te σ H Q := h1 Q h2
abbrev sBack : Stmt := topS 52
def spBack (C : Addr) (Tb : List (Addr × Str)) : Sp := fun vs H Q _ => ∃ (p q : Addr) (ls : List Nat) (us ws : List (List Nat)) (w : List Nat) (put : Bool), vs = [.ref p, .ref q, .str (S w), .bl put] ∧ IsD C H p ls us ∧ OkD ls us ∧ IsD C H q ls ws ∧ OkD ls ws ∧ w.length ≤ 200 ∧ (∀ c ∈ w, c ∈ ls) ∧ us.length ≤ 1000 ∧
  ((put = true ∧ w ∉ us ∧ ws.Perm (us ++ [w])) ∨ (put = false ∧ w ∈ us ∧ ws = us.erase w)) ∧ LamX.Tabs Tb H ∧ ∀ H', LamX.ExtN H H' → LamX.Tabs Tb H' → Q (.bl true) H'
section
variable {P : Program} {w : World} {K : PySem.W.Frag} {mg : Str → Option Value} {base : Heap}
abbrev NBk : List Str := ["_law_found", "_law_more", "_law_word_here", "_law_put", "_law_back", "_law_turn", "_law_forth", "_law_both", "_law_due", "_law_number"]
theorem scBack : FnScope NBk ["_law_found", "_law_more", "_law_word_here", "_law_put"] (defScope sBack) := ⟨rfl, rfl, rfl, by decide +kernel, rfl, by decide +kernel, by decide +kernel⟩
theorem ok_back {f fe C CM : Addr} {fd fdE : FuncData} {Tb : List (Addr × Str)} (F : Fun K "_law_back_right" "_law_back_right" sBack f fd) (B : Bi mg) (T : Txd K C) (TE : TxE K C) (TM : TxtM K CM)
    (mS : Met CX0 P w K mg base 7 C "strike_out" (spStrike K C CM Tb)) (mP : Met CX0 P w K mg base 7 C "put_in" (spPut K C CM Tb)) (mkM : Mak CX0 P w K mg base 3 "NumberMap" CM (spMInit K CM)) (cM : Cal CX0 P w K mg base 1 "_law_moves" spMoves) (mF : Met CX0 P w K mg base 5 CM "followed_by" (spFoll K CM))
    (FE : FnOk P w K mg base CX0 1 fe fdE ["self", "other"] (spEqD C)) (eE : PySem.W.findIn K (.ref C) "__eq__" = some (some (.ref fe))) (iE : PySem.W.isFn K (.ref fe) = true) (bE : Binds K fdE ["self", "other"] []) (nfD : PySem.W.notFirst K C (.ref C) = true) :
    FnOk P w K mg base CX0 8 f fd ["_law_found", "_law_more", "_law_word_here", "_law_put"] (spBack C Tb) := by
  refine F.ok scBack (fun vs H Q E h => ?_) (fun cdv A outer s H vs Q E hr h => ?_)
  · obtain ⟨p, q, ls, us, ws, w, put, rfl, _⟩ := h
    rfl
  · obtain ⟨p, q, ls, us, ws, w, put, rfl, D, O, D2, O2, lw, hw, few, cs, tabs, k⟩ := h
    refine ⟨_, pss_cons (ps_asg (pe_ifExp (pt_val (pv 3)) (pe_mt mS hr pass0 (pv 1) (pa_cons (pv 2) pa_nil)) (pe_mt mP hr pass0 (pv 1) (pa_cons (pv 2) pa_nil))) (pg_tup rfl (pgs_cons (pg_name (i := 4) scBack.nd rfl (Or.inl rfl)) (pgs_cons (pg_name (i := 5) scBack.nd rfl (Or.inl rfl)) pgs_nil))))
      (pss_cons (ps_set (i := 6) scBack.nd rfl (Or.inl rfl) (pe_mk mkM hr pass0 (pa_cons (pe_fld (pv 1) rfl) (pa_cons (pe_c cM hr pass0 (pa_cons (pe_callTy call_list_of rfl B.list (by decide +kernel) (pa_cons (pe_fld (pv 0) rfl) pa_nil)) (pa_cons (pe_callTy call_list_of rfl B.list (by decide +kernel) (pa_cons (pe_fld (pv 1) rfl) pa_nil)) pa_nil))) pa_nil))))
      (pss_cons (ps_set (i := 7) scBack.nd rfl (Or.inl rfl) (pe_mt mF hr pass0 (pv 6) (pa_cons (pv 5) pa_nil)))
      (pss_cons (ps_set (i := 8) scBack.nd rfl (Or.inl rfl) (pe_tupleOf rfl B.tuple (pe_lc (own := [("_law_number", 9)]) rfl scBack.nd (pi_range1 rfl B.range (pa_cons (pe_fld (pv 0) rfl) pa_nil)) (blkOk_by (N := NBk) (sc := defScope sBack) (by decide +kernel))
          (fun _ _ _ _ _ => pg_name (i := 9) scBack.nd rfl (Or.inl rfl)) (fun _ _ _ _ _ => pts_nil) (fun _ _ _ _ _ => pe_ifExp (PW.pt (pw_or (pt_val (pv 3)) (pw_or1 (pt_cmpR op_ne (pe_ix (ix_tupK K rfl) (pe_fldK K rfl (pv 0)) (pv 9) (fun _ _ => rfl)) (pv 2) (nomark _))))) (pv 9) pe_non))))
      (pss_one (ps_ret (pe_and (pe_cmpR (op_ownEq FE eE iE bE pass0 hr (by decide)) (pv 4) (pv 0) (nomark _)) (pe_and (pe_cmpR (op_eqN (hu64 hr)) (pe_fld (pv 7) rfl) (pv 8) (nomark _)) (pe_one (pe_cmpR op_eq (pe_fld (pv 7) rfl) (pe_fld (pv 0) rfl) (nomark _)))))))))), ?_⟩
    dsimp only [tSeq, tAsg]
    refine te_mid (fun v H1 => ∃ tt bk tn, v = .ref tt ∧ LamX.ExtN H H1 ∧ LamX.Tabs Tb H1 ∧ H1 tt = some (.tup [.ref bk, .ref tn]) ∧ IsD C H1 bk ls us ∧ IsMap K CM H1 tn (us.length : Nat) (mv ws us)) (fun Q' q' => ?_) ?_
    · obtain ⟨dx2, _, _, _, _, g1, _⟩ := id D2
      rcases cs with ⟨rfl, nw, pm⟩ | ⟨rfl, mw, rfl⟩
      · refine ⟨_, rfl, _, rfl, iteT ⟨_, rfl, q, dx2, _, rfl, g1, df_no, _, rfl, q, ls, ws, w, rfl, D2, O2, pm.mem_iff.mpr (by simp), tabs, fun tt m r H' O3 ex tb htt D3 M3 => ?_⟩⟩
        have : ws.erase w = us := ord_eq (ls := ls) (by
          have := pm.erase w
          rw [List.erase_append_right _ nw] at this
          simpa using this) O3.up O.up
        rw [this] at D3 M3
        exact q' _ _ ⟨tt, m, r, rfl, ex, tb, htt, D3, M3⟩
      · have ne : w ∉ us.erase w := fun z => ((List.Nodup.mem_erase_iff O.nd).mp z).1 rfl
        have le : (us.erase w).length ≤ us.length := List.erase_sublist.length_le
        refine ⟨_, rfl, _, rfl, iteF ⟨_, rfl, q, dx2, _, rfl, g1, df_no, _, rfl, q, ls, us.erase w, w, rfl, D2, O2, lw, hw, ne, by omega, tabs, fun tt m r vs' H' pm O3 ex tb htt D3 M3 => ?_⟩⟩
        have pu : (us.erase w ++ [w]).Perm us := List.perm_append_comm.trans (List.perm_cons_erase mw).symm
        obtain rfl : vs' = us := ord_eq (pm.trans pu) O3.up O.up
        exact q' _ _ ⟨tt, m, r, rfl, ex, tb, htt, D3, M3⟩
    rintro _ H1 ⟨tt, bk, tn, rfl, ex1, tb1, htt, D3, M3⟩
    have D1 := D.ext ex1
    have D21 := D2.ext ex1
    refine ⟨tt, _, rfl, SqT.of htt, rfl, _, _, rfl, _, _, rfl, rfl, ?_⟩
    dsimp only [tSeq, tAsg]
    obtain ⟨dx, _, t1, _, _, h1, _, h3, _⟩ := id D1
    obtain ⟨dx2, _, t2, _, _, g1, _, g3, _⟩ := id D21
    refine ⟨_, rfl, q, C, dx2, _, _, rfl, g1, T.cl, T.nM, df_many _ _ _ _ _ _, _, rfl, p, C, dx, _, _, rfl, h1, T.cl, T.nW, df_words _ _ _ _ _ _, t1, _, rfl, .inr (SqT.of h3), fun L1 nL1 => ?_⟩
    have e2 := same_new (o := .lst (txs us)) nL1
    have hL1 : upd H1 L1 (.lst (txs us)) L1 = some (.lst (txs us)) := upd_same
    generalize upd H1 L1 (.lst (txs us)) = H2 at e2 hL1 ⊢
    refine ⟨_, rfl, q, C, dx2, _, _, rfl, e2 _ _ g1, T.cl, T.nW, df_words _ _ _ _ _ _, t2, _, rfl, .inr (SqT.of (e2 _ _ g3)), fun L2' nL2 => ?_⟩
    have e3 := same_new (o := .lst (txs ws)) nL2
    have hL2 : upd H2 L2' (.lst (txs ws)) L2' = some (.lst (txs ws)) := upd_same
    generalize upd H2 L2' (.lst (txs ws)) = H3 at e3 hL2 ⊢
    have lws := O2.many
    refine ⟨L1, L2', us, ws, rfl, e3 _ _ hL1, hL2, by omega, by omega, fun s1 H4 e4 hs1 => ?_⟩
    have e14 := e2.trans (e3.trans e4)
    refine made_ok (.inr (SqT.of hs1)) mv_num (by omega) (by omega) (by rw [mv_len]; omega) (mv_scan O2.up us 0 0 O.up fun _ _ _ => by omega) fun r H5 e5 nr M => ⟨rfl, ?_⟩
    have M35 := M3.same (e14.trans e5)
    have both : (mv us ws).map (compF (mv ws us)) = mvp (fun u => put || decide (u ≠ w)) us us := by
      rw [mv_mvp us ws, mvp_comp (fun u hu z => of_decide_eq_true z)]
      refine mvp_congr fun u hu => ?_
      rcases cs with ⟨rfl, nw, pm⟩ | ⟨rfl, mw, rfl⟩
      · rw [decide_eq_true hu, decide_eq_true (pm.mem_iff.mpr (List.mem_append_left _ hu))]
        rfl
      · rw [decide_eq_true hu, Bool.and_true, Bool.false_or]
        exact decide_eq_decide.mpr ⟨fun z => (O.nd.mem_erase_iff.mp z).1, fun z => O.nd.mem_erase_iff.mpr ⟨z, hu⟩⟩
    obtain ⟨dxm, tm, hm1, hm2⟩ := id M
    refine ⟨_, rfl, r, dxm, _, rfl, hm1, mapF_no _ _ (by decide +kernel) (by decide +kernel), _, rfl, r, tn, _, _, _, _, rfl, M, M35, by rw [mv_len], fun v hv => ?_, mv_num, by omega, by omega, by rw [mv_len]; omega, ?_, fun r2 H6 e6 nr2 M6 => ?_⟩
    · obtain ⟨u, hu, rfl⟩ := List.mem_map.mp hv
      by_cases c : u ∈ ws
      · rw [if_pos c]
        exact .inr ⟨_, rfl, by rw [mv_len]; exact List.idxOf_lt_length_of_mem c⟩
      · rw [if_neg c]
        exact .inl rfl
    · rw [both]
      exact mvp_scan O.up us 0 0 (fun _ h _ => h) O.up fun _ _ _ => by omega
    rw [both] at M6
    have e16 := e14.trans (e5.trans e6)
    have D6 := D1.same e16
    have E6 := D3.same e16
    obtain ⟨dx6, _, t6, _, _, i1, _, i3, _⟩ := id D6
    refine ⟨_, rfl, p, C, dx6, _, _, rfl, i1, T.cl, T.nM, df_many _ _ _ _ _ _, _, rfl, by omega, by omega, ?_⟩
    intro L nL
    refine lc_it walk_range (fun i H' => Same H6 H' ∧ H' L = some (.lst ((List.range i).map fun i => if (put || decide (us.getD i [] ≠ w)) = true then V.int ((i : Nat) : Int) else .non))) ⟨same_new nL, upd_same⟩ (fun _ _ _ _ => True.intro) ?_ ?_
    · rintro i x H7 H8 hi ⟨e7, hL⟩ ⟨rfl, hx⟩
      have hi2 : i < us.length := by omega
      have gu : us.getD i [] = us[i] := by rw [List.getD_eq_getElem?_getD, List.getElem?_eq_getElem hi2]; rfl
      have fin : ∀ y, y = (if (put || decide (us.getD i [] ≠ w)) = true then V.int ((i : Nat) : Int) else .non) → ∃ acc, H8 L = some (.lst acc) ∧ acc.length < sizeLine ∧ Same H6 (upd H8 L (.lst (acc ++ [y]))) ∧ upd H8 L (.lst (acc ++ [y])) L = some (.lst ((List.range (i + 1)).map fun i => if (put || decide (us.getD i [] ≠ w)) = true then V.int ((i : Nat) : Int) else .non)) := fun y ey => by
        refine ⟨_, hL, ?_, fun b o z => ?_, ?_⟩
        · rw [List.length_map, List.length_range]
          exact small10 (by omega)
        · rw [upd_ne (ne_of_none z nL)]
          exact e7 _ _ z
        · rw [upd_same, List.range_succ, List.map_append, ey]
          rfl
      have ex : x = V.int ((i : Nat) : Int) := by rw [hx]; show V.int (0 + ((i : Nat) : Int)) = _; rw [Int.zero_add]
      subst ex
      refine ⟨rfl, yesT ⟨_, rfl, put, rfl, ?_⟩⟩
      clear both cs M6
      cases put with
      | true => exact iteT (iteT ⟨_, rfl, fin _ rfl⟩)
      | false =>
        refine iteF ⟨_, rfl, p, C, dx6, _, _, rfl, e7 _ _ i1, T.cl, T.nW, df_words _ _ _ _ _ _, _, rfl, t6, _, _, _, rfl, rfl, SqT.of (e7 _ _ i3), atI_nat (show (us.map fun w => V.str (S w))[i]? = some (.str (S us[i])) by rw [List.getElem?_map, List.getElem?_eq_getElem hi2]; rfl), _, rfl, rfl, _, rfl, ?_⟩
        rw [gu] at fin
        by_cases e : us[i] = w
        · rw [decide_eq_true (by rw [e])]
          exact iteF (fin _ (by rw [if_neg (by simp [e])]))
        · rw [decide_eq_false fun z => e (S_inj (V.str.inj z))]
          exact iteT ⟨_, rfl, fin _ (by rw [if_pos (by simp [e])])⟩
    · rintro H7 ⟨e7, hL⟩
      rw [Int.toNat_natCast, due_mvp (p := fun u => put || decide (u ≠ w)) O.nd] at hL
      refine .inl ⟨L, _, rfl, SqL.of hL, fun du ndu => ?_⟩
      have e8 := same_new (o := .tup (mvp (fun u => put || decide (u ≠ w)) us us)) ndu
      have hdu : upd H7 du (.tup (mvp (fun u => put || decide (u ≠ w)) us us)) du = some (.tup (mvp (fun u => put || decide (u ≠ w)) us us)) := upd_same
      generalize upd H7 du (.tup (mvp (fun u => put || decide (u ≠ w)) us us)) = H8 at e8 hdu ⊢
      have e68 := e7.trans e8
      obtain ⟨dxe, _, _, _, _, j1, _⟩ := id (E6.same e68)
      obtain ⟨dxb, tb, hb1, hb2⟩ := id (M6.same e68)
      refine ⟨_, rfl, _, rfl, bk, dxe, _, .ref C, rfl, j1, (D6.same e68).ty T TE, nfD, bk, _, ls, us, rfl, E6.same e68, O, .inl ⟨p, ls, us, rfl, D6.same e68, O, ?_⟩⟩
      rw [decide_eq_true rfl, decide_eq_true rfl]
      refine ⟨⟨_, rfl⟩, _, rfl, iteT ⟨_, rfl, r2, CM, dxb, _, _, rfl, hb1, TM.cl, TM.nN, mapF_numbers _ _, _, rfl, tb, du, _, _, rfl, rfl, .inr ⟨hb2, SqT.of hdu⟩, mvp_num, mvp_num, ?_⟩⟩
      rw [if_neg (by decide), decide_eq_true rfl]
      refine ⟨_, rfl, iteT ⟨_, rfl, r2, CM, dxb, _, _, rfl, hb1, TM.cl, TM.nM, mapF_many _ _, _, rfl, p, C, dx6, _, _, rfl, e68 _ _ i1, T.cl, T.nM, df_many _ _ _ _ _ _, rfl, ?_⟩⟩
      rw [decide_eq_true rfl]
      exact k _ (ex1.trans (ext_of (e16.trans e68))) (tb1.ext (e16.trans e68))
end
end K03
set_option Elab.async false
set_option linter.all false
set_option maxRecDepth 100001
set_option maxHeartbeats 3999999
namespace K03
open PySem L2
/-! ### which numbers fit, before and behind -/
theorem range_get (us : List (List Nat)) : (List.range us.length).map (fun i => us.getD i []) = us := by
  refine List.ext_getElem? fun i => ?_
  rw [List.getElem?_map]
  by_cases c : i < us.length
  · rw [List.getElem?_range c, List.getElem?_eq_getElem c]
    show some (us.getD i []) = _
    rw [List.getD_eq_getElem?_getD, List.getElem?_eq_getElem c]
    rfl
  · rw [List.getElem?_eq_none (by rw [List.length_range]; omega), List.getElem?_eq_none (by omega)]
    rfl
theorem filter_range {β : Type} (us : List (List Nat)) (p : List Nat → Bool) (g : List Nat → β) : (us.filter p).map g = ((List.range us.length).filter fun i => p (us.getD i [])).map fun i => g (us.getD i []) := by
  conv => lhs; rw [← range_get us, List.filter_map, List.map_map]
  rfl
theorem intsOf_if (l : List Nat) (q : Nat → Bool) (f : Nat → Int) : intsOf (l.map fun i => if q i = true then V.int (f i) else .non) = (l.filter q).map f := by
  induction l with
  | nil => rfl
  | cons a l ih =>
    rw [List.map_cons]
    by_cases c : q a = true
    · rw [if_pos c, List.filter_cons_of_pos c, List.map_cons, ← ih]
      rfl
    · rw [if_neg c, List.filter_cons_of_neg c, ← ih]
      rfl
/-- the numbers in ws of the words of us that fit and are in ws -/
def F2 (its us ws : List (List Nat)) : List Int := (us.filter fun u => fitB its u && decide (u ∈ ws)).map fun u => ((ws.idxOf u : Nat) : Int)
theorem beh_eq (its us ws : List (List Nat)) : intsOf ((fitN its us).map (atN (mv us ws))) = F2 its us ws := by
  unfold F2 fitN
  rw [filter_range, List.map_map]
  have e : ∀ i ∈ (List.range us.length).filter (fun i => fitB its (us.getD i [])), (atN (mv us ws) ∘ fun (i : Nat) => (i : Int)) i = if decide (us.getD i [] ∈ ws) = true then V.int ((ws.idxOf (us.getD i []) : Nat) : Int) else .non := fun i hi => by
    have lt : i < us.length := List.mem_range.mp (List.mem_filter.mp hi).1
    show (mv us ws).getD ((i : Int).toNat) .non = _
    rw [Int.toNat_natCast, mv, List.getD_eq_getElem?_getD, List.getElem?_map, List.getElem?_eq_getElem lt, List.getD_eq_getElem?_getD, List.getElem?_eq_getElem lt]
    show (if us[i] ∈ ws then _ else _) = if decide (us[i] ∈ ws) = true then _ else _
    by_cases c : us[i] ∈ ws
    · rw [if_pos c, if_pos (by simpa using c)]
      rfl
    · rw [if_neg c, if_neg (by simpa using c)]
  rw [List.map_congr_left e, intsOf_if (List.filter _ _) (fun i => decide (us.getD i [] ∈ ws)) (fun i => ((ws.idxOf (us.getD i []) : Nat) : Int)), List.filter_filter]
  congr 1
  refine List.filter_congr fun i _ => Bool.and_comm _ _
theorem fitN_eq {its ws : List (List Nat)} (nd : ws.Nodup) : fitN its ws = (ws.filter (fitB its)).map fun u => ((ws.idxOf u : Nat) : Int) := by
  unfold fitN
  rw [filter_range]
  refine List.map_congr_left fun i hi => ?_
  have lt : i < ws.length := List.mem_range.mp (List.mem_filter.mp hi).1
  rw [idx_get nd (i := i) (u := ws.getD i []) (by rw [List.getD_eq_getElem?_getD, List.getElem?_eq_getElem lt]; rfl)]
theorem fitN_up (its ws : List (List Nat)) : (fitN its ws).Pairwise (· < ·) := by
  unfold fitN
  rw [List.pairwise_map]
  refine (List.Pairwise.filter _ List.pairwise_lt_range).imp fun h => ?_
  exact Int.ofNat_lt.mpr h
theorem fitN_b {its ws : List (List Nat)} : ∀ i ∈ fitN its ws, 0 ≤ i ∧ i ≤ (ws.length : Int) - 1 := fun i hi => by
  obtain ⟨j, hj, rfl⟩ := List.mem_map.mp hi
  have := List.mem_range.mp (List.mem_filter.mp hj).1
  omega
theorem F2_up {ls : List Nat} {its us ws : List (List Nat)} (hu : us.Pairwise fun a b => key ls a < key ls b) (hw : ws.Pairwise fun a b => key ls a < key ls b) : (F2 its us ws).Pairwise (· < ·) := by
  unfold F2
  rw [List.pairwise_map]
  refine List.Pairwise.imp_of_mem (R := fun a b => key ls a < key ls b) (fun {a b} ha hb h => ?_) (List.Pairwise.filter _ hu)
  have ma : a ∈ ws := by have := (List.mem_filter.mp ha).2; simp at this; exact this.2
  have mb : b ∈ ws := by have := (List.mem_filter.mp hb).2; simp at this; exact this.2
  exact Int.ofNat_lt.mpr (idx_up hw ma mb h)
theorem F2_b {its us ws : List (List Nat)} : ∀ i ∈ F2 its us ws, 0 ≤ i ∧ i ≤ (ws.length : Int) - 1 := fun i hi => by
  obtain ⟨u, hu, rfl⟩ := List.mem_map.mp hi
  have m : u ∈ ws := by have := (List.mem_filter.mp hu).2; simp at this; exact this.2
  have := List.idxOf_lt_length_of_mem m
  omega
theorem F2_len (its us ws : List (List Nat)) : (F2 its us ws).length ≤ us.length := by
  unfold F2
  rw [List.length_map]
  exact List.length_filter_le ..
/-- the word's own number, if it fits -/
def ownN (its ws : List (List Nat)) (w : List Nat) : List Int := (if w ∈ ws then [((ws.idxOf w : Nat) : Int)] else []).filter fun i => decide (i ∈ fitN its ws)
theorem own_in {its ws : List (List Nat)} {w : List Nat} (h : w ∈ ws) : (((ws.idxOf w : Nat) : Int) ∈ fitN its ws) ↔ fitB its w = true := by
  have lt := List.idxOf_lt_length_of_mem h
  have ge : ws.getD (ws.idxOf w) [] = w := by
    rw [List.getD_eq_getElem?_getD, List.getElem?_eq_getElem lt]
    show ws[ws.idxOf w] = w
    exact List.getElem_idxOf lt
  unfold fitN
  constructor
  · intro m
    obtain ⟨j, hj, e⟩ := List.mem_map.mp m
    have e : j = ws.idxOf w := by omega
    subst e
    have := (List.mem_filter.mp hj).2
    rw [ge] at this
    exact this
  · intro f
    exact List.mem_map.mpr ⟨ws.idxOf w, List.mem_filter.mpr ⟨List.mem_range.mpr lt, by rw [ge]; exact f⟩, rfl⟩
theorem put_perm {its us ws : List (List Nat)} {w : List Nat} (p : ws.Perm (us ++ [w])) (nd : ws.Nodup) : (F2 its us ws ++ ownN its ws w).Perm (fitN its ws) := by
  have hw : w ∈ ws := p.mem_iff.mpr (by simp)
  have hu : ∀ u ∈ us, u ∈ ws := fun u h => p.mem_iff.mpr (by simp [h])
  rw [fitN_eq nd]
  have h := ((p.filter (fitB its)).map fun u => ((ws.idxOf u : Nat) : Int)).symm
  refine List.Perm.trans ?_ h
  rw [List.filter_append, List.map_append]
  refine List.Perm.append (List.Perm.of_eq ?_) (List.Perm.of_eq ?_)
  · unfold F2
    congr 1
    refine List.filter_congr fun u m => ?_
    simp [hu u m]
  · unfold ownN
    rw [if_pos hw]
    by_cases c : fitB its w = true
    · rw [List.filter_cons_of_pos (by simpa using (own_in hw).mpr c), List.filter_cons_of_pos c]
      rfl
    · rw [List.filter_cons_of_neg (by simpa using fun m => c ((own_in hw).mp m)), List.filter_cons_of_neg c]
      rfl
theorem struck_perm {its us : List (List Nat)} {w : List Nat} (nd : us.Nodup) : (F2 its us (us.erase w) ++ ownN its (us.erase w) w).Perm (fitN its (us.erase w)) := by
  have no : w ∉ us.erase w := fun m => by
    have := (List.Nodup.mem_erase_iff nd).mp m
    exact this.1 rfl
  have o : ownN its (us.erase w) w = [] := by
    unfold ownN
    rw [if_neg no]
    rfl
  rw [o, List.append_nil, fitN_eq (nd.erase w)]
  refine List.Perm.of_eq ?_
  unfold F2
  congr 1
  rw [List.Nodup.erase_eq_filter nd w, List.filter_filter]
  refine List.filter_congr fun u m => ?_
  have : (u ∈ us.filter fun x => x != w) ↔ u ≠ w := by
    rw [List.mem_filter]
    simp [m]
  have d : decide (u ∈ us.filter fun x => x != w) = decide (u ≠ w) := decide_eq_decide.mpr this
  rw [d]
  by_cases e : u = w
  · subst e
    simp
  · simp [e]
theorem asc_eq : ∀ {a b : List Int}, a.Perm b → a.Pairwise (· ≤ ·) → b.Pairwise (· < ·) → a = b := fun p h1 h2 => p.eq_of_pairwise (le := (· ≤ ·)) (fun a b _ _ x y => Int.le_antisymm x y) h1 (h2.imp Int.le_of_lt)
theorem expand_rngs {is : List Int} {n : Int} (hb : ∀ i ∈ is, 0 ≤ i ∧ i ≤ n - 1) (hp : is.Pairwise (· < ·)) : expand (rngs is) = is := (rngs_up is hb hp).ex
theorem struck_filter {us : List (List Nat)} {w : List Nat} (nd : us.Nodup) : us.filter (fun u => decide (u ≠ w)) = us.erase w := by
  rw [List.Nodup.erase_eq_filter nd w]
  refine List.filter_congr fun u _ => ?_
  cases h : decide (u = w) <;> simp_all [bne]
theorem perm_of_mem : ∀ {us vs : List (List Nat)}, us.Nodup → vs.Nodup → (∀ w, w ∈ us ↔ w ∈ vs) → us.Perm vs := fun h1 h2 h => (List.perm_ext_iff_of_nodup h1 h2).mpr h
theorem nd_up {ls : List Nat} {us : List (List Nat)} (h : us.Pairwise fun a b => key ls a < key ls b) : us.Nodup := h.imp fun {a b} h e => by
  subst e
  exact List.lt_irrefl _ h
/-! ### what stays while the pen and the plan change -/
def HasR (kvs : List (Key × V)) : Prop := ∃ p ∈ kvs, ∃ a, p.2 = V.ref a
def Stay (o : HO) : Prop := (∀ kvs, o = .dK kvs → ¬ HasR kvs) ∧ ∀ ps, o ≠ .tbl ps
def Kq (H H' : Hp) : Prop := ∀ b o, Stay o → H b = some o → H' b = some o
theorem Kq.refl (H : Hp) : Kq H H := fun _ _ _ h => h
theorem Kq.trans {H H1 H2 : Hp} (a : Kq H H1) (b : Kq H1 H2) : Kq H H2 := fun c o s h => b c o s (a c o s h)
theorem Kq.same {H H' : Hp} (e : Same H H') : Kq H H' := fun _ _ _ h => e _ _ h
theorem Kq.ext {H H' : Hp} (e : LamX.ExtN H H') : Kq H H' := fun _ _ s h => e _ _ h s.2
theorem hasR_of {kvs : List (Key × V)} {k : Key} {a : Addr} (h : valV kvs k = some (.ref a)) : HasR kvs := by
  unfold valV at h
  obtain ⟨p, hp, e⟩ := Option.map_eq_some_iff.mp h
  exact ⟨p, List.mem_of_find?_eq_some hp, a, e⟩
theorem penK_R (cl : Addr) (k l : Int) : HasR (penK cl k l) := ⟨_, List.mem_cons_self .., cl, rfl⟩
theorem Kq.but {H H' : Hp} {pn cl : Addr} {b : Nat} (pen : Pen H pn cl b) (e : But pn H H') : Kq H H' := fun c o s h => by
  obtain ⟨k, l, cs, p1, _⟩ := pen
  exact e c o (ne_of h p1 fun z => s.1 _ z (penK_R cl k l)) h
theorem Kq.upd {H : Hp} {pl : Addr} {kvs : List (Key × V)} (h : H pl = some (.dK kvs)) (r : HasR kvs) (o : HO) : Kq H (L2.upd H pl o) := fun c o' s h' => by
  rw [upd_ne (ne_of h' h fun z => s.1 _ z r)]
  exact h'
theorem stay_asc {kf : Nat → Key} {vf : Nat → V} {n : Nat} (h : ∀ j a, vf j ≠ .ref a) : Stay (.dK (asc kf vf n)) := by
  refine ⟨fun kvs e r => ?_, fun _ z => nomatch z⟩
  cases e
  obtain ⟨p, hp, a, e⟩ := r
  obtain ⟨j, _, rfl⟩ := List.mem_map.mp hp
  exact h j a e
theorem stay_lst {xs : List V} : Stay (.lst xs) := ⟨fun _ z => (nomatch z), fun _ z => nomatch z⟩
theorem stay_tup {xs : List V} : Stay (.tup xs) := ⟨fun _ z => (nomatch z), fun _ z => nomatch z⟩
theorem stay_ins {C dx : Addr} {fs : List (Str × V)} : Stay (.ins C dx fs) := ⟨fun _ z => (nomatch z), fun _ z => nomatch z⟩
theorem IsD.kq {C : Addr} {H H' : Hp} {p : Addr} {ls : List Nat} {ws : List (List Nat)} (h : IsD C H p ls ws) (e : Kq H H') : IsD C H' p ls ws := by
  obtain ⟨dx, pl, t, kk, nn, h1, h2, h3, h4, h5⟩ := h
  exact ⟨dx, pl, t, kk, nn, e _ _ stay_ins h1, e _ _ (stay_asc (kf := plainF ls) (vf := fun j => .str (S [97 + j])) fun _ _ z => nomatch z) h2, e _ _ stay_tup h3, e _ _ stay_lst h4, e _ _ (stay_asc (kf := numF ws) (vf := fun j => .int (j : Nat)) fun _ _ z => nomatch z) h5⟩
theorem IsMap.kq {K : PySem.W.Frag} {C : Addr} {H H' : Hp} {p : Addr} {m : Int} {ns : List V} (q : IsMap K C H p m ns) (e : Kq H H') : IsMap K C H' p m ns := by
  obtain ⟨dx, t, h1, h2⟩ := q
  refine ⟨dx, t, e _ _ stay_ins h1, ?_⟩
  rcases h2 with (h | ⟨o, h⟩) | h
  · exact .inl (.inl (e _ _ stay_tup h))
  · exact .inl (.inr ⟨o, e _ _ ⟨fun _ z => (nomatch z), fun _ z => nomatch z⟩ h⟩)
  · exact .inr h
theorem IsP.kq {C : Addr} {H H' : Hp} {p : Addr} {ls : List Nat} {its : List (List Nat)} (h : IsP C H p ls its) (e : Kq H H') : IsP C H' p ls its :=
  let ⟨dx, a, M, Kk, Cl, sts, mv, h1, h2, h3, h4, h5, h6, h7⟩ := h
  ⟨dx, a, M, Kk, Cl, sts, mv, e _ _ stay_ins h1, e _ _ stay_lst h2, h3, h4.same fun a ys z => e _ _ stay_tup z, e _ _ stay_lst h5, h6, e _ _ (stay_asc (kf := colF ls) (vf := fun j => .int ((j : Nat) : Int)) fun _ _ z => nomatch z) h7⟩
theorem putK_old {kvs : List (Key × V)} {k : Key} {v x : V} (h : valV kvs k = some x) : (putK kvs k v).length = kvs.length := by
  unfold valV at h
  obtain ⟨p, hp, _⟩ := Option.map_eq_some_iff.mp h
  have a : (kvs.any fun kv => decide (kv.1 = k)) = true := List.any_eq_true.mpr ⟨p, List.mem_of_find?_eq_some hp, List.find?_some (p := fun (kv : Key × V) => decide (kv.1 = k)) hp⟩
  unfold putK
  rw [if_pos a, List.length_map]
end K03
set_option Elab.async false
set_option linter.all false
set_option maxRecDepth 100001
set_option maxHeartbeats 3999999
namespace K03
open PySem L2
abbrev sChg : Stmt := topS 54
/-- the law's plan -/
def IsPlan (K : PySem.W.Frag) (C CM CP : Addr) (H : Hp) (pl : Addr) (ls : List Nat) (us0 us its pool sk : List (List Nat)) : Prop := ∃ (kvs : List (Key × V)) (p wl it pat po wh st : Addr),
  H pl = some (.dK kvs) ∧ kvs.length ≤ 20 ∧ valV kvs (.inr "found") = some (.ref p) ∧ valV kvs (.inr "words") = some (.ref wl) ∧ valV kvs (.inr "letters") = some (.str (S ls)) ∧ valV kvs (.inr "items") = some (.ref it) ∧ valV kvs (.inr "pattern") = some (.ref pat) ∧ valV kvs (.inr "pool") = some (.ref po) ∧ valV kvs (.inr "whole") = some (.ref wh) ∧ valV kvs (.inr "struck") = some (.ref st) ∧
  IsD C H p ls us ∧ H wl = some (.lst (txs us)) ∧ H it = some (.tup (txs its)) ∧ IsP CP H pat ls its ∧ H po = some (.lst (txs pool)) ∧ IsMap K CM H wh (us.length : Nat) (mvp (fun u => decide (u ∉ sk)) us0 us) ∧ H st = some (.lst (txs sk))
/-- what holds of what the plan tells -/
structure PlanOk (ls : List Nat) (us0 us its pool sk : List (List Nat)) (n : Nat) : Prop where
  LL : LLet ls
  O : OkD ls us
  O0 : OkD ls us0
  few0 : us0.length ≤ 20
  few : us.length ≤ n
  w5 : ∀ u ∈ us, u.length ≤ 5
  itl : its.length ≤ 5 ∧ ∀ it ∈ its, it.length ≤ 100
  poo : pool ≠ [] ∧ pool.length ≤ 100 ∧ ∀ w ∈ pool, w.length ≤ 5 ∧ ∀ c ∈ w, c ∈ ls
  skl : sk.length ≤ n
  inn : ∀ u ∈ us0, u ∉ sk → u ∈ us
theorem tabs_but {Tb : List (Addr × Str)} {H H' : Hp} {pn cl : Addr} {b : Nat} (tabs : LamX.Tabs Tb H) (pen : Pen H pn cl b) (bt : But pn H H') : LamX.Tabs Tb H' := by
  obtain ⟨k, l, cs, p1, _⟩ := pen
  exact tabs_at tabs p1 (fun _ z => nomatch z) (fun _ z => nomatch z) bt
theorem txs_len (us : List (List Nat)) : (txs us).length = us.length := by
  unfold txs
  exact List.length_map ..
theorem expand_take (ps : List (Int × Int)) (i : Nat) : (expand (ps.take i)).length ≤ (expand ps).length := by
  conv => rhs; rw [← List.take_append_drop i ps]
  unfold expand
  rw [List.map_append, List.flatten_append, List.length_append]
  omega
theorem rgV_seg (p : Int × Int) : rgV p.1 (p.2 + 1) = (seg p).map V.int := by
  unfold rgV seg
  rw [List.map_map]
  rfl
theorem eqV_int {j k : Int} : eqV (.int j) (.int k) = decide (k = j) := by
  show (j == k) = _
  rw [Bool.eq_iff_iff, decide_eq_true_iff, beq_iff_eq]
  exact ⟨fun h => h.symm, fun h => h.symm⟩
theorem in_ints {k : Int} : ∀ {is : List Int}, inV (.int k) (is.map V.int) = decide (k ∈ is)
  | [] => by simp [inV]
  | j :: is => by
    have ih := in_ints (k := k) (is := is)
    have e : inV (.int k) ((j :: is).map V.int) = (eqV (.int j) (.int k) || inV (.int k) (is.map V.int)) := by simp [inV]
    rw [e, ih, eqV_int]
    simp only [List.mem_cons, Bool.decide_or]
theorem flat_ints (is : List Int) : (is.map V.int).all flatV = true := by
  rw [List.all_map]
  exact List.all_eq_true.mpr fun _ _ => rfl
def ownI (ws : List (List Nat)) (u : List Nat) : List Int := if u ∈ ws then [((ws.idxOf u : Nat) : Int)] else []
theorem ownI_V (ws : List (List Nat)) (u : List Nat) : (if u ∈ ws then [V.int ((ws.idxOf u : Nat) : Int)] else []) = (ownI ws u).map V.int := by
  unfold ownI
  by_cases c : u ∈ ws
  · rw [if_pos c, if_pos c]
    rfl
  · rw [if_neg c, if_neg c]
    rfl
theorem ownI_len (ws : List (List Nat)) (u : List Nat) : (ownI ws u).length ≤ 1 := by
  unfold ownI
  by_cases c : u ∈ ws
  · rw [if_pos c]
    exact Nat.le_refl _
  · rw [if_neg c]
    exact Nat.zero_le _
/-- a step of the plan: one of its things set -/
structure Stp (Tb : List (Addr × Str)) (pn cl pl : Addr) (b : Nat) (kvs : List (Key × V)) (H H' : Hp) : Prop where
  kq : Kq H H'
  pl : H' pl = some (.dK kvs)
  pen : Pen H' pn cl b
  tabs : LamX.Tabs Tb H'
theorem stp_put {Tb : List (Addr × Str)} {pn cl pl : Addr} {b : Nat} {kvs : List (Key × V)} {H : Hp} (k : Key) (v : V) (h : H pl = some (.dK kvs)) (r : HasR kvs) (pen : Pen H pn cl b) (tabs : LamX.Tabs Tb H) (npl : pl ≠ pn) (ncl : cl ≠ pl) : Stp Tb pn cl pl b (putK kvs k v) H (upd H pl (.dK (putK kvs k v))) :=
  ⟨Kq.upd h r _, upd_same, pen.upd npl.symm ncl, tabs_at tabs h (fun _ z => nomatch z) (fun _ z => nomatch z) fun c o n z => (upd_ne n).trans z⟩
def spChg (K : PySem.W.Frag) (C CM CP : Addr) (Tb : List (Addr × Str)) : Sp := fun vs H Q _ => ∃ (pn cl pl : Addr) (b n : Nat) (ls : List Nat) (us0 us its pool sk : List (List Nat)), vs = [.ref pn, .ref pl] ∧ Pen H pn cl b ∧ b ≤ 900000 ∧ IsPlan K C CM CP H pl ls us0 us its pool sk ∧ PlanOk ls us0 us its pool sk n ∧ n ≤ 30 ∧ LamX.Tabs Tb H ∧
  ∀ us' sk' H', Pen H' pn cl (b + 1) → IsPlan K C CM CP H' pl ls us0 us' its pool sk' → PlanOk ls us0 us' its pool sk' (n + 1) → Kq H H' → LamX.Tabs Tb H' → Q (.bl true) H'
section
variable {P : Program} {w : World} {K : PySem.W.Frag} {mg : Str → Option Value} {base : Heap}
abbrev NCh : List Str := ["_law_pen_here", "_law_plan", "_law_found", "_law_words", "_law_letters_here", "_law_word_here", "_law_put", "_law_more", "_law_move", "_law_later", "_law_fitting", "_law_numbers", "_law_first", "_law_last", "_law_own_here", "_law_other", "_law_number"]
theorem scChg : FnScope NCh ["_law_pen_here", "_law_plan"] (defScope sChg) := ⟨rfl, rfl, rfl, by decide +kernel, rfl, by decide +kernel, by decide +kernel⟩
theorem ok_chg {f C CM CP : Addr} {fd : FuncData} {Tb : List (Addr × Str)} (F : Fun K "_law_changed" "_law_changed" sChg f fd) (B : Bi mg) (B' : Bs mg) (T : Txd K C) (TM : TxtM K CM) (TP : TxP K CP)
    (cPk : Cal CX0 P w K mg base 2 "_law_pick" spPick) (mP : Met CX0 P w K mg base 7 C "put_in" (spPut K C CM Tb)) (mS : Met CX0 P w K mg base 7 C "strike_out" (spStrike K C CM Tb)) (cO : Cal CX0 P w K mg base 2 "_law_ordered" spLOrd) (cM : Cal CX0 P w K mg base 1 "_law_moves" spMoves) (cRd : Cal CX0 P w K mg base 1 "_law_reads" spReads)
    (mRB : Met CX0 P w K mg base 4 CM "ranges_behind" (spRanB K CM)) (mRi : Met CX0 P w K mg base 2 CP "ranges_in" (spRin CP C)) (cOwn : Cal CX0 P w K mg base 6 "_law_own" (spOwn C)) (cLR : Cal CX0 P w K mg base 1 "_law_ranges" spRngs) (mF : Met CX0 P w K mg base 5 CM "followed_by" (spFoll K CM)) (cBk : Cal CX0 P w K mg base 8 "_law_back_right" (spBack C Tb)) :
    FnOk P w K mg base CX0 9 f fd ["_law_pen_here", "_law_plan"] (spChg K C CM CP Tb) := by
  refine F.ok scChg (fun vs H Q E h => ?_) (fun cdv A outer s H vs Q E hr h => ?_)
  · obtain ⟨pn, cl, pl, b, n, ls, us0, us, its, pool, sk, rfl, _⟩ := h
    rfl
  · obtain ⟨pn, cl, pl, b, n, ls, us0, us, its, pool, sk, rfl, pen, hb, plan, ok, n30, tabs, k⟩ := h
    have hu := hu_of hr
    refine ⟨_, pss_cons (ps_par3 (i := 2) (j := 3) (l := 4) rfl scChg.nd rfl rfl rfl (by decide) (by decide) (by decide) rfl rfl rfl (pa_cons (pe_dget hu (pv 1) pe_str (fun _ _ => rfl)) (pa_cons (pe_dget hu (pv 1) pe_str (fun _ _ => rfl)) (pa_cons (pe_dget hu (pv 1) pe_str (fun _ _ => rfl)) pa_nil))) rfl)
      (pss_cons (ps_set (i := 5) scChg.nd rfl (Or.inr rfl) (pe_c cPk hr pass0 (pa_cons (pv 0) (pa_cons (pe_dget hu (pv 1) pe_str (fun _ _ => rfl)) pa_nil))))
      (pss_cons (ps_set (i := 6) scChg.nd rfl (Or.inl rfl) (pe_cmpR op_notIn_seq (pv 5) (pv 3) rfl))
      (pss_cons (ps_asg (pe_ifExp (pt_val (pv 6)) (pe_mt mP hr pass0 (pv 2) (pa_cons (pv 5) pa_nil)) (pe_mt mS hr pass0 (pv 2) (pa_cons (pv 5) pa_nil))) (pg_tup rfl (pgs_cons (pg_name (i := 7) scChg.nd rfl (Or.inl rfl)) (pgs_cons (pg_name (i := 8) scChg.nd rfl (Or.inl rfl)) pgs_nil))))
      (pss_cons (ps_set (i := 9) scChg.nd rfl (Or.inr rfl) (pe_ifExp (pt_val (pv 6)) (pe_c cO hr pass0 (pa_cons (pv 4) (pa_cons (pe_op op_cat (pv 3) (pe_lst (pa_cons (pv 5) pa_nil))) pa_nil)))
          (pe_lc (own := [("_law_other", 15)]) rfl scChg.nd (pi_sqA (pv 3)) (blkOk_by (N := NCh) (sc := defScope sChg) (by decide +kernel))
            (fun _ _ _ _ _ => pg_name (i := 15) scChg.nd rfl (Or.inl rfl)) (fun _ _ _ _ _ => pts_one (pt_cmpR op_ne (pv 15) (pv 5) (nomark _))) (fun _ _ _ _ _ => pv 15))))
      (pss_cons (ps_if (PW.pt (pw_or (pt_cmpR (op_neT (hu64 hr)) (pe_fld (pv 7) rfl) (pe_tupleOf rfl B.tuple (pv 9)) (nomark _)) (pw_or (pt_cmpR (op_neN (hu64 hr)) (pe_fld (pv 8) rfl) (pe_c cM hr pass0 (pa_cons (pv 3) (pa_cons (pv 9) pa_nil))) (nomark _)) (pw_or1 (pt_cmpR op_ne (pe_fld (pv 8) rfl) (pe_len B.len (pa_cons (pv 9) pa_nil)) (nomark _)))))) pss_never pss_nil)
      (pss_cons (ps_set (i := 10) scChg.nd rfl (Or.inr rfl) (pe_lc (own := [("_law_number", 16)]) rfl scChg.nd (pi_range1 rfl B.range (pa_cons (pe_len B.len (pa_cons (pv 9) pa_nil)) pa_nil)) (blkOk_by (N := NCh) (sc := defScope sChg) (by decide +kernel))
            (fun _ _ _ _ _ => pg_name (i := 16) scChg.nd rfl (Or.inl rfl)) (fun _ _ _ _ _ => pts_one (pt_val (pe_c cRd hr pass0 (pa_cons (pe_dget hu (pv 1) pe_str (fun _ _ => rfl)) (pa_cons (pe_ix (ix_listK K rfl) (pv 9) (pv 16) (fun _ _ => rfl)) pa_nil))))) (fun _ _ _ _ _ => pv 16)))
      (pss_cons (ps_set (i := 11) scChg.nd rfl (Or.inl rfl) (pe_lst pa_nil))
      (pss_cons (ps_for PassesOwn.never rfl (pi_sqA (pe_mt mRB hr pass0 (pv 8) (pa_cons (pe_mt mRi hr pass0 (pe_dget hu (pv 1) pe_str (fun _ _ => rfl)) (pa_cons (pv 2) pa_nil)) pa_nil))) (pg_tup rfl (pgs_cons (pg_name (i := 12) scChg.nd rfl (Or.inl rfl)) (pgs_cons (pg_name (i := 13) scChg.nd rfl (Or.inl rfl)) pgs_nil)))
          (pss_one (ps_set (i := 11) scChg.nd rfl (Or.inl rfl) (pe_op op_cat (pv 11) (pe_listRg rfl rfl B.list (prg_2 rfl B.range (pv 12) (pe_op op_add (pv 13) pe_int)))))))
      (pss_cons (ps_setLc (i := 14) (own := [("_law_number", 16)]) rfl scChg.nd rfl rfl (sw_true rfl rfl rfl (by decide +kernel)) (pi_sqA (pe_c cOwn hr pass0 (pa_cons (pv 7) (pa_cons (pv 5) pa_nil)))) (blkOk_by (N := NCh) (sc := defScope sChg) (by decide +kernel))
            (fun _ _ _ _ _ => pg_name (i := 16) scChg.nd rfl (Or.inl rfl)) (fun _ _ _ _ _ => pts_one (pt_cmpR (op_in_seqK K rfl) (pv 16) (pv 10) rfl)) (fun _ _ _ _ _ => pv 16))
      (pss_cons (ps_if (PW.pt (pw_or (pt_cmpR (op_nePr (hu64 hr)) (pe_mt mRi hr pass0 (pe_dget hu (pv 1) pe_str (fun _ _ => rfl)) (pa_cons (pv 7) pa_nil)) (pe_c cLR hr pass0 (pa_cons (pv 10) pa_nil)) (nomark _)) (pw_or1 (pt_cmpR (op_neN (hu64 hr)) (pe_callB cr_sorted (by rfl) B'.sorted (by decide +kernel) (pa_cons (pe_op op_cat (pv 11) (pv 14)) pa_nil)) (pv 10) (nomark _))))) pss_never pss_nil)
      (pss_cons (ps_dput hu (pv 1) pe_str (pe_mt mF hr pass0 (pe_dget hu (pv 1) pe_str (fun _ _ => rfl)) (pa_cons (pv 8) pa_nil)) rfl)
      (pss_cons (ps_dput hu (pv 1) pe_str (pe_op op_cat (pe_dget hu (pv 1) pe_str (fun _ _ => rfl)) (pe_ifExp (pt_val (pv 6)) (pe_lst pa_nil) (pe_lst (pa_cons (pv 5) pa_nil)))) rfl)
      (pss_cons (ps_asg (pe_tup (pa_cons (pv 7) (pa_cons (pv 9) pa_nil))) (pg_tup rfl (pgs_cons (pg_sub (pv 1) pe_str (set_dict hu)) (pgs_cons (pg_sub (pv 1) pe_str (set_dict hu)) pgs_nil))))
      (pss_one (ps_ret (pe_c cBk hr pass0 (pa_cons (pv 2) (pa_cons (pv 7) (pa_cons (pv 5) (pa_cons (pv 6) pa_nil)))))))))))))))))))), ?_⟩
    obtain ⟨kvs, p, wl, it, pat, po, wh, st, hpl, klen, gF, gW, gL, gI, gP, gPo, gWh, gSt, D, hwl, hit, PT, hpo, MW, hst⟩ := id plan
    have hR := hasR_of gF
    have gt : ∀ {H' : Hp} {kk : Str} {v : V}, H' pl = some (.dK kvs) → valV kvs (.inr kk) = some v → DGet H' pl (.str kk) (some v) := fun {H' kk v} h e => by
      have z := DGet.k (k := .inr kk) h
      rw [e] at z
      exact z
    have npl : pl ≠ pn := by
      obtain ⟨k, l, cs, h1, _⟩ := id pen
      intro e
      subst e
      rw [h1] at hpl
      cases hpl
      rw [penK, valV_ne (by decide +kernel), valV_ne (by decide +kernel), valV_ne (by decide +kernel)] at gF
      exact nomatch gF
    have ncl : cl ≠ pl := by
      obtain ⟨k, l, cs, _, h2, _⟩ := id pen
      exact ne_of h2 hpl (fun z => nomatch z)
    have pool1 := List.length_pos_iff.mpr ok.poo.1
    dsimp only [tSeq, tAsg]
    refine ⟨_, rfl, pl, _, rfl, gt hpl gF, _, rfl, pl, _, rfl, gt hpl gW, _, rfl, pl, _, rfl, gt hpl gL, ?_⟩
    refine ⟨_, _, _, rfl, ?_⟩
    refine ⟨_, rfl, _, rfl, pl, _, rfl, gt hpl gPo, pn, cl, po, txs pool, b, rfl, pen, by omega, hpo, by rw [txs_len]; exact pool1, by rw [txs_len]; have := ok.poo.2.1; omega, fun x H1 hx bt1 pen1 => ?_⟩
    obtain ⟨u, hu1, rfl⟩ := List.mem_map.mp hx
    have kq1 := Kq.but pen bt1
    have D1 := D.kq kq1
    have tabs1 := tabs_but tabs pen bt1
    have hpl1 := bt1 _ _ npl hpl
    have hwl1 := kq1 _ _ stay_lst hwl
    have u5 := ok.poo.2.2 u hu1
    refine ⟨_, rfl, _, rfl, wl, txs us, rfl, .inl (SqL.of hwl1), rfl, flat_txs us, ?_⟩
    rw [if_pos rfl, in_txs]
    obtain ⟨put, ep, cs0⟩ : ∃ put : Bool, (!decide (u ∈ us)) = put ∧ (put = true ∧ u ∉ us ∨ put = false ∧ u ∈ us) := by
      by_cases c : u ∈ us
      · exact ⟨false, by rw [decide_eq_true c]; rfl, .inr ⟨rfl, c⟩⟩
      · exact ⟨true, by rw [decide_eq_false c]; rfl, .inl ⟨rfl, c⟩⟩
    rw [ep]
    dsimp only [gName, tSeq, tAsg]
    refine te_mid (fun v H2 => ∃ tt m r ws, v = .ref tt ∧ LamX.ExtN H1 H2 ∧ LamX.Tabs Tb H2 ∧ H2 tt = some (.tup [.ref m, .ref r]) ∧ OkD ls ws ∧ IsD C H2 m ls ws ∧ IsMap K CM H2 r (ws.length : Nat) (mv us ws) ∧ ((put = true ∧ u ∉ us ∧ ws.Perm (us ++ [u])) ∨ (put = false ∧ u ∈ us ∧ ws = us.erase u))) (fun Q' q' => ?_) ?_
    · obtain ⟨dx1, _, _, _, _, g1, _⟩ := id D1
      have fw := ok.few
      rcases cs0 with ⟨rfl, nu⟩ | ⟨rfl, mu⟩
      · refine ⟨_, rfl, _, rfl, iteT ⟨_, rfl, p, dx1, _, rfl, g1, df_no, _, rfl, p, ls, us, u, rfl, D1, ok.O, by have := u5.1; omega, u5.2, nu, by omega, tabs1, fun tt m r ws H' pm O2 ex tb htt D2 M2 => ?_⟩⟩
        exact q' _ _ ⟨tt, m, r, ws, rfl, ex, tb, htt, O2, D2, M2, .inl ⟨rfl, nu, pm⟩⟩
      · refine ⟨_, rfl, _, rfl, iteF ⟨_, rfl, p, dx1, _, rfl, g1, df_no, _, rfl, p, ls, us, u, rfl, D1, ok.O, mu, tabs1, fun tt m r H' O2 ex tb htt D2 M2 => ?_⟩⟩
        exact q' _ _ ⟨tt, m, r, us.erase u, rfl, ex, tb, htt, O2, D2, M2, .inr ⟨rfl, mu, rfl⟩⟩
    rintro _ H2 ⟨tt, m, r, ws, rfl, ex2, tabs2, htt, O2, D2, M2, cs⟩
    refine ⟨tt, _, rfl, SqT.of htt, rfl, _, _, rfl, _, _, rfl, rfl, ?_⟩
    dsimp only [tSeq, tAsg]
    have kq2 := kq1.trans (Kq.ext ex2)
    have hwl2 := kq2 _ _ stay_lst hwl
    have O2nd := nd_up ok.O.up
    have fw := ok.few
    have lus : us.length ≤ 31 := by omega
    refine te_mid (fun v H3 => ∃ La, v = .ref La ∧ Same H2 H3 ∧ H3 La = some (.lst (txs ws))) (fun Q' q' => ?_) ?_
    · rcases cs with ⟨rfl, nu, pm⟩ | ⟨rfl, mu, rfl⟩
      · refine ⟨_, rfl, _, rfl, iteT ⟨_, rfl, _, rfl, _, rfl, small10 (show 1 ≤ 10000 by decide) |> Nat.le_of_lt, fun L1 nL1 => ?_⟩⟩
        have e1 := same_new (o := .lst [.str (S u)]) nL1
        have hL1 : upd H2 L1 (.lst [.str (S u)]) L1 = some (.lst [.str (S u)]) := upd_same
        generalize upd H2 L1 (.lst [.str (S u)]) = H21 at e1 hL1 ⊢
        refine ⟨wl, L1, txs us, _, rfl, rfl, e1 _ _ hwl2, hL1, by rw [txs_len]; exact Nat.le_of_lt (small10 (by simp; omega)), fun L2' nL2 => ?_⟩
        have e2 := same_new (o := .lst (txs us ++ [.str (S u)])) nL2
        have hL2 : upd H21 L2' (.lst (txs us ++ [.str (S u)])) L2' = some (.lst (txs (us ++ [u]))) := by
          rw [upd_same]
          unfold txs
          rw [List.map_append]
          rfl
        generalize upd H21 L2' (.lst (txs us ++ [.str (S u)])) = H22 at e2 hL2 ⊢
        refine ⟨L2', ls, us ++ [u], rfl, hL2, ok.LL, ⟨by simp; omega, fun x hx => ?_⟩, fun t us' H23 od e3 ht => ?_⟩
        · rcases List.mem_append.mp hx with h | h
          · exact ⟨ok.w5 x h, (ok.O.word x h).2⟩
          · rw [List.mem_singleton.mp h]
            exact u5
        · obtain rfl : us' = ws := ord_eq (ls := ls) (perm_of_mem (nd_up od.up) O2.nd fun x => (od.mem x).trans pm.mem_iff.symm) od.up O2.up
          exact q' _ _ ⟨t, rfl, (e1.trans e2).trans e3, ht⟩
      · refine ⟨_, rfl, _, rfl, iteF ⟨_, rfl, wl, txs us, rfl, .inl (SqL.of hwl2), fun J G wk hG L nL => lc_it wk (fun i H' => Same H2 H' ∧ H' L = some (.lst (txs ((us.take i).filter fun x => decide (x ≠ u))))) ⟨same_new nL, upd_same⟩ (fun i H' _ z => hG H' fun o h => z.1 _ _ h) ?_ ?_⟩⟩
        · rintro i x H7 H8 hi ⟨e7, hL⟩ ⟨rfl, hx⟩
          rw [txs_len] at hi
          have ex : x = .str (S us[i]) := by
            unfold txs at hx
            rw [List.getElem?_map, List.getElem?_eq_getElem hi] at hx
            exact (Option.some.inj hx).symm
          subst ex
          have tk : us.take (i + 1) = us.take i ++ [us[i]] := by rw [List.take_add_one, List.getElem?_eq_getElem hi]; rfl
          refine ⟨rfl, _, rfl, _, rfl, rfl, _, rfl, ?_⟩
          by_cases c : us[i] = u
          · rw [decide_eq_true (show V.str (S us[i]) = V.str (S u) by rw [c])]
            refine ite2 (fun z => absurd z (by decide)) fun _ => ?_
            refine ⟨e7, ?_⟩
            rw [tk, List.filter_append, List.filter_cons_of_neg (by simp [c])]
            simpa using hL
          · rw [decide_eq_false fun z => c (S_inj (V.str.inj z))]
            refine ite2 (fun _ => ?_) fun z => absurd z (by decide)
            refine ⟨_, rfl, _, hL, ?_, fun b o z => ?_, ?_⟩
            · rw [txs_len]
              exact small10 (by have := List.length_filter_le (fun x => decide (x ≠ u)) (us.take i); rw [List.length_take] at this; omega)
            · rw [upd_ne (ne_of_none z nL)]
              exact e7 _ _ z
            · rw [upd_same, tk, List.filter_append, List.filter_cons_of_pos (by simpa using c)]
              unfold txs
              rw [List.map_append]
              rfl
        · rintro H7 ⟨e7, hL⟩
          rw [txs_len, List.take_length, struck_filter O2nd] at hL
          exact q' _ _ ⟨L, rfl, e7, hL⟩
    rintro _ H3 ⟨La, rfl, e23, hLa⟩
    have lws : ws.length ≤ us.length + 1 := by
      rcases cs with ⟨_, _, pm⟩ | ⟨_, _, rfl⟩
      · rw [pm.length_eq]
        simp
      · have := (List.erase_sublist (a := u) (l := us)).length_le
        omega
    have D3 := D2.same e23
    have M3 := M2.same e23
    have hwl3 := e23 _ _ hwl2
    dsimp only [gName, tSeq, tAsg]
    obtain ⟨dx3, _, t3, _, _, g1, _, g3, _⟩ := id D3
    refine ⟨_, rfl, m, C, dx3, _, _, rfl, g1, T.cl, T.nW, df_words _ _ _ _ _ _, _, rfl, .inl ⟨La, _, rfl, SqL.of hLa, fun du ndu => ?_⟩⟩
    have e4 := same_new (o := .tup (txs ws)) ndu
    have hdu : upd H3 du (.tup (txs ws)) du = some (.tup (txs ws)) := upd_same
    generalize upd H3 du (.tup (txs ws)) = H4 at e4 hdu ⊢
    have nch : ∀ v ∈ ws, Nch v := O2.nch
    refine ⟨t3, du, ws, ws, rfl, rfl, .inr ⟨SqT.of (e4 _ _ g3), SqT.of hdu⟩, nch, nch, ?_⟩
    rw [if_pos rfl, decide_eq_true rfl]
    have e24 := e23.trans e4
    have D4 := D3.same e4
    have M4 := M3.same e4
    have hwl4 := e4 _ _ hwl3
    have hLa4 := e4 _ _ hLa
    obtain ⟨dxm, tm, hm1, hm2⟩ := id M4
    refine ⟨_, rfl, iteF ⟨_, rfl, r, CM, dxm, _, _, rfl, hm1, TM.cl, TM.nN, mapF_numbers _ _, _, rfl, _, rfl, wl, La, us, ws, rfl, hwl4, hLa4, by omega, by omega, fun t H5 e5 ht => ⟨tm, t, _, _, rfl, rfl, .inr ⟨Same.seqT e5 hm2, SqT.of ht⟩, mv_num, mv_num, ?_⟩⟩⟩
    rw [if_pos rfl, decide_eq_true rfl]
    have e25 := e24.trans e5
    have M5 := M4.same e5
    have hLa5 := e5 _ _ hLa4
    refine ⟨_, rfl, iteF ⟨_, rfl, r, CM, dxm, _, _, rfl, e5 _ _ hm1, TM.cl, TM.nM, mapF_many _ _, _, rfl, La, _, rfl, .inl (SqL.of hLa5), ?_⟩⟩
    refine ⟨rfl, _, rfl, ?_⟩
    rw [txs_len, decide_eq_true rfl]
    refine ite2 (fun c => absurd c (by decide)) fun _ => ?_
    have hpl2 := ex2 _ _ hpl1 (fun _ z => nomatch z)
    have hpl5 := e25 _ _ hpl2
    have kq5 := kq2.trans (Kq.same e25)
    have hit5 := kq5 _ _ stay_tup hit
    have tabs5 := tabs2.ext e25
    have itl := ok.itl
    dsimp only [tNext, tSeq, tAsg]
    refine ⟨_, rfl, La, _, rfl, .inl (SqL.of hLa5), _, rfl, by rw [txs_len]; omega, by rw [txs_len]; omega, ?_⟩
    rw [txs_len]
    intro Lf nLf
    refine lc_it walk_range (fun i H' => Same H5 H' ∧ H' Lf = some (.lst (((List.range i).filter fun i => fitB its (ws.getD i [])).map fun (i : Nat) => V.int (i : Int)))) ⟨same_new nLf, upd_same⟩ (fun _ _ _ _ => True.intro) ?_ ?_
    · rintro i x H6 H7 hi ⟨e6, hL⟩ ⟨rfl, hx⟩
      have hi2 : i < ws.length := by omega
      have gw : ws.getD i [] = ws[i] := by rw [List.getD_eq_getElem?_getD, List.getElem?_eq_getElem hi2]; rfl
      have ex : x = V.int ((i : Nat) : Int) := by rw [hx]; show V.int (0 + ((i : Nat) : Int)) = _; rw [Int.zero_add]
      subst ex
      refine ⟨rfl, _, rfl, pl, _, rfl, gt (e6 _ _ hpl5) gI, _, rfl, _, rfl, La, _, _, _, rfl, rfl, SqL.of (e6 _ _ hLa5), atI_nat (show (ws.map fun w => V.str (S w))[i]? = some (.str (S ws[i])) by rw [List.getElem?_map, List.getElem?_eq_getElem hi2]; rfl), it, its, ws[i], rfl, e6 _ _ hit5, by have := O2.word ws[i] (List.getElem_mem hi2); omega, by omega, itl.2, fun H8 e8 => ?_⟩
      refine ⟨_, rfl, ?_⟩
      have e58 := e6.trans e8
      have hL8 := e8 _ _ hL
      rw [← fit_rd, ← gw]
      by_cases c : fitB its (ws.getD i []) = true
      · rw [c]
        refine ite2 (fun _ => ?_) fun z => absurd z (by decide)
        refine ⟨_, rfl, _, hL8, ?_, fun b o z => ?_, ?_⟩
        · rw [List.length_map]
          exact small10 (by have := List.length_filter_le (fun i => fitB its (ws.getD i [])) (List.range i); rw [List.length_range] at this; omega)
        · rw [upd_ne (ne_of_none z nLf)]
          exact e58 _ _ z
        · have f1 : [i].filter (fun i => fitB its (ws.getD i [])) = [i] := by
            rw [List.filter_cons, if_pos c]
            rfl
          rw [upd_same, List.range_succ, List.filter_append, f1, List.map_append]
          rfl
      · have f0 : [i].filter (fun i => fitB its (ws.getD i [])) = [] := by
          rw [List.filter_cons, if_neg c]
          rfl
        have cf := Bool.eq_false_iff.mpr c
        rw [cf]
        refine ite2 (fun z => absurd z (by decide)) fun _ => ?_
        refine ⟨e58, ?_⟩
        rw [List.range_succ, List.filter_append, f0, List.append_nil]
        exact hL8
    rintro H7 ⟨e57, hLf⟩
    rw [Int.toNat_natCast] at hLf
    have hLf7 : H7 Lf = some (.lst ((fitN its ws).map V.int)) := by
      rw [hLf]
      unfold fitN
      rw [List.map_map]
      rfl
    dsimp only [gName, tSeq, tAsg]
    refine ⟨Nat.zero_le _, fun L0 nL0 => ?_⟩
    have e8 := same_new (o := .lst []) nL0
    have hL0 : upd H7 L0 (.lst []) L0 = some (.lst []) := upd_same
    generalize upd H7 L0 (.lst []) = H8 at e8 hL0 ⊢
    have e58 := e57.trans e8
    have kq8 := kq5.trans (Kq.same e58)
    have hpl8 := e58 _ _ hpl5
    have D08 := D.kq kq8
    have PT8 := PT.kq kq8
    have M8 := M5.same e58
    have hLf8 := e8 _ _ hLf7
    obtain ⟨dxp, a0, Mv0, Kk0, Cl0, sts0, mv0, jp, _⟩ := id PT8
    obtain ⟨dx8, tm8, j1, j2⟩ := id M8
    have lfu : (fitN its us).length ≤ us.length := by
      unfold fitN
      rw [List.length_map]
      refine Nat.le_trans (List.length_filter_le _ _) ?_
      rw [List.length_range]
      exact Nat.le_refl _
    have up8 := rngs_up (n := us.length) (fitN its us) fitN_b (fitN_up its us)
    refine ⟨_, rfl, r, dx8, _, rfl, j1, mapF_no _ _ (by decide +kernel) (by decide +kernel), _, rfl, pl, _, rfl, gt hpl8 gP, pat, dxp, _, rfl, jp, pf_no, _, rfl, pat, p, ls, its, us, rfl, PT8, D08, ok.O, fun l9 H9 ts9 nl9 e9 hl9 pr9 => ?_⟩
    refine ⟨r, l9, _, mv us ws, ts9, rfl, M8.same e9, mv_num, by rw [mv_len]; omega, ⟨_, hl9⟩, .inl (SqL.of hl9), prAt_kp pr9, rngs (fitN its us), pr9, by rw [mv_len]; exact up8.ok, by have := rngs_len (fitN its us); omega, fun l10 H10 ts10 nl10 e10 hl10 pr10 => ?_⟩
    rw [behR_rngs (by rw [mv_len]; exact fitN_b) (fitN_up its us), beh_eq] at pr10
    have e810 := e9.trans e10
    have upF := rngs_up (n := ws.length) (F2 its us ws) F2_b (F2_up ok.O.up O2.up)
    have exF := upF.ex
    refine ⟨l10, ts10, rfl, .inl (SqL.of hl10), fun J G wk hG => for_it wk (fun i σ H' => ∃ Ln a b, σ = [some (.ref pn), some (.ref pl), some (.ref p), some (.ref wl), some (.str (S ls)), some (.str (S u)), some (.bl put), some (.ref m), some (.ref r), some (.ref La), some (.ref Lf), some (.ref Ln), a, b, none, none, none] ∧ Same H10 H' ∧ H' Ln = some (.lst ((expand ((rngs (F2 its us ws)).take i)).map V.int))) ⟨L0, none, none, rfl, fun _ _ h => h, e810 _ _ hL0⟩ (fun i σ H' _ ⟨_, _, _, _, z, _⟩ => hG H' fun o h => z _ _ h) ?_ ?_⟩
    · rintro i x σ H11 H12 hi ⟨Ln, a, b, rfl, e11, hLn⟩ ⟨rfl, hx⟩
      obtain ⟨p0, hp0, a2, rfl, ha2⟩ := paired_at pr10 hx
      obtain ⟨q1, q2, q3⟩ := okR_at (Int.le_refl 0) upF.ok hp0
      refine ⟨a2, _, rfl, SqT.of (e11 _ _ ha2), rfl, _, _, rfl, _, _, rfl, rfl, ?_⟩
      refine ⟨_, rfl, _, rfl, _, rfl, _, _, rfl, rfl, _, _, rfl, rfl, ⟨by omega, by omega, by omega, by omega, by omega⟩, fun Lr nLr => ?_⟩
      have e12 := same_new (o := .lst (rgV p0.1 (p0.2 + 1))) nLr
      have hLr : upd H12 Lr (.lst (rgV p0.1 (p0.2 + 1))) Lr = some (.lst ((seg p0).map V.int)) := by
        rw [upd_same, rgV_seg]
      generalize upd H12 Lr (.lst (rgV p0.1 (p0.2 + 1))) = H13 at e12 hLr ⊢
      have l1 := expand_take (rngs (F2 its us ws)) i
      rw [exF] at l1
      have l2 := F2_len its us ws
      have l3 : (seg p0).length ≤ ws.length := by
        unfold seg
        rw [List.length_map, List.length_range]
        omega
      refine ⟨Ln, Lr, _, _, rfl, rfl, e12 _ _ hLn, hLr, by rw [List.length_map, List.length_map]; exact Nat.le_of_lt (small10 (by omega)), fun Lm nLm => ⟨Lm, _, _, rfl, e11.trans (e12.trans (same_new nLm)), ?_⟩⟩
      rw [upd_same, List.take_add_one, hp0]
      show _ = some (HO.lst ((expand ((rngs (F2 its us ws)).take i ++ [p0])).map V.int))
      rw [expand_snoc, List.map_append]
    · rintro σ H11 ⟨Ln, a, b, rfl, e11, hLn⟩
      rw [Paired.length pr10, List.take_length, exF] at hLn
      dsimp only [gName, tSeq, tAsg]
      have e511 := e58.trans (e810.trans e11)
      have D11 := D3.same (e4.trans (e5.trans e511))
      refine ⟨_, rfl, _, rfl, m, ls, ws, u, rfl, D11, O2.nd, fun l12 H12 e12 hl12 => ?_⟩
      rw [ownI_V] at hl12
      have lo1 := ownI_len ws u
      refine ⟨l12, _, rfl, .inl (SqL.of hl12), fun J G wk hG Lo nLo => lc_it wk (fun i H' => Same H12 H' ∧ H' Lo = some (.lst ((((ownI ws u).take i).filter fun k => decide (k ∈ fitN its ws)).map V.int))) ⟨same_new nLo, upd_same⟩ (fun i H' _ z => hG H' fun o h => z.1 _ _ h) ?_ ?_⟩
      · rintro i x H13 H14 hi ⟨e13, hL⟩ ⟨rfl, hx⟩
        rw [List.length_map] at hi
        rw [List.getElem?_map, List.getElem?_eq_getElem hi] at hx
        cases hx
        have tk : (ownI ws u).take (i + 1) = (ownI ws u).take i ++ [(ownI ws u)[i]] := by rw [List.take_add_one, List.getElem?_eq_getElem hi]; rfl
        generalize (ownI ws u)[i] = k0 at tk
        refine ⟨rfl, _, rfl, _, rfl, Lf, _, rfl, .inl (SqL.of (e13 _ _ (e12 _ _ (e11 _ _ (e810 _ _ hLf8))))), rfl, flat_ints _, ?_⟩
        rw [if_neg (by decide), in_ints]
        refine ⟨_, rfl, ?_⟩
        by_cases c : k0 ∈ fitN its ws
        · have f1 : [k0].filter (fun k => decide (k ∈ fitN its ws)) = [k0] := by
            rw [List.filter_cons, if_pos (by simpa using c)]
            rfl
          rw [decide_eq_true c]
          refine ite2 (fun _ => ?_) fun z => absurd z (by decide)
          refine ⟨_, rfl, _, hL, ?_, fun b o z => ?_, ?_⟩
          · rw [List.length_map]
            exact small10 (by have := List.length_filter_le (fun k => decide (k ∈ fitN its ws)) ((ownI ws u).take i); rw [List.length_take] at this; omega)
          · rw [upd_ne (ne_of_none z nLo)]
            exact e13 _ _ z
          · rw [upd_same, tk, List.filter_append, f1, List.map_append]
            rfl
        · have f0 : [k0].filter (fun k => decide (k ∈ fitN its ws)) = [] := by
            rw [List.filter_cons, if_neg (by simpa using c)]
            rfl
          rw [decide_eq_false c]
          refine ite2 (fun z => absurd z (by decide)) fun _ => ?_
          refine ⟨e13, ?_⟩
          rw [tk, List.filter_append, f0, List.append_nil]
          exact hL
      rintro H13 ⟨e13, hLo⟩
      have hLo13 : H13 Lo = some (.lst ((ownN its ws u).map V.int)) := by
        rw [hLo, List.length_map, List.take_length]
        rfl
      clear hLo
      have e513 := e511.trans (e12.trans e13)
      have hpl13 := e513 _ _ hpl5
      have PT13 := (PT.kq kq5).same e513
      have D13 := D3.same (e4.trans (e5.trans e513))
      obtain ⟨dxp2, a02, Mv2, Kk2, Cl2, sts2, mv2, jp2, _⟩ := id PT13
      have lfw : (fitN its ws).length ≤ ws.length := by
        unfold fitN
        rw [List.length_map]
        refine Nat.le_trans (List.length_filter_le _ _) ?_
        rw [List.length_range]
        exact Nat.le_refl _
      have hLf13 := e13 _ _ (e12 _ _ (e11 _ _ (e810 _ _ hLf8)))
      refine ⟨_, rfl, pl, _, rfl, gt hpl13 gP, pat, dxp2, _, rfl, jp2, pf_no, _, rfl, pat, m, ls, its, ws, rfl, PT13, D13, O2, fun l14 H14 ts14 nl14 e14 hl14 pr14 => ?_⟩
      refine ⟨_, rfl, Lf, fitN its ws, rfl, e14 _ _ hLf13, by omega, fun l15 H15 ts15 nl15 e15 hl15 pr15 => ?_⟩
      have e515 := e513.trans (e14.trans e15)
      have hLn15 := e15 _ _ (e14 _ _ (e13 _ _ (e12 _ _ hLn)))
      have hLo15 := e15 _ _ (e14 _ _ hLo13)
      have hLf15 := e15 _ _ (e14 _ _ hLf13)
      have lF2 := F2_len its us ws
      have lown : (ownN its ws u).length ≤ 1 := Nat.le_trans (List.length_filter_le _ _) lo1
      have pmF : (F2 its us ws ++ ownN its ws u).Perm (fitN its ws) := by
        rcases cs with ⟨_, _, pm⟩ | ⟨_, _, rfl⟩
        · exact put_perm pm O2.nd
        · exact struck_perm O2nd
      refine ⟨l14, l15, ts14, ts15, _, _, rfl, rfl, SqL.of (e15 _ _ hl14), SqL.of hl15, pr14.same e15, pr15, ?_⟩
      rw [decide_eq_true rfl]
      refine ⟨_, rfl, iteF ⟨_, rfl, _, rfl, Ln, Lo, _, _, rfl, rfl, hLn15, hLo15, by rw [List.length_map, List.length_map]; exact Nat.le_of_lt (small10 (by omega)), fun Lc nLc => ?_⟩⟩
      have e16 := same_new (o := .lst ((F2 its us ws).map V.int ++ (ownN its ws u).map V.int)) nLc
      have hLc : upd H15 Lc (.lst ((F2 its us ws).map V.int ++ (ownN its ws u).map V.int)) Lc = some (.lst ((F2 its us ws ++ ownN its ws u).map V.int)) := by
        rw [upd_same, List.map_append]
      generalize upd H15 Lc (.lst ((F2 its us ws).map V.int ++ (ownN its ws u).map V.int)) = H16 at e16 hLc ⊢
      refine ⟨Lc, F2 its us ws ++ ownN its ws u, rfl, SqL.of hLc, by rw [List.length_append]; omega, fun is16 Ls pm16 as16 nLs => ?_⟩
      obtain rfl : is16 = fitN its ws := asc_eq (pm16.trans pmF) as16 (fitN_up its ws)
      have e17 := same_new (o := .lst ((fitN its ws).map V.int)) nLs
      have hLs : upd H16 Ls (.lst ((fitN its ws).map V.int)) Ls = some (.lst ((fitN its ws).map V.int)) := upd_same
      generalize upd H16 Ls (.lst ((fitN its ws).map V.int)) = H17 at e17 hLs ⊢
      have numI : ∀ v ∈ (fitN its ws).map V.int, Num v := fun v h => by
        obtain ⟨i, _, rfl⟩ := List.mem_map.mp h
        exact .inr ⟨_, rfl⟩
      refine ⟨_, rfl, Ls, Lf, _, _, rfl, rfl, .inl ⟨SqL.of hLs, SqL.of (e17 _ _ (e16 _ _ hLf15))⟩, numI, numI, ?_⟩
      rw [if_pos rfl, decide_eq_true rfl]
      refine ⟨_, rfl, ?_⟩
      refine ite2 (fun c => absurd c (by decide)) fun _ => ?_
      have e517 := e515.trans (e16.trans e17)
      have kq17 := kq5.trans (Kq.same e517)
      have hpl17 := e517 _ _ hpl5
      have MW17 := MW.kq kq17
      have M17 := M5.same e517
      obtain ⟨dxw, tw, jw1, jw2⟩ := id MW17
      have cmp : (mvp (fun x => decide (x ∉ sk)) us0 us).map (compF (mv us ws)) = mvp (fun x => decide (x ∉ sk ++ if put = true then [] else [u])) us0 ws := by
        rw [mvp_comp fun x hx c => ok.inn x hx (of_decide_eq_true c)]
        refine mvp_congr fun x hx => ?_
        rw [← Bool.decide_and]
        refine decide_eq_decide.mpr ?_
        rcases cs with ⟨rfl, nu, pm⟩ | ⟨rfl, mu, rfl⟩
        · rw [if_pos rfl, List.append_nil]
          exact ⟨fun h => h.1, fun h => ⟨h, pm.mem_iff.mpr (List.mem_append_left _ (ok.inn x hx h))⟩⟩
        · rw [if_neg (by decide)]
          simp only [List.mem_append, List.mem_singleton, not_or]
          exact ⟨fun h => ⟨h.1, (O2nd.mem_erase_iff.mp h.2).1⟩, fun h => ⟨h.1, O2nd.mem_erase_iff.mpr ⟨h.2, ok.inn x hx h.1⟩⟩⟩
      have inn' : ∀ x ∈ us0, x ∉ (sk ++ if put = true then [] else [u]) → x ∈ ws := fun x hx h => by
        rcases cs with ⟨rfl, nu, pm⟩ | ⟨rfl, mu, rfl⟩
        · rw [if_pos rfl, List.append_nil] at h
          exact pm.mem_iff.mpr (List.mem_append_left _ (ok.inn x hx h))
        · rw [if_neg (by decide)] at h
          simp only [List.mem_append, List.mem_singleton, not_or] at h
          exact O2nd.mem_erase_iff.mpr ⟨h.2, ok.inn x hx h.1⟩
      have few0 := ok.few0
      refine ⟨_, rfl, pl, _, rfl, gt hpl17 gWh, wh, dxw, _, rfl, jw1, mapF_no _ _ (by decide +kernel) (by decide +kernel), _, rfl, wh, r, _, _, _, _, rfl, MW17, M17, by rw [mv_len], fun v hv => ?_, mv_num, by omega, by omega, by rw [mvp_len]; omega, ?_, fun r18 H18 e18 nr18 M18 => ?_⟩
      · obtain ⟨x, hx, rfl⟩ := List.mem_map.mp hv
        by_cases c : decide (x ∉ sk) = true
        · rw [if_pos c]
          exact .inr ⟨_, rfl, by rw [mv_len]; exact List.idxOf_lt_length_of_mem (ok.inn x hx (of_decide_eq_true c))⟩
        · rw [if_neg c]
          exact .inl rfl
      · rw [cmp]
        exact mvp_scan O2.up us0 0 0 (fun x hx h => inn' x hx (of_decide_eq_true h)) ok.O0.up fun _ _ _ => by omega
      rw [cmp] at M18
      have hpl18 := e18 _ _ hpl17
      have pen18 := ((pen1.ext ex2).same e25).same (e517.trans e18)
      have tabs18 := tabs5.ext (e517.trans e18)
      have kq18 := kq17.trans (Kq.same e18)
      refine ⟨_, rfl, pl, _, rfl, DPut.k (k := .inr "whole") hpl18 (small10 (by omega)), ?_⟩
      have st19 := stp_put (.inr "whole") (.ref r18) hpl18 hR pen18 tabs18 npl ncl
      have ln19 := putK_old (v := .ref r18) gWh
      have g19 : ∀ j : Key, valV (putK kvs (.inr "whole") (.ref r18)) j = if j = .inr "whole" then some (.ref r18) else valV kvs j := fun j => valV_put ..
      generalize upd H18 pl (.dK (putK kvs (.inr "whole") (.ref r18))) = H19 at st19 ⊢
      generalize putK kvs (.inr "whole") (.ref r18) = kvs1 at st19 ln19 g19
      have gtK : ∀ {kv : List (Key × V)} {H' : Hp} {kk : Str} {v : V}, H' pl = some (.dK kv) → valV kv (.inr kk) = some v → DGet H' pl (.str kk) (some v) := fun {kv H' kk v} h e => by
        have z := DGet.k (k := .inr kk) h
        rw [e] at z
        exact z
      have s19 : valV kvs1 (.inr "struck") = some (.ref st) := (g19 _).trans ((if_neg (by decide +kernel)).trans gSt)
      have hst19 := (kq18.trans st19.kq) _ _ stay_lst hst
      have skl := ok.skl
      dsimp only [tSeq, tAsg]
      refine ⟨_, rfl, pl, _, rfl, gtK st19.pl s19, ?_⟩
      refine te_mid (te := tIf (tB (tVar 6)) (tLst tNil) (tLst (tCons (tVar 5) tNil))) (fun v H' => ∃ Le, v = .ref Le ∧ Same H19 H' ∧ H' Le = some (.lst (txs (if put = true then [] else [u])))) (fun Q' q' => ?_) ?_
      · refine ⟨_, rfl, _, rfl, ?_⟩
        clear cmp inn' M18 cs0 cs ep
        cases put with
        | true => exact iteT ⟨Nat.zero_le _, fun Le nLe => q' _ _ ⟨Le, rfl, same_new nLe, upd_same⟩⟩
        | false => exact iteF ⟨_, rfl, small10 (show 1 ≤ 10000 by decide) |> Nat.le_of_lt, fun Le nLe => q' _ _ ⟨Le, rfl, same_new nLe, upd_same⟩⟩
      rintro _ H20 ⟨Le, rfl, e20, hLe⟩
      have lif : (if put = true then ([] : List (List Nat)) else [u]).length ≤ 1 := by
        split
        · exact Nat.zero_le _
        · exact Nat.le_refl _
      refine ⟨st, Le, _, _, rfl, rfl, e20 _ _ hst19, hLe, by rw [txs_len, txs_len]; exact Nat.le_of_lt (small10 (by omega)), fun Ln2 nLn2 => ?_⟩
      have e21 := same_new (o := .lst (txs sk ++ txs (if put = true then [] else [u]))) nLn2
      have hLn2 : upd H20 Ln2 (.lst (txs sk ++ txs (if put = true then [] else [u]))) Ln2 = some (.lst (txs (sk ++ if put = true then [] else [u]))) := by
        rw [upd_same]
        unfold txs
        rw [List.map_append]
      generalize upd H20 Ln2 (.lst (txs sk ++ txs (if put = true then [] else [u]))) = H21 at e21 hLn2 ⊢
      have e1921 := e20.trans e21
      have hR1 : HasR kvs1 := hasR_of s19
      refine ⟨_, rfl, pl, _, rfl, DPut.k (k := .inr "struck") (e1921 _ _ st19.pl) (small10 (by omega)), ?_⟩
      have st22 := stp_put (.inr "struck") (.ref Ln2) (e1921 _ _ st19.pl) hR1 (st19.pen.same e1921) (st19.tabs.ext e1921) npl ncl
      have ln22 := putK_old (v := .ref Ln2) s19
      have g22 : ∀ j : Key, valV (putK kvs1 (.inr "struck") (.ref Ln2)) j = if j = .inr "struck" then some (.ref Ln2) else valV kvs1 j := fun j => valV_put ..
      have hLn22 := st22.kq _ _ stay_lst hLn2
      generalize upd H21 pl (.dK (putK kvs1 (.inr "struck") (.ref Ln2))) = H22 at st22 hLn22 ⊢
      generalize putK kvs1 (.inr "struck") (.ref Ln2) = kvs2 at st22 ln22 g22
      dsimp only [tSeq, tAsg]
      refine ⟨_, rfl, _, rfl, Nat.le_of_lt (small10 (show 2 ≤ 10000 by decide)), fun t23 nt23 => ?_⟩
      have e23' := same_new (o := .tup [.ref m, .ref La]) nt23
      have ht23 : upd H22 t23 (.tup [.ref m, .ref La]) t23 = some (.tup [.ref m, .ref La]) := upd_same
      generalize upd H22 t23 (.tup [.ref m, .ref La]) = H23 at e23' ht23 ⊢
      have s22 : ∀ {j : Key} {v : V}, ¬ j = .inr "struck" → ¬ j = .inr "whole" → valV kvs j = some v → valV kvs2 j = some v := fun h1 h2 h => (g22 _).trans ((if_neg h1).trans ((g19 _).trans ((if_neg h2).trans h)))
      have f22 := s22 (j := .inr "found") (by decide +kernel) (by decide +kernel) gF
      have hR2 : HasR kvs2 := hasR_of f22
      have hpl23 := e23' _ _ st22.pl
      refine ⟨t23, _, rfl, SqT.of ht23, rfl, _, _, rfl, _, rfl, pl, _, rfl, DPut.k (k := .inr "found") hpl23 (small10 (by omega)), ?_⟩
      have st24 := stp_put (.inr "found") (.ref m) hpl23 hR2 (st22.pen.same e23') (st22.tabs.ext e23') npl ncl
      have ln24 := putK_old (v := .ref m) f22
      have g24 : ∀ j : Key, valV (putK kvs2 (.inr "found") (.ref m)) j = if j = .inr "found" then some (.ref m) else valV kvs2 j := fun j => valV_put ..
      generalize upd H23 pl (.dK (putK kvs2 (.inr "found") (.ref m))) = H24 at st24 ⊢
      generalize putK kvs2 (.inr "found") (.ref m) = kvs3 at st24 ln24 g24
      have w24 : valV kvs3 (.inr "words") = some (.ref wl) := (g24 _).trans ((if_neg (by decide +kernel)).trans (s22 (by decide +kernel) (by decide +kernel) gW))
      have hR3 : HasR kvs3 := hasR_of w24
      refine ⟨_, _, rfl, _, rfl, pl, _, rfl, DPut.k (k := .inr "words") st24.pl (small10 (by omega)), ?_⟩
      have st25 := stp_put (.inr "words") (.ref La) st24.pl hR3 st24.pen st24.tabs npl ncl
      have ln25 := putK_old (v := .ref La) w24
      have g25 : ∀ j : Key, valV (putK kvs3 (.inr "words") (.ref La)) j = if j = .inr "words" then some (.ref La) else valV kvs3 j := fun j => valV_put ..
      generalize upd H24 pl (.dK (putK kvs3 (.inr "words") (.ref La))) = H25 at st25 ⊢
      generalize putK kvs3 (.inr "words") (.ref La) = kvs4 at st25 ln25 g25
      have kq1825 := st19.kq.trans ((Kq.same e1921).trans (st22.kq.trans ((Kq.same e23').trans (st24.kq.trans st25.kq))))
      have kq1925 := (Kq.same e1921).trans (st22.kq.trans ((Kq.same e23').trans (st24.kq.trans st25.kq)))
      have kq2225 := (Kq.same e23').trans (st24.kq.trans st25.kq)
      have kqA := kq18.trans kq1825
      have D25 := (D13.same (e14.trans (e15.trans (e16.trans (e17.trans e18))))).kq kq1825
      have hLa25 := kq1825 _ _ stay_lst (e18 _ _ (e517 _ _ hLa5))
      have M25 := M18.kq kq1825
      have hLn25 := kq2225 _ _ stay_lst hLn22
      have lu : u.length ≤ 200 := by have := u5.1; omega
      refine ⟨rfl, _, rfl, _, rfl, _, rfl, _, rfl, p, m, ls, us, ws, u, put, rfl, D.kq kqA, ok.O, D25, O2, lu, u5.2, by omega, cs, st25.tabs, fun H' ex tb => ?_⟩
      have kqZ := kqA.trans (Kq.ext ex)
      have g3 : ∀ {j : Key} {v : V}, ¬ j = .inr "words" → ¬ j = .inr "found" → valV kvs2 j = some v → valV kvs4 j = some v := fun h1 h2 h => (g25 _).trans ((if_neg h1).trans ((g24 _).trans ((if_neg h2).trans h)))
      have w5' : ∀ x ∈ ws, x.length ≤ 5 := fun x hx => by
        rcases cs with ⟨_, _, pm⟩ | ⟨_, _, rfl⟩
        · rcases List.mem_append.mp (pm.mem_iff.mp hx) with h | h
          · exact ok.w5 x h
          · rw [List.mem_singleton.mp h]
            exact u5.1
        · exact ok.w5 x (List.mem_of_mem_erase hx)
      refine k ws (sk ++ if put = true then [] else [u]) H' (st25.pen.ext ex) ⟨kvs4, m, La, it, pat, po, r18, Ln2, ex _ _ st25.pl (fun _ z => nomatch z), by omega, ?_, ?_, ?_, ?_, ?_, ?_, ?_, ?_, D25.ext ex, Kq.ext ex _ _ stay_lst hLa25, kqZ _ _ stay_tup hit, PT.kq kqZ, kqZ _ _ stay_lst hpo, M25.ext ex, Kq.ext ex _ _ stay_lst hLn25⟩ ⟨ok.LL, O2, ok.O0, ok.few0, by omega, w5', ok.itl, ok.poo, by rw [List.length_append]; omega, inn'⟩ kqZ tb
      · exact (g25 _).trans ((if_neg (by decide +kernel)).trans ((g24 _).trans (if_pos rfl)))
      · exact (g25 _).trans (if_pos rfl)
      · exact g3 (by decide +kernel) (by decide +kernel) (s22 (by decide +kernel) (by decide +kernel) gL)
      · exact g3 (by decide +kernel) (by decide +kernel) (s22 (by decide +kernel) (by decide +kernel) gI)
      · exact g3 (by decide +kernel) (by decide +kernel) (s22 (by decide +kernel) (by decide +kernel) gP)
      · exact g3 (by decide +kernel) (by decide +kernel) (s22 (by decide +kernel) (by decide +kernel) gPo)
      · exact g3 (by decide +kernel) (by decide +kernel) ((g22 _).trans ((if_neg (by decide +kernel)).trans ((g19 _).trans (if_pos rfl))))
      · exact g3 (by decide +kernel) (by decide +kernel) ((g22 _).trans (if_pos rfl))
end
end K03
set_option Elab.async false
set_option linter.all false
set_option maxRecDepth 100001
set_option maxHeartbeats 3999999
namespace K03
open PySem L2
abbrev sLaw : Stmt := topS 55
theorem sl_listK {X : Cx} (K : PySem.W.Frag) (hK : X.K = K) : SlR X (rSlL K) := by
  subst hK
  exact sl_list
theorem putK_le (kvs : List (Key × V)) (k : Key) (v : V) : (putK kvs k v).length ≤ kvs.length + 1 := by
  unfold putK
  split
  · rw [List.length_map]
    exact Nat.le_succ _
  · rw [List.length_append]
    exact Nat.le_refl _
/-- a pattern is made -/
theorem mk_p {CP : Addr} {H : Hp} {a b : Addr} {ls : List Nat} {its : List (List Nat)} {Qx : Addr → VK} {E : XK} (ha : H a = some (.tup [.str "row", .ref b])) (hb : H b = some (.tup (txs its))) (l5 : its.length ≤ 5) (oi : ∀ it ∈ its, OkI ls it ∧ it.length ≤ 100) (L : Lets ls)
    (k : ∀ x H', Same H H' → IsP CP H' x ls its → Qx x .non H') : ∀ x dx, H x = none → H dx = none → dx ≠ x → spPInit CP (.ref x :: ([.str (S ls), .ref a] ++ [])) (upd (upd H dx (.own x)) x (.ins CP dx [])) (Qx x) E := by
  intro x dx nx nd' ne
  have e : Same H (upd (upd H dx (.own x)) x (.ins CP dx [])) := fun b o z => by
    rw [upd_ne (ne_of_none z nx), upd_ne (ne_of_none z nd')]
    exact z
  exact ⟨x, dx, a, b, ls, its, rfl, upd_same, e _ _ ha, e _ _ hb, l5, oi, L, fun H' keep D => k x H' (fun b o z => keep b o (ne_of_none z nx) (e _ _ z)) D⟩
theorem IsPlan.kq {K : PySem.W.Frag} {C CM CP : Addr} {H H' : Hp} {pl : Addr} {ls : List Nat} {us0 us its pool sk : List (List Nat)} (h : IsPlan K C CM CP H pl ls us0 us its pool sk) (e : Kq H H') (hp : ∀ kvs, H pl = some (.dK kvs) → H' pl = some (.dK kvs)) : IsPlan K C CM CP H' pl ls us0 us its pool sk := by
  obtain ⟨kvs, p, wl, it, pat, po, wh, st, hpl, klen, gF, gW, gL, gI, gP, gPo, gWh, gSt, D, hwl, hit, PT, hpo, MW, hst⟩ := h
  exact ⟨kvs, p, wl, it, pat, po, wh, st, hp _ hpl, klen, gF, gW, gL, gI, gP, gPo, gWh, gSt, D.kq e, e _ _ stay_lst hwl, e _ _ stay_tup hit, PT.kq e, e _ _ stay_lst hpo, MW.kq e, e _ _ stay_lst hst⟩
def spLaw (K : PySem.W.Frag) (Tb : List (Addr × Str)) : Sp := fun vs H Q _ => ∃ (a : Addr) (is : List Int), vs = [.ref a] ∧ SqL K H a (is.map V.int) ∧ LamX.Tabs Tb H ∧ ∀ H', Q (.bl true) H'
section
variable {P : Program} {w : World} {K : PySem.W.Frag} {mg : Str → Option Value} {base : Heap}
abbrev NLa : List Str := ["_law_script", "_law_pen_here", "_law_letters_here", "_law_words", "_law_first", "_law_shape", "_law_plan", "_law_turn", "_law_last", "_law_goals", "_law_due", "_law_every", "_law_whole", "_law_one", "_law_other", "_law_k", "_law_number"]
theorem scLaw : FnScope NLa ["_law_script"] (defScope sLaw) := ⟨rfl, rfl, rfl, by decide +kernel, rfl, by decide +kernel, by decide +kernel⟩
theorem ok_law {f C CM CP : Addr} {fd : FuncData} {Tb : List (Addr × Str)} (F : Fun K "law" "law" sLaw f fd) (B : Bi mg) (T : Txd K C) (TM : TxtM K CM) (TP : TxP K CP)
    (cPen : Cal CX0 P w K mg base 1 "_law_pen" (spPen K)) (cD : Cal CX0 P w K mg base 1 "_law_draw" spDraw) (cL : Cal CX0 P w K mg base 3 "_law_letters" spLLet) (cW : Cal CX0 P w K mg base 3 "_law_word" spLWord) (cO : Cal CX0 P w K mg base 2 "_law_ordered" spLOrd) (cM : Cal CX0 P w K mg base 1 "_law_moves" spMoves) (cR : Cal CX0 P w K mg base 3 "_law_row" spRow) (cC : Cal CX0 P w K mg base 9 "_law_changed" (spChg K C CM CP Tb))
    (mkD : Mak CX0 P w K mg base 5 "Dictionary" C (spInitD K C Tb)) (mkP : Mak CX0 P w K mg base 5 "Pattern" CP (spPInit CP)) (mkM : Mak CX0 P w K mg base 3 "NumberMap" CM (spMInit K CM))
    (mMt : Met CX0 P w K mg base 6 C "map_to" (spMapTo K C CM)) (mJ : Met CX0 P w K mg base 7 C "join_with" (spJoin K C CM Tb)) :
    FnOk P w K mg base CX0 10 f fd ["_law_script"] (spLaw K Tb) := by
  refine F.ok scLaw (fun vs H Q E h => ?_) (fun cdv A outer s H vs Q E hr h => ?_)
  · obtain ⟨a, is, rfl, _⟩ := h
    rfl
  · obtain ⟨a0, is, rfl, hsc, tabs, q⟩ := h
    have hu := hu_of hr
    refine ⟨_, pss_cons (ps_set (i := 1) scLaw.nd rfl (Or.inr rfl) (pe_c cPen hr pass0 (pa_cons (pv 0) pa_nil)))
      (pss_cons (ps_set (i := 2) scLaw.nd rfl (Or.inr rfl) (pe_c cL hr pass0 (pa_cons (pv 1) (pa_cons pe_int pa_nil))))
      (pss_cons (ps_set (i := 3) scLaw.nd rfl (Or.inr rfl) (pe_c cO hr pass0 (pa_cons (pv 2) (pa_cons (pe_lc (own := [("_law_k", 15)]) rfl scLaw.nd (pi_range1 rfl B.range (pa_cons (pe_c cD hr pass0 (pa_cons (pv 1) (pa_cons pe_int pa_nil))) pa_nil)) (blkOk_by (N := NLa) (sc := defScope sLaw) (by decide +kernel))
          (fun _ _ _ _ _ => pg_name (i := 15) scLaw.nd rfl (Or.inl rfl)) (fun _ _ _ _ _ => pts_nil) (fun _ _ _ _ _ => pe_c cW hr pass0 (pa_cons (pv 1) (pa_cons (pv 2) (pa_cons pe_int pa_nil))))) pa_nil))))
      (pss_cons (ps_set (i := 4) scLaw.nd rfl (Or.inl rfl) (pe_mk mkD hr pass0 (pa_cons (pv 2) (pa_cons (pv 3) pa_nil))))
      (pss_cons (ps_set (i := 5) scLaw.nd rfl (Or.inl rfl) (pe_c cR hr pass0 (pa_cons (pv 1) (pa_cons (pv 2) pa_nil))))
      (pss_cons (ps_set (i := 6) scLaw.nd rfl (Or.inr rfl) (pe_disp (pps_cons pe_str (pv 4) (pps_cons pe_str (pv 3) (pps_cons pe_str (pv 2) (pps_cons pe_str (pe_ix (ix_tupK K rfl) (pv 5) pe_int (fun _ _ => rfl)) (pps_cons pe_str (pe_mk mkP hr pass0 (pa_cons (pv 2) (pa_cons (pv 5) pa_nil))) pps_nil))))) rfl rfl (by simp) (by decide)))
      (pss_cons (ps_dput hu (pv 6) pe_str (pe_op op_cat (pe_lc (own := [("_law_k", 15)]) rfl scLaw.nd (pi_range1 rfl B.range (pa_cons pe_int pa_nil)) (blkOk_by (N := NLa) (sc := defScope sLaw) (by decide +kernel))
          (fun _ _ _ _ _ => pg_name (i := 15) scLaw.nd rfl (Or.inl rfl)) (fun _ _ _ _ _ => pts_nil) (fun _ _ _ _ _ => pe_c cW hr pass0 (pa_cons (pv 1) (pa_cons (pv 2) (pa_cons pe_int pa_nil))))) (pe_slice (sl_listK K rfl) (pv 3) po_none (po_some pe_int))) rfl)
      (pss_cons (ps_asg (pe_tup (pa_cons (pe_mk mkM hr pass0 (pa_cons (pe_len B.len (pa_cons (pv 3) pa_nil)) (pa_cons (pe_listRg rfl rfl B.list (prg_1 rfl B.range (pe_len B.len (pa_cons (pv 3) pa_nil)))) pa_nil))) (pa_cons (pe_lst pa_nil) pa_nil))) (pg_tup rfl (pgs_cons (pg_sub (pv 6) pe_str (set_dict hu)) (pgs_cons (pg_sub (pv 6) pe_str (set_dict hu)) pgs_nil))))
      (pss_cons (ps_for PassesOwn.never rfl (pi_range1 rfl B.range (pa_cons (pe_op op_add pe_int (pe_c cD hr pass0 (pa_cons (pv 1) (pa_cons pe_int pa_nil)))) pa_nil)) (pg_name (i := 7) scLaw.nd rfl (Or.inl rfl))
          (pss_one (ps_if (pt_not (pt_val (pe_c cC hr pass0 (pa_cons (pv 1) (pa_cons (pv 6) pa_nil))))) pss_never pss_nil)))
      (pss_cons (ps_asg (pe_tup (pa_cons (pe_dget hu (pv 6) pe_str (fun _ _ => rfl)) (pa_cons (pe_c cM hr pass0 (pa_cons (pv 3) (pa_cons (pe_dget hu (pv 6) pe_str (fun _ _ => rfl)) pa_nil))) pa_nil))) (pg_tup rfl (pgs_cons (pg_name (i := 8) scLaw.nd rfl (Or.inl rfl)) (pgs_cons (pg_name (i := 9) scLaw.nd rfl (Or.inr rfl)) pgs_nil))))
      (pss_cons (ps_setLc (i := 10) (own := [("_law_number", 16)]) rfl scLaw.nd rfl rfl (sw_true rfl rfl rfl (by decide +kernel)) (pi_range1 rfl B.range (pa_cons (pe_len B.len (pa_cons (pv 3) pa_nil)) pa_nil)) (blkOk_by (N := NLa) (sc := defScope sLaw) (by decide +kernel))
          (fun _ _ _ _ _ => pg_name (i := 16) scLaw.nd rfl (Or.inl rfl)) (fun _ _ _ _ _ => pts_nil) (fun _ _ _ _ _ => pe_ifExp (pt_cmpR (op_in_seqK K rfl) (pe_ix (ix_listK K rfl) (pv 3) (pv 16) (fun _ _ => rfl)) (pe_dget hu (pv 6) pe_str (fun _ _ => rfl)) rfl) pe_non (pe_ix (ix_tupK K rfl) (pv 9) (pv 16) (fun _ _ => rfl))))
      (pss_cons (ps_if (PW.pt (pw_or (pt_cmpR (op_neN (hu64 hr)) (pe_fld (pe_dget hu (pv 6) pe_str (fun _ _ => rfl)) rfl) (pe_tupleOf rfl B.tuple (pv 10)) (nomark _)) (pw_or1 (pt_cmpR (op_neN (hu64 hr)) (pe_fld (pe_mt mMt hr pass0 (pv 4) (pa_cons (pv 8) pa_nil)) rfl) (pv 9) (nomark _))))) pss_never pss_nil)
      (pss_cons (ps_set (i := 11) scLaw.nd rfl (Or.inl rfl) (pe_c cO hr pass0 (pa_cons (pv 2) (pa_cons (pe_op op_cat (pv 3) (pe_dget hu (pv 6) pe_str (fun _ _ => rfl))) pa_nil))))
      (pss_cons (ps_asg (pe_mt mJ hr pass0 (pv 4) (pa_cons (pv 8) pa_nil)) (pg_tup rfl (pgs_cons (pg_name (i := 12) scLaw.nd rfl (Or.inl rfl)) (pgs_cons (pg_name (i := 13) scLaw.nd rfl (Or.inl rfl)) (pgs_cons (pg_name (i := 14) scLaw.nd rfl (Or.inl rfl)) pgs_nil)))))
      (pss_cons (ps_if (PW.pt (pw_or (pt_cmpR (op_neT (hu64 hr)) (pe_fld (pv 12) rfl) (pe_tupleOf rfl B.tuple (pv 11)) (nomark _)) (pw_or1 (pt_cmpR (op_neN (hu64 hr)) (pe_fld (pv 13) rfl) (pe_c cM hr pass0 (pa_cons (pv 3) (pa_cons (pv 11) pa_nil))) (nomark _))))) pss_never pss_nil)
      (pss_one (ps_ret (pe_and (pe_cmpR (op_eqN (hu64 hr)) (pe_fld (pv 14) rfl) (pe_c cM hr pass0 (pa_cons (pe_dget hu (pv 6) pe_str (fun _ _ => rfl)) (pa_cons (pv 11) pa_nil))) (nomark _)) (pe_one (pe_cmpR op_eq (pe_fld (pv 13) rfl) (pe_len B.len (pa_cons (pv 11) pa_nil)) (nomark _)))))))))))))))))))), ?_⟩
    refine ⟨_, rfl, a0, is, rfl, hsc, fun pn cl H1 npn ncl e1 pen1 => ?_⟩
    have tab1 := tabs.ext e1
    clear tabs e1 hsc npn ncl
    refine ⟨_, rfl, pn, cl, 0, rfl, pen1, by decide, fun ls H2 LL b2 pen2 => ?_⟩
    have tab2 := tabs_but tab1 pen1 b2
    clear tab1 pen1 b2
    refine ⟨_, rfl, _, rfl, pn, cl, _, 6, rfl, pen2, by decide, by decide, by decide, fun r H3 r0 r1 b3 pen3 => ⟨_, rfl, by omega, by omega, ?_⟩⟩
    have tab3 := tabs_but tab2 pen2 b3
    obtain ⟨n, rfl⟩ := Int.eq_ofNat_of_zero_le r0
    have n9 : n < 9 := by omega
    clear tab2 pen2 b3
    intro D nD
    have npD : pn ≠ D := (pen3.off nD).1
    have ncD : cl ≠ D := (pen3.off nD).2
    refine lc_it walk_range (fun i H' => ∃ ws : List (List Nat), ws.length = i ∧ (∀ w ∈ ws, w.length ≤ 3 ∧ ∀ c ∈ w, c ∈ ls) ∧ Pen H' pn cl (7 + 6 * i) ∧ H' D = some (.lst (txs ws)) ∧ LamX.Tabs Tb H') ⟨[], rfl, (fun _ h => nomatch h), pen3.upd npD ncD, upd_same, tab3.ext (same_new nD)⟩ (fun _ _ _ _ => True.intro) ?_ ?_
    · rintro i x H4 H5 hi ⟨ws, lw, hw, pen4, hD, tab4⟩ ⟨rfl, hx⟩
      refine ⟨rfl, yesT ⟨_, rfl, _, rfl, pn, cl, ls, _, rfl, pen4, by omega, LL, fun w H6 w5 wl b6 pen6 => ?_⟩⟩
      have hD6 := b6 _ _ (pen4.ne hD fun _ z => by cases z) hD
      have tab6 := tabs_but tab4 pen4 b6
      refine ⟨_, hD6, by rw [txs_len]; exact small10 (by omega), ws ++ [w], by rw [List.length_append, lw]; rfl, fun u hu => ?_, (pen6.mono (by omega)).upd npD ncD, ?_, tabs_at tab6 hD6 (fun _ z => nomatch z) (fun _ z => nomatch z) fun c o n z => (upd_ne n).trans z⟩
      · rcases List.mem_append.mp hu with h | h
        · exact hw u h
        · rw [List.mem_singleton.mp h]
          exact ⟨w5, wl⟩
      · rw [upd_same]
        unfold txs
        rw [List.map_append]
        rfl
    rintro H4 ⟨ws, lw, hw, pen4, hD, tab4⟩
    clear tab3 pen3 nD npD ncD
    refine ⟨D, ls, ws, rfl, hD, LL, ⟨by omega, fun w m => ⟨by have := (hw w m).1; omega, (hw w m).2⟩⟩, fun t us H5 ord e5 ht => ?_⟩
    have pen5 := (pen4.same e5).mono (c := 100) (by omega)
    have tab5 := tab4.ext e5
    have wu : ∀ u ∈ us, u.length ≤ 3 ∧ ∀ c ∈ u, c ∈ ls := fun u m => hw u ((ord.mem u).mp m)
    have um := ord.many
    have up := ord.up
    have lus : us.length ≤ 8 := by omega
    clear ord hw lw e5 hD pen4 tab4 um
    have O : OkD ls us := ⟨LL.L, by omega, fun u m => ⟨by have := (wu u m).1; omega, (wu u m).2⟩, up⟩
    refine ⟨_, rfl, _, rfl, ?_⟩
    refine mk_d (.inl ht) LL.L O.nd (by omega) O.word tab5 fun df us2 H6 pu O2 ex6 D6 tab6 => ⟨rfl, ?_⟩
    obtain rfl : us = us2 := (ord_eq pu O2.up up).symm
    have ht6 := ex6 _ _ ht (fun _ z => nomatch z)
    have pen6 := pen5.ext ex6
    clear ht pen5 tab5 ex6 pu
    refine ⟨_, rfl, _, rfl, pn, cl, ls, 100, rfl, pen6, by decide, LL, fun ts tu its H7 li oi b7 pen7 hts htu => ?_⟩
    have kq7 := Kq.but pen6 b7
    have D7 := D6.kq kq7
    have tab7 := tabs_but tab6 pen6 b7
    have ht7 := kq7 _ _ stay_lst ht6
    clear D6 tab6 ht6 pen6 b7 kq7
    intro pl npl
    have e7 := same_new (o := .dK []) npl
    refine ⟨_, rfl, _, rfl, _, rfl, _, rfl, ts, _, _, _, rfl, rfl, SqT.of (e7 _ _ hts), atI_nat (j := 1) rfl, _, rfl, _, rfl, ?_⟩
    refine mk_p (e7 _ _ hts) (e7 _ _ htu) (by omega) oi LL.L fun pat H8 e8 PT8 => ⟨rfl, ?_⟩
    have hpl8 := e8 _ _ (show upd H7 pl (.dK []) pl = some (.dK []) from upd_same)
    refine ⟨hpl8, [(.inr "found", .ref df), (.inr "words", .ref t), (.inr "letters", .str (S ls)), (.inr "items", .ref tu), (.inr "pattern", .ref pat)], rfl, (by show 5 ≤ 15; decide), ?_⟩
    have e78 := e7.trans e8
    have e79 : ∀ o, Same H7 (upd H8 pl o) := fun o b x z => (upd_ne (ne_of_none z npl)).trans (e78 _ _ z)
    have PT9 : ∀ o, IsP CP (upd H8 pl o) pat ls its := fun o => by
      have g : ∀ b x, H8 b = some x → x ≠ .dK [] → upd H8 pl o b = some x := fun b x z ne => (upd_ne (ne_of z hpl8 ne)).trans z
      obtain ⟨dx, a, M, Kk, Cl, sts, mv, h1, h2, h3, h4, h5, h6, h7⟩ := PT8
      refine ⟨dx, a, M, Kk, Cl, sts, mv, g _ _ h1 (fun z => nomatch z), g _ _ h2 (fun z => nomatch z), h3, h4.same (fun a ys z => g _ _ z fun z => nomatch z), g _ _ h5 (fun z => nomatch z), h6, g _ _ h7 fun z => ?_⟩
      have z2 := congrArg List.length (HO.dK.inj z)
      unfold colK asc at z2
      rw [List.length_map, List.length_range, List.length_nil] at z2
      have := LL.L.lo
      omega
    have hg9 : ∀ j : Key, valV (mergeK [] [((.inr "found" : Key), V.ref df), (.inr "words", .ref t), (.inr "letters", .str (S ls)), (.inr "items", .ref tu), (.inr "pattern", .ref pat)]) j = if j = .inr "pattern" then some (.ref pat) else if j = .inr "items" then some (.ref tu) else if j = .inr "letters" then some (.str (S ls)) else if j = .inr "words" then some (.ref t) else if j = .inr "found" then some (.ref df) else none := fun j => by
      unfold mergeK
      simp only [List.foldl_cons, List.foldl_nil]
      rw [valV_put, valV_put, valV_put, valV_put, valV_put]
      rfl
    have hl9 : (mergeK [] [((.inr "found" : Key), V.ref df), (.inr "words", .ref t), (.inr "letters", .str (S ls)), (.inr "items", .ref tu), (.inr "pattern", .ref pat)]).length ≤ 5 := by
      unfold mergeK
      simp only [List.foldl_cons, List.foldl_nil]
      refine Nat.le_trans (putK_le _ _ _) (Nat.succ_le_succ (Nat.le_trans (putK_le _ _ _) (Nat.succ_le_succ (Nat.le_trans (putK_le _ _ _) (Nat.succ_le_succ (Nat.le_trans (putK_le _ _ _) (Nat.succ_le_succ (putK_le _ _ _))))))))
    generalize mergeK [] [((.inr "found" : Key), V.ref df), (.inr "words", .ref t), (.inr "letters", .str (S ls)), (.inr "items", .ref tu), (.inr "pattern", .ref pat)] = kvs at hg9 hl9 ⊢
    have D9 := D7.same (e79 (.dK kvs))
    have ht9 := e79 (.dK kvs) _ _ ht7
    have htu9 := e79 (.dK kvs) _ _ htu
    have pen9 := pen7.same (e79 (.dK kvs))
    have tab9 := tab7.ext (e79 (.dK kvs))
    have hpl9 : upd H8 pl (.dK kvs) pl = some (.dK kvs) := upd_same
    have PTn := PT9 (.dK kvs)
    have npn : pl ≠ pn := (pen7.off npl).1.symm
    have ncl : cl ≠ pl := (pen7.off npl).2
    clear PT9 e79 e7 e8 e78 D7 ht7 htu hts pen7 tab7 npl hpl8 PT8
    generalize upd H8 pl (.dK kvs) = H9 at D9 ht9 htu9 pen9 tab9 hpl9 PTn ⊢
    dsimp only [gName, tSeq, tAsg]
    have g4 : ∀ {kv : List (Key × V)} {H' : Hp} {kk : Str} {v : V}, H' pl = some (.dK kv) → valV kv (.inr kk) = some v → DGet H' pl (.str kk) (some v) := fun {kv H' kk v} h e => by
      have z := DGet.k (k := .inr kk) h
      rw [e] at z
      exact z
    refine ⟨_, rfl, by decide, by decide, ?_⟩
    intro Dp nDp
    have npD : pn ≠ Dp := (pen9.off nDp).1
    have ncD : cl ≠ Dp := (pen9.off nDp).2
    refine lc_it walk_range (fun i H' => ∃ ps : List (List Nat), ps.length = i ∧ (∀ w ∈ ps, w.length ≤ 3 ∧ ∀ c ∈ w, c ∈ ls) ∧ Pen H' pn cl (110 + 6 * i) ∧ H' Dp = some (.lst (txs ps)) ∧ LamX.Tabs Tb H' ∧ Kq H9 H' ∧ H' pl = some (.dK kvs)) ⟨[], rfl, (fun _ h => nomatch h), pen9.upd npD ncD, upd_same, tab9.ext (same_new nDp), Kq.same (same_new nDp), same_new nDp _ _ hpl9⟩ (fun _ _ _ _ => True.intro) ?_ ?_
    · rintro i x H10 H11 hi ⟨ps, lw, hw, pen10, hD, tab10, kq10, hpl10⟩ ⟨rfl, hx⟩
      refine ⟨rfl, yesT ⟨_, rfl, _, rfl, pn, cl, ls, _, rfl, pen10, by omega, LL, fun w H12 w5 wl b12 pen12 => ?_⟩⟩
      have hD12 := b12 _ _ (pen10.ne hD fun _ z => by cases z) hD
      have tab12 := tabs_but tab10 pen10 b12
      have kq12 := kq10.trans (Kq.but pen10 b12)
      have hpl12 := b12 _ _ npn hpl10
      refine ⟨_, hD12, by rw [txs_len]; exact small10 (by omega), ps ++ [w], by rw [List.length_append, lw]; rfl, fun u hu => ?_, (pen12.mono (by omega)).upd npD ncD, ?_, tabs_at tab12 hD12 (fun _ z => nomatch z) (fun _ z => nomatch z) fun c o n z => (upd_ne n).trans z, fun b o st z => (upd_ne (ne_of_none z nDp)).trans (kq12 b o st z), (upd_ne (ne_of_none hpl9 nDp)).trans hpl12⟩
      · rcases List.mem_append.mp hu with h | h
        · exact hw u h
        · rw [List.mem_singleton.mp h]
          exact ⟨w5, wl⟩
      · rw [upd_same]
        unfold txs
        rw [List.map_append]
        rfl
    rintro H10 ⟨ps, lps, hps, pen10, hDp, tab10, kq10, hpl10⟩
    have ht10 := kq10 _ _ stay_lst ht9
    refine ⟨_, rfl, 3, rfl, t, _, rfl, SqL.of ht10, fun Lq nLq => ?_⟩
    have cut3 : cutV (txs us) none (some 3) = txs (us.take 3) := by
      unfold cutV
      rw [show ((3 : Int)) = ((3 : Nat) : Int) from rfl, HT.sIx_nat, HT.sIx_none, List.drop_zero, Nat.sub_zero, txs_len]
      unfold txs
      rw [← List.map_take]
      congr 1
      by_cases c : 3 ≤ us.length
      · rw [Nat.min_eq_left c]
      · rw [Nat.min_eq_right (by omega), List.take_of_length_le (Nat.le_refl _), List.take_of_length_le (by omega)]
    have e11 := same_new (o := .lst (cutV (txs us) none (some 3))) nLq
    have hLq : upd H10 Lq (.lst (cutV (txs us) none (some 3))) Lq = some (.lst (txs (us.take 3))) := by
      rw [upd_same, cut3]
    generalize upd H10 Lq (.lst (cutV (txs us) none (some 3))) = H11 at e11 hLq ⊢
    refine ⟨Dp, Lq, _, _, rfl, rfl, e11 _ _ hDp, hLq, by rw [txs_len, txs_len, List.length_take]; exact Nat.le_of_lt (small10 (by omega)), fun po npo => ?_⟩
    have gF9 : valV kvs (.inr "found") = some (.ref df) := by
      rw [hg9, if_neg (by decide +kernel), if_neg (by decide +kernel), if_neg (by decide +kernel), if_neg (by decide +kernel), if_pos rfl]
    have gW9 : valV kvs (.inr "words") = some (.ref t) := by
      rw [hg9, if_neg (by decide +kernel), if_neg (by decide +kernel), if_neg (by decide +kernel), if_pos rfl]
    have gL9 : valV kvs (.inr "letters") = some (.str (S ls)) := by
      rw [hg9, if_neg (by decide +kernel), if_neg (by decide +kernel), if_pos rfl]
    have gI9 : valV kvs (.inr "items") = some (.ref tu) := by
      rw [hg9, if_neg (by decide +kernel), if_pos rfl]
    have gP9 : valV kvs (.inr "pattern") = some (.ref pat) := by
      rw [hg9, if_pos rfl]
    have hR9 := hasR_of gF9
    clear hg9
    have e12 := same_new (o := .lst (txs ps ++ txs (us.take 3))) npo
    have hpo : upd H11 po (.lst (txs ps ++ txs (us.take 3))) po = some (.lst (txs (ps ++ us.take 3))) := by
      rw [upd_same]
      unfold txs
      rw [List.map_append]
    generalize upd H11 po (.lst (txs ps ++ txs (us.take 3))) = H12 at e12 hpo ⊢
    have e102 := e11.trans e12
    have hpl12 := e102 _ _ hpl10
    have pen12 := pen10.same e102
    have tab12 := tab10.ext e102
    have kq12 := kq10.trans (Kq.same e102)
    refine ⟨_, rfl, pl, _, rfl, DPut.k (k := .inr "pool") hpl12 (small10 (by omega)), ?_⟩
    have st13 := stp_put (.inr "pool") (.ref po) hpl12 hR9 pen12 tab12 npn ncl
    have ln13 := putK_le kvs (.inr "pool") (.ref po)
    have g13 : ∀ j : Key, valV (putK kvs (.inr "pool") (.ref po)) j = if j = .inr "pool" then some (.ref po) else valV kvs j := fun j => valV_put ..
    generalize upd H12 pl (.dK (putK kvs (.inr "pool") (.ref po))) = H13 at st13 ⊢
    generalize putK kvs (.inr "pool") (.ref po) = kvs1 at st13 ln13 g13
    have kq13 := kq12.trans st13.kq
    have ht13 := kq13 _ _ stay_lst ht9
    have hpo13 := st13.kq _ _ stay_lst hpo
    clear e11 e12 e102 hLq hDp tab10 pen10 hpl10 kq10 ht10 tab12 pen12 hpl12 kq12 hpo npD ncD
    dsimp only [tSeq, tAsg]
    refine ⟨_, rfl, t, _, rfl, .inl (SqL.of ht13), _, rfl, t, _, rfl, .inl (SqL.of ht13), _, rfl, ?_⟩
    rw [txs_len]
    refine ⟨⟨by omega, by omega, by omega, by omega, by omega⟩, fun Lr nLr => ?_⟩
    have rg0 : rgV 0 ((us.length : Nat) : Int) = mvp (fun u => decide (u ∉ ([] : List (List Nat)))) us us := by
      rw [← due_mvp O.nd]
      unfold rgV
      rw [Int.sub_zero, Int.toNat_natCast]
      refine List.map_congr_left fun i _ => ?_
      rw [if_pos (by simp), Int.zero_add]
    rw [rg0]
    have e14 := same_new (o := .lst (mvp (fun u => decide (u ∉ ([] : List (List Nat)))) us us)) nLr
    have hLr : upd H13 Lr (.lst (mvp (fun u => decide (u ∉ ([] : List (List Nat)))) us us)) Lr = some (.lst (mvp (fun u => decide (u ∉ ([] : List (List Nat)))) us us)) := upd_same
    generalize upd H13 Lr (.lst (mvp (fun u => decide (u ∉ ([] : List (List Nat)))) us us)) = H14 at e14 hLr ⊢
    refine made_ok (.inl (SqL.of hLr)) mvp_num (by omega) (by omega) (by rw [mvp_len]; omega) (mvp_scan up us 0 0 (fun w m _ => m) up fun _ _ _ => by omega) fun wh H15 e15 nwh MW15 => ⟨rfl, ?_⟩
    refine ⟨Nat.zero_le _, fun L16 nL16 => ?_⟩
    have e16 := same_new (o := .lst []) nL16
    have hL16 : upd H15 L16 (.lst []) L16 = some (.lst (txs [])) := upd_same
    generalize upd H15 L16 (.lst []) = H16 at e16 hL16 ⊢
    refine ⟨Nat.le_of_lt (small10 (show 2 ≤ 10000 by decide)), fun t17 nt17 => ?_⟩
    have e17 := same_new (o := .tup [.ref wh, .ref L16]) nt17
    have ht17 : upd H16 t17 (.tup [.ref wh, .ref L16]) t17 = some (.tup [.ref wh, .ref L16]) := upd_same
    generalize upd H16 t17 (.tup [.ref wh, .ref L16]) = H17 at e17 ht17 ⊢
    have e1317 := e14.trans (e15.trans (e16.trans e17))
    have MW17 := MW15.same (e16.trans e17)
    have hL17 := e17 _ _ hL16
    have s1 : ∀ {j : Key} {v : V}, ¬ j = .inr "pool" → valV kvs j = some v → valV kvs1 j = some v := fun h1 h => (g13 _).trans ((if_neg h1).trans h)
    have hR1 : HasR kvs1 := hasR_of (s1 (by decide +kernel) gF9)
    have hpl17 := e1317 _ _ st13.pl
    refine ⟨t17, _, rfl, SqT.of ht17, rfl, _, _, rfl, _, rfl, pl, _, rfl, DPut.k (k := .inr "whole") hpl17 (small10 (by omega)), ?_⟩
    have st18 := stp_put (.inr "whole") (.ref wh) hpl17 hR1 (st13.pen.same e1317) (st13.tabs.ext e1317) npn ncl
    have ln18 := putK_le kvs1 (.inr "whole") (.ref wh)
    have g18 : ∀ j : Key, valV (putK kvs1 (.inr "whole") (.ref wh)) j = if j = .inr "whole" then some (.ref wh) else valV kvs1 j := fun j => valV_put ..
    generalize upd H17 pl (.dK (putK kvs1 (.inr "whole") (.ref wh))) = H18 at st18 ⊢
    generalize putK kvs1 (.inr "whole") (.ref wh) = kvs2 at st18 ln18 g18
    have s2 : ∀ {j : Key} {v : V}, ¬ j = .inr "whole" → valV kvs1 j = some v → valV kvs2 j = some v := fun h1 h => (g18 _).trans ((if_neg h1).trans h)
    have hR2 : HasR kvs2 := hasR_of (s2 (by decide +kernel) (s1 (by decide +kernel) gF9))
    refine ⟨_, _, rfl, _, rfl, pl, _, rfl, DPut.k (k := .inr "struck") st18.pl (small10 (by omega)), ?_⟩
    have st19 := stp_put (.inr "struck") (.ref L16) st18.pl hR2 st18.pen st18.tabs npn ncl
    have ln19 := putK_le kvs2 (.inr "struck") (.ref L16)
    have g19 : ∀ j : Key, valV (putK kvs2 (.inr "struck") (.ref L16)) j = if j = .inr "struck" then some (.ref L16) else valV kvs2 j := fun j => valV_put ..
    generalize upd H18 pl (.dK (putK kvs2 (.inr "struck") (.ref L16))) = H19 at st19 ⊢
    generalize putK kvs2 (.inr "struck") (.ref L16) = kvs3 at st19 ln19 g19
    have s3 : ∀ {j : Key} {v : V}, ¬ j = .inr "struck" → valV kvs2 j = some v → valV kvs3 j = some v := fun h1 h => (g19 _).trans ((if_neg h1).trans h)
    have kq1719 := st18.kq.trans st19.kq
    have kq1319 := (Kq.same e1317).trans kq1719
    have kq19 := kq13.trans kq1319
    have plan0 : IsPlan K C CM CP H19 pl ls us us its (ps ++ us.take 3) [] := by
      refine ⟨kvs3, df, t, tu, pat, po, wh, L16, st19.pl, by omega, ?_, ?_, ?_, ?_, ?_, ?_, ?_, ?_, D9.kq kq19, kq19 _ _ stay_lst ht9, kq19 _ _ stay_tup htu9, PTn.kq kq19, kq1319 _ _ stay_lst hpo13, MW17.kq kq1719, kq1719 _ _ stay_lst hL17⟩
      · exact s3 (by decide +kernel) (s2 (by decide +kernel) (s1 (by decide +kernel) gF9))
      · exact s3 (by decide +kernel) (s2 (by decide +kernel) (s1 (by decide +kernel) gW9))
      · exact s3 (by decide +kernel) (s2 (by decide +kernel) (s1 (by decide +kernel) gL9))
      · exact s3 (by decide +kernel) (s2 (by decide +kernel) (s1 (by decide +kernel) gI9))
      · exact s3 (by decide +kernel) (s2 (by decide +kernel) (s1 (by decide +kernel) gP9))
      · exact s3 (by decide +kernel) (s2 (by decide +kernel) ((g13 _).trans (if_pos rfl)))
      · exact s3 (by decide +kernel) ((g18 _).trans (if_pos rfl))
      · exact (g19 _).trans (if_pos rfl)
    have ok0 : PlanOk ls us us its (ps ++ us.take 3) [] 8 := by
      refine ⟨LL, O, O, by omega, by omega, fun u hu => by have := (wu u hu).1; omega, ⟨by omega, fun it hit => (oi it hit).2⟩, ⟨?_, ?_, ?_⟩, Nat.zero_le _, fun u hu _ => hu⟩
      · intro z
        have := congrArg List.length z
        rw [List.length_append, lps] at this
        simp at this
      · rw [List.length_append, List.length_take]
        omega
      · intro w hw
        rcases List.mem_append.mp hw with h | h
        · exact ⟨by have := (hps w h).1; omega, (hps w h).2⟩
        · have := wu w (List.mem_of_mem_take h)
          exact ⟨by omega, this.2⟩
    have D19 := D9.kq kq19
    have ht19 := kq19 _ _ stay_lst ht9
    have pen19 := st19.pen
    have tab19 := st19.tabs
    clear gF9 gW9 gL9 gI9 gP9 hR9 kq13 ht13 hpo13 rg0 e14 hLr e15 nwh MW15 e16 hL16 nt17 e17 ht17 e1317 MW17 hL17 s1 hR1 hpl17 st18 ln18 g18 s2 hR2 ln19 g19 s3 kq1719 kq1319 kq19 st19 st13 g13 ln13 D9 ht9 htu9 pen9 tab9 hpl9 PTn nDp nLq npo nL16 nLr
    refine ⟨rfl, ?_⟩
    dsimp only [tSeq, tAsg]
    refine ⟨_, rfl, pn, cl, _, 134, rfl, pen19.mono (by omega), by decide, by decide, by decide, fun r H20 r0 r1 b20 pen20 => ⟨_, _, rfl, rfl, _, rfl, by omega, by omega, ?_⟩⟩
    have kq20 := Kq.but pen19 b20
    have plan20 := plan0.kq kq20 fun kv z => b20 _ _ npn z
    have tab20 := tabs_but tab19 pen19 b20
    have D20 := D19.kq kq20
    have ht20 := kq20 _ _ stay_lst ht19
    clear plan0 tab19 pen19 D19 ht19 b20 kq20
    obtain ⟨k9, rfl⟩ := Int.eq_ofNat_of_zero_le r0
    have k9l : k9 < 9 := by omega
    refine for_it walk_range (fun i σ H' => ∃ us' sk o7, σ = [some (.ref a0), some (.ref pn), some (.str (S ls)), some (.ref t), some (.ref df), some (.ref ts), some (.ref pl), o7, none, none, none, none, none, none, none, none, none] ∧ Pen H' pn cl (135 + i) ∧ IsPlan K C CM CP H' pl ls us us' its (ps ++ us.take 3) sk ∧ PlanOk ls us us' its (ps ++ us.take 3) sk (8 + i) ∧ LamX.Tabs Tb H' ∧ Kq H20 H') ⟨us, [], none, rfl, pen20, plan20, ok0, tab20, Kq.refl _⟩ (fun _ _ _ _ _ => True.intro) ?_ ?_
    · rintro i x σ H21 H22 hi ⟨us', sk, o7, rfl, pen21, plan21, ok21, tab21, kq21⟩ ⟨rfl, hx⟩
      refine ⟨_, rfl, _, rfl, pn, cl, pl, 135 + i, 8 + i, ls, us, us', its, ps ++ us.take 3, sk, rfl, pen21, by omega, plan21, ok21, by omega, tab21, fun us2 sk2 H23 pen23 plan23 ok23 kq23 tab23 => ?_⟩
      refine ⟨_, rfl, ?_⟩
      refine ite2 (fun c => absurd c (by decide)) fun _ => ?_
      exact ⟨us2, sk2, _, rfl, pen23, plan23, ok23, tab23, kq21.trans kq23⟩
    rintro σ H21 ⟨us', sk, o7, rfl, pen21, plan21, ok21, tab21, kq21⟩
    obtain ⟨kvA, dl, wl, it2, pat2, po2, wh2, st2, hpl, klen, gF, gW, gL, gI, gP, gPo, gWh, gSt, Dl, hwl, hit, PTl, hpol, MWl, hstl⟩ := id plan21
    have D21 := D20.kq kq21
    have ht21 := kq21 _ _ stay_lst ht20
    have fl := ok21.few
    have Ol := ok21.O
    clear plan20 ok0 tab20 D20 ht20 pen20 kq21 plan21
    dsimp only [tSeq, tAsg]
    refine ⟨_, rfl, pl, _, rfl, g4 hpl gF, _, rfl, _, rfl, pl, _, rfl, g4 hpl gW, t, wl, us, us', rfl, ht21, hwl, by omega, by omega, fun tg H22 e22 htg => ?_⟩
    refine ⟨Nat.le_of_lt (small10 (show 2 ≤ 10000 by decide)), fun t23 nt23 => ?_⟩
    have e23 := same_new (o := .tup [.ref dl, .ref tg]) nt23
    have ht23 : upd H22 t23 (.tup [.ref dl, .ref tg]) t23 = some (.tup [.ref dl, .ref tg]) := upd_same
    generalize upd H22 t23 (.tup [.ref dl, .ref tg]) = H23 at e23 ht23 ⊢
    refine ⟨t23, _, rfl, SqT.of ht23, rfl, _, _, rfl, _, _, rfl, rfl, ?_⟩
    have e213 := e22.trans e23
    have htg23 := e23 _ _ htg
    have ht23' := e213 _ _ ht21
    have hwl23 := e213 _ _ hwl
    have hpl23 := e213 _ _ hpl
    have hst23 := e213 _ _ hstl
    have MW23 := MWl.same e213
    have Dl23 := Dl.same e213
    have D23 := D21.same e213
    have tab23 := tab21.ext e213
    clear e22 e23 htg ht21 hwl hpl hstl MWl Dl D21 tab21 nt23 ht23
    dsimp only [tSeq, tAsg]
    refine ⟨_, rfl, t, _, rfl, .inl (SqL.of ht23'), _, rfl, by rw [txs_len]; omega, by rw [txs_len]; omega, ?_⟩
    rw [txs_len]
    intro Ld nLd
    refine lc_it walk_range (fun i H' => Same H23 H' ∧ H' Ld = some (.lst ((us.take i).map fun u => if decide (u ∉ sk) = true then V.int ((us'.idxOf u : Nat) : Int) else .non))) ⟨same_new nLd, upd_same⟩ (fun _ _ _ _ => True.intro) ?_ ?_
    · rintro i x H24 H25 hi ⟨e24, hL⟩ ⟨rfl, hx⟩
      have hi2 : i < us.length := by omega
      have ex : x = V.int ((i : Nat) : Int) := by rw [hx]; show V.int (0 + ((i : Nat) : Int)) = _; rw [Int.zero_add]
      subst ex
      have tk : us.take (i + 1) = us.take i ++ [us[i]] := by rw [List.take_add_one, List.getElem?_eq_getElem hi2]; rfl
      have fin : ∀ y, y = (if decide (us[i] ∉ sk) = true then V.int ((us'.idxOf us[i] : Nat) : Int) else .non) → ∃ acc, H25 Ld = some (.lst acc) ∧ acc.length < sizeLine ∧ Same H23 (upd H25 Ld (.lst (acc ++ [y]))) ∧ upd H25 Ld (.lst (acc ++ [y])) Ld = some (.lst ((us.take (i + 1)).map fun u => if decide (u ∉ sk) = true then V.int ((us'.idxOf u : Nat) : Int) else .non)) := fun y ey => by
        refine ⟨_, hL, ?_, fun b o z => ?_, ?_⟩
        · rw [List.length_map, List.length_take]
          exact small10 (by omega)
        · rw [upd_ne (ne_of_none z nLd)]
          exact e24 _ _ z
        · rw [upd_same, tk, List.map_append, ey]
          rfl
      refine ⟨rfl, yesT ⟨_, rfl, _, rfl, t, _, _, _, rfl, rfl, SqL.of (e24 _ _ ht23'), atI_nat (show (us.map fun w => V.str (S w))[i]? = some (.str (S us[i])) by rw [List.getElem?_map, List.getElem?_eq_getElem hi2]; rfl), _, rfl, pl, _, rfl, g4 (e24 _ _ hpl23) gSt, st2, _, rfl, .inl (SqL.of (e24 _ _ hst23)), rfl, flat_txs _, ?_⟩⟩
      rw [if_neg (by decide), in_txs]
      by_cases c : us[i] ∈ sk
      · rw [decide_eq_true c]
        refine ⟨_, rfl, iteT ?_⟩
        refine fin _ ?_
        rw [if_neg (by simpa using c)]
      · rw [decide_eq_false c]
        have m2 := ok21.inn _ (List.getElem_mem hi2) c
        refine ⟨_, rfl, iteF ⟨_, rfl, _, rfl, tg, _, _, _, rfl, rfl, SqT.of (e24 _ _ htg23), atI_nat (show (mv us us')[i]? = some (V.int ((us'.idxOf us[i] : Nat) : Int)) by unfold mv; rw [List.getElem?_map, List.getElem?_eq_getElem hi2]; show some (if us[i] ∈ us' then _ else _) = _; rw [if_pos m2]), ?_⟩⟩
        refine fin _ ?_
        rw [if_pos (by simpa using c)]
    rintro H24 ⟨e24, hLd⟩
    rw [Int.toNat_natCast, List.take_length] at hLd
    have hLd24 : H24 Ld = some (.lst (mvp (fun u => decide (u ∉ sk)) us us')) := hLd
    dsimp only [gName, tSeq, tAsg]
    obtain ⟨dxw, tw, jw1, jw2⟩ := id (MW23.same e24)
    refine ⟨_, rfl, pl, _, rfl, g4 (e24 _ _ hpl23) gWh, wh2, CM, dxw, _, _, rfl, jw1, TM.cl, TM.nN, mapF_numbers _ _, _, rfl, .inl ⟨Ld, _, rfl, SqL.of hLd24, fun du ndu => ?_⟩⟩
    have e25 := same_new (o := .tup (mvp (fun u => decide (u ∉ sk)) us us')) ndu
    have hdu : upd H24 du (.tup (mvp (fun u => decide (u ∉ sk)) us us')) du = some (.tup (mvp (fun u => decide (u ∉ sk)) us us')) := upd_same
    generalize upd H24 du (.tup (mvp (fun u => decide (u ∉ sk)) us us')) = H25 at e25 hdu ⊢
    refine ⟨tw, du, _, _, rfl, rfl, .inr ⟨Same.seqT e25 jw2, SqT.of hdu⟩, mvp_num, mvp_num, ?_⟩
    rw [if_pos rfl, decide_eq_true rfl]
    have e235 := e24.trans e25
    have D25 := D23.same e235
    have Dl25 := Dl23.same e235
    obtain ⟨dxf, _, tf, _, _, f1, _, f3, _⟩ := id D25
    refine ⟨_, rfl, iteF ⟨_, rfl, df, dxf, _, rfl, f1, df_no, _, rfl, df, dl, ls, us, us', rfl, D25, O, Dl25, Ol, fun rm H26 e26 Mm => ?_⟩⟩
    obtain ⟨dxm, tm, jm1, jm2⟩ := id Mm
    refine ⟨rm, CM, dxm, _, _, rfl, jm1, TM.cl, TM.nN, mapF_numbers _ _, _, rfl, tm, tg, _, _, rfl, rfl, .inr ⟨jm2, SqT.of (e26 _ _ (e235 _ _ htg23))⟩, mv_num, mv_num, ?_⟩
    rw [if_pos rfl, decide_eq_true rfl]
    refine ⟨_, rfl, ?_⟩
    refine ite2 (fun c => absurd c (by decide)) fun _ => ?_
    have e236 := e235.trans e26
    have D26 := D23.same e236
    have Dl26 := Dl23.same e236
    have ht26 := e236 _ _ ht23'
    have hwl26 := e236 _ _ hwl23
    have hpl26 := e236 _ _ hpl23
    have tab26 := tab23.ext e236
    dsimp only [tNext, tSeq, tAsg]
    refine ⟨_, rfl, _, rfl, _, rfl, pl, _, rfl, g4 hpl26 gW, t, wl, _, _, rfl, rfl, ht26, hwl26, by rw [txs_len, txs_len]; exact Nat.le_of_lt (small10 (by omega)), fun L27 nL27 => ?_⟩
    have e27 := same_new (o := .lst (txs us ++ txs us')) nL27
    have hL27 : upd H26 L27 (.lst (txs us ++ txs us')) L27 = some (.lst (txs (us ++ us'))) := by
      rw [upd_same]
      unfold txs
      rw [List.map_append]
    generalize upd H26 L27 (.lst (txs us ++ txs us')) = H27 at e27 hL27 ⊢
    refine ⟨L27, ls, us ++ us', rfl, hL27, LL, ⟨by rw [List.length_append]; omega, fun w hw => ?_⟩, fun te es H28 ord e28 hte => ?_⟩
    · rcases List.mem_append.mp hw with h | h
      · have := wu w h
        exact ⟨by omega, this.2⟩
      · exact ⟨ok21.w5 w h, (Ol.word w h).2⟩
    have e268 := e27.trans e28
    have D28 := D26.same e268
    have Dl28 := Dl26.same e268
    obtain ⟨dxj, _, tj, _, _, j1, _, j3, _⟩ := id D28
    refine ⟨_, rfl, df, dxj, _, rfl, j1, df_no, _, rfl, df, dl, ls, us, us', rfl, D28, O, Dl28, Ol, by omega, tab26.ext e268, fun tt m r r2 ws2 H29 pm2 O2 ex29 htt D29 M29 M29' => ?_⟩
    refine ⟨tt, _, rfl, SqT.of htt, rfl, _, _, rfl, _, _, rfl, _, _, rfl, rfl, ?_⟩
    have te29 := ex29 _ _ hte (fun _ z => nomatch z)
    have ht29 := ex29 _ _ (e268 _ _ ht26) (fun _ z => nomatch z)
    have hwl29 := ex29 _ _ (e268 _ _ hwl26) (fun _ z => nomatch z)
    have hpl29 := ex29 _ _ (e268 _ _ hpl26) (fun _ z => nomatch z)
    obtain rfl : es = ws2 := ord_eq (ls := ls) (perm_of_mem (nd_up ord.up) O2.nd fun x => (ord.mem x).trans (by
      rw [pm2.mem_iff, List.mem_append, List.mem_append, List.mem_filter]
      by_cases c : x ∈ us
      · simp [c]
      · simp [c])) ord.up O2.up
    have les : es.length ≤ 50 := by
      have := ord.many
      rw [List.length_append] at this
      omega
    obtain ⟨dxk, _, tk, _, _, k1, _, k3, _⟩ := id D29
    dsimp only [tSeq, tAsg]
    refine ⟨_, rfl, m, C, dxk, _, _, rfl, k1, T.cl, T.nW, df_words _ _ _ _ _ _, _, rfl, .inl ⟨te, _, rfl, SqL.of te29, fun du2 ndu2 => ?_⟩⟩
    have e30 := same_new (o := .tup (txs es)) ndu2
    have hdu2 : upd H29 du2 (.tup (txs es)) du2 = some (.tup (txs es)) := upd_same
    generalize upd H29 du2 (.tup (txs es)) = H30 at e30 hdu2 ⊢
    refine ⟨tk, du2, es, es, rfl, rfl, .inr ⟨SqT.of (e30 _ _ k3), SqT.of hdu2⟩, O2.nch, O2.nch, ?_⟩
    rw [if_pos rfl, decide_eq_true rfl]
    obtain ⟨dxr, tr, hr1, hr2⟩ := id (M29.same e30)
    refine ⟨_, rfl, iteF ⟨_, rfl, r, CM, dxr, _, _, rfl, hr1, TM.cl, TM.nN, mapF_numbers _ _, _, rfl, _, rfl, t, te, us, es, rfl, e30 _ _ ht29, e30 _ _ te29, by omega, by omega, fun t31 H31 e31 ht31 => ⟨tr, t31, _, _, rfl, rfl, .inr ⟨Same.seqT e31 hr2, SqT.of ht31⟩, mv_num, mv_num, ?_⟩⟩⟩
    rw [if_pos rfl, decide_eq_true rfl]
    refine ⟨_, rfl, ?_⟩
    refine ite2 (fun c => absurd c (by decide)) fun _ => ?_
    have e2931 := e30.trans e31
    obtain ⟨dxo, to, ho1, ho2⟩ := id (M29'.same e2931)
    refine ⟨_, rfl, r2, CM, dxo, _, _, rfl, ho1, TM.cl, TM.nN, mapF_numbers _ _, _, rfl, pl, _, rfl, g4 (e2931 _ _ hpl29) gW, _, rfl, wl, te, us', es, rfl, e2931 _ _ hwl29, e2931 _ _ te29, by omega, by omega, fun t32 H32 e32 ht32 => ⟨to, t32, _, _, rfl, rfl, .inr ⟨Same.seqT e32 ho2, SqT.of ht32⟩, mv_num, mv_num, ?_⟩⟩
    rw [if_neg (by decide), decide_eq_true rfl]
    refine ⟨_, rfl, iteT ⟨_, rfl, r, CM, dxr, _, _, rfl, e32 _ _ (e31 _ _ hr1), TM.cl, TM.nM, mapF_many _ _, _, rfl, te, _, rfl, .inl (SqL.of (e32 _ _ (e2931 _ _ te29))), ?_⟩⟩
    refine ⟨rfl, ?_⟩
    rw [txs_len, decide_eq_true rfl]
    exact q _
end
end K03
set_option Elab.async false
set_option linter.all false
set_option maxRecDepth 100001
set_option maxHeartbeats 3999999
namespace K03
open PySem L2
abbrev sTupOf : Stmt := topS 4
section
variable {P : Program} {w : World} {K : PySem.W.Frag} {mg : Str → Option Value} {base : Heap}
theorem scTupOf : FnScope ["value", "size"] ["value", "size"] (defScope sTupOf) := ⟨rfl, rfl, rfl, by decide +kernel, rfl, by decide +kernel, by decide +kernel⟩
theorem ok_tupOf {f : Addr} {fd : FuncData} (F : Fun K "is_tuple_of" "is_tuple_of" sTupOf f fd) (B : Bi mg) : FnOk P w K mg base CX0 1 f fd ["value", "size"] spTupOf := by
  refine F.ok scTupOf (fun vs H Q E h => ?_) (fun cdv A outer s H vs Q E hr h => ?_)
  · obtain ⟨v, n, rfl, _⟩ := h
    rfl
  · obtain ⟨v, n, rfl, k, q⟩ := h
    refine ⟨_, pss_one (ps_ret (pe_and (pe_isi B.isi (pa_cons (pv 0) (pa_cons (pe_ty "tuple" B.tuple) pa_nil))) (pe_one (pe_cmpR op_eq (pe_len B.len (pa_cons (pv 0) pa_nil)) (pv 1) (nomark _))))), ?_⟩
    obtain ⟨t, ty, _, _, k3, _⟩ := k.kinds K
    refine ⟨v, rfl, v, _, _, _, _, rfl, .ty "tuple", ty, k3, _, rfl, ?_⟩
    cases k with
    | tup e =>
      rw [isT_tup e]
      refine ⟨_, rfl, _, _, rfl, .inr (SqT.of e), _, rfl, rfl, ?_⟩
      simp only [isTn, e] at q
      rw [dec_int]
      have e2 : ∀ i j : Int, (i == j) = decide (i = j) := fun i j => by rw [Bool.eq_iff_iff]; simp
      rw [e2]
      exact q
    | lst e =>
      rw [isT_lst e]
      simp only [isTn, e] at q
      exact q
    | _ => exact q
end
/-! ### what the top leaves -/
/-- an own exception class as the rules want it -/
def oexB (K : PySem.W.Frag) (C : Addr) : Bool := (match K.lookup C with
  | some ⟨.type "type", _, .cls cd, sl⟩ => (match sl.toList, cd.mro with
    | [_, _, _, _, some (.builtin nw), _], .ref D :: bm => decide (D = C) && (decide (nw = "ValueError.__new__") && (!cd.hasDel && (cd.hasDict && PySem.HandSPX.refsVE bm)))
    | _, _ => false)
  | _ => false) && (He.eqO (PySem.W.findIn K (.ref C) "__setattr__") (some (some (.builtin "object.__setattr__"))) && (decide (PySem.W.subIn K (.ref C) (.type "BaseException") = some true) && (decide (PySem.W.typeIn K (.ref C) = some (.type "type")) && PySem.W.keepIn K (.ref C))))
theorem oexB_ok {K : PySem.W.Frag} {C : Addr} (h : oexB K C = true) : OexC K C := by
  obtain ⟨h1, h⟩ := He.ba h
  obtain ⟨h2, h⟩ := He.ba h
  obtain ⟨h3, h⟩ := He.ba h
  obtain ⟨h4, h5⟩ := He.ba h
  refine ⟨?_, He.eqO_ok h2, of_decide_eq_true h3, of_decide_eq_true h4, h5⟩
  split at h1
  · rename_i dd cd sl ho
    split at h1
    · rename_i x0 x1 x2 x3 nw x5 D bm hs hm
      obtain ⟨g1, g⟩ := He.ba h1
      obtain ⟨g2, g⟩ := He.ba g
      obtain ⟨g3, g⟩ := He.ba g
      obtain ⟨g4, g5⟩ := He.ba g
      have e1 := of_decide_eq_true g1
      have e2 := of_decide_eq_true g2
      subst e1 e2
      obtain ⟨nm, bs, mro, ns, qn, hd, sn, sub, ab, col, del⟩ := cd
      dsimp only at hm g3 g4
      subst hm g4
      have e3 : del = false := by
        cases del with
        | false => rfl
        | true => cases g3
      subst e3
      have hsl : sl = #[x0, x1, x2, x3, some (.builtin "ValueError.__new__"), x5] := by
        obtain ⟨l⟩ := sl
        have h' : l = _ := hs
        rw [h']
      subst hsl
      exact ⟨nm, qn, ns, bs, bm, sn, sub, ab, col, dd, x0, x1, x2, x3, x5, ho, g5⟩
    · cases h1
  · cases h1
def fa0 : List He.Fa := [.glo "is_whole", .glo "is_between", .glo "is_tuple_of", .glo "copied", .glo "first_wrong_range", .glo "ranges_of", .glo "are_letters", .glo "is_word", .glo "is_part", .glo "is_item", .glo "nodes_of", .glo "_law_pen", .glo "_law_draw", .glo "_law_pick", .glo "_law_letters", .glo "_law_word", .glo "_law_key", .glo "_law_ordered", .glo "_law_ranges", .glo "_law_row", .glo "_law_reads", .glo "_law_moves", .glo "_law_back_right", .glo "_law_own", .glo "_law_changed", .glo "law", .glo "NoWord", .glo "NotWord", .glo "Dictionary", .glo "NumberMap"]
def fa1 : List He.Fa := [.glo "Readings", .glo "Pattern", .free "isinstance", .free "int", .free "bool", .free "tuple", .free "list", .free "dict", .free "len", .free "enumerate", .free "range", .free "abs", .free "max", .free "min", .free "str", .free "all", .free "set", .free "sorted", .str "ALPHABET" (S abc), .int "LONGEST" 200, .int "MOST_PARTS" 60, .int "MOST_STANDINGS" 2000, .cls "Dictionary", .mkr "Dictionary", .cls "NumberMap", .mkr "NumberMap", .cls "Readings", .mkr "Readings", .cls "Pattern", .mkr "Pattern"]
def fa2 : List He.Fa := [.noat "NoWord" "word", .noat "NotWord" "word", .noat "Dictionary" "letters", .noat "Dictionary" "_plain", .noat "Dictionary" "words", .noat "Dictionary" "many", .noat "Dictionary" "_keys", .noat "Dictionary" "_numbers", .noat "NumberMap" "many", .noat "NumberMap" "numbers", .noat "Readings" "letters", .noat "Readings" "nodes", .noat "Readings" "stars", .noat "Readings" "takes", .noat "Readings" "start", .noat "Readings" "ends", .noat "Pattern" "letters", .noat "Pattern" "shape", .noat "Pattern" "moves", .noat "Pattern" "kinds", .noat "Pattern" "_columns", .meth "NoWord" "__init__", .meth "NotWord" "__init__", .meth "NumberMap" "__init__", .meth "NumberMap" "followed_by", .meth "NumberMap" "ranges_behind", .meth "Dictionary" "__init__", .meth "Dictionary" "__eq__", .meth "Dictionary" "_key_of", .meth "Dictionary" "_keys_ahead"]
def fa3 : List He.Fa := [.meth "Dictionary" "has_word", .meth "Dictionary" "number_of", .meth "Dictionary" "place_for", .meth "Dictionary" "put_in", .meth "Dictionary" "strike_out", .meth "Dictionary" "join_with", .meth "Dictionary" "map_to", .meth "Readings" "__init__", .meth "Readings" "lay_item", .meth "Readings" "passed", .meth "Readings" "fits", .meth "Readings" "moves_from", .meth "Readings" "all_moves", .meth "Pattern" "__init__", .meth "Pattern" "_leads_to_fit", .meth "Pattern" "ranges_in"]
def faA : List He.Fa := fa0 ++ fa1 ++ fa2 ++ fa3
def dd0 : He.DefD := ⟨("is_whole", none), "is_whole", "is_whole", defArgs sWhole, defBody sWhole, defScope sWhole, [], []⟩
def dd1 : He.DefD := ⟨("is_between", none), "is_between", "is_between", defArgs sBetween, defBody sBetween, defScope sBetween, [], []⟩
def dd2 : He.DefD := ⟨("is_tuple_of", none), "is_tuple_of", "is_tuple_of", defArgs sTupOf, defBody sTupOf, defScope sTupOf, [], []⟩
def dd3 : He.DefD := ⟨("copied", none), "copied", "copied", defArgs sCopied, defBody sCopied, defScope sCopied, [], []⟩
def dd4 : He.DefD := ⟨("first_wrong_range", none), "first_wrong_range", "first_wrong_range", defArgs sFWR, defBody sFWR, defScope sFWR, [], []⟩
def dd5 : He.DefD := ⟨("ranges_of", none), "ranges_of", "ranges_of", defArgs sRanges, defBody sRanges, defScope sRanges, [], []⟩
def dd6 : He.DefD := ⟨("are_letters", none), "are_letters", "are_letters", defArgs sLetters, defBody sLetters, defScope sLetters, [], []⟩
def dd7 : He.DefD := ⟨("is_word", none), "is_word", "is_word", defArgs sIsWord, defBody sIsWord, defScope sIsWord, [], []⟩
def dd8 : He.DefD := ⟨("is_part", none), "is_part", "is_part", defArgs sPart, defBody sPart, defScope sPart, [], []⟩
def dd9 : He.DefD := ⟨("is_item", none), "is_item", "is_item", defArgs sItem, defBody sItem, defScope sItem, [], []⟩
def dd10 : He.DefD := ⟨("nodes_of", none), "nodes_of", "nodes_of", defArgs sNodes, defBody sNodes, defScope sNodes, [], []⟩
def dd11 : He.DefD := ⟨("_law_pen", none), "_law_pen", "_law_pen", defArgs sPen, defBody sPen, defScope sPen, [], []⟩
def dd12 : He.DefD := ⟨("_law_draw", none), "_law_draw", "_law_draw", defArgs sDraw, defBody sDraw, defScope sDraw, [], []⟩
def dd13 : He.DefD := ⟨("_law_pick", none), "_law_pick", "_law_pick", defArgs sPick, defBody sPick, defScope sPick, [], []⟩
def dd14 : He.DefD := ⟨("_law_letters", none), "_law_letters", "_law_letters", defArgs sLLet, defBody sLLet, defScope sLLet, [], []⟩
def dd15 : He.DefD := ⟨("_law_word", none), "_law_word", "_law_word", defArgs sLWord, defBody sLWord, defScope sLWord, [], []⟩
def dd16 : He.DefD := ⟨("_law_key", none), "_law_key", "_law_key", defArgs sLKey, defBody sLKey, defScope sLKey, [], []⟩
def dd17 : He.DefD := ⟨("_law_ordered", none), "_law_ordered", "_law_ordered", defArgs sLOrd, defBody sLOrd, defScope sLOrd, [], []⟩
def dd18 : He.DefD := ⟨("_law_ranges", none), "_law_ranges", "_law_ranges", defArgs sLRan, defBody sLRan, defScope sLRan, [], []⟩
def dd19 : He.DefD := ⟨("_law_row", none), "_law_row", "_law_row", defArgs sRow, defBody sRow, defScope sRow, [], []⟩
def dd20 : He.DefD := ⟨("_law_reads", none), "_law_reads", "_law_reads", defArgs sReads, defBody sReads, defScope sReads, [], []⟩
def dd21 : He.DefD := ⟨("_law_moves", none), "_law_moves", "_law_moves", defArgs sMoves, defBody sMoves, defScope sMoves, [], []⟩
def dd22 : He.DefD := ⟨("_law_back_right", none), "_law_back_right", "_law_back_right", defArgs sBack, defBody sBack, defScope sBack, [], []⟩
def dd23 : He.DefD := ⟨("_law_own", none), "_law_own", "_law_own", defArgs sOwn, defBody sOwn, defScope sOwn, [], []⟩
def dd24 : He.DefD := ⟨("_law_changed", none), "_law_changed", "_law_changed", defArgs sChg, defBody sChg, defScope sChg, [], []⟩
def dd25 : He.DefD := ⟨("law", none), "law", "law", defArgs sLaw, defBody sLaw, defScope sLaw, [], []⟩
def dd26 : He.DefD := ⟨("NoWord", some "__init__"), "__init__", "NoWord.__init__", defArgs sNoWord, defBody sNoWord, defScope sNoWord, [], []⟩
def dd27 : He.DefD := ⟨("NotWord", some "__init__"), "__init__", "NotWord.__init__", defArgs sNotWord, defBody sNotWord, defScope sNotWord, [], []⟩
def dd28 : He.DefD := ⟨("NumberMap", some "__init__"), "__init__", "NumberMap.__init__", defArgs sMInit, defBody sMInit, defScope sMInit, [], []⟩
def dd29 : He.DefD := ⟨("NumberMap", some "followed_by"), "followed_by", "NumberMap.followed_by", defArgs sFoll, defBody sFoll, defScope sFoll, [], []⟩
def dd30 : He.DefD := ⟨("NumberMap", some "ranges_behind"), "ranges_behind", "NumberMap.ranges_behind", defArgs sRanB, defBody sRanB, defScope sRanB, [], []⟩
def dd31 : He.DefD := ⟨("Dictionary", some "__init__"), "__init__", "Dictionary.__init__", defArgs sInit, defBody sInit, defScope sInit, [], []⟩
def dd32 : He.DefD := ⟨("Dictionary", some "__eq__"), "__eq__", "Dictionary.__eq__", defArgs sEq, defBody sEq, defScope sEq, [], []⟩
def dd33 : He.DefD := ⟨("Dictionary", some "_key_of"), "_key_of", "Dictionary._key_of", defArgs sKeyOf, defBody sKeyOf, defScope sKeyOf, [], []⟩
def dd34 : He.DefD := ⟨("Dictionary", some "_keys_ahead"), "_keys_ahead", "Dictionary._keys_ahead", defArgs sAhead, defBody sAhead, defScope sAhead, [], []⟩
def dd35 : He.DefD := ⟨("Dictionary", some "has_word"), "has_word", "Dictionary.has_word", defArgs sHasW, defBody sHasW, defScope sHasW, [], []⟩
def dd36 : He.DefD := ⟨("Dictionary", some "number_of"), "number_of", "Dictionary.number_of", defArgs sNumOf, defBody sNumOf, defScope sNumOf, [], []⟩
def dd37 : He.DefD := ⟨("Dictionary", some "place_for"), "place_for", "Dictionary.place_for", defArgs sPlace, defBody sPlace, defScope sPlace, [], []⟩
def dd38 : He.DefD := ⟨("Dictionary", some "put_in"), "put_in", "Dictionary.put_in", defArgs sPutIn, defBody sPutIn, defScope sPutIn, [], []⟩
def dd39 : He.DefD := ⟨("Dictionary", some "strike_out"), "strike_out", "Dictionary.strike_out", defArgs sStrike, defBody sStrike, defScope sStrike, [], []⟩
def dd40 : He.DefD := ⟨("Dictionary", some "join_with"), "join_with", "Dictionary.join_with", defArgs sJoin, defBody sJoin, defScope sJoin, [], []⟩
def dd41 : He.DefD := ⟨("Dictionary", some "map_to"), "map_to", "Dictionary.map_to", defArgs sMapTo, defBody sMapTo, defScope sMapTo, [], []⟩
def dd42 : He.DefD := ⟨("Readings", some "__init__"), "__init__", "Readings.__init__", defArgs sRInit, defBody sRInit, defScope sRInit, [], []⟩
def dd43 : He.DefD := ⟨("Readings", some "lay_item"), "lay_item", "Readings.lay_item", defArgs sLay, defBody sLay, defScope sLay, [], []⟩
def dd44 : He.DefD := ⟨("Readings", some "passed"), "passed", "Readings.passed", defArgs sPassed, defBody sPassed, defScope sPassed, [], []⟩
def dd45 : He.DefD := ⟨("Readings", some "fits"), "fits", "Readings.fits", defArgs sFits, defBody sFits, defScope sFits, [], []⟩
def dd46 : He.DefD := ⟨("Readings", some "moves_from"), "moves_from", "Readings.moves_from", defArgs sMvf, defBody sMvf, defScope sMvf, [], []⟩
def dd47 : He.DefD := ⟨("Readings", some "all_moves"), "all_moves", "Readings.all_moves", defArgs sAll, defBody sAll, defScope sAll, [], []⟩
def dd48 : He.DefD := ⟨("Pattern", some "__init__"), "__init__", "Pattern.__init__", defArgs sPInit, defBody sPInit, defScope sPInit, [], []⟩
def dd49 : He.DefD := ⟨("Pattern", some "_leads_to_fit"), "_leads_to_fit", "Pattern._leads_to_fit", defArgs sLead, defBody sLead, defScope sLead, [], []⟩
def dd50 : He.DefD := ⟨("Pattern", some "ranges_in"), "ranges_in", "Pattern.ranges_in", defArgs sRin, defBody sRin, defScope sRin, [], []⟩
def fnA : List He.DefD := [dd0, dd1, dd2, dd3, dd4, dd5, dd6, dd7, dd8, dd9, dd10, dd11, dd12, dd13, dd14, dd15, dd16, dd17, dd18, dd19, dd20, dd21, dd22, dd23, dd24, dd25, dd26, dd27, dd28, dd29, dd30, dd31, dd32, dd33, dd34, dd35, dd36, dd37, dd38, dd39, dd40, dd41, dd42, dd43, dd44, dd45, dd46, dd47, dd48, dd49, dd50]
abbrev iniD : Str × Option Str := ("Dictionary", some "__init__")
/-- what else is asked of K, and of the tables ts -/
def exA (K : PySem.W.Frag) (ts : List Addr) : Bool := (oexB K (He.ga K "NoWord") && oexB K (He.ga K "NotWord")) && ((He.eqO (PySem.W.findIn K (.ref (He.ga K "Dictionary")) "__class__") (some (some (.builtin "object.__class__"))) && (He.eqO (PySem.W.specialIn K (.builtin "object.__class__") "__get__") (some (some (.builtin "getset_descriptor.__get__"))) && (decide (PySem.W.takesIn K (.builtin "object.__class__") = some true) && (decide (PySem.W.mroIn K (He.ga K "Dictionary") (.type "object") = some true) && decide (PySem.W.kitOne K (.type "tuple") (.ref (He.ga K "Dictionary")) = some false))))) && (PySem.W.notFirst K (He.ga K "Dictionary") (.ref (He.ga K "Dictionary")) &&
  (decide ((He.cT K iniD).2 ∈ ts) && (PySem.W.codeHdIn K (He.cT K iniD).1 (He.cT K iniD).2 && (K.lookup (He.cT K iniD).2).isNone))))
theorem fun_ofD {K : PySem.W.Frag} {x qual : Str} {st : Stmt} {f : Addr} {fd : FuncData} (F : FunD K x qual (defArgs st) (defBody st) (defScope st) [] [] f fd) : Fun K x qual st f fd := by
  obtain ⟨oc, od, dV, kV, doc, pm, an, cdv, ct, osl, e, lk, hcd, dv, _⟩ := F.ex
  rcases dv with ⟨_, rfl⟩ | ⟨h, _⟩
  · exact ⟨⟨oc, od, kV, doc, pm, an, cdv, ct, osl, e, lk, hcd⟩, F.kp⟩
  · exact absurd rfl h
theorem funL_of {K : PySem.W.Frag} {base : Heap} {mg : Str → Option Value} {x q : Str} {kq : Str × Option Str} {st : Stmt} {fd : FuncData} (F : Fun K x q st (He.fAd K kq) fd) (T : LamX.TabB base mg (He.cT K kq).1 (He.cT K kq).2) :
    FunL K base mg x q st (He.fAd K kq) (He.cT K kq).1 (He.cT K kq).2 fd := by
  obtain ⟨oc, od, kV, doc, pm, an, cdv, ct, osl, e, lk, hcd⟩ := F.ex
  obtain ⟨c, rfl⟩ := He.codeIn_ref hcd
  have e2 : (He.cT K kq).1 = c := by
    refine He.codeOf_eq lk ?_
    rw [e] <;> rfl
  exact ⟨⟨oc, od, kV, doc, pm, an, ct, osl, by rw [e2]; exact e, lk, by rw [e2]; exact hcd⟩, T⟩
theorem isNone_of {α : Type} {o : Option α} (h : o.isNone = true) : o = none := by
  cases o with
  | none => rfl
  | some _ => cases h
abbrev TbK (K : PySem.W.Frag) : List (Addr × Str) := [((He.cT K iniD).2, (("Dictionary.__init__.<locals>.<lambda>" : String) : Str))]
/-- the law's promise, of what the top leaves -/
theorem at_law {l : PySem.W.OpenLaw} {w : World} {K : PySem.W.Frag} {h : Heap} {mg : Str → Option Value} {fl : Addr} {ts : List Addr} (KX : K.In h) (G : h.Ns mainGlobals mg) (hfl : mg ("law" : Str) = some (.ref fl)) (c : He.SaysD faA fnA K) (ex : exA K ts = true) (hT : ∀ P ∈ ts, h.get? P = some { cls := .none, data := .fields #[] }) :
    LamX.LawAtS l w K CX0 10 63 "_law_script" mg fl h := by
  obtain ⟨xE, ex⟩ := He.ba ex
  obtain ⟨xT, ex⟩ := He.ba ex
  obtain ⟨n1, ex⟩ := He.ba ex
  obtain ⟨t1, ex⟩ := He.ba ex
  obtain ⟨t4, t6⟩ := He.ba ex
  obtain ⟨y1, xT⟩ := He.ba xT
  obtain ⟨y2, xT⟩ := He.ba xT
  obtain ⟨y3, xT⟩ := He.ba xT
  obtain ⟨y4, y5⟩ := He.ba xT
  obtain ⟨o0, o1⟩ := He.ba xE
  have B : Bi mg := ⟨He.free_ok KX G (c.fact 32 (f := .free "isinstance") rfl), He.free_ok KX G (c.fact 33 (f := .free "int") rfl), He.free_ok KX G (c.fact 34 (f := .free "bool") rfl), He.free_ok KX G (c.fact 35 (f := .free "tuple") rfl), He.free_ok KX G (c.fact 36 (f := .free "list") rfl), He.free_ok KX G (c.fact 37 (f := .free "dict") rfl), He.free_ok KX G (c.fact 38 (f := .free "len") rfl), He.free_ok KX G (c.fact 39 (f := .free "enumerate") rfl), He.free_ok KX G (c.fact 40 (f := .free "range") rfl), He.free_ok KX G (c.fact 41 (f := .free "abs") rfl), He.free_ok KX G (c.fact 42 (f := .free "max") rfl), He.free_ok KX G (c.fact 43 (f := .free "min") rfl)⟩
  have Bz : Bs mg := ⟨He.free_ok KX G (c.fact 44 (f := .free "str") rfl), He.free_ok KX G (c.fact 45 (f := .free "all") rfl), He.free_ok KX G (c.fact 46 (f := .free "set") rfl), He.free_ok KX G (c.fact 47 (f := .free "sorted") rfl)⟩
  obtain ⟨u1, g1⟩ := He.str_ok KX G (c.fact 48 (f := .str "ALPHABET" (S abc)) rfl)
  obtain ⟨u2, g2⟩ := He.int_ok KX G (c.fact 49 (f := .int "LONGEST" 200) rfl)
  obtain ⟨u3, g3⟩ := He.int_ok KX G (c.fact 50 (f := .int "MOST_PARTS" 60) rfl)
  obtain ⟨u4, g4⟩ := He.int_ok KX G (c.fact 51 (f := .int "MOST_STANDINGS" 2000) rfl)
  have N : Cn mg := ⟨⟨_, g1, ⟨_, rfl⟩⟩, ⟨_, g2, ⟨_, rfl⟩⟩⟩
  have Mc : Cm mg := ⟨⟨_, g3, ⟨_, rfl⟩⟩, ⟨_, g4, ⟨_, rfl⟩⟩⟩
  obtain ⟨d0, D0⟩ := c.def_ 0 (d := dd0) rfl
  have F0 : Fun K "is_whole" "is_whole" sWhole (He.ga K "is_whole") d0 := fun_ofD D0
  have b0 : Binds K d0 ["value"] [] := F0.binds fun _ _ _ _ _ _ us hl => match us, hl with | [_], _ => rfl
  obtain ⟨d1, D1⟩ := c.def_ 1 (d := dd1) rfl
  have F1 : Fun K "is_between" "is_between" sBetween (He.ga K "is_between") d1 := fun_ofD D1
  have b1 : Binds K d1 ["value", "low", "high"] [] := F1.binds fun _ _ _ _ _ _ us hl => match us, hl with | [_, _, _], _ => rfl
  obtain ⟨d2, D2⟩ := c.def_ 2 (d := dd2) rfl
  have F2 : Fun K "is_tuple_of" "is_tuple_of" sTupOf (He.ga K "is_tuple_of") d2 := fun_ofD D2
  have b2 : Binds K d2 ["value", "size"] [] := F2.binds fun _ _ _ _ _ _ us hl => match us, hl with | [_, _], _ => rfl
  obtain ⟨d3, D3⟩ := c.def_ 3 (d := dd3) rfl
  have F3 : Fun K "copied" "copied" sCopied (He.ga K "copied") d3 := fun_ofD D3
  have b3 : Binds K d3 ["value"] [] := F3.binds fun _ _ _ _ _ _ us hl => match us, hl with | [_], _ => rfl
  obtain ⟨d4, D4⟩ := c.def_ 4 (d := dd4) rfl
  have F4 : Fun K "first_wrong_range" "first_wrong_range" sFWR (He.ga K "first_wrong_range") d4 := fun_ofD D4
  have b4 : Binds K d4 ["ranges", "many"] [] := F4.binds fun _ _ _ _ _ _ us hl => match us, hl with | [_, _], _ => rfl
  obtain ⟨d5, D5⟩ := c.def_ 5 (d := dd5) rfl
  have F5 : Fun K "ranges_of" "ranges_of" sRanges (He.ga K "ranges_of") d5 := fun_ofD D5
  have b5 : Binds K d5 ["numbers"] [] := F5.binds fun _ _ _ _ _ _ us hl => match us, hl with | [_], _ => rfl
  obtain ⟨d6, D6⟩ := c.def_ 6 (d := dd6) rfl
  have F6 : Fun K "are_letters" "are_letters" sLetters (He.ga K "are_letters") d6 := fun_ofD D6
  have b6 : Binds K d6 ["value"] [] := F6.binds fun _ _ _ _ _ _ us hl => match us, hl with | [_], _ => rfl
  obtain ⟨d7, D7⟩ := c.def_ 7 (d := dd7) rfl
  have F7 : Fun K "is_word" "is_word" sIsWord (He.ga K "is_word") d7 := fun_ofD D7
  have b7 : Binds K d7 ["value", "letters"] [] := F7.binds fun _ _ _ _ _ _ us hl => match us, hl with | [_, _], _ => rfl
  obtain ⟨d8, D8⟩ := c.def_ 8 (d := dd8) rfl
  have F8 : Fun K "is_part" "is_part" sPart (He.ga K "is_part") d8 := fun_ofD D8
  have b8 : Binds K d8 ["value"] [] := F8.binds fun _ _ _ _ _ _ us hl => match us, hl with | [_], _ => rfl
  obtain ⟨d9, D9⟩ := c.def_ 9 (d := dd9) rfl
  have F9 : Fun K "is_item" "is_item" sItem (He.ga K "is_item") d9 := fun_ofD D9
  have b9 : Binds K d9 ["value", "letters"] [] := F9.binds fun _ _ _ _ _ _ us hl => match us, hl with | [_, _], _ => rfl
  obtain ⟨d10, D10⟩ := c.def_ 10 (d := dd10) rfl
  have F10 : Fun K "nodes_of" "nodes_of" sNodes (He.ga K "nodes_of") d10 := fun_ofD D10
  have b10 : Binds K d10 ["shape", "letters"] [] := F10.binds fun _ _ _ _ _ _ us hl => match us, hl with | [_, _], _ => rfl
  obtain ⟨d11, D11⟩ := c.def_ 11 (d := dd11) rfl
  have F11 : Fun K "_law_pen" "_law_pen" sPen (He.ga K "_law_pen") d11 := fun_ofD D11
  have b11 : Binds K d11 ["_law_script"] [] := F11.binds fun _ _ _ _ _ _ us hl => match us, hl with | [_], _ => rfl
  obtain ⟨d12, D12⟩ := c.def_ 12 (d := dd12) rfl
  have F12 : Fun K "_law_draw" "_law_draw" sDraw (He.ga K "_law_draw") d12 := fun_ofD D12
  have b12 : Binds K d12 ["_law_pen_here", "_law_many"] [] := F12.binds fun _ _ _ _ _ _ us hl => match us, hl with | [_, _], _ => rfl
  obtain ⟨d13, D13⟩ := c.def_ 13 (d := dd13) rfl
  have F13 : Fun K "_law_pick" "_law_pick" sPick (He.ga K "_law_pick") d13 := fun_ofD D13
  have b13 : Binds K d13 ["_law_pen_here", "_law_some"] [] := F13.binds fun _ _ _ _ _ _ us hl => match us, hl with | [_, _], _ => rfl
  obtain ⟨d14, D14⟩ := c.def_ 14 (d := dd14) rfl
  have F14 : Fun K "_law_letters" "_law_letters" sLLet (He.ga K "_law_letters") d14 := fun_ofD D14
  have b14 : Binds K d14 ["_law_pen_here", "_law_most"] [] := F14.binds fun _ _ _ _ _ _ us hl => match us, hl with | [_, _], _ => rfl
  obtain ⟨d15, D15⟩ := c.def_ 15 (d := dd15) rfl
  have F15 : Fun K "_law_word" "_law_word" sLWord (He.ga K "_law_word") d15 := fun_ofD D15
  have b15 : Binds K d15 ["_law_pen_here", "_law_letters_here", "_law_most"] [] := F15.binds fun _ _ _ _ _ _ us hl => match us, hl with | [_, _, _], _ => rfl
  obtain ⟨d16, D16⟩ := c.def_ 16 (d := dd16) rfl
  have F16 : Fun K "_law_key" "_law_key" sLKey (He.ga K "_law_key") d16 := fun_ofD D16
  have b16 : Binds K d16 ["_law_letters_here", "_law_word_here"] [] := F16.binds fun _ _ _ _ _ _ us hl => match us, hl with | [_, _], _ => rfl
  obtain ⟨d17, D17⟩ := c.def_ 17 (d := dd17) rfl
  have F17 : Fun K "_law_ordered" "_law_ordered" sLOrd (He.ga K "_law_ordered") d17 := fun_ofD D17
  have b17 : Binds K d17 ["_law_letters_here", "_law_words"] [] := F17.binds fun _ _ _ _ _ _ us hl => match us, hl with | [_, _], _ => rfl
  obtain ⟨d18, D18⟩ := c.def_ 18 (d := dd18) rfl
  have F18 : Fun K "_law_ranges" "_law_ranges" sLRan (He.ga K "_law_ranges") d18 := fun_ofD D18
  have b18 : Binds K d18 ["_law_numbers"] [] := F18.binds fun _ _ _ _ _ _ us hl => match us, hl with | [_], _ => rfl
  obtain ⟨d19, D19⟩ := c.def_ 19 (d := dd19) rfl
  have F19 : Fun K "_law_row" "_law_row" sRow (He.ga K "_law_row") d19 := fun_ofD D19
  have b19 : Binds K d19 ["_law_pen_here", "_law_letters_here"] [] := F19.binds fun _ _ _ _ _ _ us hl => match us, hl with | [_, _], _ => rfl
  obtain ⟨d20, D20⟩ := c.def_ 20 (d := dd20) rfl
  have F20 : Fun K "_law_reads" "_law_reads" sReads (He.ga K "_law_reads") d20 := fun_ofD D20
  have b20 : Binds K d20 ["_law_items", "_law_word_here"] [] := F20.binds fun _ _ _ _ _ _ us hl => match us, hl with | [_, _], _ => rfl
  obtain ⟨d21, D21⟩ := c.def_ 21 (d := dd21) rfl
  have F21 : Fun K "_law_moves" "_law_moves" sMoves (He.ga K "_law_moves") d21 := fun_ofD D21
  have b21 : Binds K d21 ["_law_before", "_law_behind"] [] := F21.binds fun _ _ _ _ _ _ us hl => match us, hl with | [_, _], _ => rfl
  obtain ⟨d22, D22⟩ := c.def_ 22 (d := dd22) rfl
  have F22 : Fun K "_law_back_right" "_law_back_right" sBack (He.ga K "_law_back_right") d22 := fun_ofD D22
  have b22 : Binds K d22 ["_law_found", "_law_more", "_law_word_here", "_law_put"] [] := F22.binds fun _ _ _ _ _ _ us hl => match us, hl with | [_, _, _, _], _ => rfl
  obtain ⟨d23, D23⟩ := c.def_ 23 (d := dd23) rfl
  have F23 : Fun K "_law_own" "_law_own" sOwn (He.ga K "_law_own") d23 := fun_ofD D23
  have b23 : Binds K d23 ["_law_more", "_law_word_here"] [] := F23.binds fun _ _ _ _ _ _ us hl => match us, hl with | [_, _], _ => rfl
  obtain ⟨d24, D24⟩ := c.def_ 24 (d := dd24) rfl
  have F24 : Fun K "_law_changed" "_law_changed" sChg (He.ga K "_law_changed") d24 := fun_ofD D24
  have b24 : Binds K d24 ["_law_pen_here", "_law_plan"] [] := F24.binds fun _ _ _ _ _ _ us hl => match us, hl with | [_, _], _ => rfl
  obtain ⟨d25, D25⟩ := c.def_ 25 (d := dd25) rfl
  have F25 : Fun K "law" "law" sLaw (He.ga K "law") d25 := fun_ofD D25
  have b25 : Binds K d25 ["_law_script"] [] := F25.binds fun _ _ _ _ _ _ us hl => match us, hl with | [_], _ => rfl
  obtain ⟨d26, D26⟩ := c.def_ 26 (d := dd26) rfl
  have F26 : Fun K "__init__" "NoWord.__init__" sNoWord (He.ma K (He.ga K "NoWord") "__init__") d26 := fun_ofD D26
  have b26 : Binds K d26 ["self", "word"] [] := F26.binds fun _ _ _ _ _ _ us hl => match us, hl with | [_, _], _ => rfl
  have m26 : Meth K (He.ga K "NoWord") "__init__" (He.ma K (He.ga K "NoWord") "__init__") := He.meth_ok (c.fact 81 (f := .meth "NoWord" "__init__") rfl)
  obtain ⟨d27, D27⟩ := c.def_ 27 (d := dd27) rfl
  have F27 : Fun K "__init__" "NotWord.__init__" sNotWord (He.ma K (He.ga K "NotWord") "__init__") d27 := fun_ofD D27
  have b27 : Binds K d27 ["self", "word"] [] := F27.binds fun _ _ _ _ _ _ us hl => match us, hl with | [_, _], _ => rfl
  have m27 : Meth K (He.ga K "NotWord") "__init__" (He.ma K (He.ga K "NotWord") "__init__") := He.meth_ok (c.fact 82 (f := .meth "NotWord" "__init__") rfl)
  obtain ⟨d28, D28⟩ := c.def_ 28 (d := dd28) rfl
  have F28 : Fun K "__init__" "NumberMap.__init__" sMInit (He.ma K (He.ga K "NumberMap") "__init__") d28 := fun_ofD D28
  have b28 : Binds K d28 ["self", "many", "numbers"] [] := F28.binds fun _ _ _ _ _ _ us hl => match us, hl with | [_, _, _], _ => rfl
  have m28 : Meth K (He.ga K "NumberMap") "__init__" (He.ma K (He.ga K "NumberMap") "__init__") := He.meth_ok (c.fact 83 (f := .meth "NumberMap" "__init__") rfl)
  obtain ⟨d29, D29⟩ := c.def_ 29 (d := dd29) rfl
  have F29 : Fun K "followed_by" "NumberMap.followed_by" sFoll (He.ma K (He.ga K "NumberMap") "followed_by") d29 := fun_ofD D29
  have b29 : Binds K d29 ["self", "other"] [] := F29.binds fun _ _ _ _ _ _ us hl => match us, hl with | [_, _], _ => rfl
  have m29 : Meth K (He.ga K "NumberMap") "followed_by" (He.ma K (He.ga K "NumberMap") "followed_by") := He.meth_ok (c.fact 84 (f := .meth "NumberMap" "followed_by") rfl)
  obtain ⟨d30, D30⟩ := c.def_ 30 (d := dd30) rfl
  have F30 : Fun K "ranges_behind" "NumberMap.ranges_behind" sRanB (He.ma K (He.ga K "NumberMap") "ranges_behind") d30 := fun_ofD D30
  have b30 : Binds K d30 ["self", "ranges"] [] := F30.binds fun _ _ _ _ _ _ us hl => match us, hl with | [_, _], _ => rfl
  have m30 : Meth K (He.ga K "NumberMap") "ranges_behind" (He.ma K (He.ga K "NumberMap") "ranges_behind") := He.meth_ok (c.fact 85 (f := .meth "NumberMap" "ranges_behind") rfl)
  obtain ⟨d31, D31⟩ := c.def_ 31 (d := dd31) rfl
  have F31 : Fun K "__init__" "Dictionary.__init__" sInit (He.ma K (He.ga K "Dictionary") "__init__") d31 := fun_ofD D31
  have b31 : Binds K d31 ["self", "letters", "words"] [] := F31.binds fun _ _ _ _ _ _ us hl => match us, hl with | [_, _, _], _ => rfl
  have m31 : Meth K (He.ga K "Dictionary") "__init__" (He.ma K (He.ga K "Dictionary") "__init__") := He.meth_ok (c.fact 86 (f := .meth "Dictionary" "__init__") rfl)
  obtain ⟨d32, D32⟩ := c.def_ 32 (d := dd32) rfl
  have F32 : Fun K "__eq__" "Dictionary.__eq__" sEq (He.ma K (He.ga K "Dictionary") "__eq__") d32 := fun_ofD D32
  have b32 : Binds K d32 ["self", "other"] [] := F32.binds fun _ _ _ _ _ _ us hl => match us, hl with | [_, _], _ => rfl
  have m32 : Meth K (He.ga K "Dictionary") "__eq__" (He.ma K (He.ga K "Dictionary") "__eq__") := He.meth_ok (c.fact 87 (f := .meth "Dictionary" "__eq__") rfl)
  obtain ⟨d33, D33⟩ := c.def_ 33 (d := dd33) rfl
  have F33 : Fun K "_key_of" "Dictionary._key_of" sKeyOf (He.ma K (He.ga K "Dictionary") "_key_of") d33 := fun_ofD D33
  have b33 : Binds K d33 ["self", "word"] [] := F33.binds fun _ _ _ _ _ _ us hl => match us, hl with | [_, _], _ => rfl
  have m33 : Meth K (He.ga K "Dictionary") "_key_of" (He.ma K (He.ga K "Dictionary") "_key_of") := He.meth_ok (c.fact 88 (f := .meth "Dictionary" "_key_of") rfl)
  obtain ⟨d34, D34⟩ := c.def_ 34 (d := dd34) rfl
  have F34 : Fun K "_keys_ahead" "Dictionary._keys_ahead" sAhead (He.ma K (He.ga K "Dictionary") "_keys_ahead") d34 := fun_ofD D34
  have b34 : Binds K d34 ["self", "key"] [] := F34.binds fun _ _ _ _ _ _ us hl => match us, hl with | [_, _], _ => rfl
  have m34 : Meth K (He.ga K "Dictionary") "_keys_ahead" (He.ma K (He.ga K "Dictionary") "_keys_ahead") := He.meth_ok (c.fact 89 (f := .meth "Dictionary" "_keys_ahead") rfl)
  obtain ⟨d35, D35⟩ := c.def_ 35 (d := dd35) rfl
  have F35 : Fun K "has_word" "Dictionary.has_word" sHasW (He.ma K (He.ga K "Dictionary") "has_word") d35 := fun_ofD D35
  have b35 : Binds K d35 ["self", "word"] [] := F35.binds fun _ _ _ _ _ _ us hl => match us, hl with | [_, _], _ => rfl
  have m35 : Meth K (He.ga K "Dictionary") "has_word" (He.ma K (He.ga K "Dictionary") "has_word") := He.meth_ok (c.fact 90 (f := .meth "Dictionary" "has_word") rfl)
  obtain ⟨d36, D36⟩ := c.def_ 36 (d := dd36) rfl
  have F36 : Fun K "number_of" "Dictionary.number_of" sNumOf (He.ma K (He.ga K "Dictionary") "number_of") d36 := fun_ofD D36
  have b36 : Binds K d36 ["self", "word"] [] := F36.binds fun _ _ _ _ _ _ us hl => match us, hl with | [_, _], _ => rfl
  have m36 : Meth K (He.ga K "Dictionary") "number_of" (He.ma K (He.ga K "Dictionary") "number_of") := He.meth_ok (c.fact 91 (f := .meth "Dictionary" "number_of") rfl)
  obtain ⟨d37, D37⟩ := c.def_ 37 (d := dd37) rfl
  have F37 : Fun K "place_for" "Dictionary.place_for" sPlace (He.ma K (He.ga K "Dictionary") "place_for") d37 := fun_ofD D37
  have b37 : Binds K d37 ["self", "word"] [] := F37.binds fun _ _ _ _ _ _ us hl => match us, hl with | [_, _], _ => rfl
  have m37 : Meth K (He.ga K "Dictionary") "place_for" (He.ma K (He.ga K "Dictionary") "place_for") := He.meth_ok (c.fact 92 (f := .meth "Dictionary" "place_for") rfl)
  obtain ⟨d38, D38⟩ := c.def_ 38 (d := dd38) rfl
  have F38 : Fun K "put_in" "Dictionary.put_in" sPutIn (He.ma K (He.ga K "Dictionary") "put_in") d38 := fun_ofD D38
  have b38 : Binds K d38 ["self", "word"] [] := F38.binds fun _ _ _ _ _ _ us hl => match us, hl with | [_, _], _ => rfl
  have m38 : Meth K (He.ga K "Dictionary") "put_in" (He.ma K (He.ga K "Dictionary") "put_in") := He.meth_ok (c.fact 93 (f := .meth "Dictionary" "put_in") rfl)
  obtain ⟨d39, D39⟩ := c.def_ 39 (d := dd39) rfl
  have F39 : Fun K "strike_out" "Dictionary.strike_out" sStrike (He.ma K (He.ga K "Dictionary") "strike_out") d39 := fun_ofD D39
  have b39 : Binds K d39 ["self", "word"] [] := F39.binds fun _ _ _ _ _ _ us hl => match us, hl with | [_, _], _ => rfl
  have m39 : Meth K (He.ga K "Dictionary") "strike_out" (He.ma K (He.ga K "Dictionary") "strike_out") := He.meth_ok (c.fact 94 (f := .meth "Dictionary" "strike_out") rfl)
  obtain ⟨d40, D40⟩ := c.def_ 40 (d := dd40) rfl
  have F40 : Fun K "join_with" "Dictionary.join_with" sJoin (He.ma K (He.ga K "Dictionary") "join_with") d40 := fun_ofD D40
  have b40 : Binds K d40 ["self", "other"] [] := F40.binds fun _ _ _ _ _ _ us hl => match us, hl with | [_, _], _ => rfl
  have m40 : Meth K (He.ga K "Dictionary") "join_with" (He.ma K (He.ga K "Dictionary") "join_with") := He.meth_ok (c.fact 95 (f := .meth "Dictionary" "join_with") rfl)
  obtain ⟨d41, D41⟩ := c.def_ 41 (d := dd41) rfl
  have F41 : Fun K "map_to" "Dictionary.map_to" sMapTo (He.ma K (He.ga K "Dictionary") "map_to") d41 := fun_ofD D41
  have b41 : Binds K d41 ["self", "other"] [] := F41.binds fun _ _ _ _ _ _ us hl => match us, hl with | [_, _], _ => rfl
  have m41 : Meth K (He.ga K "Dictionary") "map_to" (He.ma K (He.ga K "Dictionary") "map_to") := He.meth_ok (c.fact 96 (f := .meth "Dictionary" "map_to") rfl)
  obtain ⟨d42, D42⟩ := c.def_ 42 (d := dd42) rfl
  have F42 : Fun K "__init__" "Readings.__init__" sRInit (He.ma K (He.ga K "Readings") "__init__") d42 := fun_ofD D42
  have b42 : Binds K d42 ["self", "shape", "letters"] [] := F42.binds fun _ _ _ _ _ _ us hl => match us, hl with | [_, _, _], _ => rfl
  have m42 : Meth K (He.ga K "Readings") "__init__" (He.ma K (He.ga K "Readings") "__init__") := He.meth_ok (c.fact 97 (f := .meth "Readings" "__init__") rfl)
  obtain ⟨d43, D43⟩ := c.def_ 43 (d := dd43) rfl
  have F43 : Fun K "lay_item" "Readings.lay_item" sLay (He.ma K (He.ga K "Readings") "lay_item") d43 := fun_ofD D43
  have b43 : Binds K d43 ["self", "item", "bit"] [] := F43.binds fun _ _ _ _ _ _ us hl => match us, hl with | [_, _, _], _ => rfl
  have m43 : Meth K (He.ga K "Readings") "lay_item" (He.ma K (He.ga K "Readings") "lay_item") := He.meth_ok (c.fact 98 (f := .meth "Readings" "lay_item") rfl)
  obtain ⟨d44, D44⟩ := c.def_ 44 (d := dd44) rfl
  have F44 : Fun K "passed" "Readings.passed" sPassed (He.ma K (He.ga K "Readings") "passed") d44 := fun_ofD D44
  have b44 : Binds K d44 ["self", "standing"] [] := F44.binds fun _ _ _ _ _ _ us hl => match us, hl with | [_, _], _ => rfl
  have m44 : Meth K (He.ga K "Readings") "passed" (He.ma K (He.ga K "Readings") "passed") := He.meth_ok (c.fact 99 (f := .meth "Readings" "passed") rfl)
  obtain ⟨d45, D45⟩ := c.def_ 45 (d := dd45) rfl
  have F45 : Fun K "fits" "Readings.fits" sFits (He.ma K (He.ga K "Readings") "fits") d45 := fun_ofD D45
  have b45 : Binds K d45 ["self", "standing"] [] := F45.binds fun _ _ _ _ _ _ us hl => match us, hl with | [_, _], _ => rfl
  have m45 : Meth K (He.ga K "Readings") "fits" (He.ma K (He.ga K "Readings") "fits") := He.meth_ok (c.fact 100 (f := .meth "Readings" "fits") rfl)
  obtain ⟨d46, D46⟩ := c.def_ 46 (d := dd46) rfl
  have F46 : Fun K "moves_from" "Readings.moves_from" sMvf (He.ma K (He.ga K "Readings") "moves_from") d46 := fun_ofD D46
  have b46 : Binds K d46 ["self", "standing"] [] := F46.binds fun _ _ _ _ _ _ us hl => match us, hl with | [_, _], _ => rfl
  have m46 : Meth K (He.ga K "Readings") "moves_from" (He.ma K (He.ga K "Readings") "moves_from") := He.meth_ok (c.fact 101 (f := .meth "Readings" "moves_from") rfl)
  obtain ⟨d47, D47⟩ := c.def_ 47 (d := dd47) rfl
  have F47 : Fun K "all_moves" "Readings.all_moves" sAll (He.ma K (He.ga K "Readings") "all_moves") d47 := fun_ofD D47
  have b47 : Binds K d47 ["self"] [] := F47.binds fun _ _ _ _ _ _ us hl => match us, hl with | [_], _ => rfl
  have m47 : Meth K (He.ga K "Readings") "all_moves" (He.ma K (He.ga K "Readings") "all_moves") := He.meth_ok (c.fact 102 (f := .meth "Readings" "all_moves") rfl)
  obtain ⟨d48, D48⟩ := c.def_ 48 (d := dd48) rfl
  have F48 : Fun K "__init__" "Pattern.__init__" sPInit (He.ma K (He.ga K "Pattern") "__init__") d48 := fun_ofD D48
  have b48 : Binds K d48 ["self", "letters", "shape"] [] := F48.binds fun _ _ _ _ _ _ us hl => match us, hl with | [_, _, _], _ => rfl
  have m48 : Meth K (He.ga K "Pattern") "__init__" (He.ma K (He.ga K "Pattern") "__init__") := He.meth_ok (c.fact 103 (f := .meth "Pattern" "__init__") rfl)
  obtain ⟨d49, D49⟩ := c.def_ 49 (d := dd49) rfl
  have F49 : Fun K "_leads_to_fit" "Pattern._leads_to_fit" sLead (He.ma K (He.ga K "Pattern") "_leads_to_fit") d49 := fun_ofD D49
  have b49 : Binds K d49 ["self", "word"] [] := F49.binds fun _ _ _ _ _ _ us hl => match us, hl with | [_, _], _ => rfl
  have m49 : Meth K (He.ga K "Pattern") "_leads_to_fit" (He.ma K (He.ga K "Pattern") "_leads_to_fit") := He.meth_ok (c.fact 104 (f := .meth "Pattern" "_leads_to_fit") rfl)
  obtain ⟨d50, D50⟩ := c.def_ 50 (d := dd50) rfl
  have F50 : Fun K "ranges_in" "Pattern.ranges_in" sRin (He.ma K (He.ga K "Pattern") "ranges_in") d50 := fun_ofD D50
  have b50 : Binds K d50 ["self", "dictionary"] [] := F50.binds fun _ _ _ _ _ _ us hl => match us, hl with | [_, _], _ => rfl
  have m50 : Meth K (He.ga K "Pattern") "ranges_in" (He.ma K (He.ga K "Pattern") "ranges_in") := He.meth_ok (c.fact 105 (f := .meth "Pattern" "ranges_in") rfl)
  have q_NoWord_word : PySem.W.findIn K (.ref (He.ga K "NoWord")) "word" = some none := He.noat_ok (c.fact 60 (f := .noat "NoWord" "word") rfl)
  have q_NotWord_word : PySem.W.findIn K (.ref (He.ga K "NotWord")) "word" = some none := He.noat_ok (c.fact 61 (f := .noat "NotWord" "word") rfl)
  have q_Dictionary_letters : PySem.W.findIn K (.ref (He.ga K "Dictionary")) "letters" = some none := He.noat_ok (c.fact 62 (f := .noat "Dictionary" "letters") rfl)
  have q_Dictionary__plain : PySem.W.findIn K (.ref (He.ga K "Dictionary")) "_plain" = some none := He.noat_ok (c.fact 63 (f := .noat "Dictionary" "_plain") rfl)
  have q_Dictionary_words : PySem.W.findIn K (.ref (He.ga K "Dictionary")) "words" = some none := He.noat_ok (c.fact 64 (f := .noat "Dictionary" "words") rfl)
  have q_Dictionary_many : PySem.W.findIn K (.ref (He.ga K "Dictionary")) "many" = some none := He.noat_ok (c.fact 65 (f := .noat "Dictionary" "many") rfl)
  have q_Dictionary__keys : PySem.W.findIn K (.ref (He.ga K "Dictionary")) "_keys" = some none := He.noat_ok (c.fact 66 (f := .noat "Dictionary" "_keys") rfl)
  have q_Dictionary__numbers : PySem.W.findIn K (.ref (He.ga K "Dictionary")) "_numbers" = some none := He.noat_ok (c.fact 67 (f := .noat "Dictionary" "_numbers") rfl)
  have q_NumberMap_many : PySem.W.findIn K (.ref (He.ga K "NumberMap")) "many" = some none := He.noat_ok (c.fact 68 (f := .noat "NumberMap" "many") rfl)
  have q_NumberMap_numbers : PySem.W.findIn K (.ref (He.ga K "NumberMap")) "numbers" = some none := He.noat_ok (c.fact 69 (f := .noat "NumberMap" "numbers") rfl)
  have q_Readings_letters : PySem.W.findIn K (.ref (He.ga K "Readings")) "letters" = some none := He.noat_ok (c.fact 70 (f := .noat "Readings" "letters") rfl)
  have q_Readings_nodes : PySem.W.findIn K (.ref (He.ga K "Readings")) "nodes" = some none := He.noat_ok (c.fact 71 (f := .noat "Readings" "nodes") rfl)
  have q_Readings_stars : PySem.W.findIn K (.ref (He.ga K "Readings")) "stars" = some none := He.noat_ok (c.fact 72 (f := .noat "Readings" "stars") rfl)
  have q_Readings_takes : PySem.W.findIn K (.ref (He.ga K "Readings")) "takes" = some none := He.noat_ok (c.fact 73 (f := .noat "Readings" "takes") rfl)
  have q_Readings_start : PySem.W.findIn K (.ref (He.ga K "Readings")) "start" = some none := He.noat_ok (c.fact 74 (f := .noat "Readings" "start") rfl)
  have q_Readings_ends : PySem.W.findIn K (.ref (He.ga K "Readings")) "ends" = some none := He.noat_ok (c.fact 75 (f := .noat "Readings" "ends") rfl)
  have q_Pattern_letters : PySem.W.findIn K (.ref (He.ga K "Pattern")) "letters" = some none := He.noat_ok (c.fact 76 (f := .noat "Pattern" "letters") rfl)
  have q_Pattern_shape : PySem.W.findIn K (.ref (He.ga K "Pattern")) "shape" = some none := He.noat_ok (c.fact 77 (f := .noat "Pattern" "shape") rfl)
  have q_Pattern_moves : PySem.W.findIn K (.ref (He.ga K "Pattern")) "moves" = some none := He.noat_ok (c.fact 78 (f := .noat "Pattern" "moves") rfl)
  have q_Pattern_kinds : PySem.W.findIn K (.ref (He.ga K "Pattern")) "kinds" = some none := He.noat_ok (c.fact 79 (f := .noat "Pattern" "kinds") rfl)
  have q_Pattern__columns : PySem.W.findIn K (.ref (He.ga K "Pattern")) "_columns" = some none := He.noat_ok (c.fact 80 (f := .noat "Pattern" "_columns") rfl)
  have TX : Txd K (He.ga K "Dictionary") := ⟨He.cls_ok (c.fact 52 (f := .cls "Dictionary") rfl), q_Dictionary_letters, q_Dictionary__plain, q_Dictionary_words, q_Dictionary_many, q_Dictionary__keys, q_Dictionary__numbers⟩
  have TM : TxtM K (He.ga K "NumberMap") := ⟨He.cls_ok (c.fact 54 (f := .cls "NumberMap") rfl), q_NumberMap_many, q_NumberMap_numbers⟩
  have TR : TxR K (He.ga K "Readings") := ⟨He.cls_ok (c.fact 56 (f := .cls "Readings") rfl), q_Readings_letters, q_Readings_nodes, q_Readings_stars, q_Readings_takes, q_Readings_start, q_Readings_ends⟩
  have TP : TxP K (He.ga K "Pattern") := ⟨He.cls_ok (c.fact 58 (f := .cls "Pattern") rfl), q_Pattern_letters, q_Pattern_shape, q_Pattern_moves, q_Pattern_kinds, q_Pattern__columns⟩
  have TE : TxE K (He.ga K "Dictionary") := ⟨He.eqO_ok y1, He.eqO_ok y2, of_decide_eq_true y3, of_decide_eq_true y4, of_decide_eq_true y5⟩
  have MK : Mk K (He.ga K "Dictionary") (He.ma K (He.ga K "Dictionary") "__init__") := He.mkr_ok (c.fact 53 (f := .mkr "Dictionary") rfl)
  have MM : Mk K (He.ga K "NumberMap") (He.ma K (He.ga K "NumberMap") "__init__") := He.mkr_ok (c.fact 55 (f := .mkr "NumberMap") rfl)
  have MR : Mk K (He.ga K "Readings") (He.ma K (He.ga K "Readings") "__init__") := He.mkr_ok (c.fact 57 (f := .mkr "Readings") rfl)
  have MP : Mk K (He.ga K "Pattern") (He.ma K (He.ga K "Pattern") "__init__") := He.mkr_ok (c.fact 59 (f := .mkr "Pattern") rfl)
  have el : fl = He.ga K "law" := by
    have e := hfl.symm.trans (He.glo_ok KX G (c.fact 25 (f := .glo "law") rfl))
    cases e
    rfl
  subst el
  refine ⟨d25, [He.cT K iniD], spLaw K (TbK K), ?_, ?_, ?_, ?_, ?_, ?_⟩
  · intro p hp
    simp only [List.mem_cons, List.not_mem_nil, or_false] at hp
    subst hp
    exact hT _ (of_decide_eq_true t1)
  · intro p hp
    simp only [List.mem_cons, List.not_mem_nil, or_false] at hp
    subst hp
    exact isNone_of t6
  · intro p hp
    simp only [List.mem_cons, List.not_mem_nil, or_false] at hp
    subst hp
    exact PySem.W.codeHd_of_K KX t4
  · exact fun s u => FunD.bindsA (ps := ["_law_script"]) D25 (fun _ _ _ _ _ _ us hl => match us, hl with | [_], _ => rfl) s [u] rfl
  · intro H a ns hl hb hH hS
    refine ⟨a, ns, rfl, hS, fun p hp => ?_, fun _ => rfl⟩
    simp only [List.mem_cons, List.not_mem_nil, or_false] at hp
    subst hp
    exact LamX.TabS.nil (hH (He.cT K iniD) List.mem_cons_self)
  · intro base KB GB TB
    have cWh : Cal CX0 l.prog w K mg base 1 "is_whole" spWhole := ⟨_, d0, _, ok_whole F0 B, (He.glo_ok KX G (c.fact 0 (f := .glo "is_whole") rfl)), F0.kp, b0⟩
    have cB : Cal CX0 l.prog w K mg base 2 "is_between" spBetween := ⟨_, d1, _, ok_between F1 cWh, (He.glo_ok KX G (c.fact 1 (f := .glo "is_between") rfl)), F1.kp, b1⟩
    have cTo : Cal CX0 l.prog w K mg base 1 "is_tuple_of" spTupOf := ⟨_, d2, _, ok_tupOf F2 B, (He.glo_ok KX G (c.fact 2 (f := .glo "is_tuple_of") rfl)), F2.kp, b2⟩
    have cC1 : Cal CX0 l.prog w K mg base 1 "copied" spCopied := ⟨_, d3, _, ok_copied F3 B, (He.glo_ok KX G (c.fact 3 (f := .glo "copied") rfl)), F3.kp, b3⟩
    have cC : Cal CX0 l.prog w K mg base 2 "copied" spCopy2 := ⟨_, d3, _, ok_copy2 F3 B cC1, (He.glo_ok KX G (c.fact 3 (f := .glo "copied") rfl)), F3.kp, b3⟩
    have xNoWord : Xc l.prog w K mg base 3 "NoWord" (He.ga K "NoWord") (spXO K "word") := ⟨oexB_ok o0, (He.glo_ok KX G (c.fact 26 (f := .glo "NoWord") rfl)), _, d26, _, m26.at_, beq_iff_eq.mp m26.fn, ok_noWord F26 cC, b26⟩
    have xNotWord : Xc l.prog w K mg base 3 "NotWord" (He.ga K "NotWord") (spXO K "word") := ⟨oexB_ok o1, (He.glo_ok KX G (c.fact 27 (f := .glo "NotWord") rfl)), _, d27, _, m27.at_, beq_iff_eq.mp m27.fn, ok_notWord F27 cC, b27⟩
    have cLt : Cal CX0 l.prog w K mg base 1 "are_letters" spLets := ⟨_, d6, _, ok_letters F6 B Bz N, (He.glo_ok KX G (c.fact 6 (f := .glo "are_letters") rfl)), F6.kp, b6⟩
    have cIw : Cal CX0 l.prog w K mg base 1 "is_word" spIsW := ⟨_, d7, _, ok_isWord F7 B Bz N, (He.glo_ok KX G (c.fact 7 (f := .glo "is_word") rfl)), F7.kp, b7⟩
    have mK : Met CX0 l.prog w K mg base 1 (He.ga K "Dictionary") "_key_of" (spKeyOf (He.ga K "Dictionary")) := ⟨_, d33, _, TX.cl, m33, ok_keyOf F33 TX, b33⟩
    have mA : Met CX0 l.prog w K mg base 1 (He.ga K "Dictionary") "_keys_ahead" (spAhead (He.ga K "Dictionary")) := ⟨_, d34, _, TX.cl, m34, ok_ahead F34 TX, b34⟩
    have mH : Met CX0 l.prog w K mg base 1 (He.ga K "Dictionary") "has_word" (spHas (He.ga K "Dictionary")) := ⟨_, d35, _, TX.cl, m35, ok_hasW F35 B Bz TX, b35⟩
    have mN : Met (L2.CX l.prog w) l.prog w K mg base 5 (He.ga K "Dictionary") "number_of" (spNumOf (He.ga K "Dictionary") (He.ga K "NoWord")) := ⟨_, d36, _, TX.cl, m36, ok_numOf F36 TX mH xNoWord q_NoWord_word, b36⟩
    have mPl : Met (L2.CX l.prog w) l.prog w K mg base 5 (He.ga K "Dictionary") "place_for" (spPlace (He.ga K "Dictionary") (He.ga K "NotWord")) := ⟨_, d37, _, TX.cl, m37, ok_place F37 TX cIw mK mA xNotWord q_NotWord_word, b37⟩
    have L1 : FunL K base mg "__init__" "Dictionary.__init__" sInit (He.ma K (He.ga K "Dictionary") "__init__") (He.cT K iniD).1 (He.cT K iniD).2 d31 := funL_of (kq := iniD) F31 (TB _ List.mem_cons_self)
    have hu1 : ∀ p ∈ TbK K, p.1 = (He.cT K iniD).2 → p.2 = (("Dictionary.__init__.<locals>.<lambda>" : String) : Str) := fun p hp e => by
      simp only [List.mem_cons, List.not_mem_nil, or_false] at hp
      subst hp
      rfl
    have mkD : Mak CX0 l.prog w K mg base 5 "Dictionary" (He.ga K "Dictionary") (spInitD K (He.ga K "Dictionary") (TbK K)) := ⟨_, d31, _, MK, ok_init L1 B Bz N TX cLt cIw mK List.mem_cons_self hu1, (He.glo_ok KX G (c.fact 28 (f := .glo "Dictionary") rfl)), b31⟩
    have mkM : Mak CX0 l.prog w K mg base 3 "NumberMap" (He.ga K "NumberMap") (spMInit K (He.ga K "NumberMap")) := ⟨_, d28, _, MM, ok_minit F28 B TM cB, (He.glo_ok KX G (c.fact 29 (f := .glo "NumberMap") rfl)), b28⟩
    have mF : Met CX0 l.prog w K mg base 5 (He.ga K "NumberMap") "followed_by" (spFoll K (He.ga K "NumberMap")) := ⟨_, d29, _, TM.cl, m29, ok_foll F29 B TM mkM, b29⟩
    have cFw : Cal CX0 l.prog w K mg base 3 "first_wrong_range" (spFWR K) := ⟨_, d4, _, ok_fwr F4 B cTo cB, (He.glo_ok KX G (c.fact 4 (f := .glo "first_wrong_range") rfl)), F4.kp, b4⟩
    have cRs : Cal CX0 l.prog w K mg base 1 "ranges_of" spRngs := ⟨_, d5, _, ok_ranges F5, (He.glo_ok KX G (c.fact 5 (f := .glo "ranges_of") rfl)), F5.kp, b5⟩
    have mRB : Met CX0 l.prog w K mg base 4 (He.ga K "NumberMap") "ranges_behind" (spRanB K (He.ga K "NumberMap")) := ⟨_, d30, _, TM.cl, m30, ok_ranB F30 B TM cFw cRs, b30⟩
    have mMt : Met CX0 l.prog w K mg base 6 (He.ga K "Dictionary") "map_to" (spMapTo K (He.ga K "Dictionary") (He.ga K "NumberMap")) := ⟨_, d41, _, TX.cl, m41, ok_mapTo F41 TX mH mN mkM, b41⟩
    have mSt : Met CX0 l.prog w K mg base 7 (He.ga K "Dictionary") "strike_out" (spStrike K (He.ga K "Dictionary") (He.ga K "NumberMap") (TbK K)) := ⟨_, d39, _, TX.cl, m39, ok_strike F39 TX mN mkD mMt, b39⟩
    have mPu : Met CX0 l.prog w K mg base 7 (He.ga K "Dictionary") "put_in" (spPut K (He.ga K "Dictionary") (He.ga K "NumberMap") (TbK K)) := ⟨_, d38, _, TX.cl, m38, ok_put F38 B TX mPl mH mkD mkM, b38⟩
    have mJ : Met CX0 l.prog w K mg base 7 (He.ga K "Dictionary") "join_with" (spJoin K (He.ga K "Dictionary") (He.ga K "NumberMap") (TbK K)) := ⟨_, d40, _, TX.cl, m40, ok_join F40 B TX mH mkD mMt, b40⟩
    have cPa : Cal CX0 l.prog w K mg base 1 "is_part" spPart := ⟨_, d8, _, ok_part F8 B Bz, (He.glo_ok KX G (c.fact 8 (f := .glo "is_part") rfl)), F8.kp, b8⟩
    have cIt : Cal CX0 l.prog w K mg base 1 "is_item" spItem := ⟨_, d9, _, ok_item F9 B Bz, (He.glo_ok KX G (c.fact 9 (f := .glo "is_item") rfl)), F9.kp, b9⟩
    have cNo : Cal CX0 l.prog w K mg base 2 "nodes_of" spNodes := ⟨_, d10, _, ok_nodes F10 B Mc cPa cIt, (He.glo_ok KX G (c.fact 10 (f := .glo "nodes_of") rfl)), F10.kp, b10⟩
    have mLy : Met CX0 l.prog w K mg base 1 (He.ga K "Readings") "lay_item" (spLay (He.ga K "Readings")) := ⟨_, d43, _, TR.cl, m43, ok_lay F43 B TR, b43⟩
    have mPd : Met CX0 l.prog w K mg base 1 (He.ga K "Readings") "passed" (spPassed (He.ga K "Readings")) := ⟨_, d44, _, TR.cl, m44, ok_passed F44 TR, b44⟩
    have mFi : Met CX0 l.prog w K mg base 1 (He.ga K "Readings") "fits" (spFits (He.ga K "Readings")) := ⟨_, d45, _, TR.cl, m45, ok_fits F45 B TR, b45⟩
    have mMv : Met CX0 l.prog w K mg base 2 (He.ga K "Readings") "moves_from" (spMvf (He.ga K "Readings")) := ⟨_, d46, _, TR.cl, m46, ok_mvf F46 TR mPd, b46⟩
    have mAl : Met CX0 l.prog w K mg base 3 (He.ga K "Readings") "all_moves" (spAll (He.ga K "Readings")) := ⟨_, d47, _, TR.cl, m47, ok_all F47 B Mc TR mMv mFi, b47⟩
    have mkR : Mak CX0 l.prog w K mg base 3 "Readings" (He.ga K "Readings") (spRInit (He.ga K "Readings")) := ⟨_, d42, _, MR, ok_rinit F42 B TR cNo mLy mPd, (He.glo_ok KX G (c.fact 30 (f := .glo "Readings") rfl)), b42⟩
    have mkP : Mak CX0 l.prog w K mg base 5 "Pattern" (He.ga K "Pattern") (spPInit (He.ga K "Pattern")) := ⟨_, d48, _, MP, ok_pinit F48 B TP TR cLt mkR mAl, (He.glo_ok KX G (c.fact 31 (f := .glo "Pattern") rfl)), b48⟩
    have mLd : Met CX0 l.prog w K mg base 1 (He.ga K "Pattern") "_leads_to_fit" (spLead (He.ga K "Pattern")) := ⟨_, d49, _, TP.cl, m49, ok_lead F49 TP, b49⟩
    have mRi : Met CX0 l.prog w K mg base 2 (He.ga K "Pattern") "ranges_in" (spRin (He.ga K "Pattern") (He.ga K "Dictionary")) := ⟨_, d50, _, TP.cl, m50, ok_rin F50 B TP TX mLd cRs, b50⟩
    have cPn : Cal CX0 l.prog w K mg base 1 "_law_pen" (spPen K) := ⟨_, d11, _, ok_pen F11 B, (He.glo_ok KX G (c.fact 11 (f := .glo "_law_pen") rfl)), F11.kp, b11⟩
    have cD : Cal CX0 l.prog w K mg base 1 "_law_draw" spDraw := ⟨_, d12, _, ok_draw F12 B, (He.glo_ok KX G (c.fact 12 (f := .glo "_law_draw") rfl)), F12.kp, b12⟩
    have cPk : Cal CX0 l.prog w K mg base 2 "_law_pick" spPick := ⟨_, d13, _, ok_pick F13 B cD, (He.glo_ok KX G (c.fact 13 (f := .glo "_law_pick") rfl)), F13.kp, b13⟩
    have cPs : Cal CX0 l.prog w K mg base 2 "_law_pick" spPickS := ⟨_, d13, _, ok_pickS F13 B cD, (He.glo_ok KX G (c.fact 13 (f := .glo "_law_pick") rfl)), F13.kp, b13⟩
    have cL : Cal CX0 l.prog w K mg base 3 "_law_letters" spLLet := ⟨_, d14, _, ok_llet F14 B cD, (He.glo_ok KX G (c.fact 14 (f := .glo "_law_letters") rfl)), F14.kp, b14⟩
    have cW : Cal CX0 l.prog w K mg base 3 "_law_word" spLWord := ⟨_, d15, _, ok_lword F15 B cD cPs, (He.glo_ok KX G (c.fact 15 (f := .glo "_law_word") rfl)), F15.kp, b15⟩
    have cKy : Cal CX0 l.prog w K mg base 1 "_law_key" spLKey := ⟨_, d16, _, ok_lkey F16, (He.glo_ok KX G (c.fact 16 (f := .glo "_law_key") rfl)), F16.kp, b16⟩
    have cO : Cal CX0 l.prog w K mg base 2 "_law_ordered" spLOrd := ⟨_, d17, _, ok_lord F17 B cKy, (He.glo_ok KX G (c.fact 17 (f := .glo "_law_ordered") rfl)), F17.kp, b17⟩
    have cLR : Cal CX0 l.prog w K mg base 1 "_law_ranges" spRngs := ⟨_, d18, _, ok_lran F18, (He.glo_ok KX G (c.fact 18 (f := .glo "_law_ranges") rfl)), F18.kp, b18⟩
    have cRw : Cal CX0 l.prog w K mg base 3 "_law_row" spRow := ⟨_, d19, _, ok_row F19 B cD cPs, (He.glo_ok KX G (c.fact 19 (f := .glo "_law_row") rfl)), F19.kp, b19⟩
    have cRd : Cal CX0 l.prog w K mg base 1 "_law_reads" spReads := ⟨_, d20, _, ok_reads F20 B, (He.glo_ok KX G (c.fact 20 (f := .glo "_law_reads") rfl)), F20.kp, b20⟩
    have cM : Cal CX0 l.prog w K mg base 1 "_law_moves" spMoves := ⟨_, d21, _, ok_moves F21 B, (He.glo_ok KX G (c.fact 21 (f := .glo "_law_moves") rfl)), F21.kp, b21⟩
    have cBk : Cal CX0 l.prog w K mg base 8 "_law_back_right" (spBack (He.ga K "Dictionary") (TbK K)) := ⟨_, d22, _, ok_back F22 B TX TE TM mSt mPu mkM cM mF (ok_eq F32 B TX TE (He.glo_ok KX G (c.fact 28 (f := .glo "Dictionary") rfl))) m32.at_ m32.fn b32 n1, (He.glo_ok KX G (c.fact 22 (f := .glo "_law_back_right") rfl)), F22.kp, b22⟩
    have cOw : Cal CX0 l.prog w K mg base 6 "_law_own" (spOwn (He.ga K "Dictionary")) := ⟨_, d23, _, ok_own F23 mH mN, (He.glo_ok KX G (c.fact 23 (f := .glo "_law_own") rfl)), F23.kp, b23⟩
    have cC9 : Cal CX0 l.prog w K mg base 9 "_law_changed" (spChg K (He.ga K "Dictionary") (He.ga K "NumberMap") (He.ga K "Pattern") (TbK K)) := ⟨_, d24, _, ok_chg F24 B Bz TX TM TP cPk mPu mSt cO cM cRd mRB mRi cOw cLR mF cBk, (He.glo_ok KX G (c.fact 24 (f := .glo "_law_changed") rfl)), F24.kp, b24⟩
    exact ok_law F25 B TX TM TP cPn cD cL cW cO cM cRw cC9 mkD mkP mkM mMt mJ
end K03
set_option Elab.async false
open PySem.W PySem PyProof.Rows in
set_option maxRecDepth 100001 in
set_option maxHeartbeats 0 in
theorem PySem.Challenge.cw_wordvault_k03_whole_histories_of_words_holds : PySem.Challenge.rw_wordvault_k03_whole_histories_of_words.Holds := by
  w_on; o_law
  k_head
  case hw => w_witness2
  k_fill
  refine LamX.walk_ofTs (l := PySem.Challenge.rw_wordvault_k03_whole_histories_of_words) (n := 63) (k := 10) (x := "_law_script") (CX := fun _ => L2.CX0) rfl (by decide) rfl ⟨rfl, by decide, by decide⟩ (fun w h Y => PySem.W.km_in_of Y) ?F (fun _ _ _ _ _ z => z)
  case F =>
    intro w mg fa h Y KX G hmg
    refine K03.at_law KX G hmg ?c ?e (PySem.W.km_tabs_of Y)
    case c =>
      show He.obsD K03.faA K03.fnA _ = He.valD K03.fnA
      kernel_rfl
    case e => kernel_rfl
