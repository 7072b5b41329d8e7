import PyProof.Rows.All
import Wide.All
import OpenK.AllK
import Wide.FinOn
import KE.GoesEnum
import HandS.ForMost
import HandS.Walk
import HandS.ForExc
import HandS.ExcInit
import HandS.TryMany
import HandS.DictComp
import HandS.NoneIn
import HandS.IsInst
import HandS.Conv
import HandS.Flow
import HandS.Deep
import HandS.Codes
import HandS.Wide
import HandS.EndTab
import HandS.TupAny
import HandS.ExcField
import HandS.HeadHook4
import KE.KNestM
import PySem.Challenge.RW_wordvault_k00_maps_of_numbers
set_option Elab.async false
set_option maxRecDepth 100001
set_option maxHeartbeats 1999999
/-! enumerate over a tuple. -/
namespace PySem
theorem enumT_new {v : Value} {o : Obj} {G : Heap → Prop} (B : Begins v o G) : Meets (Builtin.«enumerate.__new__» ⟨[.type "enumerate", v], []⟩)
    (fun _ R z => G z.heap ∧ R (.ok (.ret (.ref (z.heap.push o).objs.size)))
      { z with heap := (z.heap.push o).push { cls := .type "enumerate", data := .fields #[.none, .bool false, .ref z.heap.objs.size, rawInt 0, .none, .none] } }) :=
  .of_wp fun P W A R z hz => by
    obtain ⟨hp, gs, dr, tk, os⟩ := z
    obtain ⟨g0, r0⟩ := hz
    have su := sub_enumerate
    have it0 : ∀ {A' : Around} {E : Value → Shared → Prop} {Q : Value → Shared → Prop}, Q (.ref hp.objs.size) ⟨hp.push o, gs, dr, tk, os⟩ → wpAny (model P W) A' (pyIter v) Q E ⟨hp, gs, dr, tk, os⟩ :=
      fun q => B.iter P W _ _ ⟨hp, gs, dr, tk, os⟩ _ g0 q
    wp_walk using it0
    refine wpAny_stack_any fun sk => wpAny_pure ?_
    split
    next c _ _ _ _ _ =>
      cases (c == Value.type "enumerate") <;> (wp_walk using it0; exact ⟨_, rfl, r0⟩)
    next => wp_walk using it0; exact ⟨_, rfl, r0⟩
theorem enumT_call {P : Program} {W : World} {A : Around} {E : Value → Shared → Prop} {z : Shared} {v : Value} {o : Obj} {G : Heap → Prop} {Q : Value → Shared → Prop} (B : Begins v o G) (g0 : G z.heap)
    (k : ∀ h2, IsEnum h2 (z.heap.objs.size + 1) z.heap.objs.size 0 .none → h2.get? z.heap.objs.size = some o → (∀ b u, z.heap.get? b = some u → h2.get? b = some u) → Q (.ref (z.heap.objs.size + 1)) { z with heap := h2 }) :
    wpAny (model P W) A (call (.type "enumerate") [v]) Q E z := by
  refine callType_new F.called_enumerate (by decide) (F.typeCall_enumerate_1 _) (F.newCall_enumerate_1 _) (fun ob => F.args_object_init_2 ob _) F.entry_enumerate_new (enumT_new B) ⟨g0, ?_⟩
  have sz : (z.heap.push o).objs.size = z.heap.objs.size + 1 := Heap.size_push ..
  show _ ∧ _
  rw [sz]
  have en : IsEnum ((z.heap.push o).push { cls := .type "enumerate", data := .fields #[.none, .bool false, .ref z.heap.objs.size, rawInt 0, .none, .none] }) (z.heap.objs.size + 1) z.heap.objs.size 0 .none := by
    have q := Heap.get?_push_size (z.heap.push o) (o := { cls := .type "enumerate", data := .fields #[.none, .bool false, .ref z.heap.objs.size, rawInt 0, .none, .none] }) rfl
    rw [sz] at q
    exact q
  exact ⟨⟨_, en, rfl⟩, k _ en (Heap.get?_push_of_some _ (Heap.get?_push_size _ B.free)) fun b u e => Heap.get?_push_of_some _ (Heap.get?_push_of_some _ e)⟩
end PySem
namespace L2
open PySem.Spec PySem PyProof.Rows
/-- the tuple at a, each item in a new pair behind its number -/
def ItEnT (K : PySem.W.Frag) (a : Addr) : It where
  go := fun i H => ∃ (xs : List V) (x : V), SqT K H a xs ∧ xs[i]? = some x
  yld := fun i H v H2 => ∃ p x, v = .ref p ∧ H p = none ∧ H2 = upd H p (.tup [.int (i : Nat), x]) ∧ ∀ xs, SqT K H a xs → xs[i]? = some x
  stop := fun i H => ∃ xs : List V, SqT K H a xs ∧ xs.length ≤ i
theorem two_of {b e d : Addr} (h : b ∈ [e, d]) : b = e ∨ b = d := by simpa using h
theorem turn_enT {P : Program} {W : World} {K : PySem.W.Frag} {es : List Expr} {kk : Nat} {tp : Pos} (a e d : Addr) :
    Turn P W K (.Tuple es kk tp) (ItEnT K a) [e, d] e (fun i h => (∃ was, IsEnum h e d ((i : Nat) : Int) was) ∧ h.IsTupleIter d a i ∧ e ≠ d) where
  mem := List.mem_cons_self
  obj := fun i h st b hb => by
    obtain ⟨⟨was, he⟩, ⟨o, ho, hc, hd⟩, _⟩ := st
    rcases two_of hb with rfl | rfl
    · exact ⟨_, he, fun _ q => nomatch q⟩
    · exact ⟨o, ho, fun _ q => by rw [hd] at q; cases q⟩
  keep := fun i h h2 st k => ⟨let ⟨was, he⟩ := st.1; ⟨was, k e (by simp) _ he⟩, st.2.1.at fun o q => k d (by simp) o q, st.2.2⟩
  item := by
    intro X hP hW hK hc i pins s σ H E I hf st hg
    subst hP hW hK
    obtain ⟨⟨was, he⟩, hit, hne⟩ := st
    obtain ⟨xs, x, hq, hx⟩ := hg
    obtain ⟨its, rv, p, hz⟩ := I.tuple hq
    obtain ⟨u, hu, ru⟩ := rv.get hx
    have le : e < s.heap.objs.size := Heap.lt_size he
    have ld : d < s.heap.objs.size := let ⟨_, q, _⟩ := hit; Heap.lt_size q
    have la : a < s.heap.objs.size := p.lt
    have had : a ≠ d := fun z => by
      obtain ⟨o1, h1, c1, _⟩ := hit
      obtain ⟨o2, h2, c2, _⟩ := p
      rw [z, h1] at h2
      have := Option.some.inj h2
      subst this
      rw [c1] at c2
      exact absurd c2 (by decide)
    have hae : a ≠ e := fun z => by
      obtain ⟨o2, h2, c2, _⟩ := p
      have h1 : s.heap.get? e = some _ := he
      rw [z, h1] at h2
      have := Option.some.inj h2
      subst this
      exact absurd (show Value.type "enumerate" = Value.type "tuple" from c2) (by decide)
    have hi : i < its.toArray.size := by
      have := (List.getElem?_eq_some_iff.mp hu).1
      simpa using this
    have D := Draws.tuple (prog := X.prog) (w := X.w) (A := X.A.in1) (I.ok.hd hc) d a had its.toArray
    refine wpAny_pyNext_enum_itemD (n := its.toArray.size) (i := i) D he ⟨hit, p⟩ hi hne (fun m => ?_) fun y h2 tk hy ho hs2 hT hsz hk => ?_
    · rcases two_of m with z | z
      · exact hne z
      · exact hae z.symm
    have ey : y = u := by
      have q : its.toArray[i]? = some u := by simpa using hu
      rw [hy] at q
      exact Option.some.inj q
    subst ey
    refine ⟨_, rfl, wpAny_letOwnedTupleGo_enum (s := { s with heap := h2, toks := tk + 1 }) ho fun h3 he3 sb => ?_⟩
    have hT3 : h3.get? s.heap.objs.size = some { cls := .type "tuple", data := .seq #[.int i tk, y] } := (sb.2 _ (Nat.ne_of_gt le)).trans hT
    have new : ObjOk X.prog X.w (upd H s.heap.objs.size (.tup [.int (i : Nat), x])) h3 s.heap.objs.size (.tup [.int (i : Nat), x]) :=
      ⟨by show 2 ≤ sizeLine; decide, [.int i tk, y], .cons ⟨_, rfl⟩ (.cons ru .nil), ⟨_, hT3, rfl, _, rfl⟩⟩
    have J : Inv X pins σ (upd H s.heap.objs.size (.tup [.int (i : Nat), x])) { s with heap := h3, toks := tk + 1 } :=
      I.turnedNew (ch := [e, d]) (fun b o hb q => (sb.2 b fun z => hb (by simp [z])).trans (hk b o (fun z => hb (by simp [z])) (fun z => hb (by simp [z])) q)) hf (Nat.le_refl _) new
    refine ⟨.ref s.heap.objs.size, _, J, rfl, ⟨_, x, rfl, I.hok.fresh (Nat.le_refl _), rfl, fun ys hy2 => by rw [I.tuple_inj hy2 hq]; exact hx⟩, ⟨⟨y, ?_⟩, hs2.1.at fun o q => (sb.2 d (Ne.symm hne)).trans q, hne⟩, fun b hb => ?_⟩
    · have e1 : ((i + 1 : Nat) : Int) = (i : Int) + 1 := by omega
      rw [e1]
      exact he3
    · have lb : b < s.heap.objs.size := by
        rcases two_of hb with z | z
        · rw [z]; exact le
        · rw [z]; exact ld
      rw [upd_ne (Nat.ne_of_lt lb)]
      exact (hf b hb).1
  done := by
    intro X hP hW hK hc i pins s σ H E I hf st hg
    subst hP hW hK
    obtain ⟨⟨was, he⟩, hit, hne⟩ := st
    obtain ⟨xs, hq, hx⟩ := hg
    obtain ⟨its, rv, p, hz⟩ := I.tuple hq
    obtain ⟨f0, f1, f2, f3, f4, f5⟩ := hf d (by simp)
    have hl := rv.length
    unfold pyNext
    refine wpAny_bind (wpAny_attempt (wpAny_callSpecial?_slot (name := Str.ofString "__next__") ⟨_, he, rfl⟩ F.slot_enumerate_next
      (wpAny_call_entry F.slot_enumerate_next ⟨_, he, rfl⟩ F.entry_enumerate_next ?_ (F.args_enumerate_next_1 _))))
    show wpAny _ _ (field (.ref e) 2 >>= _) _ _ _
    refine wpAny_bind (wpAny_field he rfl (x := .ref d) rfl ?_)
    refine wpAny_bind (wpAny_nextOf_tuple_end (I.ok.hd hc) hit p (by simp; omega) fun h2 x eb hx2 => ?_)
    obtain ⟨o, ho, hcl⟩ := hx2
    refine wpAny_bind (wpAny_isInstance (T := "StopIteration") (b := true) ⟨o, ho, hcl⟩ isSubtype_stop ?_)
    exact wpAny_pure ⟨rfl, I.turned (t' := s.toks) (fun b o hb q => eb b o hb q) f0 f1 f3 f4 f5⟩
  self := fun A i s Q E st h => let ⟨⟨_, he⟩, _⟩ := st; wpAny_pyIter_enum he h
def iEnT (K : PySem.W.Frag) (ta : TA) : TI := fun σ H R => ta σ H fun vs H1 => ∃ a xs, vs = [.ref a] ∧ SqT K H1 a xs ∧ R (ItEnT K a) H1
theorem pi_enT {X : Cx} {e : Expr} {ta : TA} {p pos tp : Pos} {es : List Expr} {kk : Nat} (hg : Gl X "enumerate") (hm : X.mg "enumerate" = none) (ha : PA X [e] ta) (hs : starEach [e] X.env = [(false, eval e X.env)] := by rfl) :
    PI X (.Tuple es kk tp) (.Call (.Name "enumerate" p) [e] [] pos) (iEnT X.K ta) := by
  constructor
  intro pins s σ H R I h
  refine Call_ (ld_blt I hg hm boot_enumerate (PyProof.Rows.callWith_type1 (thn (ha.run pos pins s σ H _ I h) fun us s1 hh => ?_) hs rfl))
  obtain ⟨vs, H1, I1, r1, a, xs, ex, hq, q⟩ := hh
  subst ex
  cases r1 with
  | cons r rr =>
    cases rr
    cases r
    obtain ⟨its, rv, p2, hz⟩ := I1.tuple hq
    refine enumT_call (begins_tuple a its.toArray) p2 fun h2 he hd hk => wpAny_pyIter_enum he ?_
    have I2 : Inv X pins σ H1 { s1 with heap := h2 } := I1.kept (t' := s1.toks) hk
    refine ⟨s1.heap.objs.size + 1, [s1.heap.objs.size + 1, s1.heap.objs.size], _, _, H1, rfl, I2, turn_enT a (s1.heap.objs.size + 1) s1.heap.objs.size, ⟨⟨.none, he⟩, ⟨_, hd, rfl, rfl⟩, Nat.succ_ne_self _⟩, fun b hb => ?_, q⟩
    have ge : s1.heap.objs.size ≤ b := by
      rcases two_of hb with z | z
      · rw [z]; exact Nat.le_add_right _ _
      · rw [z]; exact Nat.le_refl _
    exact I1.fpOk ge (I1.hok.fresh ge)
theorem walk_enT {K : PySem.W.Frag} {a : Addr} {xs : List V} : Walk (ItEnT K a) xs.length (fun H => SqT K H a xs) (YPair (fun i => some (.int (i : Nat))) (fun i => xs[i]?)) where
  goes := fun i _ hi q => ⟨xs, xs[i], q, by simp [hi]⟩
  stops := fun _ q => ⟨xs, q, Nat.le_refl _⟩
  yields := fun i H v H2 _ q y => let ⟨p, x, h1, h2, h3, h4⟩ := y; ⟨p, .int (i : Nat), x, h1, h2, h3, rfl, h4 xs q⟩
end L2
set_option Elab.async false
set_option maxRecDepth 100001
set_option maxHeartbeats 3999999
/-! raise C(), C an own class whose own __init__ stores nothing. -/
namespace L2
open PySem.Spec PySem PyProof.Rows
section
variable {X : Cx}
theorem mk_bare {pins : List (Addr × Obj)} {σ : St} {H1 H2 : Hp} {Q : XK} {hp hp2 h2 : Heap} {g1 g2 : Array GenState} {d1 d2 : Drawn} {t1 t2 : Nat} {o1 o2 : OsState} {a C : Addr} (T : Raises X (.ref C))
    (I1 : Inv X pins σ H1 ⟨hp, g1, d1, t1, o1⟩) (big : hp.objs.size ≤ a) (k : ∀ b o, hp.get? b = some o → hp2.get? b = some o) (un : Un (frs X.stack) [] (upd H1 a (exo a C none)) H2 hp2 h2)
    (hok : HOk X.prog X.w H2 h2) (ho : o2 = o1) (hb : AllBare g2) (ea : H2 a = some (exo a C none)) (q : Q (.ref C) none (del H2 a)) : MkP X pins σ Q (.ref a) ⟨h2, g2, d2, t2, o2⟩ := by
  obtain ⟨t0, he⟩ := exo_at hok ea
  have na : H1 a = none := I1.hok.fresh big
  obtain ⟨G, gyes, gno⟩ := restrict h2 fun b => decide (b ≠ a)
  have gk : ∀ b, b ≠ a → G.get? b = h2.get? b := fun b z => gyes b (decide_eq_true z)
  have ga : G.get? a = none := gno a (by simp)
  have ne : ∀ {b : Addr} {o : Obj}, hp.get? b = some o → b ≠ a := fun z => Nat.ne_of_lt (Nat.lt_of_lt_of_le (Heap.lt_size z) big)
  have free : ∀ {b : Addr}, b ≠ a → H1 b = none → upd H1 a (exo a C none) b = none := fun z n => (upd_ne z).trans n
  have U : Un (frs X.stack) [] H1 (del H2 a) hp G := {
    keep := fun b o z n hf hx => (gk b (ne z)).trans (un.keep b o (k b o z) (free (ne z) n) hf hx)
    slot := fun b o z n hf hx => let ⟨sl, e⟩ := un.slot b o (k b o z) (free (ne z) n) hf hx; ⟨sl, (gk b (ne z)).trans e⟩
    free := fun b o z n hx => (del_ne (ne z)).trans (un.free b o (k b o z) (free (ne z) n) hx)
    there := fun b o z hx => let ⟨o', e⟩ := un.there b o (k b o z) hx; ⟨o', (gk b (ne z)).trans e⟩
    tups := fun b xs z => (del_ne (ne_of_none z na)).trans (un.tups b xs ((upd_ne (ne_of_none z na)).trans z))
    frzs := fun b o v z => (del_ne (ne_of_none z na)).trans (un.frzs b o v ((upd_ne (ne_of_none z na)).trans z))
    tbls := fun b ps z => let ⟨m, e⟩ := un.tbls b ps ((upd_ne (ne_of_none z na)).trans z); ⟨m, (del_ne (ne_of_none z na)).trans e⟩ }
  have hG : HOk X.prog X.w (del H2 a) G := fun b o z => by
    have hba : b ≠ a := fun e => by
      rw [e, del_same] at z
      cases z
    rw [del_ne hba] at z
    have own : ∀ {c : Addr}, H2 c = some (.own b) → c ≠ a := fun hc => at_ne ea hc exo_own
    refine (hok b o z).stay (fun c v hc y => ?_) (fun c hc => (del_ne (own hc)).trans hc) fun c xs hc => (del_ne (at_ne ea hc exo_tup)).trans hc
    refine (gk c ?_).trans y
    rcases hc with rfl | hc
    · exact hba
    · exact own hc
  have J : Inv X pins σ (del H2 a) ⟨G, g2, d2, t2, o2⟩ := I1.call' (ch := []) ho U hG hb fun b z => absurd z (by simp)
  refine ⟨a, _, _, ⟨G, g2, d2, t2, o2⟩, _, .ref C, none, rfl, J, fun b o z => ?_, ga, he, ⟨rfl, rfl⟩, rfl, rfl, del_same, rfl, hb, T, q⟩
  have hba : b ≠ a := fun e => by
    rw [e] at z
    have z' : G.get? a = some o := z
    rw [ga] at z'
    cases z'
  exact (gk b hba).symm.trans z
/-- C(): what its __init__ keeps, at the fresh exception -/
def tMkO0 (C : Addr) (sp : Sp) : St → Hp → XK → Prop := fun _ H Q => ∀ a, H a = none → sp [.ref a] (upd H a (exo a C none)) (fun v H2 => v = .non ∧ H2 a = some (exo a C none) ∧ Q (.ref C) none (del H2 a)) (fun _ _ _ => False)
theorem pmk_oex0 {CX : CXT} {x : Str} {p pos : Pos} {C fI : Addr} {k : Nat} {fd : FuncData} {ps : List Str} {sp : Sp} (T : OexC X.K C) (iC : PySem.W.findIn X.K (.ref C) "__init__" = some (some (.ref fI))) (tI : PySem.W.typeIn X.K (.ref fI) = some (.type "function"))
    (F1 : FnOk X.prog X.w X.K X.mg X.base CX k fI fd ps sp) (hr : Room (k + 1) X.A) (hb : Binds X.K fd ps []) (hx : Passes CX X (fun _ _ _ => False)) (hg : Gl X x) (hm : X.mg x = some (.ref C)) (hdb : (x == ("__debug__" : Str)) = false := by decide) :
    PMk X (.Call (.Name x p) [] [] pos) (tMkO0 C sp) := by
  intro pins s σ H Q I h
  obtain ⟨nm, qn, N, bs, bm, sn, sb, ab, col, dd, j0, j1, j2, j3, j5, hC, hbm⟩ := T.cls
  refine wpAny_Call_Name_kw (ld_glob I hg hm ?_ hdb)
  refine PySem.W.callWith_K0 I.kIn T.kC ?_
  show wpAny _ _ (call (.ref C) []) _ _ _
  obtain ⟨hp, g, dr, tk, os⟩ := s
  have big : hp.objs.size ≤ hp.objs.size + 1 := Nat.le_succ _
  have hn : H (hp.objs.size + 1) = none := I.hok.fresh big
  have hq := h (hp.objs.size + 1) hn
  have kk : ∀ b o, hp.get? b = some o → ((hp.push (PySem.W.kdv_tup [])).push (PySem.HandSPX.excO C hp.objs.size)).get? b = some o := fun b o e => Heap.get?_push_of_some _ (Heap.get?_push_of_some _ e)
  have hget : ((hp.push (PySem.W.kdv_tup [])).push (PySem.HandSPX.excO C hp.objs.size)).get? (hp.objs.size + 1) = some (PySem.HandSPX.excO C hp.objs.size) := by heap_get
  have I2 : Inv X pins σ (upd H (hp.objs.size + 1) (exo (hp.objs.size + 1) C none)) ⟨(hp.push (PySem.W.kdv_tup [])).push (PySem.HandSPX.excO C hp.objs.size), g, dr, tk, os⟩ := I.laid (t' := tk) kk big (exo_ok hget)
  have r2 : Vals [V.ref (hp.objs.size + 1)] [Value.ref (hp.objs.size + 1)] := .cons rfl .nil
  have hl : ([Value.ref (hp.objs.size + 1)] ++ ([] : List Value)).length = ps.length := (F1.len _ _ _ _ hq)
  refine wpAny_call (PySem.HandSPX.call_own F.excBase_ValueError (fun Y => PySem.HandSPX.refsVE_contains Y bm hbm) (I.kIn _ _ hC) (PySem.W.looks_findIn I.kIn iC) (fun self => PySem.W.bind_fn I.kIn self tI) (by show 0 ≤ sizeLine; exact Nat.zero_le _)
    (codeAny_mono (F1.run _ X.stack _ _ ⟨[Value.ref (hp.objs.size + 1)], []⟩ [Value.ref (hp.objs.size + 1)] _ _ (fun _ _ _ => False) (hr.make C [] []) (I2.env0.make C [] []) (hb _ [Value.ref (hp.objs.size + 1)] I2.kIn hl) r2 hq) fun r s2 hq2 => ?_))
  cases r with
  | error er => exact hx pins σ _ _ er s2 I2 hq2
  | ok fl =>
    cases fl with
    | ret u =>
      obtain ⟨v, H2, os2, bare2, un2, hok2, rv, ev, ea, q2⟩ := hq2
      subst ev
      obtain ⟨h2, g2, d2, t2, o2⟩ := s2
      exact ⟨rv, mk_bare (raises_own T.exC T.tyC) I big kk un2 hok2 os2 bare2 ea q2⟩
    | next => exact hq2.elim
    | brk => exact hq2.elim
    | cont => exact hq2.elim
end
end L2
set_option Elab.async false
set_option maxRecDepth 100001
set_option maxHeartbeats 3999999
/-! try with several clauses, some of which name the exception. -/
namespace L2
open PySem.Spec PySem PyProof.Rows
/-- a clause: its class, the slot of its name, its suite's reading -/
abbrev Clause := Value × Option Nat × (Addr → Value → Option Addr → TS)
def endsOf : Option Nat → Ends → Ends
  | none, D => D
  | some i, D => ⟨fun σ H => D.nx (σ.set i none) H, D.rt, fun σ H => D.bk (σ.set i none) H, fun σ H => D.ct (σ.set i none) H⟩
def slotOf : Option Nat → Addr → St → St
  | none, _, σ => σ
  | some i, a, σ => σ.set i (some (.ref a))
def wClauses (K : PySem.W.Frag) (Wout : WX) (D : Ends) : List Clause → WX
  | [], cls, d, σ, H => Wout cls d σ H
  | (c, i, ts) :: r, cls, d, σ, H => ∃ b, PySem.W.exmOne K cls c = some b ∧ (b = true → ∀ a, H a = none → ts a cls d (endsOf i D) (slotOf i a σ) H) ∧ (b = false → wClauses K Wout D r cls d σ H)
def SuiteOk (X : Cx) (sts : List Stmt) (ts : Addr → Value → Option Addr → TS) : Prop :=
  ∀ (a : Addr) (oe : Obj) (cls : Value) (d : Option Addr) (pn : List (Addr × Obj)), Zc cls d oe → (∃ vs, oe.data = .fields vs) → PSs (X.suite a ((a, oe) :: pn)) sts (ts a cls d)
inductive ClausesOk (X : Cx) : List ExceptHandler → List Clause → Prop
  | nil : ClausesOk X [] []
  | plain {x c ts b₀ su np p2 hds l} (hc : Names X x c) (ok : SuiteOk X (b₀ :: su) ts) (r : ClausesOk X hds l) : ClausesOk X (.ExceptHandler (some (.Name x np)) none (b₀ :: su) p2 :: hds) ((c, none, ts) :: l)
  | named {x c ts b₀ su np p2 hds l n i} (hc : Names X x c) (hi : X.N[i]? = some n) (hn : X.env.kindOf n = some .local) (ok : SuiteOk X (b₀ :: su) ts) (r : ClausesOk X hds l) :
      ClausesOk X (.ExceptHandler (some (.Name x np)) (some n) (b₀ :: su) p2 :: hds) ((c, some i, ts) :: l)
section
variable {X : Cx} {pins : List (Addr × Obj)} {σ : St} {H : Hp} {z sI : Shared} {a : Addr} {cls : Value} {d : Option Addr} {B h : Heap} {D : Ends}
/-- an exception that has come to its try: what is known there -/
structure Come (X : Cx) (pins : List (Addr × Obj)) (σ : St) (H : Hp) (sI z : Shared) (a : Addr) (cls : Value) (d : Option Addr) (B h : Heap) : Prop where
  hs : X.stack = X.env :: X.outer
  hf : X.env.frame = some X.env.locals
  J : Inv X pins σ H sI
  nb : ∀ b o, sI.heap.get? b = some o → b ∉ frs X.stack → B.get? b = some o
  fl : HandSPX.FlyingZ B (X.env :: X.outer) a (Zc cls d) h
  up : sI.heap.UpToSlots h
  na : H a = none
  os : z.os = sI.os
  ag : AllBare z.gens
theorem Come.inv (C : Come X pins σ H sI z a cls d B h) : Inv X pins σ H { z with heap := h } := C.J.landed C.nb C.fl.1 C.up C.os C.ag
theorem Come.apart (C : Come X pins σ H sI z a cls d B h) : a ≠ X.env.locals ∧ a ∉ X.fs := by
  obtain ⟨oe, vs, he, _, hd⟩ := C.fl.there
  have no : a ∉ frs (X.env :: X.outer) := fun m => by
    obtain ⟨_, o, e, q⟩ := C.fl.2.2.1.mem m
    rw [he] at e
    cases e
    exact q _ hd
  refine ⟨fun e => no (List.mem_filterMap.mpr ⟨X.env, List.mem_cons_self, by rw [C.hf, e]⟩), fun m => ?_⟩
  obtain ⟨e, he, q⟩ := List.mem_filterMap.mp m
  exact no (List.mem_filterMap.mpr ⟨e, List.mem_cons_of_mem _ he, q⟩)
theorem Come.suite (C : Come X pins σ H sI z a cls d B h) : ∃ oe, Zc cls d oe ∧ (∃ vs, oe.data = .fields vs) ∧ h.get? a = some oe ∧ Inv (X.suite a ((a, oe) :: (X.pn ++ pins))) [] σ H { z with heap := h } := by
  obtain ⟨oe, vs, he, hz, hd⟩ := C.fl.there
  exact ⟨oe, hz, ⟨vs, hd⟩, he, C.inv.suite he hd C.na C.apart.1 C.apart.2⟩
theorem Come.step (C : Come X pins σ H sI z a cls d B h) {h2 : Heap} (fl : HandSPX.FlyingZ B (X.env :: X.outer) a (Zc cls d) h2) (up : h.UpToSlots h2) : Come X pins σ H sI z a cls d B h2 :=
  ⟨C.hs, C.hf, C.J, C.nb, fl, C.up.trans up, C.na, C.os, C.ag⟩
/-- the class of a clause is looked at -/
theorem Come.test (C : Come X pins σ H sI z a cls d B h) {x : Str} {c : Value} {np : Pos} {b : Bool} (hc : Names X x c) (hb : PySem.W.exmOne X.K cls c = some b) {Q : Bool → Shared → Prop} {E E2 : Value → Shared → Prop} (q : Q b { z with heap := h }) :
    wpAny (model X.prog X.w) (X.A.mark (some (.ref a))) (eval (.Name x np) X.env) (fun u s1 => wpAny (model X.prog X.w) (X.A.mark (some (.ref a))) (excMatches (.ref a) u) Q E2 s1) E { z with heap := h } := by
  obtain ⟨oe, hz, _, he, S⟩ := C.suite
  have LT : PySem.W.Looks (model X.prog X.w) h (typeOf (.ref a)) cls := fun _ _ _ _ k q2 => wpAny_typeOf_ref (k _ _ he) (by rw [hz.1]; exact q2)
  have LM := (PySem.W.exm_one (M := model X.prog X.w) C.inv.kIn LT hb).here (A := X.A.mark (some (.ref a))) (Q := Q) (E := E2) (s := { z with heap := h }) q
  obtain ⟨hg, hdb, hm | ⟨hm, hv, hnn⟩⟩ := hc
  · exact ld_glob (X := X.suite a ((a, oe) :: (X.pn ++ pins))) S hg hm LM hdb
  · exact ld_blt (X := X.suite a ((a, oe) :: (X.pn ++ pins))) S hg hm hv LM hnn hdb
/-- no clause is left: it goes on -/
theorem Come.on {Wout : WX} (C : Come X pins σ H sI z a cls d B h) (tk : Takes X Wout) (wo : Wout cls d σ H) :
    wpAny (model X.prog X.w) X.A (handleBy (.ref a) X.env []) (SP X pins D) X.xe { z with heap := h } := by
  refine wpAny_handleBy_nil ?_
  obtain ⟨_, _, _, oe, vs, T, oT, ts, he, _, hd, h1, _⟩ := id C.fl
  unfold PySem.passOn
  refine wpAny_bind (wpAny_field he hd h1 ?_)
  rw [if_neg (show ¬ ((Value.ref T == Value.none) = true) from by simp)]
  have fin : wpAny (model X.prog X.w) X.A (setFlight (.ref a) X.env.frame) (fun _ s4 => wpAny (model X.prog X.w) X.A (throw (.ref a) : Sem Flow) (SP X pins D) X.xe s4) X.xe { z with heap := h } := by
    rw [C.hf]
    refine HandSPX.setFlight_upZ C.fl fun h4 hh4 up4 => wpAny_throw (tk _ _ ?_)
    exact ⟨a, B, sI, pins, σ, H, cls, d, rfl, C.J, C.nb, C.up.trans up4, .inr (.inr (by rw [C.hs]; exact hh4)), C.na, C.os, C.ag, wo⟩
  first | exact wpAny_bind (wpAny_pure (wpAny_bind fin)) | exact wpAny_bind fin
theorem Come.run {Wout : WX} {hds : List ExceptHandler} {l : List Clause} (hN : X.N.Nodup) (tk : Takes X Wout) (ok : ClausesOk X hds l) : ∀ {h : Heap}, Come X pins σ H sI z a cls d B h → wClauses X.K Wout D l cls d σ H →
    wpAny (model X.prog X.w) X.A (handleBy (.ref a) X.env hds) (SP X pins D) X.xe { z with heap := h } := by
  induction ok with
  | nil => exact fun C w => C.on tk w
  | plain hc su r ih =>
    intro h C w
    obtain ⟨b, hb, yes, no⟩ := w
    refine wpAny_handleBy_cons (codeAny_handlers_test (C.test hc hb ?_)) (by intro q; cases q)
    cases b with
    | false => exact ih C (no rfl)
    | true =>
      refine codeAny_handlers_suite ?_
      refine HandSPX.lands_againZ C.fl fun h4 fl4 up4 => ?_
      have C4 := C.step fl4 up4
      obtain ⟨oe, hz, hd, he, S⟩ := C4.suite
      refine wpAny_mono ((su a oe cls d (X.pn ++ pins) hz hd).run [] _ _ H _ S (yes rfl a C.na)) (fun f s6 hsp => ?_) (fun _ _ q => False.elim q)
      cases f with
      | next => exact let ⟨_, _, S6, q6⟩ := hsp; ⟨_, _, S6.unsuite C.J.ok, q6⟩
      | brk => exact let ⟨_, _, S6, q6⟩ := hsp; ⟨_, _, S6.unsuite C.J.ok, q6⟩
      | cont => exact let ⟨_, _, S6, q6⟩ := hsp; ⟨_, _, S6.unsuite C.J.ok, q6⟩
      | ret u => exact let ⟨_, _, _, S6, r6, q6⟩ := hsp; ⟨_, _, _, S6.unsuite C.J.ok, r6, q6⟩
  | @named x c ts b₀ suite np p2 hds l n i hc hi hn su r ih =>
    intro h C w
    obtain ⟨b, hb, yes, no⟩ := w
    refine wpAny_handleBy_cons (codeAny_handlers_test (C.test hc hb ?_)) (by intro q; cases q)
    cases b with
    | false => exact ih C (no rfl)
    | true =>
      refine codeAny_handlers_suite_as ?_
      refine HandSPX.lands_againZ C.fl fun h4 fl4 up4 => ?_
      have C4 := C.step fl4 up4
      obtain ⟨oe, hz, hd, he, S⟩ := C4.suite
      refine store_ok (X := X.suite a ((a, oe) :: (X.pn ++ pins))) (v := .ref a) S hN hi (.inl hn) rfl (fun s5 S5 => ?_) (.inr hn)
      refine wpAny_mono ((su a oe cls d (X.pn ++ pins) hz hd).run [] s5 _ H _ S5 (yes rfl a C.na)) (fun f s6 hsp => ?_) (fun _ _ q => False.elim q)
      have away : ∀ {σ6 : St} {H6 : Hp} {Q : Shared → Prop}, Inv (X.suite a ((a, oe) :: (X.pn ++ pins))) [] σ6 H6 s6 → (∀ s7, Inv X pins (σ6.set i none) H6 s7 → Q s7) →
          wpAny (model X.prog X.w) X.A (do bindName X.env n .none; unbindBehindTheSuite X.env n p2) (fun _ s7 => Q s7) X.xe s6 := fun S6 hq => gone_ok (S6.unsuite C.J.ok) hN hi hn hq
      cases f with
      | next => exact let ⟨_, _, S6, q6⟩ := hsp; away S6 fun s7 J7 => ⟨_, _, J7, q6⟩
      | brk => exact let ⟨_, _, S6, q6⟩ := hsp; away S6 fun s7 J7 => ⟨_, _, J7, q6⟩
      | cont => exact let ⟨_, _, S6, q6⟩ := hsp; away S6 fun s7 J7 => ⟨_, _, J7, q6⟩
      | ret u => exact let ⟨_, _, _, S6, r6, q6⟩ := hsp; away S6 fun s7 J7 => ⟨_, _, _, J7, r6, q6⟩
end
/-- try: body / except C1 as n: .. / except C2: .. -/
theorem ps_try_clauses {X : Cx} {body : List Stmt} {hd₀ : ExceptHandler} {hds : List ExceptHandler} {l : List Clause} {pos : Pos} {tb : WX → TS} {Wout : WX} (hs : X.stack = X.env :: X.outer) (hf : X.env.frame = some X.env.locals) (hN : X.N.Nodup) (tk : Takes X Wout)
    (hb : ∀ (W : WX) (pn : List (Addr × Obj)) (xe : Value → Shared → Prop), Takes (X.tr pn xe) W → PassesOwn (model X.prog X.w) X.A X.env xe → PSs (X.tr pn xe) body (tb W)) (ok : ClausesOk X (hd₀ :: hds) l) :
    PS X (.Try body (hd₀ :: hds) [] [] pos) (fun D σ H => tb (wClauses X.K Wout D l) D σ H) := by
  constructor
  intro pins s σ H D I h
  have oX := I.ok
  have fr : X.A.frames = some (X.env :: X.outer) := by rw [oX.frames, hs]
  refine wpAny_Try_except ?_
  refine wpAny_mono ((hb (wClauses X.K Wout D l) (X.pn ++ pins) (fun e s₁ => wpAny (model X.prog X.w) X.A (noteFrame e X.env) (fun _ s₂ => wpAny (model X.prog X.w) X.A (setFlight e none) (fun _ s₃ =>
    wpAny (model X.prog X.w) X.A (handleBy e X.env (hd₀ :: hds)) (SP X pins D) X.xe s₃) X.xe s₂) X.xe s₁) (fun u s1 xx => ?_) PassesOwn.looking).run [] s σ H D (I.toTry _) h) (fun f s1 hsp => ?_) fun _ _ he => he
  · obtain ⟨a, B, sI, pins', σ', H', cls, d, rfl, J', nb, up, sky, na, os, ag, w⟩ := xx
    have sky' : Sky B (X.env :: X.outer) a (Zc cls d) X.env.locals s1.heap := by rw [← hs]; exact sky
    show wpAny (model X.prog X.w) X.A (noteFrame (.ref a) X.env) _ _ _
    refine Sky.land Zc.steady fr hf sky' fun h3 fl3 up3 => ?_
    exact Come.run (z := s1) hN tk ok ⟨hs, hf, J'.ofTry oX, nb, fl3, up.trans up3, na, os, ag⟩ w
  · cases f with
    | next => exact let ⟨σ', H', J', q⟩ := hsp; wpAny_execs_nil ⟨σ', H', J'.ofTry oX, q⟩
    | brk => exact let ⟨σ', H', J', q⟩ := hsp; ⟨σ', H', J'.ofTry oX, q⟩
    | cont => exact let ⟨σ', H', J', q⟩ := hsp; ⟨σ', H', J'.ofTry oX, q⟩
    | ret u => exact let ⟨v, σ', H', J', r, q⟩ := hsp; ⟨v, σ', H', J'.ofTry oX, r, q⟩
end L2
set_option Elab.async false
set_option maxRecDepth 100001
set_option maxHeartbeats 3999999
/-! dict comprehensions into a dict of any sort of keys; None among the keys. -/
namespace L2
open PySem.Spec PySem PyProof.Rows
/-- a sort of new dicts: what a fresh one is, what a store asks and leaves -/
structure DSort (P : Program) (w : World) where
  fresh : Addr → HO
  put : Hp → Addr → V → V → Hp → Prop
  made : ∀ (H : Hp) (h : Heap), sysModules < h.objs.size → ObjOk P w H (h.push { cls := .type "dict", data := .dict #[] }) h.objs.size (fresh h.objs.size)
  runs : ∀ (X : Cx), X.prog = P → X.w = w → ∀ (pins : List (Addr × Obj)) (σ : St) (H Hh2 : Hp) (s : Shared) (E : Value → Shared → Prop) (D : Addr) (y v : V) (u r : Value) (Q : Unit → Shared → Prop),
    Inv X pins σ H s → put H D y v Hh2 → RelV y u → RelV v r → (∀ sh2, Inv X pins σ Hh2 sh2 → Q () sh2) → wpAny (model X.prog X.w) X.A (dictSet D u r) Q E s
section
variable {X : Cx}
def tDcS (S : DSort X.prog X.w) (wi : TI) (g : TG) (tt : TT) (tk tv : TE) (vs : List Nat) : TE := fun σ H Q => wi σ H fun J Hh1 => ∀ D, Hh1 D = none → ∃ W : Nat → Nat → Hp → Prop, (∃ m, W 0 m (upd Hh1 D (S.fresh D))) ∧ ∀ i m H, W i m H →
  (J.stop i H ∧ Q (.ref D) H) ∨ (J.go i H ∧ ∃ N : Hp → Prop, (∀ Hh2, N Hh2 → ∃ m2, m2 < m ∧ W (i + 1) m2 Hh2) ∧ ∀ x Hh2, J.yld i H x Hh2 → g x (wipe σ vs) Hh2 fun σ3 Hh3 => wipe σ3 vs = wipe σ vs ∧ tt σ3 Hh3 fun b Hh4 =>
    if b = true then tk σ3 Hh4 fun y Hh5 => tv σ3 Hh5 fun z Hh6 => ∃ Hh7, S.put Hh6 D y z Hh7 ∧ N Hh7 else N Hh4)
theorem pe_dcS (S : DSort X.prog X.w) {kx vx tg iter : Expr} {ifs : List Expr} {scope : Scope} {own : List (Str × Nat)} {pos : Pos} {wi : TI} {g : TG} {tt : TT} {tk tv : TE} (hc : X.calm = true) (hN : X.N.Nodup) (hi : PI X tg iter wi) (ok : BlkOk X.N X.env.scope scope own)
    (hg : ∀ (s : Shared) (H : Hp) (C : Addr) (cl : List (Str × Addr)) (fp : List Addr), PG (X.blk s H scope (compEnvC scope cl C X.env) fp) tg g)
    (ht : ∀ (s : Shared) (H : Hp) (C : Addr) (cl : List (Str × Addr)) (fp : List Addr), PTs (X.blk s H scope (compEnvC scope cl C X.env) fp) ifs tt)
    (hk : ∀ (sh : Shared) (H : Hp) (C : Addr) (cl : List (Str × Addr)) (fp : List Addr), PE (X.blk sh H scope (compEnvC scope cl C X.env) fp) kx tk)
    (he : ∀ (sh : Shared) (H : Hp) (C : Addr) (cl : List (Str × Addr)) (fp : List Addr), PE (X.blk sh H scope (compEnvC scope cl C X.env) fp) vx tv) (hs : ∀ x, foldedSetIterable iter X.env x = pure x := by intro _; rfl) :
    PE X (.DictComp kx vx [⟨tg, iter, ifs, 0⟩] scope pos) (tDcS S wi g tt tk tv (own.map (·.2))) := by
  constructor
  intro pins s σ H Q I h
  rw [arm_eval_DictComp]
  have has : ∀ y ∈ scope.names, y.2 = .free → ∃ c, X.env.cells.lookup y.1 = some c := fun y hy e =>
    (ok.free y hy e).elim (fun k => I.ok.has _ (.inl k)) fun k => I.ok.has _ (.inr k)
  refine wpAny_comprehension_free (use := none) rfl hs (closure_ok has) ok.kind (fun y hy e => by rw [ok.uniq y hy, e]) (thn (hi.run pins s σ H _ I h) fun xv sh1 hx => thn hx fun itv sh2 h2 => ?_)
  obtain ⟨it, fp, tn, J, Hh2, e, Iv2, T, st2, f2, q⟩ := h2
  subst e
  refine wpAny_newObj_type (newEnv_comp ?_)
  generalize eD : sh2.heap.objs.size = D
  have nD : Hh2 D = none := Iv2.hok.fresh (Nat.le_of_eq eD)
  obtain ⟨W, ⟨m0, w0⟩, turn⟩ := q D nD
  generalize es3 : ({ sh2 with heap := sh2.heap.push { cls := .type "dict", data := .dict #[] } } : Shared) = sh3
  have h3 : sh3.heap = sh2.heap.push { cls := .type "dict", data := .dict #[] } := by rw [← es3]
  have Iv3 : Inv X pins σ (upd Hh2 D (S.fresh D)) sh3 := by
    rw [← es3]
    refine Iv2.laid (t' := sh2.toks) (fun b o e => Heap.get?_push_of_some _ e) (Nat.le_of_eq eD) ?_
    rw [← eD]
    exact S.made _ sh2.heap Iv2.big
  have small : ∀ b ∈ fp, b < sh2.heap.objs.size := fun b hb => let ⟨_, e, _⟩ := T.obj _ _ st2 b hb; Heap.lt_size e
  have f3 : ∀ b ∈ fp, FpOk X pins (upd Hh2 D (S.fresh D)) b ∧ b < sh3.heap.objs.size := fun b hb => by
    have lt := small b hb
    refine ⟨⟨(upd_ne (by rw [← eD]; exact Nat.ne_of_lt lt)).trans (f2 b hb).1, (f2 b hb).2⟩, ?_⟩
    rw [h3, Heap.size_push]
    exact Nat.lt_succ_of_lt lt
  have st3 : tn 0 sh3.heap := T.keep _ _ _ st2 fun b _ o e => by rw [h3]; exact Heap.get?_push_of_some _ e
  have Iv4 := block_start Iv3 ok hN f3
  generalize eH3 : upd Hh2 D (S.fresh D) = Hh3 at Iv3 Iv4 w0 f3
  generalize ece : compEnvC scope (cellsFrom (sh3.heap.objs.size + 1) scope.names (cloFrom X.env.cells scope.names [])) sh3.heap.objs.size X.env = ce at Iv4
  have pg : PG (X.blk sh3 Hh3 scope ce fp) tg g := by rw [← ece]; exact hg _ _ _ _ _
  have pt : PTs (X.blk sh3 Hh3 scope ce fp) ifs tt := by rw [← ece]; exact ht _ _ _ _ _
  have pk : PE (X.blk sh3 Hh3 scope ce fp) kx tk := by rw [← ece]; exact hk _ _ _ _ _
  have pe : PE (X.blk sh3 Hh3 scope ce fp) vx tv := by rw [← ece]; exact he _ _ _ _ _
  have eL : ce.locals = sh3.heap.objs.size := by rw [← ece]; rfl
  show codeAny _ _ (.compStart (.DictComp kx vx [⟨tg, iter, ifs, 0⟩] scope pos) 0 (.ref it) (.ref D) (compEnvC scope (cellsFrom (sh3.heap.objs.size + 1) scope.names (cloFrom X.env.cells scope.names [])) sh3.heap.objs.size X.env)) _ { sh3 with heap := pushCells (sh3.heap.push { cls := .type "dict", data := .dict #[] }) scope.names }
  rw [ece]
  generalize es4 : ({ sh3 with heap := pushCells (sh3.heap.push { cls := .type "dict", data := .dict #[] }) scope.names } : Shared) = sh4 at Iv4 ⊢
  have st4 : tn 0 sh4.heap := T.keep _ _ _ st3 fun b _ o e => by rw [← es4]; exact pushCells_keeps _ _ _ _ (Heap.get?_push_of_some _ e)
  have stat : ∀ {σ' : St} {H' : Hp} {s' : Shared}, Inv (X.blk sh3 Hh3 scope ce fp) [] σ' H' s' → (∀ b ∈ fp, H' b = none) → ∀ b ∈ fp, FpOk (X.blk sh3 Hh3 scope ce fp) [] H' b := fun {σ' H' s'} I' hn b hb =>
    ⟨hn b hb, (I'.ok.exf b hb).1, I'.ok.exfs b hb, .inl hb,
        fun x c e => (I'.ok.exf b hb).2 x c e, fun p hp => absurd (show p ∈ ([] : List (Addr × Obj)) ++ [] from hp) (by simp)⟩
  refine (fun (loop : codeAny (model X.prog X.w) X.A (.compLoop (.DictComp kx vx [⟨tg, iter, ifs, 0⟩] scope pos) 0 (.ref it) (.ref D) ce) _ sh4) => codeAny_compStart_dict loop (T.self X.A 0 _ _ _ st4 loop)) ?_
  refine compLoop_anyD (fun n s' => ∃ i H', Inv (X.blk sh3 Hh3 scope ce fp) [] (wipe σ (own.map (·.2))) H' s' ∧ tn i s'.heap ∧ (∀ b ∈ fp, H' b = none) ∧ W i n H') ?_ m0 ⟨0, Hh3, Iv4, st4, fun b hb => (f3 b hb).1.1, w0⟩
  rintro n sh5 ⟨i, Hh5, Iv5, st5, n5, w5⟩
  rcases turn i n Hh5 w5 with ⟨stop, qq⟩ | ⟨go, N, hN2, step⟩
  · refine thnF (T.done (X.blk sh3 Hh3 scope ce fp) rfl rfl rfl hc i [] sh5 _ Hh5 (fun _ _ => False) Iv5 (stat Iv5 n5) st5 stop) fun r sh6 ⟨hr, Iv6⟩ => ?_
    subst hr
    have Iv7 : Inv X pins σ Hh5 sh6 := Iv3.call' (ch := fp) Iv6.os Iv6.base Iv6.hok Iv6.bare fun b hb => ⟨(f3 b hb).1.2.2.2.1, (f3 b hb).1.2.1, (f3 b hb).1.2.2.2.2.1, (f3 b hb).1.2.2.2.2.2⟩
    have nC : Hh5 sh3.heap.objs.size = none := by rw [← eL]; exact Iv6.free
    obtain ⟨m, hn, _⟩ := Iv6.loc
    have hn : sh6.heap.Ns ce.locals m := hn
    rw [eL] at hn
    obtain ⟨f0, f1, f2', f3', f4, f5⟩ := Iv3.fpOk (Nat.le_refl _) nC
    exact ⟨m, hn, fun h'' sb => ⟨.ref D, Hh5, Iv7.turned (t' := sh6.toks) (fun b o hb e => (sb.2 b hb).trans e) f0 f1 f3' f4 f5, rfl, qq⟩⟩
  · refine thnF (T.item (X.blk sh3 Hh3 scope ce fp) rfl rfl rfl hc i [] sh5 _ Hh5 (fun _ _ => False) Iv5 (stat Iv5 n5) st5 go) fun r sh6 ⟨u, hr, h6⟩ => ?_
    subst hr
    refine thnF h6 fun _ sh7 ⟨x, Hh7, Iv7, r7, y7, st7, n7⟩ => ?_
    have Iv7' := Iv7.pinned (stat Iv7 n7) (T.obj _ _ st7)
    refine thnF (pg.run _ sh7 _ Hh7 x u _ Iv7' r7 (step x Hh7 y7)) fun _ sh8 ⟨σ8, Hh8, Iv8, hw8, q8⟩ => ?_
    refine thnF (pt.run _ sh8 σ8 Hh8 _ Iv8 q8) fun b sh9 ⟨Hh9, Iv9, q9⟩ => ?_
    have fin : ∀ {s' : Shared} {H' : Hp}, Inv (X.blk sh3 Hh3 scope ce fp) ([] ++ pinsAt fp sh7.heap) σ8 H' s' → N H' →
        ∃ m, m < n ∧ ∃ i H', Inv (X.blk sh3 Hh3 scope ce fp) [] (wipe σ (own.map (·.2))) H' s' ∧ tn i s'.heap ∧ (∀ b ∈ fp, H' b = none) ∧ W i m H' := fun {s' H'} I' nx => by
      obtain ⟨m', hm, w'⟩ := hN2 H' nx
      have pin2 : ∀ b ∈ fp, ∀ o, sh7.heap.get? b = some o → s'.heap.get? b = some o ∧ H' b = none := fun b hb o e =>
        let z := I'.pin (b, o) (List.mem_append_right _
        (List.mem_append_right _ (mem_pinsAt hb e)))
        ⟨z.1, z.2.1⟩
      have len : (wipe σ (own.map (·.2))).length = σ8.length := by rw [← hw8, wipe_length]
      refine ⟨m', hm, i + 1, H', (I'.unpinned (pins := [])).weak len (fun j v e => ?_), T.keep _ _ _ st7 fun b hb o e => (pin2 b hb o e).1, fun b hb => ?_, w'⟩
      · rw [← hw8] at e
        exact (wipe_some e).1
      · obtain ⟨o, e, _⟩ := T.obj _ _ st7 b hb
        exact (pin2 b hb o e).2
    cases b with
    | false =>
      simp only [Bool.false_eq_true, if_false] at q9 ⊢
      exact fin Iv9 q9
    | true =>
      simp only [if_true] at q9 ⊢
      refine thnF (pk.run _ sh9 σ8 Hh9 _ Iv9 q9) fun z sh10 ⟨yk, Hh10, Iv10, r10, q10⟩ => ?_
      refine thnF (pe.run _ sh10 σ8 Hh10 _ Iv10 q10) fun z2 sh11 ⟨yv, Hh11, Iv11, r11, Hh12, pu, nx⟩ => ?_
      exact S.runs (X.blk sh3 Hh3 scope ce fp) rfl rfl _ _ _ _ _ _ _ _ _ _ _ _ Iv11 pu r10 r11 fun sh12 Iv12 => fin Iv12 nx
end
/-! ### None among the keys -/
def okV : Option Key → V
  | none => .non
  | some k => kV k
theorem okV_is {k : Option Key} {u : Value} (r : RelV (okV k) u) : nkIs k u = true := by
  cases k with
  | none => cases (show u = Value.none from r); rfl
  | some k =>
    cases k with
    | inl i => obtain ⟨t, e⟩ := (show ∃ t, u = Value.int i t from r); subst e; exact keyIs_int i t
    | inr x => obtain ⟨t, e⟩ := (show ∃ t, u = Value.str x t from r); subst e; exact keyIs_str x t
/-- a dict with just these keys, in this order -/
def DKeys (P : Program) (w : World) (D : Addr) (ks : List (Option Key)) : HO := .ext fun h => (D == sysModules) = false ∧ ∃ vs : List (Option Key × Value), h.DictOf (noneKind P w) D vs ∧ vs.map (·.1) = ks ∧ ks.length ≤ sizeLine
def memO (ks : List (Option Key)) (k : Option Key) : Bool := ks.any fun j => decide (j = k)
theorem memO_iff {ks : List (Option Key)} {k : Option Key} : memO ks k = true ↔ k ∈ ks := by
  unfold memO
  rw [List.any_eq_true]
  exact ⟨fun ⟨j, hj, e⟩ => of_decide_eq_true e ▸ hj, fun h => ⟨k, h, decide_eq_true rfl⟩⟩
def putO (ks : List (Option Key)) (k : Option Key) : List (Option Key) := if memO ks k = true then ks else ks ++ [k]
theorem dkeys_ok {P : Program} {w : World} {H : Hp} {h : Heap} {D : Addr} {ks : List (Option Key)} {vs : List (Option Key × Value)} (hd : (D == sysModules) = false) (d : h.DictOf (noneKind P w) D vs) (e : vs.map (·.1) = ks) (z : ks.length ≤ sizeLine) :
    ObjOk P w H h D (DKeys P w D ks) := by
  refine ⟨⟨hd, vs, d, e, z⟩, ?_, fun h1 h2 q k => ?_⟩
  · obtain ⟨o, _, _, ho, _⟩ := d
    exact ⟨o, ho⟩
  · obtain ⟨q1, vs1, ⟨o, es, ep, ho, r⟩, q2⟩ := q
    exact ⟨q1, vs1, ⟨o, es, ep, k _ ho, r⟩, q2⟩
theorem dkeys_at {P : Program} {w : World} {H : Hp} {h : Heap} {D : Addr} {ks : List (Option Key)} (ok : HOk P w H h) (e : H D = some (DKeys P w D ks)) :
    (D == sysModules) = false ∧ ∃ vs : List (Option Key × Value), h.DictOf (noneKind P w) D vs ∧ vs.map (·.1) = ks ∧ ks.length ≤ sizeLine := by
  have x := ok D _ e
  exact x.1
theorem memO_map (vs : List (Option Key × Value)) (k : Option Key) : memO (vs.map (·.1)) k = vs.any fun kv => decide (kv.1 = k) := by
  unfold memO
  rw [List.any_map]
  rfl
theorem stored_keys (vs : List (Option Key × Value)) (k : Option Key) (v : Value) : (stored vs k v).map (·.1) = putO (vs.map (·.1)) k := by
  unfold stored putO
  rw [memO_map]
  cases vs.any fun kv => decide (kv.1 = k) with
  | true =>
    rw [if_pos rfl, if_pos rfl, List.map_map]
    refine List.map_congr_left fun p _ => ?_
    show (if p.1 = k then (p.1, v) else p).1 = p.1
    split <;> rfl
  | false =>
    rw [if_neg Bool.false_ne_true, if_neg Bool.false_ne_true, List.map_append]
    rfl
def sortN (P : Program) (w : World) : DSort P w where
  fresh := fun D => DKeys P w D []
  put := fun H D y _ Hh2 => ∃ ks k, y = okV k ∧ H D = some (DKeys P w D ks) ∧ ks.length < sizeLine ∧ Hh2 = upd H D (DKeys P w D (putO ks k))
  made := fun H h big => dkeys_ok (beq_eq_false_iff_ne.mpr (Ne.symm (Nat.ne_of_lt big))) (Heap.DictOf.new h) rfl (Nat.zero_le _)
  runs := by
    intro X hP hW pins σ H Hh2 s E D y v u r Q I pu ry rv q
    subst hP hW
    obtain ⟨ks, k, ey, eD, lt, e2⟩ := pu
    subst ey e2
    obtain ⟨hd, vs, d, ek, z⟩ := dkeys_at I.hok eD
    have zv : vs.length ≤ sizeLine := by
      rw [← List.length_map (f := (·.1)), ek]
      exact z
    refine wpAny_dictSet_pairs (hsz := zv) (okV_is ry) d fun h2 d2 sb => q _ ?_
    have he : ∃ o, h2.get? D = some o := let ⟨o, _, _, ho, _⟩ := d2; ⟨o, ho⟩
    refine I.write (x := D) (e := D) (by rw [eD]; exact True.intro) (.inl rfl) (fun b o hb e => (sb.2 b hb).trans e) he (dkeys_ok hd d2 ?_ ?_)
    · rw [stored_keys, ek]
    · unfold putO
      split
      · exact z
      · rw [List.length_append, List.length_singleton]
        exact lt
theorem valueAt_keys (vs : List (Option Key × Value)) (k : Option Key) : (valueAt vs k).isSome = memO (vs.map (·.1)) k := by
  unfold valueAt
  rw [memO_map, Option.isSome_map]
  cases e : vs.any fun kv => decide (kv.1 = k) with
  | true =>
    obtain ⟨p, hp, q⟩ := List.any_eq_true.mp e
    exact List.find?_isSome.mpr ⟨p, hp, q⟩
  | false =>
    rw [Option.isSome_eq_false_iff, Option.isNone_iff_eq_none, List.find?_eq_none]
    intro p hp q
    rw [List.any_eq_true.mpr ⟨p, hp, q⟩] at e
    cases e
/-- k not in d -/
def rNotInN (P : Program) (w : World) : R2 := fun x y H Q => ∃ (k : Option Key) (D : Addr) (ks : List (Option Key)), x = okV k ∧ y = .ref D ∧ H D = some (DKeys P w D ks) ∧ Q (.bl (!memO ks k)) H
theorem op_notInN {X : Cx} : OpR X (compareOp .NotIn) (rNotInN X.prog X.w) := by
  intro pins s σ H x y v u Q I rx ry h
  obtain ⟨k, D, ks, ex, ey, eD, q⟩ := h
  subst ex ey
  obtain rfl : u = Value.ref D := ry
  obtain ⟨hd, vs, d, ek, z⟩ := dkeys_at I.hok eD
  refine wpAny_notIn_of (okV_is rx) hd d.mapOf ⟨.bl _, H, I.tok _, rfl, ?_⟩
  rw [valueAt_keys, ek]
  exact q
end L2
set_option Elab.async false
set_option maxRecDepth 100001
set_option maxHeartbeats 1999999
namespace K00
open PySem L2
def topS (i : Nat) : Stmt := PySem.Challenge.pw_wordvault_k00_maps_of_numbers.main.body.getD i (.Pass ⟨0, 0, 0, 0⟩)
abbrev sWhole : Stmt := topS 1
abbrev sBetween : Stmt := topS 2
abbrev sTupOf : Stmt := topS 3
abbrev sCopied : Stmt := topS 5
/-! what kinds of values are met -/
inductive Kn (H : Hp) : V → Prop where
  | non : Kn H .non
  | bl (b : Bool) : Kn H (.bl b)
  | int (i : Int) : Kn H (.int i)
  | str (x : Str) : Kn H (.str x)
  | lst {a : Addr} {xs : List V} (e : H a = some (.lst xs)) : Kn H (.ref a)
  | tup {a : Addr} {xs : List V} (e : H a = some (.tup xs)) : Kn H (.ref a)
theorem Kn.same {H H2 : Hp} {v : V} (k : Kn H v) (s : Same H H2) : Kn H2 v := by
  cases k with
  | non => exact .non
  | bl b => exact .bl b
  | int i => exact .int i
  | str x => exact .str x
  | lst e => exact .lst (s _ _ e)
  | tup e => exact .tup (s _ _ e)
def isI : V → Bool
  | .int _ => true
  | _ => false
def isB : V → Bool
  | .bl _ => true
  | _ => false
def isT (H : Hp) : V → Bool
  | .ref a => match H a with
    | some (.tup _) => true
    | _ => false
  | _ => false
def isL (H : Hp) : V → Bool
  | .ref a => match H a with
    | some (.lst _) => true
    | _ => false
  | _ => false
theorem isT_lst {H : Hp} {a : Addr} {xs : List V} (e : H a = some (.lst xs)) : isT H (.ref a) = false := by simp only [isT, e]
theorem isT_tup {H : Hp} {a : Addr} {xs : List V} (e : H a = some (.tup xs)) : isT H (.ref a) = true := by simp only [isT, e]
theorem isL_lst {H : Hp} {a : Addr} {xs : List V} (e : H a = some (.lst xs)) : isL H (.ref a) = true := by simp only [isL, e]
theorem isL_tup {H : Hp} {a : Addr} {xs : List V} (e : H a = some (.tup xs)) : isL H (.ref a) = false := by simp only [isL, e]
def KT (K : PySem.W.Frag) (t : String) (bi bb bt bl : Bool) : Prop := PySem.W.kitOne K (.type t) (.type "int") = some bi ∧ PySem.W.kitOne K (.type t) (.type "bool") = some bb ∧
    PySem.W.kitOne K (.type t) (.type "tuple") = some bt ∧ PySem.W.kitOne K (.type t) (.type "list") = some bl ∧ PySem.W.kitOne K (.type t) (.type "dict") = some false
theorem kt_of {K : PySem.W.Frag} {t : String} {bi bb bt bl : Bool} (h : kitB t "int" = some bi ∧ kitB t "bool" = some bb ∧ kitB t "tuple" = some bt ∧ kitB t "list" = some bl ∧ kitB t "dict" = some false) : KT K t bi bb bt bl := h
theorem kt_non {K : PySem.W.Frag} : KT K "NoneType" false false false false := kt_of (by decide +kernel)
theorem kt_bl {K : PySem.W.Frag} : KT K "bool" true true false false := kt_of (by decide +kernel)
theorem kt_int {K : PySem.W.Frag} : KT K "int" true false false false := kt_of (by decide +kernel)
theorem kt_str {K : PySem.W.Frag} : KT K "str" false false false false := kt_of (by decide +kernel)
theorem kt_lst {K : PySem.W.Frag} : KT K "list" false false false true := kt_of (by decide +kernel)
theorem kt_tup {K : PySem.W.Frag} : KT K "tuple" false false true false := kt_of (by decide +kernel)
/-- a known value's type, and what isinstance says of it -/
theorem Kn.kinds (K : PySem.W.Frag) {H : Hp} {v : V} (k : Kn H v) : ∃ t : String, TyX K H v (.type t) ∧ KT K t (isI v || isB v) (isB v) (isT H v) (isL H v) := by
  cases k with
  | non => exact ⟨_, .base .non, kt_non⟩
  | bl b => exact ⟨_, .base (.bl b), kt_bl⟩
  | int i => exact ⟨_, .base (.int i), kt_int⟩
  | str x => exact ⟨_, .base (.str x), kt_str⟩
  | lst e =>
    rw [isT_lst e, isL_lst e]
    exact ⟨_, .base (.lst e), kt_lst⟩
  | tup e =>
    rw [isT_tup e, isL_tup e]
    exact ⟨_, .base (.tup e), kt_tup⟩
def spWhole : Sp := fun vs H Q _ => ∃ v, vs = [v] ∧ Kn H v ∧ Q (.bl (isI v)) H
def btw : V → Int → Int → Bool
  | .int i, lo, hi => decide (lo ≤ i ∧ i ≤ hi)
  | _, _, _ => false
def spBetween : Sp := fun vs H Q _ => ∃ v lo hi, vs = [v, .int lo, .int hi] ∧ Kn H v ∧ Q (.bl (btw v lo hi)) H
/-- how many items a known tuple has -/
def isTn (H : Hp) (v : V) (n : Int) : Bool := match v with
  | .ref a => match H a with
    | some (.tup xs) => decide ((xs.length : Int) = n)
    | _ => false
  | _ => false
def spTupOf : Sp := fun vs H Q _ => ∃ v n, vs = [v, .int n] ∧ Kn H v ∧ Q (.bl (isTn H v n)) H
def spCopied : Sp := fun vs H Q _ => ∃ v, vs = [v] ∧ Kn H v ∧ (∀ a, v ≠ .ref a) ∧ Q v H
section
variable {P : Program} {w : World} {K : PySem.W.Frag} {mg : Str → Option Value} {base : Heap}
/-- a def of the top that may be called by its name; CX: what it may let out -/
structure Cal (CX : CXT) (P : Program) (w : World) (K : PySem.W.Frag) (mg : Str → Option Value) (base : Heap) (k : Nat) (x : Str) (sp : Sp) : Prop where
  ex : ∃ (f : Addr) (fd : FuncData) (ps : List Str), FnOk P w K mg base CX k f fd ps sp ∧ mg x = some (.ref f) ∧ PySem.W.keepIn K (.ref f) = true ∧ Binds K fd ps []
/-- a method of the class at C -/
structure Met (CX : CXT) (P : Program) (w : World) (K : PySem.W.Frag) (mg : Str → Option Value) (base : Heap) (k : Nat) (C : Addr) (m : Str) (sp : Sp) : Prop where
  ex : ∃ (f : Addr) (fd : FuncData) (ps : List Str), Cls K C ∧ Meth K C m f ∧ FnOk P w K mg base CX k f fd ps sp ∧ Binds K fd ps []
/-- a class that may be made by its name -/
structure Mak (CX : CXT) (P : Program) (w : World) (K : PySem.W.Frag) (mg : Str → Option Value) (base : Heap) (k : Nat) (x : Str) (C : Addr) (sp : Sp) : Prop where
  ex : ∃ (f : Addr) (fd : FuncData) (ps : List Str), Mk K C f ∧ FnOk P w K mg base CX k f fd ps sp ∧ mg x = some (.ref C) ∧ Binds K fd ps []
section
variable {X : Cx} {CX : CXT} {k j : Nat} {C : Addr} {x m : Str} {sp : Sp} {p pos apos : Pos} {e o : Expr} {es : List Expr} {ta : TE} {t : TA} {E : XK}
theorem pe_c (c : Cal CX X.prog X.w X.K X.mg X.base k x sp) (hr : Room j X.A) (hx : Passes CX X E) (ha : PA X (e :: es) t) (hk : k ≤ j := by decide) (hg : Gl X x := by rfl) (hdb : (x == ("__debug__" : Str)) = false := by decide)
    (he : starEach (e :: es) X.env = (false, eval e X.env) :: starEach es X.env := by rfl) (hpl : (backTo pos (starEach es X.env)).any (·.1) = false := by rfl) : PE X (.Call (.Name x p) (e :: es) [] pos) (tCall sp [] E t) := by
  obtain ⟨f, fd, ps, F, hm, kp, b⟩ := c.ex
  exact pe_call F (hr.mono hk) hg hm kp b .nil hx ha hdb he hpl
theorem pe_mt (c : Met CX X.prog X.w X.K X.mg X.base k C m sp) (hr : Room j X.A) (hx : Passes CX X E) (he : PE X o ta) (ha : PA X (e :: es) t) (hk : k ≤ j := by decide) {pl : Sem Bool}
    (hst : starEach (e :: es) X.env = (false, eval e X.env) :: starEach es X.env := by rfl) (hpl : (backTo pos (starEach es X.env)).any (·.1) = false := by rfl)
    (hc : eval (.Call (.Attribute o m apos) (e :: es) [] pos) X.env = (do
      let ov ← eval o X.env
      standAt apos.atName
      let (f, first) ← holding [ov] (getMethod ov m pl)
      callWith pos f first (backTo pos (starEach (e :: es) X.env)) (backToKw pos (keywordEach [] X.env))) := by rfl) :
    PE X (.Call (.Attribute o m apos) (e :: es) [] pos) (tMeth C m sp [] E ta t) := by
  obtain ⟨f, fd, ps, cc, hm, F, b⟩ := c.ex
  exact pe_meth he cc hm F (hr.mono hk) b .nil hx ha hst hpl hc
theorem pe_mt0 (c : Met CX X.prog X.w X.K X.mg X.base k C m sp) (hr : Room j X.A) (hx : Passes CX X E) (he : PE X o ta) (hk : k ≤ j := by decide) {pl : Sem Bool}
    (hc : eval (.Call (.Attribute o m apos) [] [] pos) X.env = (do
      let ov ← eval o X.env
      standAt apos.atName
      let (f, first) ← holding [ov] (getMethod ov m pl)
      callWith pos f first (backTo pos (starEach [] X.env)) (backToKw pos (keywordEach [] X.env))) := by rfl) :
    PE X (.Call (.Attribute o m apos) [] [] pos) (tMeth C m sp [] E ta tNil) := by
  obtain ⟨f, fd, ps, cc, hm, F, b⟩ := c.ex
  exact pe_meth0 he cc hm F (hr.mono hk) b .nil hx hc
theorem pe_mk (c : Mak CX X.prog X.w X.K X.mg X.base k x C sp) (hr : Room j X.A) (hx : Passes CX X E) (ha : PA X (e :: es) t) (hk : k + 1 ≤ j := by decide) (hg : Gl X x := by rfl) (hdb : (x == ("__debug__" : Str)) = false := by decide)
    (he : starEach (e :: es) X.env = (false, eval e X.env) :: starEach es X.env := by rfl) (hpl : (backTo pos (starEach es X.env)).any (·.1) = false := by rfl) : PE X (.Call (.Name x p) (e :: es) [] pos) (tMake C sp [] E t) := by
  obtain ⟨f, fd, ps, M, F, hm, b⟩ := c.ex
  exact pe_make M F (hr.mono hk) hg hm b .nil hx ha hdb he hpl
end
/-- the built-in names that the module leaves as they are -/
structure Bi (mg : Str → Option Value) : Prop where
  isi : mg "isinstance" = none
  int : mg "int" = none
  bool : mg "bool" = none
  tuple : mg "tuple" = none
  list : mg "list" = none
  dict : mg "dict" = none
  len : mg "len" = none
  enum : mg "enumerate" = none
  range : mg "range" = none
  abs : mg "abs" = none
  max : mg "max" = none
section
variable {X : Cx}
theorem pe_isi {a : Expr} {es : List Expr} {t : TA} {p pos : Pos} (hm : X.mg "isinstance" = none) (ha : PA X (a :: es) t) (hg : Gl X "isinstance" := by rfl)
    (he : starEach (a :: es) X.env = (false, eval a X.env) :: starEach es X.env := by rfl) (hpl : (backTo pos (starEach es X.env)).any (·.1) = false := by rfl) :
    PE X (.Call (.Name "isinstance" p) (a :: es) [] pos) (tCB (rIsi X.K) t) := pe_callB call_isi hg hm PyProof.Rows.boot_isinstance ha (he := he) (hpl := hpl)
theorem pe_ty (n : String) {x : Str} {p : Pos} (hm : X.mg x = none) (hv : bootBuiltins x = some (.type n) := by decide +kernel) (hg : Gl X x := by rfl) (h1 : x ≠ "__name__" := by decide) (h2 : (x == ("__debug__" : Str)) = false := by decide) : PE X (.Name x p) (tC (.ty n)) :=
  pe_bltn (v := .ty n) hg hm hv rfl h1 h2
theorem pe_len {a : Expr} {es : List Expr} {t : TA} {p pos : Pos} (hm : X.mg "len" = none) (ha : PA X (a :: es) t) (hg : Gl X "len" := by rfl) (he : starEach (a :: es) X.env = (false, eval a X.env) :: starEach es X.env := by rfl)
    (hpl : (backTo pos (starEach es X.env)).any (·.1) = false := by rfl) :
    PE X (.Call (.Name "len" p) (a :: es) [] pos) (tCB (fun xs H Q => ∃ p ys, xs = [.ref p] ∧ (SqL X.K H p ys ∨ SqT X.K H p ys) ∧ Q (.int ys.length) H) t) := pe_callB call_len_seq hg hm PySem.boot_len ha (he := he) (hpl := hpl)
theorem pa1 {a : Expr} {ta : TE} (ha : PE X a ta) (hs : starEach (a :: []) X.env = (false, eval a X.env) :: starEach [] X.env := by rfl) : PA X [a] (tCons ta tNil) := pa_cons ha pa_nil hs
end
theorem scWhole : FnScope ["value"] ["value"] (defScope sWhole) := ⟨rfl, rfl, rfl, by decide +kernel, rfl, by decide +kernel, by decide +kernel⟩
theorem ok_whole {f : Addr} {fd : FuncData} (F : Fun K "is_whole" "is_whole" sWhole f fd) (B : Bi mg) : FnOk P w K mg base CX0 1 f fd ["value"] spWhole := by
  refine F.ok scWhole (fun vs H Q E h => ?_) (fun cdv A outer s H vs Q E hr h => ?_)
  · obtain ⟨v, rfl, _⟩ := h
    rfl
  · obtain ⟨v, rfl, k, q⟩ := h
    refine ⟨_, pss_one (ps_ret (pe_and (pe_isi B.isi (pa_cons (pv 0) (pa_cons (pe_ty "int" B.int) pa_nil))) (pe_one (pe_not (pe_isi B.isi (pa_cons (pv 0) (pa_cons (pe_ty "bool" B.bool) pa_nil))))))), ?_⟩
    obtain ⟨t, ty, k1, k2, _⟩ := k.kinds K
    refine ⟨v, rfl, v, _, _, _, _, rfl, .ty "int", ty, k1, _, rfl, ?_⟩
    cases v with
    | bl b => exact ⟨_, rfl, _, _, _, _, _, rfl, .ty "bool", ty, k2, _, rfl, q⟩
    | int i => exact ⟨_, rfl, _, _, _, _, _, rfl, .ty "bool", ty, k2, _, rfl, q⟩
    | _ => exact q
theorem scBetween : FnScope ["value", "low", "high"] ["value", "low", "high"] (defScope sBetween) := ⟨rfl, rfl, rfl, by decide +kernel, rfl, by decide +kernel, by decide +kernel⟩
theorem ok_between {f : Addr} {fd : FuncData} (F : Fun K "is_between" "is_between" sBetween f fd) (cW : Cal CX0 P w K mg base 1 "is_whole" spWhole) : FnOk P w K mg base CX0 2 f fd ["value", "low", "high"] spBetween := by
  refine F.ok scBetween (fun vs H Q E h => ?_) (fun cdv A outer s H vs Q E hr h => ?_)
  · obtain ⟨v, lo, hi, rfl, _⟩ := h
    rfl
  · obtain ⟨v, lo, hi, rfl, k, q⟩ := h
    refine ⟨_, pss_one (ps_ret (pe_and (pe_c cW hr pass0 (pa_cons (pv 0) pa_nil)) (pe_one (pe_chain op_le op_le (pv 1) (pv 0) (pv 2))))), ?_⟩
    refine ⟨v, rfl, v, rfl, k, _, rfl, ?_⟩
    cases v with
    | int i =>
      refine ⟨_, rfl, _, rfl, _, _, rfl, rfl, _, rfl, ?_⟩
      by_cases c : lo ≤ i
      · rw [decide_eq_true c]
        refine ⟨_, rfl, _, _, rfl, rfl, ?_⟩
        have e : decide (i ≤ hi) = btw (.int i) lo hi := by
          show decide (i ≤ hi) = decide (lo ≤ i ∧ i ≤ hi)
          exact decide_eq_decide.mpr ⟨fun h => ⟨c, h⟩, fun h => h.2⟩
        show Q (.bl (decide (i ≤ hi))) H
        rw [e]
        exact q
      · rw [decide_eq_false c]
        have e : false = btw (.int i) lo hi := (decide_eq_false fun h => c h.1).symm
        show Q (.bl false) H
        rw [e]
        exact q
    | _ => exact q
theorem scTupOf : FnScope ["value", "size"] ["value", "size"] (defScope sTupOf) := ⟨rfl, rfl, rfl, by decide +kernel, rfl, by decide +kernel, by decide +kernel⟩
theorem ok_tupOf {f : Addr} {fd : FuncData} (F : Fun K "is_tuple_of" "is_tuple_of" sTupOf f fd) (B : Bi mg) : FnOk P w K mg base CX0 1 f fd ["value", "size"] spTupOf := by
  refine F.ok scTupOf (fun vs H Q E h => ?_) (fun cdv A outer s H vs Q E hr h => ?_)
  · obtain ⟨v, n, rfl, _⟩ := h
    rfl
  · obtain ⟨v, n, rfl, k, q⟩ := h
    refine ⟨_, pss_one (ps_ret (pe_and (pe_isi B.isi (pa_cons (pv 0) (pa_cons (pe_ty "tuple" B.tuple) pa_nil))) (pe_one (pe_cmpR op_eq (pe_len B.len (pa_cons (pv 0) pa_nil)) (pv 1) (nomark _))))), ?_⟩
    obtain ⟨t, ty, _, _, k3, _⟩ := k.kinds K
    refine ⟨v, rfl, v, _, _, _, _, rfl, .ty "tuple", ty, k3, _, rfl, ?_⟩
    cases k with
    | tup e =>
      rw [isT_tup e]
      refine ⟨_, rfl, _, _, rfl, .inr (SqT.of e), _, rfl, rfl, ?_⟩
      simp only [isTn, e] at q
      rw [dec_int]
      have e2 : ∀ i j : Int, (i == j) = decide (i = j) := fun i j => by rw [Bool.eq_iff_iff]; simp
      rw [e2]
      exact q
    | lst e =>
      rw [isT_lst e]
      simp only [isTn, e] at q
      exact q
    | _ => exact q
theorem scCopied : FnScope ["value"] ["value"] (defScope sCopied) := ⟨rfl, rfl, rfl, by decide +kernel, rfl, by decide +kernel, by decide +kernel⟩
theorem ok_copied {f : Addr} {fd : FuncData} (F : Fun K "copied" "copied" sCopied f fd) (B : Bi mg) : FnOk P w K mg base CX0 1 f fd ["value"] spCopied := by
  refine F.ok scCopied (fun vs H Q E h => ?_) (fun cdv A outer s H vs Q E hr h => ?_)
  · obtain ⟨v, rfl, _⟩ := h
    rfl
  · obtain ⟨v, rfl, k, nr, q⟩ := h
    refine ⟨_, pss_cons (ps_if (pt_val (pe_isi B.isi (pa_cons (pv 0) (pa_cons (pe_ty "list" B.list) pa_nil)))) pss_never pss_nil) (pss_cons (ps_if (pt_val (pe_isi B.isi (pa_cons (pv 0) (pa_cons (pe_ty "tuple" B.tuple) pa_nil)))) pss_never pss_nil)
      (pss_cons (ps_if (pt_val (pe_isi B.isi (pa_cons (pv 0) (pa_cons (pe_ty "dict" B.dict) pa_nil)))) pss_never pss_nil) (pss_one (ps_ret (pv 0))))), ?_⟩
    obtain ⟨t, ty, _, _, k3, k4, k5⟩ := k.kinds K
    have f3 : isT H v = false := by cases k <;> first | rfl | exact absurd rfl (nr _)
    have f4 : isL H v = false := by cases k <;> first | rfl | exact absurd rfl (nr _)
    rw [f3] at k3
    rw [f4] at k4
    exact ⟨v, rfl, v, _, _, _, _, rfl, .ty "list", ty, k4, _, rfl, iteF ⟨v, rfl, v, _, _, _, _, rfl, .ty "tuple", ty, k3, _, rfl, iteF ⟨v, rfl, v, _, _, _, _, rfl, .ty "dict", ty, k5, _, rfl, iteF ⟨v, rfl, q⟩⟩⟩⟩
end
end K00
set_option Elab.async false
set_option maxRecDepth 100001
set_option maxHeartbeats 1999999
namespace K00
open PySem L2
abbrev sNM (j : Nat) : Stmt := inClass (topS 15) j
/-! ### the errors' own __init__ -/
/-- self.f = copied(v), of an exception that has no field yet -/
def spX1 (K : PySem.W.Frag) (f : Str) : Sp := fun vs H Q _ => ∃ (a C : Addr) (v : V), vs = [.ref a, v] ∧ OexC K C ∧ PySem.W.findIn K (.ref C) f = some none ∧ Kn H v ∧ (∀ b, v ≠ .ref b) ∧ H a = some (exo a C none) ∧
  ∀ dx, H dx = none → dx ≠ a → Q .non (upd (upd H dx (exd dx [(f, v)])) a (exo a C (some dx)))
def spX3 (K : PySem.W.Frag) (f g h : Str) : Sp := fun vs H Q _ => ∃ (a C : Addr) (u v w : V), vs = [.ref a, u, v, w] ∧ OexC K C ∧ PySem.W.findIn K (.ref C) f = some none ∧ PySem.W.findIn K (.ref C) g = some none ∧ PySem.W.findIn K (.ref C) h = some none ∧
  (Kn H u ∧ ∀ b, u ≠ .ref b) ∧ (Kn H v ∧ ∀ b, v ≠ .ref b) ∧ (Kn H w ∧ ∀ b, w ≠ .ref b) ∧ H a = some (exo a C none) ∧
  ∀ dx H', H dx = none → dx ≠ a → (∀ b, b ≠ a → b ≠ dx → H' b = H b) → H' a = some (exo a C (some dx)) → H' dx = some (exd dx [(h, w), (g, v), (f, u)]) → Q .non H'
def spX0 : Sp := fun vs H Q _ => ∃ a : Addr, vs = [.ref a] ∧ Q .non H
theorem kn_of {H H2 : Hp} {v : V} (k : Kn H v) (n : ∀ b, v ≠ .ref b) : Kn H2 v := by
  cases k with
  | non => exact .non
  | bl b => exact .bl b
  | int i => exact .int i
  | str x => exact .str x
  | lst e => exact absurd rfl (n _)
  | tup e => exact absurd rfl (n _)
section
variable {P : Program} {w : World} {K : PySem.W.Frag} {mg : Str → Option Value} {base : Heap}
abbrev sBMany : Stmt := inClass (topS 9) 0
theorem scBMany : FnScope ["self", "many"] ["self", "many"] (defScope sBMany) := ⟨rfl, rfl, rfl, by decide +kernel, rfl, by decide +kernel, by decide +kernel⟩
theorem ok_BMany {f : Addr} {fd : FuncData} (F : Fun K "__init__" "BadMany.__init__" sBMany f fd) (cC : Cal CX0 P w K mg base 1 "copied" spCopied) : FnOk P w K mg base CX0 2 f fd ["self", "many"] (spX1 K "many") := by
  refine F.ok scBMany (fun vs H Q E h => ?_) (fun cdv A outer s H vs Q E hr h => ?_)
  · obtain ⟨a, C, v, rfl, _⟩ := h
    rfl
  · obtain ⟨a, C, v, rfl, T, no, k, nr, ha, q⟩ := h
    refine ⟨_, pss_one (ps_ost (pv 0) (pe_c cC hr pass0 (pa_cons (pv 1) pa_nil))), ?_⟩
    exact ⟨v, rfl, v, rfl, k, nr, _, rfl, a, C, rfl, T, no, .inl ⟨ha, q⟩⟩
abbrev sBMap : Stmt := inClass (topS 10) 0
theorem scBMap : FnScope ["self", "index"] ["self", "index"] (defScope sBMap) := ⟨rfl, rfl, rfl, by decide +kernel, rfl, by decide +kernel, by decide +kernel⟩
theorem ok_BMap {f : Addr} {fd : FuncData} (F : Fun K "__init__" "BadMap.__init__" sBMap f fd) (cC : Cal CX0 P w K mg base 1 "copied" spCopied) : FnOk P w K mg base CX0 2 f fd ["self", "index"] (spX1 K "index") := by
  refine F.ok scBMap (fun vs H Q E h => ?_) (fun cdv A outer s H vs Q E hr h => ?_)
  · obtain ⟨a, C, v, rfl, _⟩ := h
    rfl
  · obtain ⟨a, C, v, rfl, T, no, k, nr, ha, q⟩ := h
    refine ⟨_, pss_one (ps_ost (pv 0) (pe_c cC hr pass0 (pa_cons (pv 1) pa_nil))), ?_⟩
    exact ⟨v, rfl, v, rfl, k, nr, _, rfl, a, C, rfl, T, no, .inl ⟨ha, q⟩⟩
abbrev sBRange : Stmt := inClass (topS 11) 0
theorem scBRange : FnScope ["self", "index"] ["self", "index"] (defScope sBRange) := ⟨rfl, rfl, rfl, by decide +kernel, rfl, by decide +kernel, by decide +kernel⟩
theorem ok_BRange {f : Addr} {fd : FuncData} (F : Fun K "__init__" "BadRange.__init__" sBRange f fd) (cC : Cal CX0 P w K mg base 1 "copied" spCopied) : FnOk P w K mg base CX0 2 f fd ["self", "index"] (spX1 K "index") := by
  refine F.ok scBRange (fun vs H Q E h => ?_) (fun cdv A outer s H vs Q E hr h => ?_)
  · obtain ⟨a, C, v, rfl, _⟩ := h
    rfl
  · obtain ⟨a, C, v, rfl, T, no, k, nr, ha, q⟩ := h
    refine ⟨_, pss_one (ps_ost (pv 0) (pe_c cC hr pass0 (pa_cons (pv 1) pa_nil))), ?_⟩
    exact ⟨v, rfl, v, rfl, k, nr, _, rfl, a, C, rfl, T, no, .inl ⟨ha, q⟩⟩
abbrev sNoNum : Stmt := inClass (topS 13) 0
theorem scNoNum : FnScope ["self", "number"] ["self", "number"] (defScope sNoNum) := ⟨rfl, rfl, rfl, by decide +kernel, rfl, by decide +kernel, by decide +kernel⟩
theorem ok_NoNum {f : Addr} {fd : FuncData} (F : Fun K "__init__" "NoNumber.__init__" sNoNum f fd) (cC : Cal CX0 P w K mg base 1 "copied" spCopied) : FnOk P w K mg base CX0 2 f fd ["self", "number"] (spX1 K "number") := by
  refine F.ok scNoNum (fun vs H Q E h => ?_) (fun cdv A outer s H vs Q E hr h => ?_)
  · obtain ⟨a, C, v, rfl, _⟩ := h
    rfl
  · obtain ⟨a, C, v, rfl, T, no, k, nr, ha, q⟩ := h
    refine ⟨_, pss_one (ps_ost (pv 0) (pe_c cC hr pass0 (pa_cons (pv 1) pa_nil))), ?_⟩
    exact ⟨v, rfl, v, rfl, k, nr, _, rfl, a, C, rfl, T, no, .inl ⟨ha, q⟩⟩
abbrev sOMap : Stmt := inClass (topS 12) 0
theorem scOMap : FnScope ["self"] ["self"] (defScope sOMap) := ⟨rfl, rfl, rfl, by decide +kernel, rfl, by decide +kernel, by decide +kernel⟩
theorem ok_OMap {f : Addr} {fd : FuncData} (F : Fun K "__init__" "OtherMap.__init__" sOMap f fd) : FnOk P w K mg base CX0 1 f fd ["self"] spX0 := by
  refine F.ok scOMap (fun vs H Q E h => ?_) (fun cdv A outer s H vs Q E hr h => ?_)
  · obtain ⟨a, rfl, _⟩ := h
    rfl
  · obtain ⟨a, rfl, q⟩ := h
    exact ⟨_, pss_one ps_pass, q⟩
abbrev sTMany : Stmt := inClass (topS 8) 0
theorem scTMany : FnScope ["self", "what", "many", "most"] ["self", "what", "many", "most"] (defScope sTMany) := ⟨rfl, rfl, rfl, by decide +kernel, rfl, by decide +kernel, by decide +kernel⟩
theorem ok_TMany {f : Addr} {fd : FuncData} (F : Fun K "__init__" "TooMany.__init__" sTMany f fd) (cC : Cal CX0 P w K mg base 1 "copied" spCopied) : FnOk P w K mg base CX0 2 f fd ["self", "what", "many", "most"] (spX3 K "what" "many" "most") := by
  refine F.ok scTMany (fun vs H Q E h => ?_) (fun cdv A outer s H vs Q E hr h => ?_)
  · obtain ⟨a, C, u, v, z, rfl, _⟩ := h
    rfl
  · obtain ⟨a, C, u, v, z, rfl, T, n1, n2, n3, ⟨k1, r1⟩, ⟨k2, r2⟩, ⟨k3, r3⟩, ha, q⟩ := h
    refine ⟨_, pss_cons (ps_ost (pv 0) (pe_c cC hr pass0 (pa_cons (pv 1) pa_nil))) (pss_cons (ps_ost (pv 0) (pe_c cC hr pass0 (pa_cons (pv 2) pa_nil))) (pss_one (ps_ost (pv 0) (pe_c cC hr pass0 (pa_cons (pv 3) pa_nil))))), ?_⟩
    refine ⟨u, rfl, u, rfl, k1, r1, _, rfl, a, C, rfl, T, n1, .inl ⟨ha, fun dx nd na => ?_⟩⟩
    refine ⟨v, rfl, v, rfl, kn_of k2 r2, r2, _, rfl, a, C, rfl, T, n2, .inr ⟨dx, _, upd_same, by rw [upd_ne na]; exact upd_same, by show 1 ≤ 900; decide, ?_⟩⟩
    refine ⟨z, rfl, z, rfl, kn_of k3 r3, r3, _, rfl, a, C, rfl, T, n3, .inr ⟨dx, _, by rw [upd_ne (Ne.symm na)]; exact upd_same, upd_same, by show 2 ≤ 900; decide, ?_⟩⟩
    refine q dx _ nd na (fun b h1 h2 => ?_) ?_ upd_same
    · rw [upd_ne h2, upd_ne h2, upd_ne h1, upd_ne h2]
    · rw [upd_ne (Ne.symm na), upd_ne (Ne.symm na)]
      exact upd_same
/-! ### what a raise leaves -/
/-- behind a raise: all that was there, and the error's fields at d -/
structure Rsd (H H' : Hp) (d : Addr) (fs : List (Str × V)) : Prop where
  new : H d = none
  same : Same H H'
  at_ : H' d = some (.xd fs)
theorem rsd_of {H H2 : Hp} {a d C : Addr} {fs : List (Str × V)} (na : H a = none) (nd : H d = none) (h : ∀ b, b ≠ a → b ≠ d → H2 b = H b) : Rsd H (upd (del H2 a) d (.xd fs)) d fs :=
  ⟨nd, fun b o e => by
    rw [upd_ne (ne_of_none e nd), del_ne (ne_of_none e na), h b (ne_of_none e na) (ne_of_none e nd)]
    exact e, upd_same⟩
theorem raise1 {H : Hp} {C : Addr} {f : Str} {v : V} {R : XK} {K : PySem.W.Frag} (T : OexC K C) (no : PySem.W.findIn K (.ref C) f = some none) (k : Kn H v) (nr : ∀ b, v ≠ .ref b) (r : ∀ d H', Rsd H H' d [(f, v)] → R (.ref C) (some d) H') :
    ([v] : List V).length ≤ 1000 ∧ ∀ a, H a = none → spX1 K f (.ref a :: ([v] ++ [])) (upd H a (exo a C none)) (fun u H2 => u = .non ∧ ∃ (d : Addr) (fs : List (Str × V)), H2 a = some (exo a C (some d)) ∧ H2 d = some (exd d fs) ∧ H d = none ∧ R (.ref C) (some d) (upd (del H2 a) d (.xd fs))) (fun _ _ _ => False) := by
  refine ⟨by show 1 ≤ 1000; decide, fun a na => ⟨a, C, v, rfl, T, no, kn_of k nr, nr, upd_same, fun dx nd ne => ⟨rfl, dx, [(f, v)], upd_same, by rw [upd_ne ne]; exact upd_same, ?_, r _ _ ?_⟩⟩⟩
  · rw [upd_ne ne] at nd
    exact nd
  · refine rsd_of (C := C) na (by rw [upd_ne ne] at nd; exact nd) fun b h1 h2 => ?_
    rw [upd_ne h1, upd_ne h2, upd_ne h1]
theorem raise3 {H : Hp} {C : Addr} {f g h : Str} {u v z : V} {R : XK} {K : PySem.W.Frag} (T : OexC K C) (n1 : PySem.W.findIn K (.ref C) f = some none) (n2 : PySem.W.findIn K (.ref C) g = some none) (n3 : PySem.W.findIn K (.ref C) h = some none)
    (k1 : Kn H u ∧ ∀ b, u ≠ .ref b) (k2 : Kn H v ∧ ∀ b, v ≠ .ref b) (k3 : Kn H z ∧ ∀ b, z ≠ .ref b) (r : ∀ d H', Rsd H H' d [(h, z), (g, v), (f, u)] → R (.ref C) (some d) H') :
    ([u, v, z] : List V).length ≤ 1000 ∧ ∀ a, H a = none → spX3 K f g h (.ref a :: ([u, v, z] ++ [])) (upd H a (exo a C none)) (fun y H2 => y = .non ∧ ∃ (d : Addr) (fs : List (Str × V)), H2 a = some (exo a C (some d)) ∧ H2 d = some (exd d fs) ∧ H d = none ∧ R (.ref C) (some d) (upd (del H2 a) d (.xd fs))) (fun _ _ _ => False) := by
  refine ⟨by show 3 ≤ 1000; decide, fun a na => ⟨a, C, u, v, z, rfl, T, n1, n2, n3, ⟨kn_of k1.1 k1.2, k1.2⟩, ⟨kn_of k2.1 k2.2, k2.2⟩, ⟨kn_of k3.1 k3.2, k3.2⟩, upd_same, fun dx H' nd ne hk ha hd => ⟨rfl, dx, _, ha, hd, ?_, r _ _ ?_⟩⟩⟩
  · rw [upd_ne ne] at nd
    exact nd
  · refine rsd_of (C := C) na (by rw [upd_ne ne] at nd; exact nd) fun b h1 h2 => ?_
    rw [hk b h1 h2, upd_ne h1]
theorem raise0 {H : Hp} {C : Addr} {R : XK} {K : PySem.W.Frag} (r : ∀ H', Same H H' → R (.ref C) none H') :
    ∀ a, H a = none → spX0 [.ref a] (upd H a (exo a C none)) (fun v H2 => v = .non ∧ H2 a = some (exo a C none) ∧ R (.ref C) none (del H2 a)) (fun _ _ _ => False) := fun a na =>
  ⟨a, rfl, rfl, upd_same, r _ fun b o e => by rw [del_ne (ne_of_none e na), upd_ne (ne_of_none e na)]; exact e⟩
end
end K00
set_option Elab.async false
set_option linter.all false
set_option maxRecDepth 100001
set_option maxHeartbeats 3999999
namespace K00
open PySem L2
theorem Same.seqT {K : PySem.W.Frag} {H H' : Hp} {a : Addr} {xs : List V} (e : Same H H') (h : SqT K H a xs) : SqT K H' a xs := by
  rcases h with (h | ⟨o, h⟩) | h
  · exact .inl (.inl (e _ _ h))
  · exact .inl (.inr ⟨o, e _ _ h⟩)
  · exact .inr h
theorem same_new {H : Hp} {p : Addr} {o : HO} (n : H p = none) : Same H (upd H p o) := fun b u e => by
  rw [upd_ne (ne_of_none e n)]
  exact e
/-- a list or a tuple of these items -/
def Sq (K : PySem.W.Frag) (H : Hp) (a : Addr) (xs : List V) : Prop := SqL K H a xs ∨ SqT K H a xs
theorem Sq.same {K : PySem.W.Frag} {H H' : Hp} {a : Addr} {xs : List V} (q : Sq K H a xs) (e : Same H H') : Sq K H' a xs := q.imp (fun h => e.seq h) fun h => Same.seqT e h
section
variable {X : Cx} {tg e : Expr} {w1 w2 : TI}
/-- enumerate of a list or a tuple -/
def iEnS (K : PySem.W.Frag) (ta : TA) : TI := fun σ H R => ta σ H fun vs H1 => ∃ a xs, vs = [.ref a] ∧ Sq K H1 a xs ∧ ∀ (J : It) (G : Hp → Prop), Walk J xs.length G (YPair (fun i => some (.int (i : Nat))) (fun i => xs[i]?)) → (∀ H', Same H1 H' → G H') → R J H1
open PySem.Spec PyProof.Rows in
theorem pi_en {ta : TA} {p pos tp : Pos} {es : List Expr} {kk : Nat} (hm : X.mg "enumerate" = none) (ha : PA X [e] ta) (hg : Gl X "enumerate" := by rfl) (hs : starEach [e] X.env = [(false, eval e X.env)] := by rfl) :
    PI X (.Tuple es kk tp) (.Call (.Name "enumerate" p) [e] [] pos) (iEnS X.K ta) := by
  constructor
  intro pins s σ H R I h
  refine Call_ (ld_blt I hg hm PyProof.Rows.boot_enumerate (PyProof.Rows.callWith_type1 (thn (ha.run pos pins s σ H _ I h) fun us s1 hh => ?_) hs rfl))
  obtain ⟨vs, H1, I1, r1, a, xs, ev, sq, k⟩ := hh
  subst ev
  have near : ∀ b ∈ [s1.heap.objs.size + 1, s1.heap.objs.size], FpOk X pins H1 b := fun b hb => by
    have ge : s1.heap.objs.size ≤ b := by
      rcases two_of hb with z | z
      · rw [z]; exact Nat.le_add_right _ _
      · rw [z]; exact Nat.le_refl _
    exact I1.fpOk ge (I1.hok.fresh ge)
  cases r1 with
  | cons r rr =>
    cases rr
    cases r
    rcases sq with hq | hq
    · obtain ⟨its, rv, p1, hz⟩ := I1.list hq
      refine call_enumerate_list p1.isList fun h2 he hd _ hk => wpAny_pyIter_enum he ?_
      exact ⟨s1.heap.objs.size + 1, _, _, _, H1, rfl, I1.kept (t' := s1.toks) hk, turn_enum a (s1.heap.objs.size + 1) s1.heap.objs.size, ⟨⟨.none, he⟩, hd, Nat.succ_ne_self _⟩, near, k _ _ walk_enum fun H' e => e.seq hq⟩
    · obtain ⟨its, rv, p2, hz⟩ := I1.tuple hq
      refine enumT_call (begins_tuple a its.toArray) p2 fun h2 he hd hk => wpAny_pyIter_enum he ?_
      exact ⟨s1.heap.objs.size + 1, _, _, _, H1, rfl, I1.kept (t' := s1.toks) hk, turn_enT a (s1.heap.objs.size + 1) s1.heap.objs.size, ⟨⟨.none, he⟩, ⟨_, hd, rfl, rfl⟩, Nat.succ_ne_self _⟩, near, k _ _ walk_enT fun H' e => Same.seqT e hq⟩
/-- a list or a tuple, item by item -/
def iSqS (K : PySem.W.Frag) (te : TE) : TI := fun σ H R => te σ H fun x H1 => ∃ a xs, x = .ref a ∧ Sq K H1 a xs ∧ ∀ (J : It) (G : Hp → Prop), Walk J xs.length G (YAt xs) → (∀ H', Same H1 H' → G H') → R J H1
open PySem.Spec PyProof.Rows in
theorem pi_sq {te : TE} (he : PE X e te) : PI X tg e (iSqS X.K te) := by
  constructor
  intro pins s σ H R I h
  refine thn (he.run pins s σ H _ I h) fun u s1 hh => ?_
  obtain ⟨v, H1, I1, r1, a, xs, ev, sq, k⟩ := hh
  subst ev
  cases r1
  have near : ∀ b ∈ [s1.heap.objs.size], FpOk X pins H1 b := fun b hb => by
    rw [List.mem_singleton.mp hb]
    exact I1.fpOk (Nat.le_refl _) (I1.hok.fresh (Nat.le_refl _))
  have J1 : ∀ o : Obj, Inv X pins σ H1 { s1 with heap := s1.heap.push o } := fun o => I1.kept (t' := s1.toks) fun b u z => Heap.get?_push_of_some _ z
  rcases sq with hq | hq
  · obtain ⟨its, rv, p1, hz⟩ := I1.list hq
    exact wpAny_pyIter_list p1.isList ⟨s1.heap.objs.size, _, _, _, H1, rfl, J1 _, turn_list a _, ⟨_, Heap.get?_push_size _ rfl, rfl, rfl⟩, near, k _ _ walk_list fun H' z => z.seq hq⟩
  · obtain ⟨its, rv, p2, hz⟩ := I1.tuple hq
    exact wpAny_pyIter_tuple (show s1.heap.IsTuple a its.toArray from p2) ⟨s1.heap.objs.size, _, _, _, H1, rfl, J1 _, turn_tuple a _, ⟨_, Heap.get?_push_size _ rfl, rfl, rfl⟩, near, k _ _ walk_tup fun H' z => Same.seqT z hq⟩
end
/-- an own exception class of the module -/
structure Xc (P : Program) (w : World) (K : PySem.W.Frag) (mg : Str → Option Value) (base : Heap) (k : Nat) (x : Str) (C : Addr) (sp : Sp) : Prop where
  T : OexC K C
  mgC : mg x = some (.ref C)
  ex : ∃ (f : Addr) (fd : FuncData) (ps : List Str), PySem.W.findIn K (.ref C) "__init__" = some (some (.ref f)) ∧ PySem.W.typeIn K (.ref f) = some (.type "function") ∧ FnOk P w K mg base CX0 k f fd ps sp ∧ Binds K fd ps []
section
variable {X : Cx} {k j : Nat} {x : Str} {C : Addr} {sp : Sp} {e : Expr} {es : List Expr} {t : TA} {p pos : Pos}
theorem pmk_x (c : Xc X.prog X.w X.K X.mg X.base k x C sp) (hr : Room j X.A) (ha : PA X (e :: es) t) (hk : k + 1 ≤ j := by decide) (hg : Gl X x := by rfl) (hdb : (x == ("__debug__" : Str)) = false := by decide)
    (he : starEach (e :: es) X.env = (false, eval e X.env) :: starEach es X.env := by rfl) (hpl : (backTo pos (starEach es X.env)).any (·.1) = false := by rfl) : PMk X (.Call (.Name x p) (e :: es) [] pos) (tMkO C sp [] t) := by
  obtain ⟨f, fd, ps, i1, i2, F, b⟩ := c.ex
  exact pmk_oex c.T i1 i2 F (hr.mono hk) b .nil pass0 hg c.mgC ha hdb he hpl
theorem pmk_x0 (c : Xc X.prog X.w X.K X.mg X.base k x C sp) (hr : Room j X.A) (hk : k + 1 ≤ j := by decide) (hg : Gl X x := by rfl) (hdb : (x == ("__debug__" : Str)) = false := by decide) : PMk X (.Call (.Name x p) [] [] pos) (tMkO0 C sp) := by
  obtain ⟨f, fd, ps, i1, i2, F, b⟩ := c.ex
  exact pmk_oex0 c.T i1 i2 F (hr.mono hk) b pass0 hg c.mgC hdb
end
/-! ### a map of numbers -/
def mapF (m : Int) (t : Addr) : List (Str × V) := putF "numbers" (.ref t) (putF "many" (.int m) [])
theorem mapF_many (m : Int) (t : Addr) : (mapF m t).lookup ("many" : Str) = some (.int m) := by
  unfold mapF
  rw [lookup_putF, if_neg (by decide +kernel), lookup_putF, if_pos rfl]
theorem mapF_numbers (m : Int) (t : Addr) : (mapF m t).lookup ("numbers" : Str) = some (.ref t) := by
  unfold mapF
  rw [lookup_putF, if_pos rfl]
theorem mapF_no (m : Int) (t : Addr) {x : Str} (h1 : ¬ x = "numbers") (h2 : ¬ x = "many") : (mapF m t).lookup x = none := by
  unfold mapF
  rw [lookup_putF, if_neg h1, lookup_putF, if_neg h2]
  rfl
/-- at p: a map to m new numbers -/
def IsMap (K : PySem.W.Frag) (C : Addr) (H : Hp) (p : Addr) (m : Int) (ns : List V) : Prop := ∃ dx t, H p = some (.ins C dx (mapF m t)) ∧ SqT K H t ns
theorem IsMap.same {K : PySem.W.Frag} {C : Addr} {H H' : Hp} {p : Addr} {m : Int} {ns : List V} (q : IsMap K C H p m ns) (e : Same H H') : IsMap K C H' p m ns :=
  let ⟨dx, t, h1, h2⟩ := q
  ⟨dx, t, e _ _ h1, Same.seqT e h2⟩
/-- what the first element is that does not ascend below m, from least on -/
def scan (m : Int) : Int → Nat → List V → Option Nat
  | _, _, [] => none
  | least, i, .non :: r => scan m least (i + 1) r
  | least, i, .int j :: r => if least ≤ j ∧ j ≤ m - 1 then scan m (j + 1) (i + 1) r else some i
  | _, i, _ :: _ => some i
theorem scan_non (m least : Int) (i : Nat) (r : List V) : scan m least i (.non :: r) = scan m least (i + 1) r := by simp only [scan]
theorem scan_in {m least j : Int} {i : Nat} {r : List V} (h : btw (.int j) least (m - 1) = true) : scan m least i (.int j :: r) = scan m (j + 1) (i + 1) r := by
  simp only [scan]
  rw [if_pos (of_decide_eq_true h)]
theorem scan_out {m least : Int} {v : V} {i : Nat} {r : List V} (n : v ≠ .non) (h : btw v least (m - 1) = false) : scan m least i (v :: r) = some i := by
  cases v with
  | non => exact absurd rfl n
  | int j =>
    simp only [scan]
    rw [if_neg (of_decide_eq_false h)]
  | _ => simp only [scan]
theorem btw_int {v : V} {lo hi : Int} (h : btw v lo hi = true) : ∃ j, v = .int j := by
  cases v with
  | int j => exact ⟨j, rfl⟩
  | _ => cases h
/-- NumberMap(many, numbers): what comes of it -/
def spInit (K : PySem.W.Frag) (C CM CT CB : Addr) : Sp := fun vs H Q E => ∃ (p dx s : Addr) (vm : V) (ns : List V), vs = [.ref p, vm, .ref s] ∧ H p = some (.ins C dx []) ∧ Sq K H s ns ∧ (∀ v ∈ ns, Kn H v) ∧ Kn H vm ∧ (∀ b, vm ≠ .ref b) ∧
  ((btw vm 0 2000 = false ∧ ∀ d H', Rsd H H' d [("many", vm)] → E (.ref CM) (some d) H') ∨
    ∃ m, vm = .int m ∧ 0 ≤ m ∧ m ≤ 2000 ∧
      ((2000 < ns.length ∧ ∀ d H', Rsd H H' d [("most", .int 2000), ("many", .int ns.length), ("what", .str "numbers")] → E (.ref CT) (some d) H') ∨
        (ns.length ≤ 2000 ∧ ∃ i, scan m 0 0 ns = some i ∧ ∀ d H', Rsd H H' d [("index", .int (i : Nat))] → E (.ref CB) (some d) H') ∨
        (ns.length ≤ 2000 ∧ scan m 0 0 ns = none ∧ ∀ t H', (∀ b o, b ≠ p → H b = some o → H' b = some o) → H' p = some (.ins C dx (mapF m t)) → SqT K H' t ns → Q .non H')))
/-- the classes of the module -/
structure Txt (K : PySem.W.Frag) (C : Addr) : Prop where
  cl : Cls K C
  nM : NoAttr K C "many"
  nN : NoAttr K C "numbers"
abbrev sInit : Stmt := sNM 0
section
variable {P : Program} {w : World} {K : PySem.W.Frag} {mg : Str → Option Value} {base : Heap}
theorem scInit : FnScope ["self", "many", "numbers", "least", "index", "number"] ["self", "many", "numbers"] (defScope sInit) := ⟨rfl, rfl, rfl, by decide +kernel, rfl, by decide +kernel, by decide +kernel⟩
theorem ok_init {f C CM CT CB : Addr} {fd : FuncData} (F : Fun K "__init__" "NumberMap.__init__" sInit f fd) (B : Bi mg) (T : Txt K C) (cB : Cal CX0 P w K mg base 2 "is_between" spBetween)
    (xM : Xc P w K mg base 2 "BadMany" CM (spX1 K "many")) (nM : PySem.W.findIn K (.ref CM) "many" = some none) (xT : Xc P w K mg base 2 "TooMany" CT (spX3 K "what" "many" "most")) (nT : PySem.W.findIn K (.ref CT) "what" = some none ∧ PySem.W.findIn K (.ref CT) "many" = some none ∧ PySem.W.findIn K (.ref CT) "most" = some none)
    (xB : Xc P w K mg base 2 "BadMap" CB (spX1 K "index")) (nB : PySem.W.findIn K (.ref CB) "index" = some none) : FnOk P w K mg base (L2.CX P w) 4 f fd ["self", "many", "numbers"] (spInit K C CM CT CB) := by
  refine F.okX scInit (fun vs H Q E h => ?_) (fun cdv A outer s H vs Q E hr h => ?_)
  · obtain ⟨p, dx, s, vm, ns, rfl, _⟩ := h
    rfl
  · obtain ⟨p, dx, sq, vm, ns, rfl, hp, hs, kns, kvm, nvm, out⟩ := h
    refine ⟨_, pss_cons (ps_if (pt_not (pt_val (pe_c cB hr pass0 (pa_cons (pv 1) (pa_cons pe_int (pa_cons pe_int pa_nil)))))) (pss_one (ps_raise rfl (takes_of rfl rfl rfl rfl) (pmk_x xM hr (pa_cons (pv 1) pa_nil)))) pss_nil)
      (pss_cons (ps_if (pt_cmpR op_gt (pe_len B.len (pa_cons (pv 2) pa_nil)) pe_int (nomark _)) (pss_one (ps_raise rfl (takes_of rfl rfl rfl rfl) (pmk_x xT hr (pa_cons pe_str (pa_cons (pe_len B.len (pa_cons (pv 2) pa_nil)) (pa_cons pe_int pa_nil)))))) pss_nil)
      (pss_cons (ps_set (i := 3) scInit.nd rfl (Or.inl rfl) pe_int)
      (pss_cons (ps_for (passes_of rfl) rfl (pi_en B.enum (pa_cons (pv 2) pa_nil)) (pg_tup rfl (pgs_cons (pg_name (i := 4) scInit.nd rfl (.inl rfl)) (pgs_cons (pg_name (i := 5) scInit.nd rfl (.inl rfl)) pgs_nil)))
          (pss_one (ps_if (pt_cmpR op_notN (pv 5) pe_non (nomark _)) (pss_cons (ps_if (pt_not (pt_val (pe_c cB hr pass0 (pa_cons (pv 5) (pa_cons (pv 3) (pa_cons (pe_op op_sub (pv 1) pe_int) pa_nil))))))
            (pss_one (ps_raise rfl (takes_of rfl rfl rfl rfl) (pmk_x xB hr (pa_cons (pv 4) pa_nil)))) pss_nil) (pss_one (ps_set (i := 3) scInit.nd rfl (Or.inl rfl) (pe_op op_add (pv 5) pe_int)))) pss_nil)))
      (pss_cons (ps_fld (pv 0) (pv 1) rfl) (pss_one (ps_fld (pv 0) (pe_tupleOf rfl B.tuple (pv 2)) rfl)))))), ?_⟩
    refine ⟨vm, rfl, vm, 0, 2000, rfl, kvm, _, rfl, ?_⟩
    rcases out with ⟨e1, out⟩ | ⟨m, rfl, m0, m1, out⟩
    · rw [e1]
      exact iteT ⟨vm, rfl, raise1 xM.T nM kvm nvm out⟩
    have e1 : btw (.int m) 0 2000 = true := decide_eq_true ⟨m0, m1⟩
    rw [e1]
    refine iteF ⟨_, rfl, sq, ns, rfl, hs, _, _, rfl, rfl, _, rfl, ?_⟩
    rcases out with ⟨h1, out⟩ | out
    · rw [decide_eq_true (show (2000 : Int) < (ns.length : Int) by omega)]
      exact iteT ⟨_, rfl, sq, ns, rfl, hs, raise3 xT.T nT.1 nT.2.1 nT.2.2 ⟨.str _, fun _ z => nomatch z⟩ ⟨.int _, fun _ z => nomatch z⟩ ⟨.int _, fun _ z => nomatch z⟩ out⟩
    have len : ns.length ≤ 2000 := out.elim (fun h => h.1) fun h => h.1
    rw [decide_eq_false (show ¬ (2000 : Int) < (ns.length : Int) by omega)]
    refine iteF ⟨_, rfl, sq, ns, rfl, hs, fun J G wk hG => for_it wk (fun i σ H' => ∃ (least : Int) (a b : Option V), σ = [some (.ref p), some (.int m), some (.ref sq), some (.int least), a, b] ∧ Same H H' ∧ scan m least i (ns.drop i) = scan m 0 0 ns) ⟨0, none, none, rfl, Same.refl H, rfl⟩
      (fun i σ H' _ ⟨_, _, _, _, e, _⟩ => hG H' e) ?_ ?_⟩
    · rintro i x σ H1 H2 hi ⟨least, a, b, rfl, e, sc⟩ ⟨T0, y, v, rfl, nT0, rfl, ey, hv⟩
      have ey : y = .int (i : Nat) := (Option.some.inj ey).symm
      subst ey
      have e2 : Same H (upd H1 T0 (.tup [.int (i : Nat), v])) := e.trans (same_new nT0)
      have kv : Kn (upd H1 T0 (.tup [.int (i : Nat), v])) v := (kns v (List.mem_of_getElem? hv)).same e2
      have dr : ns.drop i = v :: ns.drop (i + 1) := by
        obtain ⟨lt, eq⟩ := List.getElem?_eq_some_iff.mp hv
        rw [List.drop_eq_getElem_cons lt, eq]
      rw [dr] at sc
      refine ⟨T0, _, rfl, SqT.of upd_same, rfl, _, _, rfl, _, _, rfl, rfl, ?_⟩
      refine ⟨v, rfl, rfl, _, rfl, ?_⟩
      refine ite2 (fun c => ?_) fun c => ?_
      · have nv : v ≠ .non := fun z => by
          rw [z] at c
          exact absurd c (by decide)
        refine ⟨v, rfl, _, rfl, _, rfl, _, _, rfl, rfl, v, least, m - 1, rfl, kv, _, rfl, ?_⟩
        cases eb : btw v least (m - 1) with
        | true =>
          obtain ⟨j, rfl⟩ := btw_int eb
          refine iteF ⟨_, rfl, _, _, rfl, rfl, j + 1, _, _, rfl, e2, ?_⟩
          rw [← sc, scan_in eb]
        | false =>
          have sc2 := scan_out (r := ns.drop (i + 1)) (i := i) nv eb
          rw [sc2] at sc
          refine iteT ⟨_, rfl, raise1 xB.T nB (.int _) (fun _ z => nomatch z) fun d H' r => ?_⟩
          rcases out with ⟨_, i2, q2, out⟩ | ⟨_, q2, _⟩
          · rw [← sc] at q2
            cases q2
            exact out d H' ⟨e2.free r.new, e2.trans r.same, r.at_⟩
          · rw [← sc] at q2
            cases q2
      · have nv : v = .non := Classical.byContradiction fun z => c (by simp [z])
        subst nv
        exact ⟨least, _, _, rfl, e2, by rw [← sc, scan_non]⟩
    · rintro σ H1 ⟨least, a, b, rfl, e, sc⟩
      rw [List.drop_length] at sc
      have sn : scan m 0 0 ns = none := sc.symm
      rcases out with ⟨_, i2, q2, _⟩ | ⟨_, _, out⟩
      · rw [sn] at q2
        cases q2
      refine ⟨_, rfl, _, rfl, p, C, dx, [], rfl, e _ _ hp, T.cl, T.nM, by show 0 < 1000; decide, _, rfl, ?_⟩
      have h1 : Sq K (upd H1 p (.ins C dx (putF "many" (.int m) []))) sq ns := by
        rcases hs.same e with h | h
        · rcases h with (h | ⟨o, h⟩) | h
          · exact .inl (.inl (.inl ((upd_ne (ne_of h (e _ _ hp) (fun z => by cases z))).trans h)))
          · exact .inl (.inl (.inr ⟨o, (upd_ne (ne_of h (e _ _ hp) (fun z => by cases z))).trans h⟩))
          · exact .inl (.inr h)
        · rcases h with (h | ⟨o, h⟩) | h
          · exact .inr (.inl (.inl ((upd_ne (ne_of h (e _ _ hp) (fun z => by cases z))).trans h)))
          · exact .inr (.inl (.inr ⟨o, (upd_ne (ne_of h (e _ _ hp) (fun z => by cases z))).trans h⟩))
          · exact .inr (.inr h)
      have keep : ∀ {b o}, b ≠ p → H b = some o → upd H1 p (.ins C dx (putF "many" (.int m) [])) b = some o := fun {b o} n z => (upd_ne n).trans (e _ _ z)
      rcases h1 with h1 | h1
      · refine .inl ⟨sq, ns, rfl, h1, fun t nt => ⟨_, rfl, p, C, dx, _, rfl, (upd_ne (ne_of_none upd_same nt)).trans upd_same, T.cl, T.nN, by show 1 < 1000; decide, ?_⟩⟩
        refine out t _ (fun b o n z => (upd_ne n).trans ((upd_ne (ne_of_none (keep n z) nt)).trans (keep n z))) upd_same (SqT.of ((upd_ne (Ne.symm (ne_of_none upd_same nt))).trans upd_same))
      · refine .inr ⟨sq, ns, rfl, h1, _, rfl, p, C, dx, _, rfl, upd_same, T.cl, T.nN, by show 1 < 1000; decide, ?_⟩
        refine out sq _ (fun b o n z => (upd_ne n).trans (keep n z)) upd_same ?_
        rcases h1 with (h | ⟨o, h⟩) | h
        · exact .inl (.inl ((upd_ne (ne_of h upd_same (fun z => by cases z))).trans h))
        · exact .inl (.inr ⟨o, (upd_ne (ne_of h upd_same (fun z => by cases z))).trans h⟩)
        · exact .inr h
end
end K00
set_option Elab.async false
set_option linter.all false
set_option maxRecDepth 100001
set_option maxHeartbeats 3999999
namespace K00
open PySem L2
/-! ### None or an int -/
def Num (v : V) : Prop := v = .non ∨ ∃ i, v = .int i
def dOf : V → PyData
  | .int i => .int i
  | .bl b => .bool b
  | .str x => .str x
  | _ => .none
theorem eqv_num {a b : V} (ha : Num a) (hb : Num b) : PyData.eqv (dOf a) (dOf b) = decide (a = b) := by
  rcases ha with rfl | ⟨i, rfl⟩ <;> rcases hb with rfl | ⟨j, rfl⟩
  · simp [dOf, PyData.eqv]
  · simp [dOf, PyData.eqv]
  · simp [dOf, PyData.eqv]
  · rw [dec_int]
    simp [dOf, PyData.eqv]
theorem eqvAll_num : ∀ {xs ys : List V}, (∀ v ∈ xs, Num v) → (∀ v ∈ ys, Num v) → PyData.eqvAll (xs.map dOf) (ys.map dOf) = decide (xs = ys)
  | [], [], _, _ => by simp [PyData.eqvAll]
  | [], _ :: _, _, _ => by simp [PyData.eqvAll]
  | _ :: _, [], _, _ => by simp [PyData.eqvAll]
  | x :: xs, y :: ys, hx, hy => by
    have ih := eqvAll_num (fun v m => hx v (List.mem_cons_of_mem _ m)) fun v m => hy v (List.mem_cons_of_mem _ m)
    have e : PyData.eqvAll ((x :: xs).map dOf) ((y :: ys).map dOf) = (PyData.eqv (dOf x) (dOf y) && PyData.eqvAll (xs.map dOf) (ys.map dOf)) := by simp only [List.map_cons, PyData.eqvAll]
    rw [e, ih, eqv_num (hx x List.mem_cons_self) (hy y List.mem_cons_self)]
    by_cases h1 : x = y
    · by_cases h2 : xs = ys
      · simp [h1, h2]
      · simp [h1, h2]
    · simp [h1]
theorem dp_num {K : PySem.W.Frag} {H : Hp} {v : V} (h : Num v) : Dp K H v (dOf v) := by
  rcases h with rfl | ⟨i, rfl⟩
  · exact .non
  · exact .int i
theorem dpAll_num {K : PySem.W.Frag} {H : Hp} : ∀ {xs : List V}, (∀ v ∈ xs, Num v) → DpAll K H xs (xs.map dOf)
  | [], _ => .nil
  | x :: xs, h => .cons (dp_num (h x List.mem_cons_self)) (dpAll_num fun v m => h v (List.mem_cons_of_mem _ m))
theorem lay_num : ∀ {xs : List V}, (∀ v ∈ xs, Num v) → PyData.canLayAll0 (xs.map dOf) = true
  | [], _ => by simp [PyData.canLayAll0]
  | x :: xs, h => by
    have ih := lay_num fun v m => h v (List.mem_cons_of_mem x m)
    rw [List.map_cons, PyData.canLayAll0, ih, Bool.and_true]
    rcases h x List.mem_cons_self with rfl | ⟨i, rfl⟩ <;> simp [dOf, PyData.canLay0]
theorem depth_num : ∀ {xs : List V}, (∀ v ∈ xs, Num v) → PyData.depthAll (xs.map dOf) ≤ 1
  | [], _ => by simp [PyData.depthAll]
  | x :: xs, h => by
    have ih := depth_num fun v m => h v (List.mem_cons_of_mem x m)
    simp only [List.map_cons, PyData.depthAll]
    rcases h x List.mem_cons_self with rfl | ⟨i, rfl⟩ <;> simp only [dOf, PyData.depth] <;> omega
theorem shL_num {xs : List V} (h : ∀ v ∈ xs, Num v) : SeqAt.shaped (.list (xs.map dOf)) = true := by
  have h1 := lay_num h
  have h2 := depth_num h
  show (PyData.canLay0 (.list (xs.map dOf)) && decide (PyData.depth (.list (xs.map dOf)) ≤ 64)) = true
  rw [Bool.and_eq_true]
  refine ⟨by simp only [PyData.canLay0]; exact h1, decide_eq_true ?_⟩
  simp only [PyData.depth]
  omega
theorem shT_num {xs : List V} (h : ∀ v ∈ xs, Num v) : SeqAt.shaped (.tuple (xs.map dOf)) = true := by
  have h1 := lay_num h
  have h2 := depth_num h
  show (PyData.canLay0 (.tuple (xs.map dOf)) && decide (PyData.depth (.tuple (xs.map dOf)) ≤ 64)) = true
  rw [Bool.and_eq_true]
  refine ⟨by simp only [PyData.canLay0]; exact h1, decide_eq_true ?_⟩
  simp only [PyData.depth]
  omega
/-- two lists, or two tuples, of None and ints -/
def rEqN (K : PySem.W.Frag) (neg : Bool) : R2 := fun x y H Q => ∃ a b xs ys, x = .ref a ∧ y = .ref b ∧ ((SqL K H a xs ∧ SqL K H b ys) ∨ (SqT K H a xs ∧ SqT K H b ys)) ∧ (∀ v ∈ xs, Num v) ∧ (∀ v ∈ ys, Num v) ∧ Q (.bl (if neg then !decide (xs = ys) else decide (xs = ys))) H
section
variable {X : Cx}
theorem op_eqN (hu : X.A.units + 64 < cLine) : OpR X (compareOp .Eq) (rEqN X.K false) := by
  intro pins s σ H x y v u Q I rx ry h
  obtain ⟨a, b, xs, ys, rfl, rfl, d, nx, ny, q⟩ := h
  rcases d with ⟨d1, d2⟩ | ⟨d1, d2⟩
  · refine op_eqD hu pins s σ H _ _ v u Q I rx ry ⟨.list (xs.map dOf), .list (ys.map dOf), .lst d1 (dpAll_num nx), .lst d2 (dpAll_num ny), shL_num nx, shL_num ny, ?_⟩
    rw [show PyData.eqv (.list (xs.map dOf)) (.list (ys.map dOf)) = decide (xs = ys) by rw [← eqvAll_num nx ny]; simp only [PyData.eqv]]
    exact q
  · refine op_eqD hu pins s σ H _ _ v u Q I rx ry ⟨.tuple (xs.map dOf), .tuple (ys.map dOf), .tup d1 (dpAll_num nx), .tup d2 (dpAll_num ny), shT_num nx, shT_num ny, ?_⟩
    rw [show PyData.eqv (.tuple (xs.map dOf)) (.tuple (ys.map dOf)) = decide (xs = ys) by rw [← eqvAll_num nx ny]; simp only [PyData.eqv]]
    exact q
theorem op_neN (hu : X.A.units + 64 < cLine) : OpR X (compareOp .NotEq) (rEqN X.K true) := by
  intro pins s σ H x y v u Q I rx ry h
  obtain ⟨a, b, xs, ys, rfl, rfl, d, nx, ny, q⟩ := h
  rcases d with ⟨d1, d2⟩ | ⟨d1, d2⟩
  · refine op_neD hu pins s σ H _ _ v u Q I rx ry ⟨.list (xs.map dOf), .list (ys.map dOf), .lst d1 (dpAll_num nx), .lst d2 (dpAll_num ny), shL_num nx, shL_num ny, ?_⟩
    rw [show PyData.eqv (.list (xs.map dOf)) (.list (ys.map dOf)) = decide (xs = ys) by rw [← eqvAll_num nx ny]; simp only [PyData.eqv]]
    exact q
  · refine op_neD hu pins s σ H _ _ v u Q I rx ry ⟨.tuple (xs.map dOf), .tuple (ys.map dOf), .tup d1 (dpAll_num nx), .tup d2 (dpAll_num ny), shT_num nx, shT_num ny, ?_⟩
    rw [show PyData.eqv (.tuple (xs.map dOf)) (.tuple (ys.map dOf)) = decide (xs = ys) by rw [← eqvAll_num nx ny]; simp only [PyData.eqv]]
    exact q
/-- x == y, x an instance of the class at C with an own __eq__ -/
def rOwnEq (K : PySem.W.Frag) (C : Addr) (sp : Sp) : R2 := fun x y H Q => ∃ a dx fs tb, x = .ref a ∧ H a = some (.ins C dx fs) ∧ TyX K H y tb ∧ PySem.W.notFirst K C tb = true ∧ sp [x, y] H (fun v H' => (∃ b, v = .bl b) ∧ Q v H') E0
theorem op_ownEq {CX : CXT} {n j : Nat} {C f : Addr} {fd : FuncData} {ps : List Str} {sp : Sp} (F : FnOk X.prog X.w X.K X.mg X.base CX n f fd ps sp) (hs : PySem.W.findIn X.K (.ref C) "__eq__" = some (some (.ref f))) (hf : PySem.W.isFn X.K (.ref f) = true) (hb : Binds X.K fd ps [])
    (hx : Passes CX X E0) (hr : Room j X.A) (hj : n ≤ j) : OpR X (compareOp .Eq) (rOwnEq X.K C sp) := by
  intro pins s σ H x y v u Q I rx ry h
  obtain ⟨a, dx, fs, tb, rfl, ha, ty, nf, h⟩ := h
  have hr := hr.mono hj
  cases (show v = Value.ref a from rx)
  obtain ⟨mA, J, _⟩ := ins_get I.hok ha
  obtain ⟨od, J, _⟩ := J.look
  obtain ⟨Pz, Z, p, _⟩ := kit_of I ry ty
  obtain ⟨m, hF⟩ := I.fr
  show wpAny (model X.prog X.w) X.A (richCompare .Eq (.ref a) u) (EP X pins σ Q) X.xe s
  have hu : X.A.units < cLine := by have := hr.un; omega
  refine PySem.W.cmp_K (op := .Eq) (tb := tb) hu hF I.ok.mod.kin J (Z.ty _ _ I.kIn p) nf hs hf ?_
  have hl := F.len _ _ _ _ h
  have r2 : Vals [V.ref a, y] [Value.ref a, u] := .cons rfl (.cons ry .nil)
  refine wpAny_call (codeAny_mono (F.run X.A X.stack s H ⟨[.ref a, u], []⟩ [.ref a, u] [.ref a, y] _ E0 hr I.env0 (by
    have := hb s [.ref a, u] I.kIn (by simpa using hl)
    simpa using this) r2 h) fun r s' hq => ?_)
  cases r with
  | error e => exact hx pins σ H s e s' I hq
  | ok fl =>
    cases fl with
    | ret w =>
      obtain ⟨z, H', I', rz, ⟨b, ez⟩, q⟩ := I.after hq
      subst ez
      cases rz
      exact ⟨.bl b, H', I', rfl, q⟩
    | next => exact False.elim hq
    | brk => exact False.elim hq
    | cont => exact False.elim hq
end
end K00
set_option Elab.async false
set_option linter.all false
set_option maxRecDepth 100001
set_option maxHeartbeats 3999999
namespace K00
open PySem L2
abbrev sEq : Stmt := sNM 1
abbrev sNumB : Stmt := sNM 2
abbrev sFresh : Stmt := sNM 3
abbrev sFoll : Stmt := sNM 4
abbrev sRanB : Stmt := sNM 5
abbrev sFWR : Stmt := topS 16
abbrev sRanges : Stmt := topS 17
/-- what more the class is known by -/
structure TxE (K : PySem.W.Frag) (C : Addr) : Prop where
  cc : PySem.W.findIn K (.ref C) "__class__" = some (some (.builtin "object.__class__"))
  gg : PySem.W.specialIn K (.builtin "object.__class__") "__get__" = some (some (.builtin "getset_descriptor.__get__"))
  tk : PySem.W.takesIn K (.builtin "object.__class__") = some true
  mr : PySem.W.mroIn K C (.type "object") = some true
  kT : PySem.W.kitOne K (.type "tuple") (.ref C) = some false
theorem kit_self {K : PySem.W.Frag} {C : Addr} : PySem.W.kitOne K (.ref C) (.ref C) = some true := by
  unfold PySem.W.kitOne
  rw [if_pos (by simp)]
theorem IsMap.ty {K : PySem.W.Frag} {C : Addr} {H : Hp} {p : Addr} {m : Int} {ns : List V} (T : Txt K C) (E : TxE K C) (q : IsMap K C H p m ns) : TyX K H (.ref p) (.ref C) :=
  let ⟨_, _, h1, _⟩ := q
  .base (.ins h1 T.cl E.cc E.gg E.tk E.mr)
/-- one == other -/
def spEqM (K : PySem.W.Frag) (C : Addr) : Sp := fun vs H Q _ => ∃ p y m ns, vs = [.ref p, y] ∧ IsMap K C H p m ns ∧
  ((∃ q m2 ns2, y = .ref q ∧ IsMap K C H q m2 ns2 ∧ (∀ v ∈ ns, Num v) ∧ (∀ v ∈ ns2, Num v) ∧ Q (.bl (decide (m = m2) && decide (ns = ns2))) H) ∨ (∃ t xs, y = .ref t ∧ H t = some (.tup xs) ∧ Q (.bl false) H))
section
variable {P : Program} {w : World} {K : PySem.W.Frag} {mg : Str → Option Value} {base : Heap}
theorem hu64 {A : Around} {k : Nat} (hr : Room k A) : A.units + 64 < cLine := by have := hr.un; omega
theorem scEq : FnScope ["self", "other"] ["self", "other"] (defScope sEq) := ⟨rfl, rfl, rfl, by decide +kernel, rfl, by decide +kernel, by decide +kernel⟩
theorem ok_eq {f C : Addr} {fd : FuncData} (F : Fun K "__eq__" "NumberMap.__eq__" sEq f fd) (B : Bi mg) (T : Txt K C) (TE : TxE K C) (gC : mg "NumberMap" = some (.ref C)) : FnOk P w K mg base CX0 1 f fd ["self", "other"] (spEqM K C) := by
  refine F.ok scEq (fun vs H Q E h => ?_) (fun cdv A outer s H vs Q E hr h => ?_)
  · obtain ⟨p, y, m, ns, rfl, _⟩ := h
    rfl
  · obtain ⟨p, y, m, ns, rfl, M, h⟩ := h
    refine ⟨_, pss_one (ps_ret (pe_and (pe_isi B.isi (pa_cons (pv 1) (pa_cons (pe_glob (v := .ref C) rfl gC rfl) pa_nil))) (pe_and (pe_cmpR op_eq (pe_fld (pv 0) rfl) (pe_fld (pv 1) rfl) (nomark _)) (pe_one (pe_cmpR (op_eqN (hu64 hr)) (pe_fld (pv 0) rfl) (pe_fld (pv 1) rfl) (nomark _)))))), ?_⟩
    obtain ⟨dx, t, h1, h2⟩ := id M
    rcases h with ⟨q, m2, ns2, rfl, M2, n1, n2, h⟩ | ⟨t2, xs, rfl, ht, h⟩
    · obtain ⟨dx2, t2, g1, g2⟩ := id M2
      refine ⟨_, rfl, _, _, _, _, _, rfl, .own C, M2.ty T TE, kit_self, _, rfl, ?_⟩
      refine ⟨_, rfl, p, C, dx, _, _, rfl, h1, T.cl, T.nM, mapF_many _ _, _, rfl, q, C, dx2, _, _, rfl, g1, T.cl, T.nM, mapF_many _ _, rfl, _, rfl, ?_⟩
      rw [dec_int]
      cases e : m == m2 with
      | true =>
        have em : m = m2 := by simpa using e
        rw [decide_eq_true em, Bool.true_and] at h
        exact ⟨_, rfl, p, C, dx, _, _, rfl, h1, T.cl, T.nN, mapF_numbers _ _, _, rfl, q, C, dx2, _, _, rfl, g1, T.cl, T.nN, mapF_numbers _ _, t, t2, ns, ns2, rfl, rfl, .inr ⟨h2, g2⟩, n1, n2, h⟩
      | false =>
        have em : ¬ m = m2 := by simpa using e
        rw [decide_eq_false em, Bool.false_and] at h
        exact h
    · exact ⟨_, rfl, _, _, _, _, _, rfl, .own C, .base (.tup ht), TE.kT, _, rfl, h⟩
/-- map.number_behind(number) -/
def spNumB (K : PySem.W.Frag) (C CN : Addr) : Sp := fun vs H Q E => ∃ p v m ns, vs = [.ref p, v] ∧ IsMap K C H p m ns ∧ Kn H v ∧ (∀ b, v ≠ .ref b) ∧
  ((∃ (i : Nat) (x : V), v = .int (i : Nat) ∧ ns[i]? = some x ∧ Q x H) ∨ (btw v 0 ((ns.length : Int) - 1) = false ∧ ∀ d H', Rsd H H' d [("number", v)] → E (.ref CN) (some d) H'))
theorem scNumB : FnScope ["self", "number"] ["self", "number"] (defScope sNumB) := ⟨rfl, rfl, rfl, by decide +kernel, rfl, by decide +kernel, by decide +kernel⟩
theorem ok_numB {f C CN : Addr} {fd : FuncData} (F : Fun K "number_behind" "NumberMap.number_behind" sNumB f fd) (B : Bi mg) (T : Txt K C) (cB : Cal CX0 P w K mg base 2 "is_between" spBetween)
    (xN : Xc P w K mg base 2 "NoNumber" CN (spX1 K "number")) (nN : PySem.W.findIn K (.ref CN) "number" = some none) : FnOk P w K mg base (L2.CX P w) 4 f fd ["self", "number"] (spNumB K C CN) := by
  refine F.okX scNumB (fun vs H Q E h => ?_) (fun cdv A outer s H vs Q E hr h => ?_)
  · obtain ⟨p, v, m, ns, rfl, _⟩ := h
    rfl
  · obtain ⟨p, v, m, ns, rfl, ⟨dx, t, h1, h2⟩, kv, nv, out⟩ := h
    refine ⟨_, pss_cons (ps_if (pt_not (pt_val (pe_c cB hr pass0 (pa_cons (pv 1) (pa_cons pe_int (pa_cons (pe_op op_sub (pe_len B.len (pa_cons (pe_fld (pv 0) rfl) pa_nil)) pe_int) pa_nil))))))
      (pss_one (ps_raise rfl (takes_of rfl rfl rfl rfl) (pmk_x xN hr (pa_cons (pv 1) pa_nil)))) pss_nil) (pss_one (ps_ret (pe_ix ix_tup (pe_fld (pv 0) rfl) (pv 1) (fun _ _ => rfl)))), ?_⟩
    refine ⟨v, rfl, _, rfl, p, C, dx, _, _, rfl, h1, T.cl, T.nN, mapF_numbers _ _, t, ns, rfl, .inr h2, _, _, rfl, rfl, v, 0, (ns.length : Int) - 1, rfl, kv, _, rfl, ?_⟩
    rcases out with ⟨i, x, rfl, hx, q⟩ | ⟨e, q⟩
    · have lt := (List.getElem?_eq_some_iff.mp hx).1
      rw [show btw (.int (i : Nat)) 0 ((ns.length : Int) - 1) = true from decide_eq_true ⟨by omega, by omega⟩]
      exact iteF ⟨_, rfl, p, C, dx, _, _, rfl, h1, T.cl, T.nN, mapF_numbers _ _, _, rfl, t, ns, _, x, rfl, rfl, h2, atI_nat hx, q⟩
    · rw [e]
      exact iteT ⟨v, rfl, raise1 xN.T nN kv nv q⟩
end
/-- a dict comprehension over a walk -/
theorem dcS_it {X : Cx} {S : DSort X.prog X.w} {J : It} {n : Nat} {G : Hp → Prop} {Y : Nat → Hp → V → Hp → Prop} (w : Walk J n G Y) {g : TG} {tt : TT} {tk tv : TE} {vs : List Nat} {σ : St} {H1 : Hp} {D : Addr} {Qd : Hp → Prop} (Pv : Nat → Hp → Prop)
    (h0 : Pv 0 (upd H1 D (S.fresh D))) (hG : ∀ i H, i ≤ n → Pv i H → G H)
    (hs : ∀ i x H H', i < n → Pv i H → Y i H x H' → g x (wipe σ vs) H' fun σ2 H2 => wipe σ2 vs = wipe σ vs ∧ tt σ2 H2 fun b H3 => if b = true then tk σ2 H3 fun y H4 => tv σ2 H4 fun z H5 => ∃ H6, S.put H5 D y z H6 ∧ Pv (i + 1) H6 else Pv (i + 1) H3)
    (hd : ∀ H, Pv n H → Qd H) :
    ∃ W : Nat → Nat → Hp → Prop, (∃ m, W 0 m (upd H1 D (S.fresh D))) ∧ ∀ i m H, W i m H →
      (J.stop i H ∧ Qd H) ∨ (J.go i H ∧ ∃ N : Hp → Prop, (∀ H2, N H2 → ∃ m2, m2 < m ∧ W (i + 1) m2 H2) ∧ ∀ x H2, J.yld i H x H2 → g x (wipe σ vs) H2 fun σ3 H3 => wipe σ3 vs = wipe σ vs ∧ tt σ3 H3 fun b H4 =>
        if b = true then tk σ3 H4 fun y H5 => tv σ3 H5 fun z H6 => ∃ H7, S.put H6 D y z H7 ∧ N H7 else N H4) := by
  refine ⟨fun i m H => m = n - i ∧ i ≤ n ∧ Pv i H, ⟨n, rfl, Nat.zero_le _, h0⟩, ?_⟩
  rintro i m H ⟨rfl, hi, p⟩
  by_cases lt : i < n
  · exact .inr ⟨w.goes i H lt (hG i H hi p), Pv (i + 1), fun H2 p2 => ⟨n - (i + 1), by omega, rfl, lt, p2⟩, fun x H2 y => hs i x H H2 lt p (w.yields i H x H2 lt (hG i H hi p) y)⟩
  · obtain rfl : i = n := by omega
    exact .inl ⟨w.stops H (hG i H hi p), hd H p⟩
theorem op_notInP {X : Cx} (P : Program) (w : World) (hP : X.prog = P) (hw : X.w = w) : OpR X (compareOp .NotIn) (rNotInN P w) := by
  subst hP hw
  exact op_notInN
theorem small2000 {n : Nat} (h : n ≤ 2100) : n < sizeLine := Nat.lt_of_le_of_lt h (by decide)
def kOf : V → Option Key
  | .int i => some (.inl i)
  | _ => none
theorem okV_kOf {v : V} (h : Num v) : okV (kOf v) = v := by
  rcases h with rfl | ⟨i, rfl⟩ <;> rfl
theorem memO_put {ks : List (Option Key)} {k j : Option Key} : memO (putO ks k) j = true ↔ memO ks j = true ∨ j = k := by
  unfold putO
  by_cases c : memO ks k = true
  · rw [if_pos c]
    exact ⟨.inl, fun h => h.elim id fun e => e ▸ c⟩
  · rw [if_neg c, memO_iff, memO_iff, List.mem_append, List.mem_singleton]
theorem putO_len (ks : List (Option Key)) (k : Option Key) : (putO ks k).length ≤ ks.length + 1 := by
  unfold putO
  split
  · omega
  · rw [List.length_append, List.length_singleton]
    exact Nat.le_refl _
/-- the numbers below m that are not among ns -/
def freshL (m : Nat) (ns : List V) : List V := ((List.range m).filter fun k => decide (¬ V.int (k : Nat) ∈ ns)).map fun k => V.int (k : Nat)
theorem freshL_succ (m : Nat) (ns : List V) : freshL (m + 1) ns = freshL m ns ++ (if V.int (m : Nat) ∈ ns then [] else [V.int (m : Nat)]) := by
  unfold freshL
  rw [List.range_succ, List.filter_append, List.map_append]
  congr 1
  by_cases c : V.int (m : Nat) ∈ ns
  · rw [if_pos c, List.filter_cons, if_neg (by simpa using c)]
    rfl
  · rw [if_neg c, List.filter_cons, if_pos (by simpa using c)]
    rfl
theorem freshL_len (m : Nat) (ns : List V) : (freshL m ns).length ≤ m := by
  unfold freshL
  rw [List.length_map]
  exact Nat.le_trans (List.length_filter_le _ _) (by rw [List.length_range]; exact Nat.le_refl _)
theorem int_mem {ns : List V} (hn : ∀ v ∈ ns, Num v) (i : Int) : (some (.inl i) : Option Key) ∈ ns.map kOf ↔ V.int i ∈ ns := by
  rw [List.mem_map]
  constructor
  · rintro ⟨v, hv, e⟩
    rcases hn v hv with rfl | ⟨j, rfl⟩
    · cases e
    · have := Sum.inl.inj (Option.some.inj e)
      rw [← this]
      exact hv
  · exact fun h => ⟨_, h, rfl⟩
section
variable {P : Program} {w : World} {K : PySem.W.Frag} {mg : Str → Option Value} {base : Heap}
/-- map.fresh_numbers() -/
def spFresh (K : PySem.W.Frag) (C : Addr) : Sp := fun vs H Q _ => ∃ (p : Addr) (m : Nat) (ns : List V), vs = [.ref p] ∧ IsMap K C H p (m : Nat) ns ∧ m ≤ 2000 ∧ ns.length ≤ 2000 ∧ (∀ v ∈ ns, Num v) ∧
  ∀ l H', H l = none → Same H H' → H' l = some (.lst (freshL m ns)) → Q (.ref l) H'
theorem scFresh : FnScope ["self", "gone_to", "number"] ["self"] (defScope sFresh) := ⟨rfl, rfl, rfl, by decide +kernel, rfl, by decide +kernel, by decide +kernel⟩
theorem ok_fresh {f C : Addr} {fd : FuncData} (F : Fun K "fresh_numbers" "NumberMap.fresh_numbers" sFresh f fd) (B : Bi mg) (T : Txt K C) : FnOk P w K mg base CX0 1 f fd ["self"] (spFresh K C) := by
  refine F.ok scFresh (fun vs H Q E h => ?_) (fun cdv A outer s H vs Q E hr h => ?_)
  · obtain ⟨p, m, ns, rfl, _⟩ := h
    rfl
  · obtain ⟨p, m, ns, rfl, ⟨dx, t, h1, h2⟩, hm, hl, hn, q⟩ := h
    refine ⟨_, pss_cons (ps_set (i := 1) scFresh.nd rfl (Or.inr rfl) (pe_dcS (own := [("number", 2)]) (sortN _ _) rfl scFresh.nd (pi_sq (pe_fld (pv 0) rfl)) (blkOk_by (N := ["self", "gone_to", "number"]) (sc := defScope sFresh) (by decide +kernel))
        (fun _ _ _ _ _ => pg_name (i := 2) scFresh.nd rfl (Or.inl rfl)) (fun _ _ _ _ _ => pts_nil) (fun _ _ _ _ _ => pv 2) (fun _ _ _ _ _ => pe_bl)))
      (pss_one (ps_ret (pe_lc (own := [("number", 2)]) rfl scFresh.nd (pi_range1 rfl B.range (pa_cons (pe_fld (pv 0) rfl) pa_nil)) (blkOk_by (N := ["self", "gone_to", "number"]) (sc := defScope sFresh) (by decide +kernel))
        (fun _ _ _ _ _ => pg_name (i := 2) scFresh.nd rfl (Or.inl rfl)) (fun _ _ _ _ _ => pts_one (pt_cmpR (op_notInP P w rfl rfl) (pv 2) (pv 1) rfl)) (fun _ _ _ _ _ => pv 2)))), ?_⟩
    refine ⟨_, rfl, p, C, dx, _, _, rfl, h1, T.cl, T.nN, mapF_numbers _ _, t, ns, rfl, .inr h2, fun J G wk hG D nD => dcS_it wk
      (fun i H' => Same H H' ∧ ∃ ks, H' D = some (DKeys P w D ks) ∧ ks.length ≤ i ∧ ∀ k, memO ks k = true ↔ k ∈ (ns.take i).map kOf) ⟨same_new nD, [], upd_same, Nat.le_refl _, fun k => by simp [memO]⟩ (fun i H' _ z => hG H' z.1) ?_ ?_⟩
    · rintro i x H1 H2 hi ⟨e, ks, hD, lk, hk⟩ ⟨rfl, hx⟩
      have nx : Num x := hn x (List.mem_of_getElem? hx)
      refine ⟨rfl, ?_⟩
      unfold tYes
      refine iteT ?_
      refine ⟨x, rfl, upd H2 D (DKeys P w D (putO ks (kOf x))), ⟨ks, kOf x, (okV_kOf nx).symm, hD, small2000 (by omega), rfl⟩, ?_⟩
      refine ⟨fun b o z => ?_, putO ks (kOf x), upd_same, Nat.le_trans (putO_len _ _) (by omega), fun k => ?_⟩
      · have nb : b ≠ D := ne_of_none z nD
        rw [upd_ne nb]
        exact e _ _ z
      · rw [memO_put, hk k]
        have tk : ns.take (i + 1) = ns.take i ++ [x] := by
          obtain ⟨lt, eq⟩ := List.getElem?_eq_some_iff.mp hx
          rw [List.take_succ_eq_append_getElem lt, eq]
        rw [tk, List.map_append, List.mem_append]
        simp
    · rintro H1 ⟨e, ks, hD, lk, hk⟩
      rw [List.take_length] at hk
      refine ⟨_, rfl, p, C, dx, _, _, rfl, e _ _ h1, T.cl, T.nM, mapF_many _ _, (m : Nat), rfl, by omega, by omega, fun L nL => lc_range (n := ((m : Nat) : Int).toNat)
        (fun i H' => (∀ b o, H1 b = some o → H' b = some o) ∧ H' L = some (.lst (freshL i ns))) ⟨fun b o z => (same_new nL) b o z, upd_same⟩ ?_ ?_⟩
      · rintro i H2 hi ⟨e2, hL⟩
        rw [Int.zero_add]
        have lt : i < m := by simpa using hi
        refine ⟨rfl, _, rfl, _, rfl, some (.inl ((i : Nat) : Int)), D, ks, rfl, rfl, e2 _ _ hD, _, rfl, ?_⟩
        have ek : memO ks (some (.inl ((i : Nat) : Int))) = decide (V.int (i : Nat) ∈ ns) := by
          rw [Bool.eq_iff_iff, hk, int_mem hn]
          exact ⟨fun z => decide_eq_true z, fun z => of_decide_eq_true z⟩
        rw [ek]
        by_cases c : V.int (i : Nat) ∈ ns
        · rw [decide_eq_true c]
          refine iteF ?_
          refine ⟨e2, ?_⟩
          rw [freshL_succ, if_pos c, List.append_nil]
          exact hL
        · rw [decide_eq_false c]
          refine iteT ?_
          refine ⟨_, rfl, _, hL, small2000 (Nat.le_trans (freshL_len _ _) (by omega)), fun b o z => ?_, ?_⟩
          · have nb : b ≠ L := ne_of_none z nL
            rw [upd_ne nb]
            exact e2 _ _ z
          · rw [freshL_succ, if_neg c]
            exact upd_same
      · rintro H2 ⟨e2, hL⟩
        have em : ((m : Nat) : Int).toNat = m := by omega
        rw [em] at hL
        exact q L H2 (e.free nL) (fun b o z => e2 _ _ (e _ _ z)) hL
end
end K00
set_option Elab.async false
set_option linter.all false
set_option maxRecDepth 100001
set_option maxHeartbeats 3999999
namespace K00
open PySem L2
theorem num_kn {H : Hp} {v : V} (h : Num v) : Kn H v := by
  rcases h with rfl | ⟨i, rfl⟩
  · exact .non
  · exact .int i
/-- NumberMap(..) that goes well -/
theorem made_ok {K : PySem.W.Frag} {C CM CT CB : Addr} {H : Hp} {s : Addr} {ns : List V} {m : Int} {R : VK} (hs : Sq K H s ns) (num : ∀ v ∈ ns, Num v) (m0 : 0 ≤ m) (m1 : m ≤ 2000) (len : ns.length ≤ 2000) (sc : scan m 0 0 ns = none)
    (k : ∀ r H', Same H H' → H r = none → IsMap K C H' r m ns → R (.ref r) H') : ∀ x dx, H x = none → H dx = none → dx ≠ x → spInit K C CM CT CB (.ref x :: ([.int m, .ref s] ++ [])) (upd (upd H dx (.own x)) x (.ins C dx [])) (fun v H2 => v = .non ∧ R (.ref x) H2) E0 := by
  intro x dx nx nd ne
  have s0 : Same H (upd (upd H dx (.own x)) x (.ins C dx [])) := fun b o e => by
    rw [upd_ne (ne_of_none e nx), upd_ne (ne_of_none e nd)]
    exact e
  exact ⟨x, dx, s, .int m, ns, rfl, upd_same, hs.same s0, fun v hv => num_kn (num v hv), .int m, (fun _ z => nomatch z), .inr ⟨m, rfl, m0, m1, .inr (.inr ⟨len, sc, fun t H' kp h1 h2 => ⟨rfl, k x H' (Same.made (C := C) nx nd fun b o z nb => kp b o nb z) nx ⟨dx, t, h1, h2⟩⟩⟩)⟩⟩
section
variable {X : Cx} (K : PySem.W.Frag)
theorem pe_fldK (hK : X.K = K) {e : Expr} {ta : TE} {f : Str} {pos : Pos} (he : PE X e ta) (hb : attributeBase e f X.env (eval e X.env) = eval e X.env := by rfl) : PE X (.Attribute e f pos) (tFld K ta f) := by
  subst hK
  exact pe_fld he hb
theorem ix_tupK (hK : X.K = K) : IxR X (rIxT K) := by
  subst hK
  exact ix_tup
theorem ix_listK (hK : X.K = K) : IxR X (rIxL K) := by
  subst hK
  exact ix_list
end
/-- the one map, then the other -/
def compF (ms : List V) : V → V
  | .int j => ms.getD j.toNat .non
  | _ => .non
section
variable {P : Program} {w : World} {K : PySem.W.Frag} {mg : Str → Option Value} {base : Heap}
/-- one.followed_by(other) -/
def spFoll (K : PySem.W.Frag) (C CO : Addr) : Sp := fun vs H Q E => ∃ (p q : Addr) (m m2 : Int) (ns ms : List V), vs = [.ref p, .ref q] ∧ IsMap K C H p m ns ∧ IsMap K C H q m2 ms ∧
  ((¬ (ms.length : Int) = m ∧ ∀ H', Same H H' → E (.ref CO) none H') ∨
    ((ms.length : Int) = m ∧ (∀ v ∈ ns, v = .non ∨ ∃ j : Nat, v = .int (j : Nat) ∧ j < ms.length) ∧ (∀ v ∈ ms, Num v) ∧ 0 ≤ m2 ∧ m2 ≤ 2000 ∧ ns.length ≤ 2000 ∧ scan m2 0 0 (ns.map (compF ms)) = none ∧
      ∀ r H', Same H H' → H r = none → IsMap K C H' r m2 (ns.map (compF ms)) → Q (.ref r) H'))
theorem scFoll : FnScope ["self", "other", "behind", "number"] ["self", "other"] (defScope sFoll) := ⟨rfl, rfl, rfl, by decide +kernel, rfl, by decide +kernel, by decide +kernel⟩
theorem ok_foll {f C CO CM CT CB : Addr} {fd : FuncData} (F : Fun K "followed_by" "NumberMap.followed_by" sFoll f fd) (B : Bi mg) (T : Txt K C) (mk : Mak (L2.CX P w) P w K mg base 4 "NumberMap" C (spInit K C CM CT CB))
    (xO : Xc P w K mg base 1 "OtherMap" CO spX0) : FnOk P w K mg base (L2.CX P w) 6 f fd ["self", "other"] (spFoll K C CO) := by
  refine F.okX scFoll (fun vs H Q E h => ?_) (fun cdv A outer s H vs Q E hr h => ?_)
  · obtain ⟨p, q, m, m2, ns, ms, rfl, _⟩ := h
    rfl
  · obtain ⟨p, q, m, m2, ns, ms, rfl, ⟨dx, t, h1, h2⟩, ⟨dy, u, g1, g2⟩, out⟩ := h
    refine ⟨_, pss_cons (ps_if (pt_cmpR op_ne (pe_len B.len (pa_cons (pe_fld (pv 1) rfl) pa_nil)) (pe_fld (pv 0) rfl) (nomark _)) (pss_one (ps_raise rfl (takes_of rfl rfl rfl rfl) (pmk_x0 xO hr))) pss_nil)
      (pss_cons (ps_setLc (i := 2) (own := [("number", 3)]) rfl scFoll.nd rfl rfl (sw_true rfl rfl rfl (by decide +kernel)) (pi_sq (pe_fld (pv 0) rfl)) (blkOk_by (N := ["self", "other", "behind", "number"]) (sc := defScope sFoll) (by decide +kernel))
        (fun _ _ _ _ _ => pg_name (i := 3) scFoll.nd rfl (Or.inl rfl)) (fun _ _ _ _ _ => pts_nil) (fun _ _ _ _ _ => pe_ifExp (pt_cmpR op_isN (pv 3) pe_non (nomark _)) pe_non (pe_ix (ix_tupK K rfl) (pe_fldK K rfl (pv 1)) (pv 3) (fun _ _ => rfl))))
      (pss_one (ps_ret (pe_mk mk hr passL (pa_cons (pe_fld (pv 1) rfl) (pa_cons (pv 2) pa_nil)))))), ?_⟩
    refine ⟨_, rfl, q, C, dy, _, _, rfl, g1, T.cl, T.nN, mapF_numbers _ _, u, ms, rfl, .inr g2, _, rfl, p, C, dx, _, _, rfl, h1, T.cl, T.nM, mapF_many _ _, rfl, _, rfl, ?_⟩
    rw [dec_int]
    rcases out with ⟨n1, out⟩ | ⟨e1, nn, nm, m0, m1, len, sc, out⟩
    · rw [show ((ms.length : Int) == m) = false by simpa using n1]
      exact iteT (raise0 (K := K) out)
    · rw [show ((ms.length : Int) == m) = true by simpa using e1]
      refine iteF ⟨_, rfl, p, C, dx, _, _, rfl, h1, T.cl, T.nN, mapF_numbers _ _, t, ns, rfl, .inr h2, fun J G wk hG L nL => lc_it wk
        (fun i H' => Same H H' ∧ H' L = some (.lst ((ns.take i).map (compF ms)))) ⟨same_new nL, upd_same⟩ (fun i H' _ z => hG H' z.1) ?_ ?_⟩
      · rintro i x H1 H2 hi ⟨e, hL⟩ ⟨rfl, hx⟩
        refine ⟨rfl, ?_⟩
        unfold tYes
        refine iteT ?_
        have tk : ns.take (i + 1) = ns.take i ++ [x] := by
          obtain ⟨lt, eq⟩ := List.getElem?_eq_some_iff.mp hx
          rw [List.take_succ_eq_append_getElem lt, eq]
        have fin : ∀ y, y = compF ms x → ∃ acc, H2 L = some (.lst acc) ∧ acc.length < sizeLine ∧ Same H (upd H2 L (.lst (acc ++ [y]))) ∧ upd H2 L (.lst (acc ++ [y])) L = some (.lst ((ns.take (i + 1)).map (compF ms))) := fun y ey => by
          refine ⟨_, hL, small2000 (by rw [List.length_map, List.length_take]; omega), fun b o z => ?_, ?_⟩
          · rw [upd_ne (ne_of_none z nL)]
            exact e _ _ z
          · rw [upd_same, tk, List.map_append, ey]
            rfl
        refine ⟨x, rfl, rfl, _, rfl, ?_⟩
        rcases nn x (List.mem_of_getElem? hx) with rfl | ⟨j, rfl, hj⟩
        · refine ite2 (fun _ => fin _ rfl) fun c => absurd (by decide) c
        · refine ite2 (fun c => absurd c (by simp)) fun _ => ?_
          have hv : ms[j]? = some (compF ms (.int (j : Nat))) := by
            show ms[j]? = some (ms.getD ((j : Nat) : Int).toNat .non)
            rw [Int.toNat_natCast, List.getD_eq_getElem?_getD, List.getElem?_eq_getElem hj]
            rfl
          exact ⟨_, rfl, q, C, dy, _, _, rfl, e _ _ g1, T.cl, T.nN, mapF_numbers _ _, _, rfl, u, ms, _, _, rfl, rfl, Same.seqT e g2, atI_nat hv, fin _ rfl⟩
      · rintro H2 ⟨e, hL⟩
        rw [List.take_length] at hL
        refine ⟨_, rfl, q, C, dy, _, _, rfl, e _ _ g1, T.cl, T.nM, mapF_many _ _, _, rfl, ?_⟩
        refine made_ok (.inl (SqL.of hL)) (fun v hv => ?_) m0 m1 (by rw [List.length_map]; exact len) sc fun r H3 e3 nr M => out r H3 (e.trans e3) (e.free nr) M
        obtain ⟨x, hx, rfl⟩ := List.mem_map.mp hv
        rcases nn x hx with rfl | ⟨j, rfl, hj⟩
        · exact .inl rfl
        · show Num (ms.getD ((j : Nat) : Int).toNat .non)
          rw [Int.toNat_natCast, List.getD_eq_getElem?_getD, List.getElem?_eq_getElem hj]
          exact nm _ (List.getElem_mem hj)
end
end K00
set_option Elab.async false
set_option linter.all false
set_option maxRecDepth 100001
set_option maxHeartbeats 3999999
namespace K00
open PySem L2
/-! ### ranges -/
/-- a pair's content -/
def pairOf (H : Hp) : V → Option (V × V)
  | .ref a => match H a with
    | some (.tup [x, y]) => some (x, y)
    | _ => none
  | _ => none
theorem pairOf_tup {H : Hp} {a : Addr} {x y : V} (e : H a = some (.tup [x, y])) : pairOf H (.ref a) = some (x, y) := by simp only [pairOf, e]
/-- the first one of ranges of the numbers below n that does not stand as it must -/
def rwrong (H : Hp) (n : Int) : Int → Nat → List V → Option Nat
  | _, _, [] => none
  | least, i, v :: r => match pairOf H v with
    | some (x, y) => match x with
      | .int f => if least ≤ f ∧ f ≤ n - 1 then (match y with
          | .int l => if f ≤ l ∧ l ≤ n - 1 then rwrong H n (l + 2) (i + 1) r else some i
          | _ => some i) else some i
      | _ => some i
    | none => some i
theorem rwrong_ok {H : Hp} {n least f l : Int} {i : Nat} {v : V} {r : List V} (e : pairOf H v = some (.int f, .int l)) (h1 : btw (.int f) least (n - 1) = true) (h2 : btw (.int l) f (n - 1) = true) : rwrong H n least i (v :: r) = rwrong H n (l + 2) (i + 1) r := by
  simp only [rwrong, e]
  rw [if_pos (of_decide_eq_true h1), if_pos (of_decide_eq_true h2)]
theorem rwrong_none {H : Hp} {n least : Int} {i : Nat} {v : V} {r : List V} (e : pairOf H v = none) : rwrong H n least i (v :: r) = some i := by simp only [rwrong, e]
theorem rwrong_1 {H : Hp} {n least : Int} {i : Nat} {v x y : V} {r : List V} (e : pairOf H v = some (x, y)) (h1 : btw x least (n - 1) = false) : rwrong H n least i (v :: r) = some i := by
  simp only [rwrong, e]
  cases x with
  | int f => simp only; rw [if_neg (of_decide_eq_false h1)]
  | _ => rfl
theorem rwrong_2 {H : Hp} {n least f : Int} {i : Nat} {v y : V} {r : List V} (e : pairOf H v = some (.int f, y)) (h1 : btw (.int f) least (n - 1) = true) (h2 : btw y f (n - 1) = false) : rwrong H n least i (v :: r) = some i := by
  simp only [rwrong, e]
  rw [if_pos (of_decide_eq_true h1)]
  cases y with
  | int l => simp only; rw [if_neg (of_decide_eq_false h2)]
  | _ => rfl
/-- a known value, its items known, too -/
structure Kp (H : Hp) (v : V) : Prop where
  kn : Kn H v
  items : ∀ a xs, v = .ref a → H a = some (.tup xs) → ∀ x ∈ xs, Kn H x
def oI : Option Nat → V
  | none => .non
  | some i => .int (i : Nat)
def spFWR (K : PySem.W.Frag) : Sp := fun vs H Q _ => ∃ s n ps, vs = [.ref s, .int n] ∧ Sq K H s ps ∧ (∀ v ∈ ps, Kp H v) ∧ ∀ H', Same H H' → Q (oI (rwrong H n 0 0 ps)) H'
section
variable {P : Program} {w : World} {K : PySem.W.Frag} {mg : Str → Option Value} {base : Heap}
theorem scFWR : FnScope ["ranges", "many", "least", "index", "pair", "first", "last"] ["ranges", "many"] (defScope sFWR) := ⟨rfl, rfl, rfl, by decide +kernel, rfl, by decide +kernel, by decide +kernel⟩
theorem kp_pair {H : Hp} {v : V} (k : Kp H v) : (isTn H v 2 = false ∧ pairOf H v = none) ∨ (isTn H v 2 = true ∧ ∃ a x y, v = .ref a ∧ H a = some (.tup [x, y]) ∧ pairOf H v = some (x, y) ∧ Kn H x ∧ Kn H y) := by
  cases hk : k.kn with
  | @tup a xs e =>
    match xs, e with
    | [x, y], e => exact .inr ⟨by simp [isTn, e], a, x, y, rfl, e, pairOf_tup e, k.items a _ rfl e x (by simp), k.items a _ rfl e y (by simp)⟩
    | [], e => exact .inl ⟨by simp [isTn, e], by simp [pairOf, e]⟩
    | [x], e => exact .inl ⟨by simp [isTn, e], by simp [pairOf, e]⟩
    | x :: y :: z :: r, e => exact .inl ⟨by simp [isTn, e]; omega, by simp [pairOf, e]⟩
  | lst e => exact .inl ⟨by simp [isTn, e], by simp [pairOf, e]⟩
  | _ => exact .inl ⟨rfl, rfl⟩
theorem kp_same {H H' : Hp} {v : V} (e : Same H H') (k : Kp H v) : isTn H' v 2 = isTn H v 2 := by
  cases k.kn with
  | tup h => simp [isTn, h, e _ _ h]
  | lst h => simp [isTn, h, e _ _ h]
  | _ => rfl
theorem ok_fwr {f : Addr} {fd : FuncData} (F : Fun K "first_wrong_range" "first_wrong_range" sFWR f fd) (B : Bi mg) (cT : Cal CX0 P w K mg base 1 "is_tuple_of" spTupOf) (cB : Cal CX0 P w K mg base 2 "is_between" spBetween) : FnOk P w K mg base CX0 3 f fd ["ranges", "many"] (spFWR K) := by
  refine F.ok scFWR (fun vs H Q E h => ?_) (fun cdv A outer s H vs Q E hr h => ?_)
  · obtain ⟨s, n, ps, rfl, _⟩ := h
    rfl
  · obtain ⟨s0, n, ps, rfl, hs, kp, q⟩ := h
    refine ⟨_, pss_cons (ps_set (i := 2) scFWR.nd rfl (Or.inl rfl) pe_int) (pss_cons (ps_for PassesOwn.never rfl (pi_en B.enum (pa_cons (pv 0) pa_nil)) (pg_tup rfl (pgs_cons (pg_name (i := 3) scFWR.nd rfl (.inl rfl)) (pgs_cons (pg_name (i := 4) scFWR.nd rfl (.inl rfl)) pgs_nil)))
        (pss_cons (ps_if (pt_not (pt_val (pe_c cT hr pass0 (pa_cons (pv 4) (pa_cons pe_int pa_nil))))) (pss_one (ps_ret (pv 3))) pss_nil)
        (pss_cons (ps_asg (pv 4) (pg_tup rfl (pgs_cons (pg_name (i := 5) scFWR.nd rfl (.inl rfl)) (pgs_cons (pg_name (i := 6) scFWR.nd rfl (.inl rfl)) pgs_nil))))
        (pss_cons (ps_if (PW.pt (pw_or (pt_not (pt_val (pe_c cB hr pass0 (pa_cons (pv 5) (pa_cons (pv 2) (pa_cons (pe_op op_sub (pv 1) pe_int) pa_nil)))))) (pw_or1 (pt_not (pt_val (pe_c cB hr pass0 (pa_cons (pv 6) (pa_cons (pv 5) (pa_cons (pe_op op_sub (pv 1) pe_int) pa_nil))))))))) (pss_one (ps_ret (pv 3))) pss_nil)
        (pss_one (ps_set (i := 2) scFWR.nd rfl (Or.inl rfl) (pe_op op_add (pv 6) pe_int)))))))
      (pss_one (ps_ret pe_non))), ?_⟩
    refine ⟨_, rfl, s0, ps, rfl, hs, fun J G wk hG => for_it wk (fun i σ H' => ∃ (least : Int) (a b c d : Option V), σ = [some (.ref s0), some (.int n), some (.int least), a, b, c, d] ∧ Same H H' ∧ rwrong H n least i (ps.drop i) = rwrong H n 0 0 ps) ⟨0, none, none, none, none, rfl, Same.refl H, rfl⟩
      (fun i σ H' _ ⟨_, _, _, _, _, _, e, _⟩ => hG H' e) ?_ ?_⟩
    · rintro i x σ H1 H2 hi ⟨least, a, b, c, d, rfl, e, sc⟩ ⟨T0, y, v, rfl, nT0, rfl, ey, hv⟩
      have ey : y = .int (i : Nat) := (Option.some.inj ey).symm
      subst ey
      have e2 : Same H (upd H1 T0 (.tup [.int (i : Nat), v])) := e.trans (same_new nT0)
      have kv : Kp H v := kp v (List.mem_of_getElem? hv)
      have dr : ps.drop i = v :: ps.drop (i + 1) := by
        obtain ⟨lt, eq⟩ := List.getElem?_eq_some_iff.mp hv
        rw [List.drop_eq_getElem_cons lt, eq]
      rw [dr] at sc
      have stop : rwrong H n least i (v :: ps.drop (i + 1)) = some i → Q (.int (i : Nat)) (upd H1 T0 (.tup [.int (i : Nat), v])) := fun z => by
        have q2 := q _ e2
        rw [← sc, z] at q2
        exact q2
      refine ⟨T0, _, rfl, SqT.of upd_same, rfl, _, _, rfl, _, _, rfl, rfl, ?_⟩
      refine ⟨v, rfl, v, 2, rfl, kv.kn.same e2, _, rfl, ?_⟩
      rw [kp_same e2 kv]
      rcases kp_pair kv with ⟨p1, p2⟩ | ⟨p1, a0, x, y, rfl, ha, p2, kx, ky⟩
      · rw [p1]
        exact iteT ⟨_, rfl, stop (rwrong_none p2)⟩
      rw [p1]
      refine iteF ⟨_, rfl, a0, [x, y], rfl, SqT.of (e2 _ _ ha), rfl, _, _, rfl, _, _, rfl, rfl, ?_⟩
      refine ⟨x, rfl, _, rfl, _, rfl, _, _, rfl, rfl, x, least, n - 1, rfl, kx.same e2, _, rfl, ?_⟩
      cases e3 : btw x least (n - 1) with
      | false => exact iteT (iteT ⟨_, rfl, stop (rwrong_1 p2 e3)⟩)
      | true =>
        obtain ⟨f0, rfl⟩ := btw_int e3
        refine iteF ⟨y, rfl, _, rfl, _, rfl, _, _, rfl, rfl, y, f0, n - 1, rfl, ky.same e2, _, rfl, ?_⟩
        cases e4 : btw y f0 (n - 1) with
        | false => exact iteT ⟨_, rfl, stop (rwrong_2 p2 e3 e4)⟩
        | true =>
          obtain ⟨l0, rfl⟩ := btw_int e4
          refine iteF ⟨_, rfl, _, _, rfl, rfl, l0 + 2, _, _, _, _, rfl, e2, ?_⟩
          rw [← sc, rwrong_ok p2 e3 e4]
    · rintro σ H1 ⟨least, a, b, c, d, rfl, e, sc⟩
      rw [List.drop_length] at sc
      have q2 := q _ e
      rw [← sc] at q2
      exact q2
end
end K00
set_option Elab.async false
set_option linter.all false
set_option maxRecDepth 100001
set_option maxHeartbeats 3999999
namespace K00
open PySem L2
/-! ### ranges of ascending numbers -/
def rstep (acc : List (Int × Int)) (n : Int) : List (Int × Int) := match acc.getLast? with
  | some p => if p.2 = n - 1 then acc.dropLast ++ [(p.1, n)] else acc ++ [(n, n)]
  | none => acc ++ [(n, n)]
def rngs (is : List Int) : List (Int × Int) := is.foldl rstep []
theorem rstep_nil (n : Int) : rstep [] n = [(n, n)] := rfl
theorem rstep_join (acc : List (Int × Int)) (p : Int × Int) (n : Int) (h : p.2 = n - 1) : rstep (acc ++ [p]) n = acc ++ [(p.1, n)] := by
  unfold rstep
  rw [List.getLast?_concat]
  show (if p.2 = n - 1 then (acc ++ [p]).dropLast ++ [(p.1, n)] else _) = _
  rw [if_pos h, List.dropLast_concat]
theorem rstep_new (acc : List (Int × Int)) (p : Int × Int) (n : Int) (h : ¬ p.2 = n - 1) : rstep (acc ++ [p]) n = acc ++ [p] ++ [(n, n)] := by
  unfold rstep
  rw [List.getLast?_concat]
  show (if p.2 = n - 1 then _ else _) = _
  rw [if_neg h]
theorem rngs_snoc (is : List Int) (n : Int) : rngs (is ++ [n]) = rstep (rngs is) n := by
  unfold rngs
  rw [List.foldl_append]
  rfl
theorem rstep_len (acc : List (Int × Int)) (n : Int) : (rstep acc n).length ≤ acc.length + 1 := by
  rcases List.eq_nil_or_concat acc with rfl | ⟨l, p, rfl⟩
  · exact Nat.le_refl _
  · rw [List.concat_eq_append]
    by_cases h : p.2 = n - 1
    · rw [rstep_join l p n h]
      simp
    · rw [rstep_new l p n h]
      simp
theorem fold_len : ∀ (is : List Int) (acc : List (Int × Int)), (is.foldl rstep acc).length ≤ acc.length + is.length
  | [], acc => Nat.le_refl _
  | n :: is, acc => by
    have h1 := fold_len is (rstep acc n)
    have h2 := rstep_len acc n
    show (is.foldl rstep (rstep acc n)).length ≤ acc.length + (is.length + 1)
    omega
theorem rngs_len (is : List Int) : (rngs is).length ≤ is.length := Nat.le_trans (fold_len is []) (by simp)
/-- pairs of ints in the heap -/
def PrAt (H : Hp) : List V → List (Int × Int) → Prop := Paired fun v p => ∃ a, v = .ref a ∧ H a = some (.tup [.int p.1, .int p.2])
theorem PrAt.same {H H' : Hp} {ts : List V} {prs : List (Int × Int)} (h : PrAt H ts prs) (e : Same H H') : PrAt H' ts prs := Paired.mapP h fun _ _ ⟨a, h1, h2⟩ => ⟨a, h1, e _ _ h2⟩
theorem PrAt.put {H : Hp} {L : Addr} {xs ys : List V} {ts : List V} {prs : List (Int × Int)} (h : PrAt H ts prs) (hL : H L = some (.lst xs)) : PrAt (upd H L (.lst ys)) ts prs :=
  Paired.mapP h fun _ _ ⟨a, h1, h2⟩ => ⟨a, h1, (upd_ne (ne_of h2 hL (fun z => by cases z))).trans h2⟩
theorem paired_last {α β : Type} {F : α → β → Prop} : ∀ {ts : List α} {ps : List β} {p : β}, Paired F ts (ps ++ [p]) → ∃ us v, ts = us ++ [v] ∧ Paired F us ps ∧ F v p
  | _, [], _, .cons h .nil => ⟨[], _, rfl, .nil, h⟩
  | _, _ :: _, _, .cons h t =>
    let ⟨us, v, e, q1, q2⟩ := paired_last t
    ⟨_ :: us, v, by rw [e]; rfl, .cons h q1, q2⟩
section
variable {X : Cx} {tg e : Expr}
/-- a list or a tuple, item by item; it stays where its own object does -/
def iSqA (K : PySem.W.Frag) (te : TE) : TI := fun σ H R => te σ H fun x H1 => ∃ a xs, x = .ref a ∧ Sq K H1 a xs ∧ ∀ (J : It) (G : Hp → Prop), Walk J xs.length G (YAt xs) → (∀ H', (∀ o, H1 a = some o → H' a = some o) → G H') → R J H1
theorem sqL_at {K : PySem.W.Frag} {H H' : Hp} {a : Addr} {xs : List V} (h : SqL K H a xs) (e : ∀ o, H a = some o → H' a = some o) : SqL K H' a xs := by
  rcases h with (h | ⟨o, h⟩) | h
  · exact .inl (.inl (e _ h))
  · exact .inl (.inr ⟨o, e _ h⟩)
  · exact .inr h
theorem sqT_at {K : PySem.W.Frag} {H H' : Hp} {a : Addr} {xs : List V} (h : SqT K H a xs) (e : ∀ o, H a = some o → H' a = some o) : SqT K H' a xs := by
  rcases h with (h | ⟨o, h⟩) | h
  · exact .inl (.inl (e _ h))
  · exact .inl (.inr ⟨o, e _ h⟩)
  · exact .inr h
open PySem.Spec PyProof.Rows in
theorem pi_sqA {te : TE} (he : PE X e te) : PI X tg e (iSqA X.K te) := by
  constructor
  intro pins s σ H R I h
  refine thn (he.run pins s σ H _ I h) fun u s1 hh => ?_
  obtain ⟨v, H1, I1, r1, a, xs, ev, sq, k⟩ := hh
  subst ev
  cases r1
  have near : ∀ b ∈ [s1.heap.objs.size], FpOk X pins H1 b := fun b hb => by
    rw [List.mem_singleton.mp hb]
    exact I1.fpOk (Nat.le_refl _) (I1.hok.fresh (Nat.le_refl _))
  have J1 : ∀ o : Obj, Inv X pins σ H1 { s1 with heap := s1.heap.push o } := fun o => I1.kept (t' := s1.toks) fun b u z => Heap.get?_push_of_some _ z
  rcases sq with hq | hq
  · obtain ⟨its, rv, p1, hz⟩ := I1.list hq
    exact wpAny_pyIter_list p1.isList ⟨s1.heap.objs.size, _, _, _, H1, rfl, J1 _, turn_list a _, ⟨_, Heap.get?_push_size _ rfl, rfl, rfl⟩, near, k _ _ walk_list fun H' z => sqL_at hq z⟩
  · obtain ⟨its, rv, p2, hz⟩ := I1.tuple hq
    exact wpAny_pyIter_tuple (show s1.heap.IsTuple a its.toArray from p2) ⟨s1.heap.objs.size, _, _, _, H1, rfl, J1 _, turn_tuple a _, ⟨_, Heap.get?_push_size _ rfl, rfl, rfl⟩, near, k _ _ walk_tup fun H' z => sqT_at hq z⟩
end
/-- ranges_of(numbers) -/
def spRngs : Sp := fun vs H Q _ => ∃ (s : Addr) (is : List Int), vs = [.ref s] ∧ H s = some (.lst (is.map V.int)) ∧ is.length ≤ 10000 ∧ ∀ l H' ts, H l = none → Same H H' → H' l = some (.lst ts) → PrAt H' ts (rngs is) → Q (.ref l) H'
section
variable {P : Program} {w : World} {K : PySem.W.Frag} {mg : Str → Option Value} {base : Heap}
theorem small10 {n : Nat} (h : n ≤ 10000) : n < sizeLine := Nat.lt_of_le_of_lt h (by decide)
theorem scRanges : FnScope ["numbers", "ranges", "number"] ["numbers"] (defScope sRanges) := ⟨rfl, rfl, rfl, by decide +kernel, rfl, by decide +kernel, by decide +kernel⟩
theorem ok_ranges {f : Addr} {fd : FuncData} (F : Fun K "ranges_of" "ranges_of" sRanges f fd) : FnOk P w K mg base CX0 1 f fd ["numbers"] spRngs := by
  refine F.ok scRanges (fun vs H Q E h => ?_) (fun cdv A outer s H vs Q E hr h => ?_)
  · obtain ⟨s, is, rfl, _⟩ := h
    rfl
  · obtain ⟨s0, is, rfl, hs, len, q⟩ := h
    refine ⟨_, pss_cons (ps_set (i := 1) scRanges.nd rfl (Or.inl rfl) (pe_lst pa_nil)) (pss_cons (ps_for PassesOwn.never rfl (pi_sqA (pv 0)) (pg_name (i := 2) scRanges.nd rfl (.inl rfl))
        (pss_one (ps_if (PW.pt (pw_and (pt_truth (pv 1) (by intro _; rfl)) (pw_and1 (pt_cmpR op_eq (pe_ix ix_tup (pe_ix ix_list (pv 1) (pe_un un_neg pe_int) (fun _ _ => rfl)) pe_int (fun _ _ => rfl)) (pe_op op_sub (pv 2) pe_int) (nomark _)))))
          (pss_one (ps_asg (pe_tup (pa_cons (pe_ix ix_tup (pe_ix ix_list (pv 1) (pe_un un_neg pe_int) (fun _ _ => rfl)) pe_int (fun _ _ => rfl)) (pa_cons (pv 2) pa_nil))) (pg_sub (pv 1) (pe_un un_neg pe_int) set_list)))
          (pss_one (ps_expr (pe_bm PySem.F.plainAttrs_list PySem.F.slot_list_append PySem.F.type_list_append mt_append (pv 1) (pa_cons (pe_tup (pa_cons (pv 2) (pa_cons (pv 2) pa_nil))) pa_nil)))))))
      (pss_one (ps_ret (pv 1)))), ?_⟩
    refine ⟨Nat.zero_le _, fun L nL => ?_⟩
    have ns0 : s0 ≠ L := ne_of_none hs nL
    refine ⟨_, rfl, s0, is.map V.int, rfl, .inl (SqL.of ((upd_ne ns0).trans hs)), fun J G wk hG => for_it wk (fun i σ H' => ∃ (a : Option V) (ts : List V), σ = [some (.ref s0), some (.ref L), a] ∧ Same H H' ∧ H' L = some (.lst ts) ∧ PrAt H' ts (rngs (is.take i)))
      ⟨none, [], rfl, same_new nL, upd_same, .nil⟩ (fun i σ H' _ ⟨_, _, _, e, _⟩ => hG H' fun o z => e _ _ (by rw [upd_ne ns0] at z; exact z)) ?_ ?_⟩
    · rintro i x σ H1 H2 hi ⟨a, ts, rfl, e, hL, pr⟩ ⟨rfl, hx⟩
      obtain ⟨n, hn, rfl⟩ : ∃ n, is[i]? = some n ∧ x = V.int n := by
        rw [List.getElem?_map] at hx
        cases q2 : is[i]? with
        | none => rw [q2] at hx; cases hx
        | some n => rw [q2] at hx; exact ⟨n, rfl, (Option.some.inj hx).symm⟩
      have tk : is.take (i + 1) = is.take i ++ [n] := by
        obtain ⟨lt, eq⟩ := List.getElem?_eq_some_iff.mp hn
        rw [List.take_succ_eq_append_getElem lt, eq]
      have lts : ts.length ≤ 10000 := by
        rw [Paired.length pr]
        exact Nat.le_trans (rngs_len _) (by rw [List.length_take]; omega)
      have fin : ∀ (t : Addr) (p : Int × Int) (us : List V) (ps : List (Int × Int)) (ts2 : List V), H2 t = none → PrAt H2 us ps → ts2 = us ++ [V.ref t] → rngs (is.take (i + 1)) = ps ++ [p] →
          (∃ (a : Option V) (ts : List V), [some (V.ref s0), some (.ref L), some (V.int n)] = [some (V.ref s0), some (.ref L), a] ∧ Same H (upd (upd H2 t (.tup [.int p.1, .int p.2])) L (.lst ts2)) ∧
            upd (upd H2 t (.tup [.int p.1, .int p.2])) L (.lst ts2) L = some (.lst ts) ∧ PrAt (upd (upd H2 t (.tup [.int p.1, .int p.2])) L (.lst ts2)) ts (rngs (is.take (i + 1)))) := by
        intro t p us ps ts2 nt pu et er
        have ntL : t ≠ L := Ne.symm (ne_of_none hL nt)
        refine ⟨_, ts2, rfl, fun b o z => ?_, upd_same, ?_⟩
        · rw [upd_ne (ne_of_none z nL), upd_ne (ne_of_none (e _ _ z) nt)]
          exact e _ _ z
        · rw [et, er]
          refine Paired.snoc ?_ ⟨t, rfl, (upd_ne ntL).trans upd_same⟩
          have h1 : upd H2 t (.tup [.int p.1, .int p.2]) L = some (.lst ts) := (upd_ne (Ne.symm ntL)).trans hL
          exact (pu.same (same_new nt)).put h1
      rcases List.eq_nil_or_concat (rngs (is.take i)) with en | ⟨ps, p, en⟩
      · rw [en] at pr
        cases pr
        refine ⟨_, rfl, false, .inl ⟨[], SqL.of hL, rfl⟩, ?_⟩
        refine iteF ?_
        refine iteF ⟨_, rfl, .inl ⟨rfl, _, SqL.of hL⟩, _, rfl, _, rfl, by show 2 ≤ sizeLine; decide, fun t nt => ⟨L, [], _, rfl, rfl, (upd_ne (ne_of_none hL nt)).trans hL, by show 0 < sizeLine; decide, ?_⟩⟩
        refine fin t (n, n) [] [] _ nt .nil rfl ?_
        rw [tk, rngs_snoc, en]
        rfl
      · rw [List.concat_eq_append] at en
        rw [en] at pr
        obtain ⟨us, v, rfl, pu, a0, rfl, ha0⟩ := paired_last pr
        refine ⟨_, rfl, true, .inl ⟨us ++ [V.ref a0], SqL.of hL, by cases us <;> rfl⟩, ?_⟩
        refine iteT ?_
        have two : atI [V.int p.1, V.int p.2] 1 = some (V.int p.2) := rfl
        have one : atI [V.int p.1, V.int p.2] 0 = some (V.int p.1) := rfl
        refine ⟨_, rfl, _, rfl, L, _, _, _, rfl, rfl, SqL.of hL, atI_last us (V.ref a0), a0, _, _, _, rfl, rfl, SqT.of ha0, two, _, rfl, _, _, rfl, rfl, rfl, _, rfl, ?_⟩
        refine ite2 (fun c => ?_) fun c => ?_
        · have c2 : p.2 = n - 1 := by simpa using c
          refine ⟨_, rfl, _, rfl, L, _, _, _, rfl, rfl, SqL.of hL, atI_last us (V.ref a0), a0, _, _, _, rfl, rfl, SqT.of ha0, one, _, rfl, by show 2 ≤ sizeLine; decide, fun t nt => ?_⟩
          refine ⟨_, rfl, _, rfl, L, _, _, us.length, rfl, rfl, (upd_ne (ne_of_none hL nt)).trans hL, (by simp [ixN]; omega), ?_⟩
          refine fin t (p.1, n) us ps _ nt pu ?_ ?_
          · rw [List.set_append_right _ _ (Nat.le_refl _), Nat.sub_self]
            rfl
          · rw [tk, rngs_snoc, en, rstep_join ps p n c2]
        · have c2 : ¬ p.2 = n - 1 := by simpa using c
          refine ⟨_, rfl, .inl ⟨rfl, _, SqL.of hL⟩, _, rfl, _, rfl, by show 2 ≤ sizeLine; decide, fun t nt => ⟨L, _, _, rfl, rfl, (upd_ne (ne_of_none hL nt)).trans hL, small10 lts, ?_⟩⟩
          refine fin t (n, n) (us ++ [V.ref a0]) (ps ++ [p]) _ nt pr rfl ?_
          rw [tk, rngs_snoc, en, rstep_new ps p n c2]
    · rintro σ H1 ⟨a, ts, rfl, e, hL, pr⟩
      rw [List.length_map, List.take_length] at pr
      exact ⟨_, rfl, q L H1 ts nL e hL pr⟩
end
end K00
set_option Elab.async false
set_option linter.all false
set_option maxRecDepth 100001
set_option maxHeartbeats 3999999
namespace K00
open PySem L2
/-- ranges as they must stand -/
def okR (n : Int) : Int → List (Int × Int) → Prop
  | _, [] => True
  | least, p :: r => least ≤ p.1 ∧ p.1 ≤ n - 1 ∧ p.1 ≤ p.2 ∧ p.2 ≤ n - 1 ∧ okR n (p.2 + 2) r
theorem rwrong_okR {H : Hp} {n : Int} : ∀ {ts : List V} {prs : List (Int × Int)} (least : Int) (i : Nat), PrAt H ts prs → okR n least prs → rwrong H n least i ts = none
  | _, _, _, _, .nil, _ => rfl
  | _, _, least, i, .cons ⟨a, e, h⟩ t, ⟨h1, h2, h3, h4, h5⟩ => by
    subst e
    rw [rwrong_ok (pairOf_tup h) (decide_eq_true ⟨h1, h2⟩) (decide_eq_true ⟨h3, h4⟩)]
    exact rwrong_okR _ _ t h5
/-- rwrong of good ranges and then a bad one -/
theorem rwrong_app {H : Hp} {n : Int} {v : V} : ∀ {ts : List V} {prs : List (Int × Int)} (least : Int) (i : Nat), PrAt H ts prs → okR n least prs → (∀ l j, (prs = [] → l = least) → (∀ p, prs.getLast? = some p → l = p.2 + 2) → rwrong H n l j [v] = some j) → rwrong H n least i (ts ++ [v]) = some (i + ts.length)
  | _, _, least, i, .nil, _, k => k least i (fun _ => rfl) (fun p z => by cases z)
  | _, _ :: prs, least, i, .cons (a := v0) (b := p0) (l₁ := ts) ⟨a, e, h⟩ t, ⟨h1, h2, h3, h4, h5⟩, k => by
    subst e
    rw [List.cons_append, rwrong_ok (pairOf_tup h) (decide_eq_true ⟨h1, h2⟩) (decide_eq_true ⟨h3, h4⟩)]
    rw [rwrong_app _ _ t h5 fun l j e1 e2 => k l j (fun z => by cases z) fun p z => ?_]
    · rw [List.length_cons]
      congr 1
      omega
    · cases prs with
      | nil =>
        cases z
        exact e1 rfl
      | cons q r => exact e2 p (by rw [List.getLast?_cons_cons] at z; exact z)
theorem prAt_kp {H : Hp} : ∀ {ts : List V} {prs : List (Int × Int)}, PrAt H ts prs → ∀ v ∈ ts, Kp H v
  | _, _, .cons ⟨a, e, h⟩ t, v, m => by
    rcases List.mem_cons.mp m with rfl | m
    · subst e
      refine ⟨.tup h, fun b xs eb hb x hx => ?_⟩
      cases eb
      rw [h] at hb
      cases hb
      rcases List.mem_cons.mp hx with rfl | hx
      · exact .int _
      · rw [List.mem_singleton.mp hx]
        exact .int _
    · exact prAt_kp t v m
/-- the ints of ns from f to l -/
def intsOf : List V → List Int
  | [] => []
  | .int i :: r => i :: intsOf r
  | _ :: r => intsOf r
def cutR (ns : List V) (p : Int × Int) : List V := (ns.drop p.1.toNat).take (p.2 + 1 - p.1).toNat
theorem intsOf_map (ns : List V) (h : ∀ v ∈ ns, Num v) : (intsOf ns).map V.int = ns.filter fun v => !decide (v = .non) := by
  induction ns with
  | nil => rfl
  | cons v r ih =>
    have ih := ih fun x hx => h x (List.mem_cons_of_mem _ hx)
    rcases h v List.mem_cons_self with rfl | ⟨i, rfl⟩
    · exact ih
    · show V.int i :: (intsOf r).map V.int = _
      rw [ih]
      rfl
theorem intsOf_append : ∀ a b : List V, intsOf (a ++ b) = intsOf a ++ intsOf b
  | [], _ => rfl
  | v :: a, b => by
    have ih := intsOf_append a b
    rw [List.cons_append]
    cases v <;> simp only [intsOf, ih, List.cons_append]
theorem intsOf_len (ns : List V) : (intsOf ns).length ≤ ns.length := by
  induction ns with
  | nil => exact Nat.le_refl _
  | cons v r ih => cases v <;> simp only [intsOf, List.length_cons] <;> omega
/-- the numbers behind ranges -/
def behR (ns : List V) (prs : List (Int × Int)) : List Int := (prs.map fun p => intsOf (cutR ns p)).flatten
theorem behR_snoc (ns : List V) (prs : List (Int × Int)) (p : Int × Int) : behR ns (prs ++ [p]) = behR ns prs ++ intsOf (cutR ns p) := by
  unfold behR
  rw [List.map_append, List.flatten_append]
  simp
theorem behR_len {ns : List V} : ∀ {prs : List (Int × Int)}, (behR ns prs).length ≤ prs.length * ns.length
  | [] => by simp [behR]
  | p :: r => by
    have ih := behR_len (ns := ns) (prs := r)
    have h1 : (intsOf (cutR ns p)).length ≤ ns.length := Nat.le_trans (intsOf_len _) (by unfold cutR; rw [List.length_take, List.length_drop]; omega)
    have e : behR ns (p :: r) = intsOf (cutR ns p) ++ behR ns r := rfl
    rw [e, List.length_append, List.length_cons, Nat.succ_mul]
    omega
theorem sl_both {K : PySem.W.Frag} {H : Hp} {a : Addr} {xs : List V} {lo hi : Option Int} {Q : VK} (h : SqT K H a xs) (k : ∀ t H3, Same H H3 → SqT K H3 t (cutV xs lo hi) → Q (.ref t) H3) : rSlA K (.ref a) lo hi H Q := by
  refine ⟨a, xs, rfl, h, fun ⟨c1, c2⟩ => k a H (Same.refl H) ?_, fun _ p np => k p _ (same_new np) (SqT.of upd_same)⟩
  have e : cutV xs lo hi = xs := by
    unfold cutV
    rw [c1, c2, List.drop_zero, Nat.sub_zero, List.take_length]
  rw [e]
  exact h
theorem cut_eq (ns : List V) (p : Int × Int) (h1 : 0 ≤ p.1) (h2 : p.1 ≤ p.2) (h3 : p.2 ≤ (ns.length : Int) - 1) : cutV ns (some p.1) (some (p.2 + 1)) = cutR ns p := by
  obtain ⟨f, l⟩ := p
  simp only at h1 h2 h3
  obtain ⟨f, rfl⟩ := Int.eq_ofNat_of_zero_le h1
  obtain ⟨l, rfl⟩ := Int.eq_ofNat_of_zero_le (Int.le_trans h1 h2)
  unfold cutV cutR
  have e : ((l : Int) + 1) = ((l + 1 : Nat) : Int) := by omega
  rw [e, HT.sIx_nat, HT.sIx_nat]
  simp only [Int.toNat_natCast]
  congr 1
  · omega
  · congr 1
    omega
theorem okR_at {n : Int} : ∀ {prs : List (Int × Int)} {least : Int} {i : Nat} {p : Int × Int}, 0 ≤ least → okR n least prs → prs[i]? = some p → 0 ≤ p.1 ∧ p.1 ≤ p.2 ∧ p.2 ≤ n - 1
  | [], _, i, _, _, _, h => by simp at h
  | q :: r, least, 0, p, h0, ⟨h1, _, h3, h4, _⟩, h => by
    cases h
    exact ⟨Int.le_trans h0 h1, h3, h4⟩
  | q :: r, least, i + 1, p, h0, ⟨h1, _, h3, h4, h5⟩, h => okR_at (by omega) h5 (by simpa using h)
theorem paired_at {α β : Type} {F : α → β → Prop} : ∀ {ts : List α} {ps : List β} {i : Nat} {v : α}, Paired F ts ps → ts[i]? = some v → ∃ p, ps[i]? = some p ∧ F v p
  | _, _, _, _, .nil, h => by simp at h
  | _, _, 0, _, .cons h _, e => by cases e; exact ⟨_, rfl, h⟩
  | _, _, i + 1, v, .cons _ t, e => paired_at (i := i) t (by simpa using e)
/-- map.ranges_behind(ranges) -/
def spRanB (K : PySem.W.Frag) (C CB : Addr) : Sp := fun vs H Q E => ∃ (p s : Addr) (m : Int) (ns ps : List V), vs = [.ref p, .ref s] ∧ IsMap K C H p m ns ∧ (∀ v ∈ ns, Num v) ∧ ns.length ≤ 50 ∧ (∃ o, H s = some o) ∧ Sq K H s ps ∧ (∀ v ∈ ps, Kp H v) ∧
  ((∃ i, rwrong H ns.length 0 0 ps = some i ∧ ∀ d H', Rsd H H' d [("index", .int (i : Nat))] → E (.ref CB) (some d) H') ∨
    (∃ prs, PrAt H ps prs ∧ okR ns.length 0 prs ∧ prs.length ≤ 50 ∧ ∀ l H' ts, H l = none → Same H H' → H' l = some (.lst ts) → PrAt H' ts (rngs (behR ns prs)) → Q (.ref l) H'))
section
variable {P : Program} {w : World} {K : PySem.W.Frag} {mg : Str → Option Value} {base : Heap}
theorem scRanB : FnScope ["self", "ranges", "wrong", "behind", "first", "last", "number"] ["self", "ranges"] (defScope sRanB) := ⟨rfl, rfl, rfl, by decide +kernel, rfl, by decide +kernel, by decide +kernel⟩
theorem ok_ranB {f C CB : Addr} {fd : FuncData} (F : Fun K "ranges_behind" "NumberMap.ranges_behind" sRanB f fd) (B : Bi mg) (T : Txt K C) (cF : Cal CX0 P w K mg base 3 "first_wrong_range" (spFWR K)) (cR : Cal CX0 P w K mg base 1 "ranges_of" spRngs)
    (xB : Xc P w K mg base 2 "BadRange" CB (spX1 K "index")) (nB : PySem.W.findIn K (.ref CB) "index" = some none) : FnOk P w K mg base (L2.CX P w) 4 f fd ["self", "ranges"] (spRanB K C CB) := by
  refine F.okX scRanB (fun vs H Q E h => ?_) (fun cdv A outer s H vs Q E hr h => ?_)
  · obtain ⟨p, s, m, ns, ps, rfl, _⟩ := h
    rfl
  · obtain ⟨p, s0, m, ns, ps, rfl, ⟨dx, t, h1, h2⟩, nn, ln, ⟨o0, hs0⟩, hs, kp, out⟩ := h
    refine ⟨_, pss_cons (ps_set (i := 2) scRanB.nd rfl (Or.inl rfl) (pe_c cF hr pass0 (pa_cons (pv 1) (pa_cons (pe_len B.len (pa_cons (pe_fld (pv 0) rfl) pa_nil)) pa_nil))))
      (pss_cons (ps_if (pt_cmpR op_notN (pv 2) pe_non (nomark _)) (pss_one (ps_raise rfl (takes_of rfl rfl rfl rfl) (pmk_x xB hr (pa_cons (pv 2) pa_nil)))) pss_nil)
      (pss_cons (ps_set (i := 3) scRanB.nd rfl (Or.inl rfl) (pe_lst pa_nil))
      (pss_cons (ps_for (passes_of rfl) rfl (pi_sqA (pv 1)) (pg_tup rfl (pgs_cons (pg_name (i := 4) scRanB.nd rfl (.inl rfl)) (pgs_cons (pg_name (i := 5) scRanB.nd rfl (.inl rfl)) pgs_nil)))
          (pss_one (ps_expr (pe_bm PySem.F.plainAttrs_list PySem.F.slot_list_extend PySem.F.type_list_extend mt_extend (pv 3) (pa_cons
            (pe_lc (own := [("number", 6)]) rfl scRanB.nd (pi_sq (pe_slice sl_tupA (pe_fld (pv 0) rfl) (po_some (pv 4)) (po_some (pe_op op_add (pv 5) pe_int)))) (blkOk_by (N := ["self", "ranges", "wrong", "behind", "first", "last", "number"]) (sc := defScope sRanB) (by decide +kernel))
              (fun _ _ _ _ _ => pg_name (i := 6) scRanB.nd rfl (Or.inl rfl)) (fun _ _ _ _ _ => pts_one (pt_cmpR op_notN (pv 6) pe_non (nomark _))) (fun _ _ _ _ _ => pv 6)) pa_nil)))))
      (pss_one (ps_ret (pe_c cR hr pass0 (pa_cons (pv 3) pa_nil))))))), ?_⟩
    refine ⟨_, rfl, _, rfl, p, C, dx, _, _, rfl, h1, T.cl, T.nN, mapF_numbers _ _, t, ns, rfl, .inr h2, s0, ns.length, ps, rfl, hs, kp, fun H1 e1 => ?_⟩
    refine ⟨_, rfl, rfl, _, rfl, ?_⟩
    rcases out with ⟨i, hw, out⟩ | ⟨prs, pr, okr, lp, out⟩
    · rw [hw]
      refine ite2 (fun _ => ?_) fun c => absurd rfl c
      exact ⟨_, rfl, raise1 xB.T nB (.int _) (fun _ z => nomatch z) fun d H' r => out d H' ⟨e1.free r.new, e1.trans r.same, r.at_⟩⟩
    rw [rwrong_okR 0 0 pr okr]
    refine ite2 (fun c => absurd c (by decide)) fun _ => ?_
    refine ⟨Nat.zero_le _, fun L nL => ?_⟩
    have e0 : Same H (upd H1 L (.lst [])) := e1.trans (same_new nL)
    have ns0 : s0 ≠ L := ne_of_none (e1 _ _ hs0) nL
    refine ⟨_, rfl, s0, ps, rfl, hs.same e0, fun J G wk hG => for_it wk (fun i σ H' => ∃ (a b : Option V), σ = [some (.ref p), some (.ref s0), some .non, some (.ref L), a, b, none] ∧ Same H H' ∧ H' L = some (.lst ((behR ns (prs.take i)).map V.int)))
      ⟨none, none, rfl, e0, upd_same⟩ (fun i σ H' _ ⟨_, _, _, e, _⟩ => hG H' fun o z => ?_) ?_ ?_⟩
    · rw [upd_ne ns0, e1 _ _ hs0] at z
      rw [← z]
      exact e _ _ hs0
    · rintro i x σ H2 H3 hi ⟨a, b, rfl, e, hL⟩ ⟨rfl, hx⟩
      obtain ⟨pq, hp, a0, rfl, ha0⟩ := paired_at pr hx
      obtain ⟨q1, q2, q3⟩ := okR_at (Int.le_refl 0) okr hp
      have tk : prs.take (i + 1) = prs.take i ++ [pq] := by
        obtain ⟨lt, eq⟩ := List.getElem?_eq_some_iff.mp hp
        rw [List.take_succ_eq_append_getElem lt, eq]
      refine ⟨a0, _, rfl, SqT.of (e _ _ ha0), rfl, _, _, rfl, _, _, rfl, rfl, ?_⟩
      refine ⟨_, rfl, .inl ⟨rfl, _, SqL.of hL⟩, _, rfl, p, C, dx, _, _, rfl, e _ _ h1, T.cl, T.nN, mapF_numbers _ _, _, rfl, _, rfl, _, rfl, _, _, rfl, rfl, _, rfl, ?_⟩
      refine sl_both (Same.seqT e h2) fun tt H4 e4 ht => ?_
      rw [cut_eq ns pq q1 q2 q3] at ht
      refine ⟨tt, cutR ns pq, rfl, .inr ht, fun J2 G2 wk2 hG2 D nD => lc_it wk2 (fun j H' => (∀ b o, H4 b = some o → H' b = some o) ∧ H' D = some (.lst ((intsOf ((cutR ns pq).take j)).map V.int))) ⟨same_new nD, upd_same⟩ (fun j H' _ z => hG2 H' z.1) ?_ ?_⟩
      · rintro j x H5 H6 hj ⟨e5, hD⟩ ⟨rfl, hx⟩
        have tj : (cutR ns pq).take (j + 1) = (cutR ns pq).take j ++ [x] := by
          obtain ⟨lt, eq⟩ := List.getElem?_eq_some_iff.mp hx
          rw [List.take_succ_eq_append_getElem lt, eq]
        have nx : Num x := nn x (List.mem_of_mem_drop (List.mem_of_mem_take (List.mem_of_getElem? hx)))
        have sz : (intsOf ((cutR ns pq).take j)).length ≤ 2100 := Nat.le_trans (intsOf_len _) (by unfold cutR; simp only [List.length_take, List.length_drop]; omega)
        refine ⟨rfl, x, rfl, rfl, _, rfl, ?_⟩
        rcases nx with rfl | ⟨n, rfl⟩
        · refine ite2 (fun c => absurd c (by decide)) fun _ => ⟨e5, ?_⟩
          rw [tj, intsOf_append, show intsOf [V.non] = [] from rfl, List.append_nil]
          exact hD
        · refine ite2 (fun _ => ?_) fun c => absurd (by simp) c
          refine ⟨_, rfl, _, hD, by rw [List.length_map]; exact small2000 sz, fun b o z => ?_, ?_⟩
          · rw [upd_ne (ne_of_none z nD)]
            exact e5 _ _ z
          · rw [upd_same, tj, intsOf_append, List.map_append]
            rfl
      · rintro H5 ⟨e5, hD⟩
        rw [List.take_length] at hD
        have hL5 : H5 L = some (.lst ((behR ns (prs.take i)).map V.int)) := e5 _ _ (e4 _ _ hL)
        have sz1 : (behR ns (prs.take i)).length ≤ 2500 := Nat.le_trans behR_len (Nat.le_trans (Nat.mul_le_mul (show (prs.take i).length ≤ 50 by rw [List.length_take]; omega) ln) (by decide))
        have sz2 : (intsOf (cutR ns pq)).length ≤ 50 := Nat.le_trans (intsOf_len _) (by unfold cutR; simp only [List.length_take, List.length_drop]; omega)
        refine ⟨L, D, _, _, rfl, rfl, hL5, hD, ?_, ?_⟩
        · rw [List.length_map, List.length_map]
          exact Nat.le_of_lt (small10 (by omega))
        · refine ⟨_, _, rfl, fun b o z => ?_, ?_⟩
          · have nb : b ≠ L := ne_of_none (e1 _ _ z) nL
            rw [upd_ne nb]
            exact e5 _ _ (e4 _ _ (e _ _ z))
          · rw [upd_same, tk, behR_snoc, List.map_append]
    · rintro σ H2 ⟨a, b, rfl, e, hL⟩
      rw [Paired.length pr, List.take_length] at hL
      exact ⟨_, rfl, L, _, rfl, hL, Nat.le_trans behR_len (Nat.le_trans (Nat.mul_le_mul lp ln) (by decide)), fun l H' ts nl e5 hl pt => out l H' ts (e.free nl) (e.trans e5) hl pt⟩
end
end K00
set_option Elab.async false
set_option linter.all false
set_option maxRecDepth 100001
set_option maxHeartbeats 3999999
namespace K00
open PySem L2
abbrev sPen : Stmt := topS 19
abbrev sDraw : Stmt := topS 20
abbrev sPick : Stmt := topS 21
abbrev sPlan : Stmt := topS 22
/-! ### the law's pen -/
def penK (cl : Addr) (k left : Int) : List (Key × V) := [(.inr "cells", .ref cl), (.inr "opened", .int k), (.inr "left", .int left)]
theorem valV_eq {k : Key} {v : V} {r : List (Key × V)} : valV ((k, v) :: r) k = some v := by
  unfold valV
  rw [List.find?_cons_of_pos (by simp)]
  rfl
theorem valV_ne {k j : Key} {v : V} {r : List (Key × V)} (h : ¬ j = k) : valV ((j, v) :: r) k = valV r k := by
  unfold valV
  rw [List.find?_cons_of_neg (by simpa using h)]
theorem k12 : ¬ (Sum.inr ("cells" : Str) : Key) = Sum.inr ("opened" : Str) := by decide +kernel
theorem k13 : ¬ (Sum.inr ("cells" : Str) : Key) = Sum.inr ("left" : Str) := by decide +kernel
theorem k23 : ¬ (Sum.inr ("opened" : Str) : Key) = Sum.inr ("left" : Str) := by decide +kernel
theorem k32 : ¬ (Sum.inr ("left" : Str) : Key) = Sum.inr ("opened" : Str) := by decide +kernel
theorem pen_cells (cl : Addr) (k l : Int) : valV (penK cl k l) (.inr "cells") = some (.ref cl) := valV_eq
theorem pen_opened (cl : Addr) (k l : Int) : valV (penK cl k l) (.inr "opened") = some (.int k) := (valV_ne k12).trans valV_eq
theorem pen_left (cl : Addr) (k l : Int) : valV (penK cl k l) (.inr "left") = some (.int l) := (valV_ne k13).trans ((valV_ne k23).trans valV_eq)
theorem put_opened (cl : Addr) (k l j : Int) : putK (penK cl k l) (.inr "opened") (.int j) = penK cl j l := by
  unfold putK penK
  rw [if_pos (by simp)]
  simp only [List.map_cons, List.map_nil, k12, k32, if_false, if_true]
theorem put_left (cl : Addr) (k l j : Int) : putK (penK cl k l) (.inr "left") (.int j) = penK cl k j := by
  unfold putK penK
  rw [if_pos (by simp)]
  simp only [List.map_cons, List.map_nil, k13, k23, if_false, if_true]
/-- at pn: the pen, at most b cells opened -/
def Pen (H : Hp) (pn cl : Addr) (b : Nat) : Prop := ∃ (k : Nat) (l : Int) (cs : List Int), H pn = some (.dK (penK cl (k : Nat) l)) ∧ H cl = some (.lst (cs.map V.int)) ∧ k ≤ b ∧ cs.length ≤ 63
/-- all but what is at pn is as it was -/
def But (pn : Addr) (H H' : Hp) : Prop := ∀ b o, b ≠ pn → H b = some o → H' b = some o
theorem But.refl {pn : Addr} {H : Hp} : But pn H H := fun _ _ _ h => h
theorem But.trans {pn : Addr} {H H1 H2 : Hp} (a : But pn H H1) (b : But pn H1 H2) : But pn H H2 := fun c o n h => b c o n (a c o n h)
def spDraw : Sp := fun vs H Q _ => ∃ (pn cl : Addr) (m : Int) (b : Nat), vs = [.ref pn, .int m] ∧ Pen H pn cl b ∧ b ≤ 1000000 ∧ 0 < m ∧ m < 1073741824 ∧ ∀ (r : Int) H', 0 ≤ r → r < m → But pn H H' → Pen H' pn cl (b + 1) → Q (.int r) H'
def spPen (K : PySem.W.Frag) : Sp := fun vs H Q _ => ∃ (a : Addr) (ns : List Int), vs = [.ref a] ∧ SqL K H a (ns.map V.int) ∧ ∀ pn cl H', H pn = none → H cl = none → Same H H' → Pen H' pn cl 0 → Q (.ref pn) H'
section
variable {P : Program} {w : World} {K : PySem.W.Frag} {mg : Str → Option Value} {base : Heap}
theorem scPen : FnScope ["_law_script"] ["_law_script"] (defScope sPen) := ⟨rfl, rfl, rfl, by decide +kernel, rfl, by decide +kernel, by decide +kernel⟩
theorem ok_pen {f : Addr} {fd : FuncData} (F : Fun K "_law_pen" "_law_pen" sPen f fd) (B : Bi mg) : FnOk P w K mg base CX0 1 f fd ["_law_script"] (spPen K) := by
  refine F.ok scPen (fun vs H Q E h => ?_) (fun cdv A outer s H vs Q E hr h => ?_)
  · obtain ⟨a, ns, rfl, _⟩ := h
    rfl
  · obtain ⟨a, ns, rfl, hs, q⟩ := h
    refine ⟨_, pss_one (ps_ret (pe_disp (pps_cons pe_str (pe_callTy call_list_of rfl B.list (by decide +kernel) (pa_cons (pe_slice sl_list (pv 0) po_none (po_some pe_int)) pa_nil)) (pps_cons pe_str pe_int (pps_cons pe_str pe_int pps_nil))) rfl rfl (by simp) (by decide))), ?_⟩
    intro p np
    have hs2 := (same_new (o := .dK []) np).seq hs
    refine ⟨_, rfl, 63, rfl, a, _, rfl, hs2, fun c nc => ⟨c, _, rfl, .inl (SqL.of upd_same), fun l nl => ?_⟩⟩
    have npl : p ≠ l := ne_of_none ((upd_ne (ne_of_none upd_same nc)).trans upd_same) nl
    have npc : p ≠ c := ne_of_none upd_same nc
    have ec : cutV (ns.map V.int) none (some 63) = (ns.take 63).map V.int := by
      unfold cutV
      rw [show ((63 : Int)) = ((63 : Nat) : Int) from rfl, HT.sIx_nat, HT.sIx_none, List.drop_zero, Nat.sub_zero, List.length_map, ← List.map_take]
      congr 1
      by_cases c : 63 ≤ ns.length
      · rw [Nat.min_eq_left c]
      · rw [Nat.min_eq_right (by omega), List.take_of_length_le (Nat.le_refl _), List.take_of_length_le (by omega)]
    refine ⟨(upd_ne npl).trans ((upd_ne npc).trans upd_same), [(.inr "cells", .ref l), (.inr "opened", .int 0), (.inr "left", .int 0)], rfl, (by show 3 ≤ 15; decide), ?_⟩
    have em : mergeK [] [((.inr ("cells" : Str) : Key), V.ref l), (.inr ("opened" : Str), .int 0), (.inr ("left" : Str), .int 0)] = penK l ((0 : Nat) : Int) 0 := by
      unfold mergeK penK
      simp only [List.foldl_cons, List.foldl_nil]
      have h1 : valV ([(.inr ("cells" : Str), V.ref l)] : List (Key × V)) (.inr ("opened" : Str)) = none := (valV_ne k12).trans rfl
      have h2 : valV ([(.inr ("cells" : Str), V.ref l), (.inr ("opened" : Str), V.int 0)] : List (Key × V)) (.inr ("left" : Str)) = none := (valV_ne k13).trans ((valV_ne k23).trans rfl)
      rw [show putK ([] : List (Key × V)) (.inr ("cells" : Str)) (.ref l) = [(.inr ("cells" : Str), .ref l)] from rfl, putK_new _ h1]
      simp only [List.cons_append, List.nil_append]
      rw [putK_new _ h2]
      rfl
    rw [em]
    have nl0 : H l = none := by
      cases z : H l with
      | none => rfl
      | some o =>
        have z1 : upd H p (.dK []) l = some o := (upd_ne (ne_of_none z np)).trans z
        rw [(upd_ne (ne_of_none z1 nc)).trans z1] at nl
        cases nl
    refine q p l _ np nl0 (fun b o z => ?_) ⟨0, 0, ns.take 63, upd_same, ?_, Nat.le_refl _, by rw [List.length_take]; omega⟩
    · have nb : b ≠ p := ne_of_none z np
      have z1 : upd H p (.dK []) b = some o := (upd_ne nb).trans z
      have nc2 : b ≠ c := ne_of_none z1 nc
      have z2 : upd (upd H p (.dK [])) c (.lst (cutV (ns.map V.int) none (some 63))) b = some o := (upd_ne nc2).trans z1
      rw [upd_ne nb, upd_ne (ne_of_none z2 nl)]
      exact z2
    · rw [upd_ne (Ne.symm npl), upd_same, ec]
theorem getL {H : Hp} {pn cl : Addr} {k l : Int} (hp : H pn = some (.dK (penK cl k l))) : DGet H pn (.str "left") (some (.int l)) := by
  have z := DGet.k (k := .inr ("left" : Str)) hp
  rw [pen_left] at z
  exact z
theorem getO {H : Hp} {pn cl : Addr} {k l : Int} (hp : H pn = some (.dK (penK cl k l))) : DGet H pn (.str "opened") (some (.int k)) := by
  have z := DGet.k (k := .inr ("opened" : Str)) hp
  rw [pen_opened] at z
  exact z
theorem getC {H : Hp} {pn cl : Addr} {k l : Int} (hp : H pn = some (.dK (penK cl k l))) : DGet H pn (.str "cells") (some (.ref cl)) := by
  have z := DGet.k (k := .inr ("cells" : Str)) hp
  rw [pen_cells] at z
  exact z
theorem putL {H : Hp} {pn cl : Addr} {k l : Int} (j : Int) (hp : H pn = some (.dK (penK cl k l))) : DPut H pn (.str "left") (.int j) (upd H pn (.dK (penK cl k j))) := by
  have z := DPut.k (k := .inr ("left" : Str)) (v := .int j) hp (by show 3 < sizeLine; decide)
  rw [put_left] at z
  exact z
theorem putO' {H : Hp} {pn cl : Addr} {k l : Int} (j : Int) (hp : H pn = some (.dK (penK cl k l))) : DPut H pn (.str "opened") (.int j) (upd H pn (.dK (penK cl j l))) := by
  have z := DPut.k (k := .inr ("opened" : Str)) (v := .int j) hp (by show 3 < sizeLine; decide)
  rw [put_opened] at z
  exact z
theorem scDraw : FnScope ["_law_pen_here", "_law_many", "_law_digit", "_law_k", "_law_told_cells", "_law_cell", "_law_mix"] ["_law_pen_here", "_law_many"] (defScope sDraw) := ⟨rfl, rfl, rfl, by decide +kernel, rfl, by decide +kernel, by decide +kernel⟩
theorem mix_lt (x : Int) {m : Int} (h : 0 < m) : 0 ≤ x % m ∧ x % m < m := ⟨Int.emod_nonneg _ (by omega), Int.emod_lt_of_pos _ h⟩
section
variable {X : Cx}
theorem pe_int1 {a : Expr} {es : List Expr} {t : TA} {p pos : Pos} (hm : X.mg "int" = none) (ha : PA X (a :: es) t) (hg : Gl X "int" := by rfl) (he : starEach (a :: es) X.env = (false, eval a X.env) :: starEach es X.env := by rfl)
    (hpl : (backTo pos (starEach es X.env)).any (·.1) = false := by rfl) : PE X (.Call (.Name "int" p) (a :: es) [] pos) (tCB (fun xs H Q => (∃ i, xs = [.int i] ∧ Q (.int i) H) ∨ ∃ k, xs = [.bl k] ∧ Q (.int (if k then 1 else 0)) H) t) :=
  pe_callTy call_int1 hg hm (by decide +kernel) ha (he := he) (hpl := hpl)
theorem pe_abs {a : Expr} {es : List Expr} {t : TA} {p pos : Pos} (hm : X.mg "abs" = none) (ha : PA X (a :: es) t) (hg : Gl X "abs" := by rfl) (he : starEach (a :: es) X.env = (false, eval a X.env) :: starEach es X.env := by rfl)
    (hpl : (backTo pos (starEach es X.env)).any (·.1) = false := by rfl) : PE X (.Call (.Name "abs" p) (a :: es) [] pos) (tCB (fun xs H Q => ∃ i, xs = [.int i] ∧ Q (.int (if i < 0 then -i else i)) H) t) :=
  pe_callB call_abs hg hm (by decide +kernel) ha (he := he) (hpl := hpl)
end
theorem ok_draw {f : Addr} {fd : FuncData} (F : Fun K "_law_draw" "_law_draw" sDraw f fd) (B : Bi mg) : FnOk P w K mg base CX0 1 f fd ["_law_pen_here", "_law_many"] spDraw := by
  refine F.ok scDraw (fun vs H Q E h => ?_) (fun cdv A outer s H vs Q E hr h => ?_)
  · obtain ⟨pn, cl, m, b, rfl, _⟩ := h
    rfl
  · obtain ⟨pn, cl, m, b, rfl, ⟨k, l, cs, hp, hc, hk, lc⟩, hb, m0, m1, q⟩ := h
    refine ⟨_, pss_cons (ps_if (pt_cmpR op_gt (pe_dget (hu_of hr) (pv 0) pe_str (fun _ _ => rfl)) pe_int (nomark _))
        (pss_cons (ps_set (i := 2) scDraw.nd rfl (Or.inl rfl) (pe_op op_mod (pe_int1 B.int (pa_cons (pe_dget (hu_of hr) (pv 0) pe_str (fun _ _ => rfl)) pa_nil)) (pv 1)))
        (pss_cons (ps_dput (hu_of hr) (pv 0) pe_str (pe_op op_fdiv (pe_dget (hu_of hr) (pv 0) pe_str (fun _ _ => rfl)) (pv 1)) rfl) (pss_one (ps_ret (pv 2))))) pss_nil)
      (pss_cons (ps_par (i := 3) (j := 4) rfl scDraw.nd rfl rfl (by decide) rfl rfl (pa_cons (pe_dget (hu_of hr) (pv 0) pe_str (fun _ _ => rfl)) (pa_cons (pe_dget (hu_of hr) (pv 0) pe_str (fun _ _ => rfl)) pa_nil)) rfl)
      (pss_cons (ps_dput (hu_of hr) (pv 0) pe_str (pe_op op_add (pv 3) pe_int) rfl)
      (pss_cons (ps_if (pt_cmpR (op_eqN (hu64 hr)) (pv 4) (pe_lst pa_nil) (nomark _)) (pss_one (ps_ret (pe_op op_mod (pe_int1 B.int (pa_cons (pe_op op_add (pe_op op_mul pe_int (pv 3)) pe_int) pa_nil)) (pv 1)))) pss_nil)
      (pss_cons (ps_set (i := 5) scDraw.nd rfl (Or.inl rfl) (pe_ix ix_list (pv 4) (pe_op op_mod (pe_int1 B.int (pa_cons (pv 3) pa_nil)) (pe_len B.len (pa_cons (pv 4) pa_nil))) (fun _ _ => rfl)))
      (pss_cons (ps_if (PW.pt (pw_and (pt_cmpR op_lt (pv 3) (pe_len B.len (pa_cons (pv 4) pa_nil)) (nomark _)) (pw_and1 (pt_cmpR op_ge (pe_abs B.abs (pa_cons (pv 5) pa_nil)) (pe_op op_pow pe_int pe_int) (nomark _)))))
        (pss_cons (ps_dput (hu_of hr) (pv 0) pe_str (pe_op op_fdiv (pe_op op_sub (pe_abs B.abs (pa_cons (pv 5) pa_nil)) (pe_op op_pow pe_int pe_int)) (pv 1)) rfl)
        (pss_one (ps_ret (pe_op op_mod (pe_int1 B.int (pa_cons (pe_op op_sub (pe_abs B.abs (pa_cons (pv 5) pa_nil)) (pe_op op_pow pe_int pe_int)) pa_nil)) (pv 1))))) pss_nil)
      (pss_cons (ps_set (i := 6) scDraw.nd rfl (Or.inl rfl) (pe_op op_mod (pe_int1 B.int (pa_cons (pe_op op_add (pe_op op_add (pe_op op_add (pe_op op_mul (pe_op op_mod (pe_int1 B.int (pa_cons (pv 5) pa_nil)) pe_int) pe_int) (pe_op op_mul (pe_op op_mul pe_int (pv 3)) (pv 3))) (pe_op op_mul pe_int (pv 3))) pe_int) pa_nil)) pe_int))
      (pss_cons (ps_set (i := 6) scDraw.nd rfl (Or.inl rfl) (pe_op op_mod (pe_int1 B.int (pa_cons (pe_op op_add (pe_op op_add (pe_op op_mul (pv 6) (pv 6)) (pe_op op_mul pe_int (pv 6))) (pe_op op_mul pe_int (pv 3))) pa_nil)) pe_int))
      (pss_one (ps_ret (pe_op op_mod (pe_int1 B.int (pa_cons (pe_op op_fdiv (pe_op op_mod (pe_int1 B.int (pa_cons (pe_op op_mul (pv 6) (pe_op op_add (pv 6) pe_int)) pa_nil)) pe_int) pe_int) pa_nil)) (pv 1))))))))))), ?_⟩
    have ncp : cl ≠ pn := ne_of hc hp (fun z => by cases z)
    refine ⟨_, rfl, pn, _, rfl, getL hp, _, _, rfl, rfl, _, rfl, ?_⟩
    refine ite2 (fun _ => ?_) fun _ => ?_
    · refine ⟨_, rfl, pn, _, rfl, getL hp, .inl ⟨_, rfl, _, rfl, _, _, rfl, rfl, m0, ?_⟩⟩
      refine ⟨_, rfl, pn, _, rfl, getL hp, _, rfl, _, _, rfl, rfl, ⟨m0, m1⟩, _, rfl, pn, _, rfl, putL _ hp, ?_⟩
      exact ⟨_, rfl, q _ _ (mix_lt _ m0).1 (mix_lt _ m0).2 (fun c o n z => (upd_ne n).trans z) ⟨k, _, cs, upd_same, (upd_ne ncp).trans hc, Nat.le_succ_of_le hk, lc⟩⟩
    · refine ⟨_, rfl, pn, _, rfl, getO hp, _, rfl, pn, _, rfl, getC hp, _, _, rfl, ?_⟩
      refine ⟨_, rfl, _, _, rfl, rfl, _, rfl, pn, _, rfl, putO' _ hp, ?_⟩
      have ek : ((k : Nat) : Int) + 1 = ((k + 1 : Nat) : Int) := by omega
      rw [ek]
      generalize eH2 : upd H pn (.dK (penK cl ((k + 1 : Nat) : Int) l)) = H2
      have hp2 : H2 pn = some (.dK (penK cl ((k + 1 : Nat) : Int) l)) := by rw [← eH2]; exact upd_same
      have hc2 : H2 cl = some (.lst (cs.map V.int)) := by rw [← eH2]; exact (upd_ne ncp).trans hc
      have e2 : But pn H H2 := fun c o n z => by rw [← eH2]; exact (upd_ne n).trans z
      refine ⟨_, rfl, Nat.zero_le _, fun e ne => ?_⟩
      have hp3 : upd H2 e (.lst []) pn = some (.dK (penK cl ((k + 1 : Nat) : Int) l)) := (upd_ne (ne_of_none hp2 ne)).trans hp2
      have hc3 : upd H2 e (.lst []) cl = some (.lst (cs.map V.int)) := (upd_ne (ne_of_none hc2 ne)).trans hc2
      have e3 : But pn H (upd H2 e (.lst [])) := fun c o n z => (upd_ne (ne_of_none (e2 c o n z) ne)).trans (e2 c o n z)
      have he3 : upd H2 e (.lst []) e = some (.lst []) := upd_same
      generalize upd H2 e (.lst []) = H3 at hp3 hc3 e3 he3
      have fin : ∀ (r : Int) (H4 : Hp) (l2 : Int), 0 ≤ r → r < m → H4 = H3 ∨ H4 = upd H3 pn (.dK (penK cl ((k + 1 : Nat) : Int) l2)) → Q (.int r) H4 := fun r H4 l2 r0 r1 e4 => by
        rcases e4 with rfl | rfl
        · exact q r _ r0 r1 e3 ⟨k + 1, l, cs, hp3, hc3, Nat.succ_le_succ hk, lc⟩
        · exact q r _ r0 r1 (fun c o n z => (upd_ne n).trans (e3 c o n z)) ⟨k + 1, l2, cs, upd_same, (upd_ne ncp).trans hc3, Nat.succ_le_succ hk, lc⟩
      have num : ∀ v ∈ cs.map V.int, Num v := fun v hv => by
        obtain ⟨i, _, rfl⟩ := List.mem_map.mp hv
        exact .inr ⟨i, rfl⟩
      refine ⟨cl, e, _, [], rfl, rfl, .inl ⟨SqL.of hc3, SqL.of he3⟩, num, (fun v hv => absurd hv (by simp)), _, rfl, ?_⟩
      refine ite2 (fun c => ?_) fun c => ?_
      · refine ⟨_, rfl, _, _, rfl, rfl, .inl ⟨by decide, by decide⟩, ?_⟩
        refine ⟨_, _, rfl, rfl, .inl ⟨_, rfl, _, rfl, _, _, rfl, rfl, m0, ?_⟩⟩
        exact fin _ _ 0 (mix_lt _ m0).1 (mix_lt _ m0).2 (.inl rfl)
      have cne : cs ≠ [] := fun z => by
        rw [z] at c
        exact c (by decide)
      have lpos : 0 < cs.length := List.length_pos_iff.mpr cne
      refine ⟨_, rfl, _, rfl, .inl ⟨_, rfl, _, rfl, cl, _, rfl, .inl (SqL.of hc3), _, _, rfl, rfl, (by rw [List.length_map]; omega), cl, _, _, .int (cs[k % cs.length]'(Nat.mod_lt _ lpos)), rfl, rfl, SqL.of hc3, ?_, ?_⟩⟩
      · rw [List.length_map]
        have em : ((k : Nat) : Int) % ((cs.length : Nat) : Int) = ((k % cs.length : Nat) : Int) := by omega
        rw [em]
        refine atI_nat ?_
        rw [List.getElem?_map, List.getElem?_eq_getElem (Nat.mod_lt _ lpos)]
        rfl
      generalize cs[k % cs.length]'(Nat.mod_lt _ lpos) = cell
      refine ⟨_, rfl, _, rfl, cl, _, rfl, .inl (SqL.of hc3), _, _, rfl, rfl, _, rfl, ?_⟩
      refine ite2 (fun _ => ?_) fun _ => iteF ?_
      refine ⟨_, rfl, _, rfl, _, _, rfl, rfl, ⟨by decide, by decide, by decide⟩, _, _, rfl, rfl, _, rfl, ?_⟩
      refine ite2 (fun _ => ?_) fun _ => ?_
      refine ⟨_, rfl, _, rfl, _, _, rfl, rfl, ⟨by decide, by decide, by decide⟩, _, _, rfl, rfl, _, rfl, _, _, rfl, rfl, ⟨m0, m1⟩, _, rfl, pn, _, rfl, putL _ hp3, ?_⟩
      refine ⟨_, rfl, _, rfl, _, _, rfl, rfl, ⟨by decide, by decide, by decide⟩, _, _, rfl, rfl, .inl ⟨_, rfl, _, rfl, _, _, rfl, rfl, m0, ?_⟩⟩
      exact fin _ _ _ (mix_lt _ m0).1 (mix_lt _ m0).2 (.inr rfl)
      all_goals
        refine ⟨_, rfl, .inl ⟨_, rfl, _, _, rfl, rfl, (by show (0 : Int) < _; decide), _, _, rfl, rfl, .inr ⟨by decide, by decide⟩, ?_⟩⟩
        refine ⟨_, rfl, _, _, rfl, rfl, .inl ⟨by decide, by decide⟩, _, rfl, _, _, rfl, rfl, .inr ⟨by omega, by omega⟩, _, _, rfl, rfl, ?_⟩
        refine ⟨_, rfl, _, _, rfl, rfl, .inl ⟨by decide, by decide⟩, _, _, rfl, rfl, _, _, rfl, rfl, .inl ⟨_, rfl, _, _, rfl, rfl, (by show (0 : Int) < _; decide), ?_⟩⟩
        generalize emx : (cell % 4294965361 * 41903 + 27011 * ((k : Nat) : Int) * ((k : Nat) : Int) + 853 * ((k : Nat) : Int) + 71) % 4294965383 = mx
        have b1 : 0 ≤ mx ∧ mx < 4294965383 := by rw [← emx]; exact mix_lt _ (by decide)
        refine ⟨_, rfl, _, rfl, _, _, rfl, rfl, .inl ⟨by omega, by omega⟩, ?_⟩
        refine ⟨_, rfl, _, _, rfl, rfl, .inl ⟨by decide, by decide⟩, _, _, rfl, rfl, _, rfl, _, _, rfl, rfl, .inl ⟨by decide, by decide⟩, _, _, rfl, rfl, .inl ⟨_, rfl, _, _, rfl, rfl, (by show (0 : Int) < _; decide), ?_⟩⟩
        generalize emy : (mx * mx + 40213 * mx + 37 * ((k : Nat) : Int)) % 4294965337 = my
        have b2 : 0 ≤ my ∧ my < 4294965337 := by rw [← emy]; exact mix_lt _ (by decide)
        refine ⟨_, rfl, _, rfl, _, _, rfl, rfl, _, _, rfl, rfl, .inl ⟨by omega, by omega⟩, .inl ⟨_, rfl, _, _, rfl, rfl, (by show (0 : Int) < _; decide), _, _, rfl, rfl, ⟨by decide, by decide⟩, .inl ⟨_, rfl, _, rfl, _, _, rfl, rfl, m0, ?_⟩⟩⟩
        exact fin _ _ 0 (mix_lt _ m0).1 (mix_lt _ m0).2 (.inl rfl)
end
end K00
set_option Elab.async false
set_option linter.all false
set_option maxRecDepth 100001
set_option maxHeartbeats 3999999
namespace K00
open PySem L2
def spPick : Sp := fun vs H Q _ => ∃ (pn cl s : Addr) (xs : List V) (b : Nat), vs = [.ref pn, .ref s] ∧ Pen H pn cl b ∧ b ≤ 1000000 ∧ H s = some (.lst xs) ∧ 0 < xs.length ∧ xs.length ≤ 1000 ∧ ∀ x H', x ∈ xs → But pn H H' → Pen H' pn cl (b + 1) → Q x H'
theorem Pen.mono {H : Hp} {pn cl : Addr} {b c : Nat} (h : Pen H pn cl b) (e : b ≤ c) : Pen H pn cl c := let ⟨k, l, cs, h1, h2, h3, h4⟩ := h; ⟨k, l, cs, h1, h2, Nat.le_trans h3 e, h4⟩
theorem Pen.same {H H' : Hp} {pn cl : Addr} {b : Nat} (h : Pen H pn cl b) (e : Same H H') : Pen H' pn cl b := let ⟨k, l, cs, h1, h2, h3, h4⟩ := h; ⟨k, l, cs, e _ _ h1, e _ _ h2, h3, h4⟩
theorem Pen.ne {H : Hp} {pn cl a : Addr} {b : Nat} {o : HO} (h : Pen H pn cl b) (ha : H a = some o) (d : ∀ kvs, o ≠ .dK kvs) : a ≠ pn := let ⟨_, _, _, h1, _⟩ := h; ne_of ha h1 (d _)
/-- the pen stays where another object is written -/
theorem Pen.upd {H : Hp} {pn cl a : Addr} {b : Nat} {o : HO} (h : Pen H pn cl b) (n1 : pn ≠ a) (n2 : cl ≠ a) : Pen (L2.upd H a o) pn cl b := let ⟨k, l, cs, h1, h2, h3, h4⟩ := h; ⟨k, l, cs, (upd_ne n1).trans h1, (upd_ne n2).trans h2, h3, h4⟩
theorem Pen.off {H : Hp} {pn cl a : Addr} {b : Nat} (h : Pen H pn cl b) (n : H a = none) : pn ≠ a ∧ cl ≠ a := let ⟨_, _, _, h1, h2, _⟩ := h; ⟨ne_of_none h1 n, ne_of_none h2 n⟩
theorem same_but {pn : Addr} {H H' : Hp} (e : Same H H') : But pn H H' := fun b o _ h => e b o h
/-- from least on ascending: what is least behind it -/
def asc : Int → List V → Option Int
  | l, [] => some l
  | l, .non :: r => asc l r
  | l, .int j :: r => if l ≤ j then asc (j + 1) r else none
  | _, _ :: _ => none
theorem asc_app : ∀ (l : Int) (a b : List V), asc l (a ++ b) = (asc l a).bind fun e => asc e b
  | l, [], b => rfl
  | l, v :: a, b => by
    cases v with
    | non => simp only [List.cons_append, asc]; exact asc_app l a b
    | int j =>
      simp only [List.cons_append, asc]
      split
      · exact asc_app _ a b
      · rfl
    | _ => rfl
theorem asc_le : ∀ {l : Int} {ns : List V} {e : Int}, asc l ns = some e → l ≤ e
  | l, [], e, h => by cases h; exact Int.le_refl _
  | l, v :: r, e, h => by
    cases v with
    | non => exact asc_le (ns := r) (by simpa only [asc] using h)
    | int j =>
      simp only [asc] at h
      split at h
      · have := asc_le h
        omega
      · cases h
    | _ => cases h
theorem asc_scan {m : Int} : ∀ {l : Int} {i : Nat} {ns : List V} {e : Int}, asc l ns = some e → e ≤ m → scan m l i ns = none
  | l, i, [], e, _, _ => rfl
  | l, i, v :: r, e, h, hm => by
    cases v with
    | non =>
      rw [scan_non]
      exact asc_scan (by simpa only [asc] using h) hm
    | int j =>
      simp only [asc] at h
      split at h
      · next c =>
        have h2 := asc_le h
        rw [scan_in (decide_eq_true ⟨c, by omega⟩)]
        exact asc_scan h hm
      · cases h
    | _ => cases h
theorem asc_mem : ∀ {l : Int} {ns : List V} {e : Int}, 0 ≤ l → asc l ns = some e → ∀ v ∈ ns, v = .non ∨ ∃ j : Nat, v = .int (j : Nat) ∧ ((j : Nat) : Int) < e
  | l, v0 :: r, e, l0, h, v, hv => by
    cases v0 with
    | non =>
      rcases List.mem_cons.mp hv with rfl | hv
      · exact .inl rfl
      · exact asc_mem l0 (by simpa only [asc] using h) v hv
    | int j =>
      simp only [asc] at h
      split at h
      · next c =>
        have h2 := asc_le h
        rcases List.mem_cons.mp hv with rfl | hv
        · exact .inr ⟨j.toNat, by rw [Int.toNat_of_nonneg (by omega)], by omega⟩
        · exact asc_mem (by omega) h v hv
      · cases h
    | _ => cases h
/-- numbers that make a map to m new ones -/
structure Good (m : Int) (ns : List V) : Prop where
  sc : scan m 0 0 ns = none
  mem : ∀ v ∈ ns, v = .non ∨ ∃ j : Nat, v = .int (j : Nat) ∧ ((j : Nat) : Int) < m
  nn : 0 ≤ m
theorem Good.num {m : Int} {ns : List V} (g : Good m ns) : ∀ v ∈ ns, Num v := fun v hv => (g.mem v hv).imp id fun ⟨j, e, _⟩ => ⟨_, e⟩
def spPlan : Sp := fun vs H Q _ => ∃ (pn cl : Addr) (old b : Nat), vs = [.ref pn, .int (old : Nat)] ∧ Pen H pn cl b ∧ old ≤ 60 ∧ b ≤ 900000 ∧
  ∀ t l m ns H', But pn H H' → Pen H' pn cl (b + 2 * old + 1) → H t = none → H l = none → H' t = some (.tup [.int m, .ref l]) → H' l = some (.lst ns) → ns.length = old → Good m ns → m ≤ 3 * old + 2 → Q (.ref t) H'
section
variable {P : Program} {w : World} {K : PySem.W.Frag} {mg : Str → Option Value} {base : Heap}
theorem scPick : FnScope ["_law_pen_here", "_law_some"] ["_law_pen_here", "_law_some"] (defScope sPick) := ⟨rfl, rfl, rfl, by decide +kernel, rfl, by decide +kernel, by decide +kernel⟩
theorem ok_pick {f : Addr} {fd : FuncData} (F : Fun K "_law_pick" "_law_pick" sPick f fd) (B : Bi mg) (cD : Cal CX0 P w K mg base 1 "_law_draw" spDraw) : FnOk P w K mg base CX0 2 f fd ["_law_pen_here", "_law_some"] spPick := by
  refine F.ok scPick (fun vs H Q E h => ?_) (fun cdv A outer s H vs Q E hr h => ?_)
  · obtain ⟨pn, cl, s, xs, b, rfl, _⟩ := h
    rfl
  · obtain ⟨pn, cl, s0, xs, b, rfl, pen, hb, hs, l0, l1, q⟩ := h
    refine ⟨_, pss_one (ps_ret (pe_ix ix_list (pv 1) (pe_c cD hr pass0 (pa_cons (pv 0) (pa_cons (pe_len B.len (pa_cons (pv 1) pa_nil)) pa_nil))) (fun _ _ => rfl))), ?_⟩
    refine ⟨_, rfl, _, rfl, _, rfl, s0, xs, rfl, .inl (SqL.of hs), pn, cl, _, b, rfl, pen, hb, by omega, by omega, fun r H' r0 r1 e pen2 => ?_⟩
    obtain ⟨r, rfl⟩ := Int.eq_ofNat_of_zero_le r0
    have lt : r < xs.length := by omega
    exact ⟨s0, xs, _, xs[r], rfl, rfl, SqL.of (e _ _ (pen.ne hs fun _ z => by cases z) hs), atI_nat (List.getElem?_eq_getElem lt), q _ _ (List.getElem_mem lt) e pen2⟩
theorem scPlan : FnScope ["_law_pen_here", "_law_old", "_law_numbers", "_law_last", "_law_k"] ["_law_pen_here", "_law_old"] (defScope sPlan) := ⟨rfl, rfl, rfl, by decide +kernel, rfl, by decide +kernel, by decide +kernel⟩
theorem ok_plan {f : Addr} {fd : FuncData} (F : Fun K "_law_plan" "_law_plan" sPlan f fd) (B : Bi mg) (cD : Cal CX0 P w K mg base 1 "_law_draw" spDraw) (cP : Cal CX0 P w K mg base 2 "_law_pick" spPick) : FnOk P w K mg base CX0 3 f fd ["_law_pen_here", "_law_old"] spPlan := by
  refine F.ok scPlan (fun vs H Q E h => ?_) (fun cdv A outer s H vs Q E hr h => ?_)
  · obtain ⟨pn, cl, old, b, rfl, _⟩ := h
    rfl
  · obtain ⟨pn, cl, old, b, rfl, pen, ho, hb, q⟩ := h
    refine ⟨_, pss_cons (ps_par (i := 2) (j := 3) rfl scPlan.nd rfl rfl (by decide) rfl rfl (pa_cons (pe_lst pa_nil) (pa_cons (pe_un un_neg pe_int) pa_nil)) rfl)
      (pss_cons (ps_for PassesOwn.never rfl (pi_range1 rfl B.range (pa_cons (pv 1) pa_nil)) (pg_name (i := 4) scPlan.nd rfl (.inl rfl))
        (pss_one (ps_if (pt_cmpR op_eq (pe_c cD hr pass0 (pa_cons (pv 0) (pa_cons pe_int pa_nil))) pe_int (nomark _))
          (pss_one (ps_expr (pe_bm PySem.F.plainAttrs_list PySem.F.slot_list_append PySem.F.type_list_append mt_append (pv 2) (pa_cons pe_non pa_nil))))
          (pss_cons (ps_set (i := 3) scPlan.nd rfl (Or.inl rfl) (pe_op op_add (pe_op op_add (pv 3) pe_int) (pe_c cP hr pass0 (pa_cons (pv 0) (pa_cons (pe_lst (pa_cons pe_int (pa_cons pe_int (pa_cons pe_int (pa_cons pe_int pa_nil))))) pa_nil)))))
          (pss_one (ps_expr (pe_bm PySem.F.plainAttrs_list PySem.F.slot_list_append PySem.F.type_list_append mt_append (pv 2) (pa_cons (pv 3) pa_nil))))))))
      (pss_one (ps_ret (pe_tup (pa_cons (pe_op op_add (pe_op op_add (pv 3) pe_int) (pe_c cD hr pass0 (pa_cons (pv 0) (pa_cons pe_int pa_nil)))) (pa_cons (pv 2) pa_nil)))))), ?_⟩
    refine ⟨Nat.zero_le _, fun L nL => ⟨_, rfl, _, _, rfl, ?_⟩⟩
    obtain ⟨npL, ncL⟩ := pen.off nL
    refine ⟨_, rfl, (old : Nat), rfl, by omega, by omega, for_range (n := ((old : Nat) : Int).toNat) (fun i σ H' => ∃ (last e : Int) (a : Option V) (ns : List V), σ = [some (.ref pn), some (.int (old : Nat)), some (.ref L), some (.int last), a] ∧ But pn H H' ∧ Pen H' pn cl (b + 2 * i) ∧
      H' L = some (.lst ns) ∧ ns.length = i ∧ asc 0 ns = some e ∧ e ≤ last + 1 ∧ -1 ≤ last ∧ last ≤ 3 * i - 1) ⟨-1, 0, none, [], rfl, same_but (same_new nL), pen.same (same_new nL), upd_same, rfl, rfl, by decide, by decide, by decide⟩ ?_ ?_⟩
    · rintro i σ H1 hi ⟨last, e, a, ns, rfl, bt, pn1, hL, ln, ha, h1, h2, h3⟩
      have hi2 : i < old := by simpa using hi
      refine ⟨_, rfl, pn, cl, 4, b + 2 * i, rfl, pn1, by omega, by decide, by decide, fun r H2 r0 r1 b2 pn2 => ?_⟩
      have hL2 : H2 L = some (.lst ns) := b2 _ _ (Ne.symm npL) hL
      refine ⟨rfl, _, rfl, ?_⟩
      refine ite2 (fun _ => ?_) fun _ => ?_
      · refine ⟨_, rfl, .inl ⟨rfl, _, SqL.of hL2⟩, L, ns, _, rfl, rfl, hL2, small2000 (by omega), ?_⟩
        refine ⟨last, e, _, ns ++ [.non], rfl, fun c o n z => ?_, (pn2.upd npL ncL).mono (by omega), upd_same, by rw [List.length_append, ln]; rfl, ?_, h1, h2, by omega⟩
        · rw [upd_ne (ne_of_none z nL)]
          exact b2 _ _ n (bt _ _ n z)
        · rw [asc_app, ha]
          rfl
      · refine ⟨_, rfl, _, _, rfl, rfl, _, rfl, by show 4 ≤ sizeLine; decide, fun s1 ns1 => ?_⟩
        obtain ⟨npS, ncS⟩ := pn2.off ns1
        have hL3 : upd H2 s1 (.lst [.int 0, .int 0, .int 1, .int 2]) L = some (.lst ns) := (upd_ne (ne_of_none hL2 ns1)).trans hL2
        refine ⟨pn, cl, s1, _, b + 2 * i + 1, rfl, pn2.upd npS ncS, by omega, upd_same, by show 0 < 4; decide, by show 4 ≤ 1000; decide, fun x H3 hx b3 pn3 => ?_⟩
        obtain ⟨d, rfl, d0, d1⟩ : ∃ d : Int, x = .int d ∧ 0 ≤ d ∧ d ≤ 2 := by
          simp only [List.mem_cons, List.not_mem_nil, or_false] at hx
          rcases hx with rfl | rfl | rfl | rfl
          · exact ⟨0, rfl, by decide, by decide⟩
          · exact ⟨0, rfl, by decide, by decide⟩
          · exact ⟨1, rfl, by decide, by decide⟩
          · exact ⟨2, rfl, by decide, by decide⟩
        have hL4 : H3 L = some (.lst ns) := b3 _ _ (Ne.symm npL) hL3
        refine ⟨_, _, rfl, rfl, ?_⟩
        refine ⟨_, rfl, .inl ⟨rfl, _, SqL.of hL4⟩, _, rfl, L, ns, _, rfl, rfl, hL4, small2000 (by omega), ?_⟩
        refine ⟨last + 1 + d, last + 1 + d + 1, _, ns ++ [.int (last + 1 + d)], rfl, fun c o n z => ?_, (pn3.upd npL ncL).mono (by omega), upd_same, by rw [List.length_append, ln]; rfl, ?_, by omega, by omega, by omega⟩
        · rw [upd_ne (ne_of_none z nL)]
          have z2 := b2 _ _ n (bt _ _ n z)
          exact b3 _ _ n ((upd_ne (ne_of_none z2 ns1)).trans z2)
        · rw [asc_app, ha]
          show (if e ≤ last + 1 + d then some (last + 1 + d + 1) else none) = _
          rw [if_pos (by omega)]
    · rintro σ H1 ⟨last, e, a, ns, rfl, bt, pn1, hL, ln, ha, h1, h2, h3⟩
      have eo : ((old : Nat) : Int).toNat = old := by omega
      rw [eo] at ln pn1
      refine ⟨_, rfl, _, _, rfl, rfl, _, rfl, pn, cl, 3, b + 2 * old, rfl, pn1, by omega, by decide, by decide, fun r H2 r0 r1 b2 pn2 => ?_⟩
      have hL2 : H2 L = some (.lst ns) := b2 _ _ (Ne.symm npL) hL
      refine ⟨_, _, rfl, rfl, _, rfl, by show 2 ≤ sizeLine; decide, fun t nt => ?_⟩
      obtain ⟨npT, ncT⟩ := pn2.off nt
      have nt0 : H t = none := by
        cases z : H t with
        | none => rfl
        | some o =>
          have ntp : t ≠ pn := Ne.symm npT
          rw [b2 _ _ ntp (bt _ _ ntp z)] at nt
          cases nt
      refine q t L (last + 1 + r) ns _ (fun c o n z => ?_) ((pn2.upd npT ncT).mono (by omega)) nt0 nL upd_same ((upd_ne (ne_of_none hL2 nt)).trans hL2) ln ⟨asc_scan ha (by omega), fun v hv => ?_, by omega⟩ (by omega)
      · rw [upd_ne (ne_of_none z nt0)]
        exact b2 _ _ n (bt _ _ n z)
      · exact (asc_mem (Int.le_refl 0) ha v hv).imp id fun ⟨j, e1, e2⟩ => ⟨j, e1, by omega⟩
end
end K00
set_option Elab.async false
set_option linter.all false
set_option maxRecDepth 100001
set_option maxHeartbeats 3999999
namespace K00
open PySem L2
abbrev sLRan : Stmt := topS 23
/-! ### lists of pairs of ints, compared -/
def dP (p : Int × Int) : PyData := .tuple [.int p.1, .int p.2]
theorem eqv_dP (p q : Int × Int) : PyData.eqv (dP p) (dP q) = decide (p = q) := by
  obtain ⟨a, b⟩ := p
  obtain ⟨c, d⟩ := q
  have e : decide ((a, b) = (c, d)) = (decide (a = c) && decide (b = d)) := by
    rw [← Bool.decide_and]
    exact decide_eq_decide.mpr ⟨fun h => by cases h; exact ⟨rfl, rfl⟩, fun ⟨h1, h2⟩ => by rw [h1, h2]⟩
  rw [e]
  simp only [dP, PyData.eqv, PyData.eqvAll, Bool.and_true]
  rfl
theorem eqvAll_pr : ∀ ps qs : List (Int × Int), PyData.eqvAll (ps.map dP) (qs.map dP) = decide (ps = qs)
  | [], [] => by simp [PyData.eqvAll]
  | [], _ :: _ => by simp [PyData.eqvAll]
  | _ :: _, [] => by simp [PyData.eqvAll]
  | x :: xs, y :: ys => by
    have ih := eqvAll_pr xs ys
    have e : PyData.eqvAll ((x :: xs).map dP) ((y :: ys).map dP) = (PyData.eqv (dP x) (dP y) && PyData.eqvAll (xs.map dP) (ys.map dP)) := by simp only [List.map_cons, PyData.eqvAll]
    rw [e, ih, eqv_dP]
    by_cases h1 : x = y
    · by_cases h2 : xs = ys
      · simp [h1, h2]
      · simp [h1, h2]
    · simp [h1]
theorem dp_dP {K : PySem.W.Frag} {H : Hp} {a : Addr} {p : Int × Int} (h : H a = some (.tup [.int p.1, .int p.2])) : Dp K H (.ref a) (dP p) := .tup (SqT.of h) (.cons (.int _) (.cons (.int _) .nil))
theorem dpAll_pr {K : PySem.W.Frag} {H : Hp} : ∀ {ts : List V} {ps : List (Int × Int)}, PrAt H ts ps → DpAll K H ts (ps.map dP)
  | _, _, .nil => .nil
  | _, _, .cons ⟨a, e, h⟩ t => by
    subst e
    exact .cons (dp_dP h) (dpAll_pr t)
theorem lay_pr : ∀ ps : List (Int × Int), PyData.canLayAll0 (ps.map dP) = true
  | [] => by simp [PyData.canLayAll0]
  | p :: ps => by
    rw [List.map_cons, PyData.canLayAll0, lay_pr ps, Bool.and_true]
    simp [dP, PyData.canLay0, PyData.canLayAll0]
theorem depth_pr : ∀ ps : List (Int × Int), PyData.depthAll (ps.map dP) ≤ 3
  | [] => by simp [PyData.depthAll]
  | p :: ps => by
    have ih := depth_pr ps
    simp only [List.map_cons, PyData.depthAll, dP, PyData.depth] at ih ⊢
    omega
theorem shL_pr (ps : List (Int × Int)) : SeqAt.shaped (.list (ps.map dP)) = true := by
  have h2 := depth_pr ps
  show (PyData.canLay0 (.list (ps.map dP)) && decide (PyData.depth (.list (ps.map dP)) ≤ 64)) = true
  rw [Bool.and_eq_true]
  refine ⟨by simp only [PyData.canLay0]; exact lay_pr ps, decide_eq_true ?_⟩
  simp only [PyData.depth]
  omega
/-- x != y, two lists of pairs -/
def rNePr (K : PySem.W.Frag) : R2 := fun x y H Q => ∃ a b xs ys ps qs, x = .ref a ∧ y = .ref b ∧ SqL K H a xs ∧ SqL K H b ys ∧ PrAt H xs ps ∧ PrAt H ys qs ∧ Q (.bl (!decide (ps = qs))) H
theorem op_nePr {X : Cx} (hu : X.A.units + 64 < cLine) : OpR X (compareOp .NotEq) (rNePr X.K) := by
  intro pins s σ H x y v u Q I rx ry h
  obtain ⟨a, b, xs, ys, ps, qs, rfl, rfl, d1, d2, p1, p2, q⟩ := h
  refine op_neD hu pins s σ H _ _ v u Q I rx ry ⟨.list (ps.map dP), .list (qs.map dP), .lst d1 (dpAll_pr p1), .lst d2 (dpAll_pr p2), shL_pr _, shL_pr _, ?_⟩
  rw [show PyData.eqv (.list (ps.map dP)) (.list (qs.map dP)) = decide (ps = qs) by rw [← eqvAll_pr]; simp only [PyData.eqv]]
  exact q
section
variable {P : Program} {w : World} {K : PySem.W.Frag} {mg : Str → Option Value} {base : Heap}
theorem scLRan : FnScope ["_law_numbers", "_law_found", "_law_number"] ["_law_numbers"] (defScope sLRan) := ⟨rfl, rfl, rfl, by decide +kernel, rfl, by decide +kernel, by decide +kernel⟩
theorem ok_lran {f : Addr} {fd : FuncData} (F : Fun K "_law_ranges" "_law_ranges" sLRan f fd) : FnOk P w K mg base CX0 1 f fd ["_law_numbers"] spRngs := by
  refine F.ok scLRan (fun vs H Q E h => ?_) (fun cdv A outer s H vs Q E hr h => ?_)
  · obtain ⟨s, is, rfl, _⟩ := h
    rfl
  · obtain ⟨s0, is, rfl, hs, len, q⟩ := h
    refine ⟨_, pss_cons (ps_set (i := 1) scLRan.nd rfl (Or.inl rfl) (pe_lst pa_nil)) (pss_cons (ps_for PassesOwn.never rfl (pi_sqA (pv 0)) (pg_name (i := 2) scLRan.nd rfl (.inl rfl))
        (pss_one (ps_if (PW.pt (pw_and (pt_cmpR (op_nePr (hu64 hr)) (pv 1) (pe_lst pa_nil) (nomark _)) (pw_and1 (pt_cmpR op_eq (pe_ix ix_tup (pe_ix ix_list (pv 1) (pe_un un_neg pe_int) (fun _ _ => rfl)) pe_int (fun _ _ => rfl)) (pe_op op_sub (pv 2) pe_int) (nomark _)))))
          (pss_one (ps_asg (pe_tup (pa_cons (pe_ix ix_tup (pe_ix ix_list (pv 1) (pe_un un_neg pe_int) (fun _ _ => rfl)) pe_int (fun _ _ => rfl)) (pa_cons (pv 2) pa_nil))) (pg_sub (pv 1) (pe_un un_neg pe_int) set_list)))
          (pss_one (ps_expr (pe_bm PySem.F.plainAttrs_list PySem.F.slot_list_append PySem.F.type_list_append mt_append (pv 1) (pa_cons (pe_tup (pa_cons (pv 2) (pa_cons (pv 2) pa_nil))) pa_nil)))))))
      (pss_one (ps_ret (pv 1)))), ?_⟩
    refine ⟨Nat.zero_le _, fun L nL => ?_⟩
    have ns0 : s0 ≠ L := ne_of_none hs nL
    refine ⟨_, rfl, s0, is.map V.int, rfl, .inl (SqL.of ((upd_ne ns0).trans hs)), fun J G wk hG => for_it wk (fun i σ H' => ∃ (a : Option V) (ts : List V), σ = [some (.ref s0), some (.ref L), a] ∧ Same H H' ∧ H' L = some (.lst ts) ∧ PrAt H' ts (rngs (is.take i)))
      ⟨none, [], rfl, same_new nL, upd_same, .nil⟩ (fun i σ H' _ ⟨_, _, _, e, _⟩ => hG H' fun o z => e _ _ (by rw [upd_ne ns0] at z; exact z)) ?_ ?_⟩
    · rintro i x σ H1 H2 hi ⟨a, ts, rfl, e, hL, pr⟩ ⟨rfl, hx⟩
      obtain ⟨n, hn, rfl⟩ : ∃ n, is[i]? = some n ∧ x = V.int n := by
        rw [List.getElem?_map] at hx
        cases q2 : is[i]? with
        | none => rw [q2] at hx; cases hx
        | some n => rw [q2] at hx; exact ⟨n, rfl, (Option.some.inj hx).symm⟩
      have tk : is.take (i + 1) = is.take i ++ [n] := by
        obtain ⟨lt, eq⟩ := List.getElem?_eq_some_iff.mp hn
        rw [List.take_succ_eq_append_getElem lt, eq]
      have lts : ts.length ≤ 10000 := by
        rw [Paired.length pr]
        exact Nat.le_trans (rngs_len _) (by rw [List.length_take]; omega)
      refine ⟨_, rfl, Nat.zero_le _, fun z nz => ?_⟩
      have e2 : Same H (upd H2 z (.lst [])) := e.trans (same_new nz)
      have hL2 : upd H2 z (.lst []) L = some (.lst ts) := (upd_ne (ne_of_none hL nz)).trans hL
      have pr2 : PrAt (upd H2 z (.lst [])) ts (rngs (is.take i)) := pr.same (same_new nz)
      have hz : upd H2 z (.lst []) z = some (.lst []) := upd_same
      generalize upd H2 z (.lst []) = H3 at e2 hL2 pr2 hz ⊢
      clear e hL pr nz
      refine ⟨L, z, ts, [], _, [], rfl, rfl, SqL.of hL2, SqL.of hz, pr2, .nil, ?_⟩
      have fin : ∀ (t : Addr) (p : Int × Int) (us : List V) (ps : List (Int × Int)) (ts2 : List V), H3 t = none → PrAt H3 us ps → ts2 = us ++ [V.ref t] → rngs (is.take (i + 1)) = ps ++ [p] →
          (∃ (a : Option V) (ts : List V), [some (V.ref s0), some (.ref L), some (V.int n)] = [some (V.ref s0), some (.ref L), a] ∧ Same H (upd (upd H3 t (.tup [.int p.1, .int p.2])) L (.lst ts2)) ∧
            upd (upd H3 t (.tup [.int p.1, .int p.2])) L (.lst ts2) L = some (.lst ts) ∧ PrAt (upd (upd H3 t (.tup [.int p.1, .int p.2])) L (.lst ts2)) ts (rngs (is.take (i + 1)))) := by
        intro t p us ps ts2 nt pu et er
        have ntL : t ≠ L := Ne.symm (ne_of_none hL2 nt)
        refine ⟨_, ts2, rfl, fun b o z => ?_, upd_same, ?_⟩
        · rw [upd_ne (ne_of_none z nL), upd_ne (ne_of_none (e2 _ _ z) nt)]
          exact e2 _ _ z
        · rw [et, er]
          refine Paired.snoc ?_ ⟨t, rfl, (upd_ne ntL).trans upd_same⟩
          have h1 : upd H3 t (.tup [.int p.1, .int p.2]) L = some (.lst ts) := (upd_ne (Ne.symm ntL)).trans hL2
          exact (pu.same (same_new nt)).put h1
      rcases List.eq_nil_or_concat (rngs (is.take i)) with en | ⟨ps, p, en⟩
      · rw [en] at pr2 ⊢
        cases pr2
        refine ⟨_, rfl, ?_⟩
        rw [show (!decide (([] : List (Int × Int)) = [])) = false by simp]
        refine iteF ?_
        refine iteF ⟨_, rfl, .inl ⟨rfl, _, SqL.of hL2⟩, _, rfl, _, rfl, by show 2 ≤ sizeLine; decide, fun t nt => ⟨L, [], _, rfl, rfl, (upd_ne (ne_of_none hL2 nt)).trans hL2, by show 0 < sizeLine; decide, ?_⟩⟩
        refine fin t (n, n) [] [] _ nt .nil rfl ?_
        rw [tk, rngs_snoc, en]
        rfl
      · rw [List.concat_eq_append] at en
        rw [en] at pr2 ⊢
        obtain ⟨us, v, rfl, pu, a0, rfl, ha0⟩ := paired_last pr2
        rw [show (!decide (ps ++ [p] = [])) = true by simp]
        refine ⟨_, rfl, ?_⟩
        refine iteT ?_
        have two : atI [V.int p.1, V.int p.2] 1 = some (V.int p.2) := rfl
        have one : atI [V.int p.1, V.int p.2] 0 = some (V.int p.1) := rfl
        refine ⟨_, rfl, _, rfl, L, _, _, _, rfl, rfl, SqL.of hL2, atI_last us (V.ref a0), a0, _, _, _, rfl, rfl, SqT.of ha0, two, _, rfl, _, _, rfl, rfl, rfl, _, rfl, ?_⟩
        refine ite2 (fun c => ?_) fun c => ?_
        · have c2 : p.2 = n - 1 := by simpa using c
          refine ⟨_, rfl, _, rfl, L, _, _, _, rfl, rfl, SqL.of hL2, atI_last us (V.ref a0), a0, _, _, _, rfl, rfl, SqT.of ha0, one, _, rfl, by show 2 ≤ sizeLine; decide, fun t nt => ?_⟩
          refine ⟨_, rfl, _, rfl, L, _, _, us.length, rfl, rfl, (upd_ne (ne_of_none hL2 nt)).trans hL2, (by simp [ixN]; omega), ?_⟩
          refine fin t (p.1, n) us ps _ nt pu ?_ ?_
          · rw [List.set_append_right _ _ (Nat.le_refl _), Nat.sub_self]
            rfl
          · rw [tk, rngs_snoc, en, rstep_join ps p n c2]
        · have c2 : ¬ p.2 = n - 1 := by simpa using c
          refine ⟨_, rfl, .inl ⟨rfl, _, SqL.of hL2⟩, _, rfl, _, rfl, by show 2 ≤ sizeLine; decide, fun t nt => ⟨L, _, _, rfl, rfl, (upd_ne (ne_of_none hL2 nt)).trans hL2, small10 lts, ?_⟩⟩
          refine fin t (n, n) (us ++ [V.ref a0]) (ps ++ [p]) _ nt pr2 rfl ?_
          rw [tk, rngs_snoc, en, rstep_new ps p n c2]
    · rintro σ H1 ⟨a, ts, rfl, e, hL, pr⟩
      rw [List.length_map, List.take_length] at pr
      exact ⟨_, rfl, q L H1 ts nL e hL pr⟩
end
end K00
set_option Elab.async false
set_option linter.all false
set_option maxRecDepth 100001
set_option maxHeartbeats 3999999
namespace K00
open PySem L2
abbrev sMade : Stmt := topS 24
/-! ### a class called where what is let out depends on the slots -/
section
variable {X : Cx} {CX : CXT} {k j : Nat} {C f : Addr} {fd : FuncData} {ps : List Str} {sp : Sp} {E : L2.St → XK} {x : Str} {p pos : Pos} {e : Expr} {es : List Expr} {t : TA}
theorem run_mkS {pins : List (Addr × Obj)} {σ : L2.St} {H : Hp} {s : Shared} {Q : VK} {us : List Value} {vs : List V} (M : Mk X.K C f) (F : FnOk X.prog X.w X.K X.mg X.base CX k f fd ps sp) (hr : Room (k + 1) X.A) (hb : Binds X.K fd ps []) (hx : PassesAt CX X σ (E σ)) (I : Inv X pins σ H s) (r : Vals vs us)
    (h : ∀ x dx, H x = none → H dx = none → dx ≠ x → sp (.ref x :: vs) (upd (upd H dx (.own x)) x (.ins C dx [])) (fun v H2 => v = .non ∧ Q (.ref x) H2) (E σ)) : wpAny (model X.prog X.w) X.A (call (.ref C) us) (EP X pins σ Q) X.xe s := by
  have J := Inv.made (C := C) I
  have hq := h (s.heap.objs.size + 1) s.heap.objs.size
    (I.hok.fresh (Nat.le_succ _)) (I.hok.fresh (Nat.le_refl _)) (Nat.ne_of_lt (Nat.lt_succ_self _))
  have rr : Vals (V.ref (s.heap.objs.size + 1) :: vs) (Value.ref (s.heap.objs.size + 1) :: us) := .cons rfl r
  have hl : (Value.ref (s.heap.objs.size + 1) :: us).length = ps.length := by rw [← rr.length]; exact F.len _ _ _ _ hq
  have bb := hb _ (Value.ref (s.heap.objs.size + 1) :: us) J.kIn (by rw [List.append_nil]; exact hl)
  rw [List.append_nil] at bb
  have run := F.run _ X.stack _ _ ⟨Value.ref (s.heap.objs.size + 1) :: us, []⟩ (Value.ref (s.heap.objs.size + 1) :: us) _ _ (E σ) (hr.make C us []) (J.env0.make C us []) bb rr hq
  refine wpAny_call (make_map (f := f) I.kIn M.makes M.init (beq_iff_eq.mp M.fn) (codeAny_mono run fun z s' hz => ?_))
  cases z with
  | error er => exact hx pins _ _ er s' J hz
  | ok fl =>
    cases fl with
    | ret u =>
      obtain ⟨v, H', J3, rv, ev, q3⟩ := J.after hz
      subst ev
      exact ⟨rv, V.ref (s.heap.objs.size + 1), H', J3, rfl, q3⟩
    | next => exact hz.elim
    | brk => exact hz.elim
    | cont => exact hz.elim
def tMakeS (C : Addr) (sp : Sp) (E : L2.St → XK) (t : TA) : TE := fun σ H Q => t σ H fun vs H1 => ∀ x dx, H1 x = none → H1 dx = none → dx ≠ x → sp (.ref x :: vs) (upd (upd H1 dx (.own x)) x (.ins C dx [])) (fun v H2 => v = .non ∧ Q (.ref x) H2) (E σ)
theorem pe_mkS (c : Mak CX X.prog X.w X.K X.mg X.base k x C sp) (hr : Room j X.A) (hx : ∀ σ, PassesAt CX X σ (E σ)) (ha : PA X (e :: es) t) (hk : k + 1 ≤ j := by decide) (hg : Gl X x := by rfl) (hdb : (x == ("__debug__" : Str)) = false := by decide)
    (he : starEach (e :: es) X.env = (false, eval e X.env) :: starEach es X.env := by rfl) (hpl : (backTo pos (starEach es X.env)).any (·.1) = false := by rfl) : PE X (.Call (.Name x p) (e :: es) [] pos) (tMakeS C sp E t) := by
  obtain ⟨f, fd, ps, M, F, hm, b⟩ := c.ex
  constructor
  intro pins s σ H Q I h
  refine wpAny_Call_Name_kw (ld_glob I hg hm (PySem.W.callWith_K (h₀ := X.base) I.ok.mod.kin M.kp (thn (ha.run pos pins s σ H _ I h) fun us s1 hh => ?_) he hpl) hdb)
  obtain ⟨vs, H1, I1, r, q⟩ := hh
  exact ⟨I1.kIn, run_mkS M F (hr.mono hk) b (hx σ) I1 r q⟩
end
/-- an exception class, caught -/
structure Ct (K : PySem.W.Frag) (mg : Str → Option Value) (x : Str) (C : Addr) : Prop where
  g : mg x = some (.ref C)
  T : XfC K C
  me : PySem.W.exmOne K (.ref C) (.ref C) = some true
def tMd (K : PySem.W.Frag) (C : Addr) (sp : Sp) (W : WX) : TS := tAsg (tTup (tCons (tC (.str "made")) (tCons (tFld K (tMakeS C sp (WE W) (tCons (tVar 0) (tCons (tVar 1) tNil))) "numbers") tNil))) (gName 2)
def tC1 (C : Addr) (n f : Str) (o i : Nat) : Addr → Value → Option Addr → TS := fun a cls d => tAsg (tTup (tCons (tC (.str n)) (tCons (tXf a cls d C f (tVar o)) tNil))) (gName i)
def tC3 (C : Addr) (n f g h : Str) (o i : Nat) : Addr → Value → Option Addr → TS := fun a cls d => tAsg (tTup (tCons (tC (.str n)) (tCons (tXf a cls d C f (tVar o)) (tCons (tXf a cls d C g (tVar o)) (tCons (tXf a cls d C h (tVar o)) tNil))))) (gName i)
/-- _law_made of what is wrong -/
def spMade (K : PySem.W.Frag) : Sp := fun vs H Q _ => ∃ (vm : V) (s : Addr) (ns us : List V), vs = [vm, .ref s] ∧ Sq K H s ns ∧ (∀ v ∈ ns, Kn H v) ∧ Kn H vm ∧ (∀ b, vm ≠ .ref b) ∧
  ((btw vm 0 2000 = false ∧ us = [.str "many", vm]) ∨ ∃ m, vm = .int m ∧ 0 ≤ m ∧ m ≤ 2000 ∧ ((2000 < ns.length ∧ us = [.str "great", .str "numbers", .int ns.length, .int 2000]) ∨ (ns.length ≤ 2000 ∧ ∃ i : Nat, scan m 0 0 ns = some i ∧ us = [.str "map", .int i]))) ∧
  ∀ t H', Same H H' → H t = none → H' t = some (.tup us) → Q (.ref t) H'
section
variable {P : Program} {w : World} {K : PySem.W.Frag} {mg : Str → Option Value} {base : Heap}
theorem scMade : FnScope ["_law_many", "_law_numbers", "_law_told", "e"] ["_law_many", "_law_numbers"] (defScope sMade) := ⟨rfl, rfl, rfl, by decide +kernel, rfl, by decide +kernel, by decide +kernel⟩
theorem ok_made {f C CM CT CB : Addr} {fd : FuncData} (F : Fun K "_law_made" "_law_made" sMade f fd) (mk : Mak (L2.CX P w) P w K mg base 4 "NumberMap" C (spInit K C CM CT CB)) (xM : Ct K mg "BadMany" CM) (xT : Ct K mg "TooMany" CT) (xB : Ct K mg "BadMap" CB)
    (nM : PySem.W.findIn K (.ref CM) "many" = some none) (nT : PySem.W.findIn K (.ref CT) "what" = some none ∧ PySem.W.findIn K (.ref CT) "many" = some none ∧ PySem.W.findIn K (.ref CT) "most" = some none) (nB : PySem.W.findIn K (.ref CB) "index" = some none)
    (e1 : PySem.W.exmOne K (.ref CT) (.ref CM) = some false) (e2 : PySem.W.exmOne K (.ref CB) (.ref CM) = some false) (e3 : PySem.W.exmOne K (.ref CB) (.ref CT) = some false) : FnOk P w K mg base CX0 6 f fd ["_law_many", "_law_numbers"] (spMade K) := by
  refine F.ok scMade (fun vs H Q E h => ?_) (fun cdv A outer s H vs Q E hr h => ?_)
  · obtain ⟨vm, s, ns, us, rfl, _⟩ := h
    rfl
  · obtain ⟨vm, s0, ns, us, rfl, hs, kns, kvm, nvm, out, q⟩ := h
    refine ⟨_, pss_cons (ps_set (i := 2) scMade.nd rfl (Or.inl rfl) pe_non) (pss_cons (ps_try_clauses (tb := tMd K C (spInit K C CM CT CB)) (Wout := fun _ _ _ _ => False)
        (l := [(.ref CM, some 3, tC1 CM "many" "many" 3 2), (.ref CT, some 3, tC3 CT "great" "what" "many" "most" 3 2), (.ref CB, some 3, tC1 CB "map" "index" 3 2)]) rfl rfl scMade.nd LamX.takes0
        (fun W pn xe tk _ => pss_one (ps_set (i := 2) scMade.nd rfl (Or.inl rfl) (pe_tup (pa_cons pe_str (pa_cons (pe_fld (pe_mkS mk hr (fun σ => passAt tk σ) (pa_cons (pv 0) (pa_cons (pv 1) pa_nil))) rfl) pa_nil)))))
        (.named ⟨rfl, by decide, .inl xM.g⟩ rfl rfl (fun a oe cls d pn hz hf => pss_one (ps_set (i := 2) scMade.nd rfl (Or.inl rfl) (pe_tup (pa_cons pe_str (pa_cons (pe_xf xM.T nM hz hf (pv 3)) pa_nil)))))
        (.named ⟨rfl, by decide, .inl xT.g⟩ rfl rfl (fun a oe cls d pn hz hf => pss_one (ps_set (i := 2) scMade.nd rfl (Or.inl rfl) (pe_tup (pa_cons pe_str (pa_cons (pe_xf xT.T nT.1 hz hf (pv 3)) (pa_cons (pe_xf xT.T nT.2.1 hz hf (pv 3)) (pa_cons (pe_xf xT.T nT.2.2 hz hf (pv 3)) pa_nil)))))))
        (.named ⟨rfl, by decide, .inl xB.g⟩ rfl rfl (fun a oe cls d pn hz hf => pss_one (ps_set (i := 2) scMade.nd rfl (Or.inl rfl) (pe_tup (pa_cons pe_str (pa_cons (pe_xf xB.T nB hz hf (pv 3)) pa_nil)))))
        .nil))))
      (pss_one (ps_ret (pv 2)))), ?_⟩
    refine ⟨vm, rfl, _, rfl, fun x dx nx nd ne => ?_⟩
    have s1 : Same H (upd (upd H dx (.own x)) x (.ins C dx [])) := fun b o e => by
      rw [upd_ne (ne_of_none e nx), upd_ne (ne_of_none e nd)]
      exact e
    have fin : ∀ (d t : Addr) (fs : List (Str × V)) (H' : Hp), Rsd (upd (upd H dx (.own x)) x (.ins C dx [])) H' d fs → H' t = none → Q (.ref t) (upd H' t (.tup us)) := fun d t fs H' r nt => by
      have s2 : Same H H' := s1.trans r.same
      refine q t _ (s2.trans (same_new nt)) ?_ upd_same
      cases z : H t with
      | none => rfl
      | some o =>
        rw [s2 _ _ z] at nt
        cases nt
    refine ⟨x, dx, s0, vm, ns, rfl, upd_same, hs.same s1, fun v hv => (kns v hv).same s1, kvm.same s1, nvm, ?_⟩
    rcases out with ⟨h1, rfl⟩ | ⟨m, rfl, m0, m1, ⟨h1, rfl⟩ | ⟨h1, i, h2, rfl⟩⟩
    · refine .inl ⟨h1, fun d H' r => ⟨true, xM.me, fun _ a na => ?_, fun z => nomatch z⟩⟩
      exact ⟨_, rfl, rfl, rfl, d, _, _, rfl, r.at_, rfl, by show 2 ≤ sizeLine; decide, fun t nt => ⟨_, rfl, fin d t _ H' r nt⟩⟩
    · refine .inr ⟨m, rfl, m0, m1, .inl ⟨h1, fun d H' r => ⟨false, e1, (fun z => nomatch z), fun _ => ⟨true, xT.me, fun _ a na => ?_, fun z => nomatch z⟩⟩⟩⟩
      exact ⟨_, rfl, rfl, rfl, d, _, _, rfl, r.at_, rfl, _, rfl, rfl, rfl, d, _, _, rfl, r.at_, rfl, _, rfl, rfl, rfl, d, _, _, rfl, r.at_, rfl, by show 4 ≤ sizeLine; decide, fun t nt => ⟨_, rfl, fin d t _ H' r nt⟩⟩
    · refine .inr ⟨m, rfl, m0, m1, .inr (.inl ⟨h1, i, h2, fun d H' r => ⟨false, e2, (fun z => nomatch z), fun _ => ⟨false, e3, (fun z => nomatch z), fun _ => ⟨true, xB.me, fun _ a na => ?_, fun z => nomatch z⟩⟩⟩⟩)⟩
      exact ⟨_, rfl, rfl, rfl, d, _, _, rfl, r.at_, rfl, by show 2 ≤ sizeLine; decide, fun t nt => ⟨_, rfl, fin d t _ H' r nt⟩⟩
end
end K00
set_option Elab.async false
set_option linter.all false
set_option maxRecDepth 100001
set_option maxHeartbeats 3999999
namespace K00
open PySem L2
abbrev sAsk : Stmt := topS 25
theorem takes_len {X : Cx} {W : WX} {n : Nat} (e : X.N.length = n) (tk : Takes X W) : Takes X (fun cls d σ H => σ.length = n → W cls d σ H) := fun u s' ⟨a, B, sI, pins, σ, H, cls, d, e1, I, nb, up, sky, na, os, ag, w⟩ =>
  tk u s' ⟨a, B, sI, pins, σ, H, cls, d, e1, I, nb, up, sky, na, os, ag, w (I.len.trans e)⟩
/-- what comes of a question that is refused -/
def rAsk (CN CO CB : Addr) (Q : VK) : XK := fun cls d H' =>
  (cls = .ref CN ∧ ∃ dd v, d = some dd ∧ H' dd = some (.xd [("number", v)]) ∧ ∀ t, H' t = none → Q (.ref t) (upd H' t (.tup [.str "number", v]))) ∨
  (cls = .ref CO ∧ ∀ t, H' t = none → Q (.ref t) (upd H' t (.tup [.str "other", .int 0]))) ∨
  (cls = .ref CB ∧ ∃ dd v, d = some dd ∧ H' dd = some (.xd [("index", v)]) ∧ ∀ t, H' t = none → Q (.ref t) (upd H' t (.tup [.str "range", v])))
/-- a reading with a stronger end -/
theorem pe_mono {X : Cx} {e : Expr} {te : TE} (h : PE X e te) : PE X e fun σ H Q => ∃ Q' : VK, (∀ x H1, Q' x H1 → Q x H1) ∧ te σ H Q' :=
  ⟨fun pins s σ H Q I ⟨Q', m, k⟩ => wpAny_mono (h.run pins s σ H Q' I k) (fun u s1 ⟨v, H1, I1, r, q⟩ => ⟨v, H1, I1, r, m _ _ q⟩) fun _ _ z => z⟩
def TTask (CN CO CB : Addr) : (XK → Hp → VK → Prop) → Hp → VK → Prop := fun tl H Q => tl (rAsk CN CO CB Q) H fun _ _ => False
/-- the classes that are caught here -/
structure Cts (K : PySem.W.Frag) (mg : Str → Option Value) (CN CO CB : Addr) : Prop where
  xN : Ct K mg "NoNumber" CN
  xO : Ct K mg "OtherMap" CO
  xB : Ct K mg "BadRange" CB
  nN : PySem.W.findIn K (.ref CN) "number" = some none
  nB : PySem.W.findIn K (.ref CB) "index" = some none
  e1 : PySem.W.exmOne K (.ref CO) (.ref CN) = some false
  e2 : PySem.W.exmOne K (.ref CB) (.ref CN) = some false
  e3 : PySem.W.exmOne K (.ref CB) (.ref CO) = some false
theorem scAsk : FnScope ["_law_function", "_law_told", "e"] ["_law_function"] (defScope sAsk) := ⟨rfl, rfl, rfl, by decide +kernel, rfl, by decide +kernel, by decide +kernel⟩
def tAO (i : Nat) : TS := tAsg (tTup (tCons (tC (.str "other")) (tCons (tC (.int 0)) tNil))) (gName i)
theorem asked_gives {X : Cx} {g CN CO CB : Addr} {cdg : Value} {q : Str} (T : Cts X.K X.mg CN CO CB) : LamX.GivesTo X ["_law_function", "_law_told", "e"] "_law_asked" (defScope sAsk) g cdg (defBody sAsk) "_law_function" q (TTask CN CO CB) := by
  intro f c' s H Q tl act hc h
  refine ⟨_, pss_cons (ps_set (i := 1) scAsk.nd rfl (Or.inl rfl) pe_non) (pss_cons (ps_try_clauses
      (tb := fun W D σ H => ∃ Ech : XK, (∀ cls d σ' H', Ech cls d H' → σ'.length = 3 → W cls d σ' H') ∧ σ[0]? = some (some (.ref f)) ∧ H c' = some (LamX.CodeO c' q) ∧ tl Ech H fun _ _ => False) (Wout := fun _ _ _ _ => False)
        (l := [(.ref CN, some 2, tC1 CN "number" "number" 2 1), (.ref CO, none, fun _ _ _ => tAO 1), (.ref CB, some 2, tC1 CB "range" "index" 2 1)]) rfl rfl scAsk.nd LamX.takes0
        (fun W pn xe tk _ => ?_)
        (.named ⟨rfl, by decide, .inl T.xN.g⟩ rfl rfl (fun a oe cls d pn hz hf => pss_one (ps_set (i := 1) scAsk.nd rfl (Or.inl rfl) (pe_tup (pa_cons pe_str (pa_cons (pe_xf T.xN.T T.nN hz hf (pv 2)) pa_nil)))))
        (.plain ⟨rfl, by decide, .inl T.xO.g⟩ (fun a oe cls d pn hz hf => pss_one (ps_set (i := 1) scAsk.nd rfl (Or.inl rfl) (pe_tup (pa_cons pe_str (pa_cons pe_int pa_nil)))))
        (.named ⟨rfl, by decide, .inl T.xB.g⟩ rfl rfl (fun a oe cls d pn hz hf => pss_one (ps_set (i := 1) scAsk.nd rfl (Or.inl rfl) (pe_tup (pa_cons pe_str (pa_cons (pe_xf T.xB.T T.nB hz hf (pv 2)) pa_nil)))))
        .nil))))
      (pss_one (ps_ret (pv 1)))), ?_⟩
  · refine ⟨fun pins s' σ H' D I h' => ?_⟩
    obtain ⟨Eq, hW, h1, h2, h3⟩ := h'
    have hp := fun p1 p2 => pe_mono (act _ pn xe Eq p1 p2 (takes_len (n := 3) rfl tk) fun cls d σ' H' e => hW cls d σ' H' e)
    refine (pss_one (ps_set (i := 1) scAsk.nd rfl (Or.inl rfl) (pe_tup (pa_cons pe_str (pa_cons (hp _ _) pa_nil))))).run pins s' σ H' D I ?_
    exact ⟨fun _ _ => False, (fun _ _ z => z.elim), h1, h2, h3⟩
  · refine ⟨rAsk CN CO CB Q, fun cls d σ' H' e hl => ?_, rfl, hc, h⟩
    match σ', hl with
    | [u0, u1, u2], _ =>
      rcases e with ⟨rfl, dd, v, rfl, hd, k⟩ | ⟨rfl, k⟩ | ⟨rfl, dd, v, rfl, hd, k⟩
      · refine ⟨true, T.xN.me, fun _ a na => ?_, fun z => nomatch z⟩
        exact ⟨_, rfl, rfl, rfl, dd, _, _, rfl, hd, rfl, by show 2 ≤ sizeLine; decide, fun t nt => ⟨_, rfl, k t nt⟩⟩
      · refine ⟨false, T.e1, (fun z => nomatch z), fun _ => ⟨true, T.xO.me, fun _ a na => ?_, fun z => nomatch z⟩⟩
        exact ⟨by show 2 ≤ sizeLine; decide, fun t nt => ⟨_, rfl, k t nt⟩⟩
      · refine ⟨false, T.e2, (fun z => nomatch z), fun _ => ⟨false, T.e3, (fun z => nomatch z), fun _ => ⟨true, T.xB.me, fun _ a na => ?_, fun z => nomatch z⟩⟩⟩
        exact ⟨_, rfl, rfl, rfl, dd, _, _, rfl, hd, rfl, by show 2 ≤ sizeLine; decide, fun t nt => ⟨_, rfl, k t nt⟩⟩
end K00
set_option Elab.async false
set_option linter.all false
set_option maxRecDepth 100001
set_option maxHeartbeats 3999999
namespace K00
open PySem L2
abbrev sWrong : Stmt := topS 26
/-! ### flat tuples, the same ones -/
def Flat : V → Prop
  | .non | .bl _ | .int _ => True
  | .str x => PyData.strOk x = true
  | _ => False
theorem dp_flat {K : PySem.W.Frag} {H : Hp} {v : V} (h : Flat v) : Dp K H v (dOf v) := by
  cases v with
  | non => exact .non
  | bl b => exact .bl b
  | int i => exact .int i
  | str x => exact .str x
  | _ => exact h.elim
theorem dpAll_flat {K : PySem.W.Frag} {H : Hp} : ∀ {xs : List V}, (∀ v ∈ xs, Flat v) → DpAll K H xs (xs.map dOf)
  | [], _ => .nil
  | x :: xs, h => .cons (dp_flat (h x List.mem_cons_self)) (dpAll_flat fun v m => h v (List.mem_cons_of_mem _ m))
theorem lay_flat : ∀ {xs : List V}, (∀ v ∈ xs, Flat v) → PyData.canLayAll0 (xs.map dOf) = true
  | [], _ => by simp [PyData.canLayAll0]
  | x :: xs, h => by
    have ih := lay_flat fun v m => h v (List.mem_cons_of_mem x m)
    have hx := h x List.mem_cons_self
    rw [List.map_cons, PyData.canLayAll0, ih, Bool.and_true]
    cases x <;> simp [dOf, PyData.canLay0, Flat] at hx ⊢
    exact hx
theorem depth_flat : ∀ (xs : List V), PyData.depthAll (xs.map dOf) ≤ 1
  | [] => by simp [PyData.depthAll]
  | x :: xs => by
    have ih := depth_flat xs
    simp only [List.map_cons, PyData.depthAll]
    cases x <;> simp only [dOf, PyData.depth] <;> omega
theorem shT_flat {xs : List V} (h : ∀ v ∈ xs, Flat v) : SeqAt.shaped (.tuple (xs.map dOf)) = true := by
  have h1 := lay_flat h
  have h2 := depth_flat xs
  show (PyData.canLay0 (.tuple (xs.map dOf)) && decide (PyData.depth (.tuple (xs.map dOf)) ≤ 64)) = true
  rw [Bool.and_eq_true]
  refine ⟨by simp only [PyData.canLay0]; exact h1, decide_eq_true ?_⟩
  simp only [PyData.depth]
  omega
/-- two tuples with the same flat items -/
def rSm (b : Bool) : R2 := fun x y H Q => ∃ s t us, x = .ref s ∧ y = .ref t ∧ H s = some (.tup us) ∧ H t = some (.tup us) ∧ (∀ v ∈ us, Flat v) ∧ Q (.bl b) H
section
variable {X : Cx}
theorem op_neSm (hu : X.A.units + 64 < cLine) : OpR X (compareOp .NotEq) (rSm false) := by
  intro pins s σ H x y v u Q I rx ry h
  obtain ⟨a, b, us, rfl, rfl, d1, d2, f, q⟩ := h
  have sh := shT_flat f
  refine op_neD hu pins s σ H _ _ v u Q I rx ry ⟨_, _, .tup (SqT.of d1) (dpAll_flat f), .tup (SqT.of d2) (dpAll_flat f), sh, sh, ?_⟩
  rw [SeqAt.eqv_refl _ (Bool.and_eq_true_iff.mp sh).1]
  exact q
theorem op_eqSm (hu : X.A.units + 64 < cLine) : OpR X (compareOp .Eq) (rSm true) := by
  intro pins s σ H x y v u Q I rx ry h
  obtain ⟨a, b, us, rfl, rfl, d1, d2, f, q⟩ := h
  have sh := shT_flat f
  refine op_eqD hu pins s σ H _ _ v u Q I rx ry ⟨_, _, .tup (SqT.of d1) (dpAll_flat f), .tup (SqT.of d2) (dpAll_flat f), sh, sh, ?_⟩
  rw [SeqAt.eqv_refl _ (Bool.and_eq_true_iff.mp sh).1]
  exact q
end
/-! ### scans -/
/-- what is least behind ns -/
def lastL : Int → List V → Int
  | l, [] => l
  | l, .int j :: r => lastL (j + 1) r
  | l, _ :: r => lastL l r
theorem scan_app {m : Int} : ∀ {l : Int} {i : Nat} {pre rest : List V}, scan m l i pre = none → scan m l i (pre ++ rest) = scan m (lastL l pre) (i + pre.length) rest
  | l, i, [], rest, _ => rfl
  | l, i, v :: pre, rest, h => by
    rw [List.cons_append]
    have e : ∀ n : Nat, i + 1 + n = i + (n + 1) := fun n => by omega
    cases v with
    | non =>
      rw [scan_non] at h ⊢
      rw [scan_app h, List.length_cons, e]
      rfl
    | int j =>
      simp only [scan] at h ⊢
      by_cases c : l ≤ j ∧ j ≤ m - 1
      · rw [if_pos c] at h ⊢
        rw [scan_app h, List.length_cons, e]
        rfl
      · rw [if_neg c] at h
        cases h
    | _ => simp only [scan] at h; cases h
theorem scan_pre {m : Int} : ∀ {l : Int} {i : Nat} {pre rest : List V}, scan m l i (pre ++ rest) = none → scan m l i pre = none
  | l, i, [], rest, _ => rfl
  | l, i, v :: pre, rest, h => by
    rw [List.cons_append] at h
    cases v with
    | non =>
      rw [scan_non] at h ⊢
      exact scan_pre h
    | int j =>
      simp only [scan] at h ⊢
      by_cases c : l ≤ j ∧ j ≤ m - 1
      · rw [if_pos c] at h ⊢
        exact scan_pre h
      · rw [if_neg c] at h
        cases h
    | _ => simp only [scan] at h; cases h
theorem lastL_of {m : Int} : ∀ {l : Int} {i : Nat} {pre : List V}, scan m l i pre = none → l ≤ lastL l pre ∧ (∀ j ∈ intsOf pre, j < lastL l pre) ∧ (lastL l pre = l ∨ lastL l pre - 1 ∈ intsOf pre)
  | l, i, [], _ => ⟨Int.le_refl _, (fun _ z => by cases z), .inl rfl⟩
  | l, i, v :: r, h => by
    cases v with
    | non =>
      rw [scan_non] at h
      exact lastL_of (pre := r) h
    | int j =>
      simp only [scan] at h
      by_cases c : l ≤ j ∧ j ≤ m - 1
      · rw [if_pos c] at h
        obtain ⟨h1, h2, h3⟩ := lastL_of (pre := r) h
        refine ⟨by show l ≤ lastL (j + 1) r; omega, fun x hx => ?_, .inr ?_⟩
        · rcases List.mem_cons.mp hx with rfl | hx
          · show x < lastL (x + 1) r
            omega
          · exact h2 x hx
        · show lastL (j + 1) r - 1 ∈ j :: intsOf r
          rcases h3 with h3 | h3
          · rw [h3, show j + 1 - 1 = j by omega]
            exact List.mem_cons_self
          · exact List.mem_cons_of_mem _ h3
      · rw [if_neg c] at h
        cases h
    | _ => simp only [scan] at h; cases h
theorem cut_to {xs : List V} {k : Nat} (h : k ≤ xs.length) : cutV xs none (some (k : Int)) = xs.take k := by
  unfold cutV
  rw [HT.sIx_nat, HT.sIx_none, List.drop_zero, Nat.sub_zero, Nat.min_eq_left h]
theorem cut_from {xs : List V} {k : Nat} (h : k ≤ xs.length) : cutV xs (some (k : Int)) none = xs.drop k := by
  unfold cutV
  rw [HT.sIx_nat, HT.sIx_none, Nat.min_eq_left h, List.take_of_length_le (by rw [List.length_drop]; exact Nat.le_refl _)]
theorem kn_flat {H : Hp} {v : V} (h : Flat v) : Kn H v := by
  cases v with
  | non => exact .non
  | bl b => exact .bl b
  | int i => exact .int i
  | str x => exact .str x
  | _ => exact h.elim
theorem flat_ref {v : V} (h : Flat v) : ∀ b, v ≠ .ref b := fun b e => by
  rw [e] at h
  exact h
theorem new_old {H H' : Hp} {t : Addr} (e : Same H H') (n : H' t = none) : H t = none := e.free n
end K00
set_option Elab.async false
set_option linter.all false
set_option maxRecDepth 100001
set_option maxHeartbeats 3999999
namespace K00
open PySem L2
def spWrong : Sp := fun vs H Q _ => ∃ (pn cl s : Addr) (m : Int) (b : Nat) (ns : List V), vs = [.ref pn, .int m, .ref s] ∧ Pen H pn cl b ∧ b ≤ 900000 ∧ H s = some (.lst ns) ∧ ns.length ≤ 60 ∧ Good m ns ∧ m ≤ 2000 ∧ ∀ H', Q (.bl true) H'
section
variable {P : Program} {w : World} {K : PySem.W.Frag} {mg : Str → Option Value} {base : Heap}
abbrev NWr : List Str := ["_law_pen_here", "_law_many", "_law_numbers", "_law_odd", "_law_spot", "_law_low", "_law_some", "_law_goal"]
theorem scWrong : FnScope NWr ["_law_pen_here", "_law_many", "_law_numbers"] (defScope sWrong) := ⟨rfl, rfl, rfl, by decide +kernel, rfl, by decide +kernel, by decide +kernel⟩
theorem ok_wrong {f : Addr} {fd : FuncData} (F : Fun K "_law_wrong_right" "_law_wrong_right" sWrong f fd) (B : Bi mg) (cD : Cal CX0 P w K mg base 1 "_law_draw" spDraw) (cM : Cal CX0 P w K mg base 6 "_law_made" (spMade K)) : FnOk P w K mg base CX0 7 f fd ["_law_pen_here", "_law_many", "_law_numbers"] spWrong := by
  refine F.ok scWrong (fun vs H Q E h => ?_) (fun cdv A outer s H vs Q E hr h => ?_)
  · obtain ⟨pn, cl, s, m, b, ns, rfl, _⟩ := h
    rfl
  · obtain ⟨pn, cl, s0, m, b, ns, rfl, pen, hb, hs, len, G, m1, q⟩ := h
    refine ⟨_, pss_cons (ps_for PassesOwn.never rfl (pi_sqA (pe_lst (pa_cons (pe_un un_neg pe_int) (pa_cons pe_int (pa_cons pe_bl (pa_cons pe_non (pa_cons pe_str pa_nil))))))) (pg_name (i := 3) scWrong.nd rfl (.inl rfl))
        (pss_one (ps_if (pt_cmpR (op_neSm (hu64 hr)) (pe_c cM hr pass0 (pa_cons (pv 3) (pa_cons (pv 2) pa_nil))) (pe_tup (pa_cons pe_str (pa_cons (pv 3) pa_nil))) (nomark _)) pss_never pss_nil)))
      (pss_cons (ps_set (i := 4) scWrong.nd rfl (Or.inl rfl) (pe_c cD hr pass0 (pa_cons (pv 0) (pa_cons (pe_op op_add (pe_len B.len (pa_cons (pv 2) pa_nil)) pe_int) pa_nil))))
      (pss_cons (ps_set (i := 5) scWrong.nd rfl (Or.inl rfl) (pe_callB (cr_max rfl) rfl B.max (by decide +kernel) (pa_cons (pe_op op_cat (pe_lst (pa_cons (pe_un un_neg pe_int) pa_nil))
          (pe_lc (own := [("_law_goal", 7)]) rfl scWrong.nd (pi_sqA (pe_slice sl_list (pv 2) po_none (po_some (pv 4)))) (blkOk_by (N := NWr) (sc := defScope sWrong) (by decide +kernel))
            (fun _ _ _ _ _ => pg_name (i := 7) scWrong.nd rfl (Or.inl rfl)) (fun _ _ _ _ _ => pts_one (pt_cmpR op_notN (pv 7) pe_non (nomark _))) (fun _ _ _ _ _ => pv 7))) pa_nil)))
      (pss_cons (ps_for PassesOwn.never rfl (pi_sqA (pe_lst (pa_cons (pv 5) (pa_cons (pv 1) (pa_cons (pe_un un_neg pe_int) (pa_cons pe_bl (pa_cons pe_str (pa_cons (pe_tup (pa_cons pe_int pa_nil)) pa_nil)))))))) (pg_name (i := 3) scWrong.nd rfl (.inl rfl))
        (pss_one (ps_if (pt_cmpR (op_neSm (hu64 hr)) (pe_c cM hr pass0 (pa_cons (pv 1) (pa_cons (pe_op op_cat (pe_op op_cat (pe_slice sl_list (pv 2) po_none (po_some (pv 4))) (pe_lst (pa_cons (pv 3) pa_nil))) (pe_slice sl_list (pv 2) (po_some (pv 4)) po_none)) pa_nil)))
          (pe_tup (pa_cons pe_str (pa_cons (pv 4) pa_nil))) (nomark _)) pss_never pss_nil)))
      (pss_cons (ps_for PassesOwn.never rfl (pi_sqA (pe_lst (pa_cons pe_non (pa_cons (pe_un un_neg pe_int) pa_nil)))) (pg_name (i := 6) scWrong.nd rfl (.inl rfl))
        (pss_one (ps_if (pt_cmpR (op_neSm (hu64 hr)) (pe_c cM hr pass0 (pa_cons pe_int (pa_cons (pe_op op_rep (pe_lst (pa_cons (pv 6) pa_nil)) pe_int) pa_nil)))
          (pe_tup (pa_cons pe_str (pa_cons pe_str (pa_cons pe_int (pa_cons pe_int pa_nil))))) (nomark _)) pss_never pss_nil)))
      (pss_one (ps_ret pe_bl)))))), ?_⟩
    refine ⟨_, rfl, by show 5 ≤ sizeLine; decide, fun L nL => ⟨L, _, rfl, .inl (SqL.of upd_same), ?_⟩⟩
    have e1 := same_new (o := .lst [.int (-1), .int 2001, .bl true, .non, .str "3"]) nL
    generalize upd H L (.lst [.int (-1), .int 2001, .bl true, .non, .str "3"]) = H1 at e1 ⊢
    refine fun J G1 wk hG => for_it wk (fun i σ H' => ∃ a : Option V, σ = [some (.ref pn), some (.int m), some (.ref s0), a, none, none, none, none] ∧ Same H1 H') ⟨none, rfl, Same.refl _⟩ (fun i σ H' _ ⟨_, _, e⟩ => hG H' fun o z => e _ _ z) ?_ ?_
    · rintro i x σ H2 H3 hi ⟨a, rfl, e⟩ ⟨rfl, hx⟩
      have hv : Flat x ∧ btw x 0 2000 = false := by
        have hm := List.mem_of_getElem? hx
        simp only [List.mem_cons, List.not_mem_nil, or_false] at hm
        rcases hm with rfl | rfl | rfl | rfl | rfl <;> exact ⟨by first | exact True.intro | (show PyData.strOk _ = true; decide +kernel), by decide +kernel⟩
      refine ⟨_, rfl, _, rfl, x, s0, ns, _, rfl, .inl (SqL.of (e _ _ (e1 _ _ hs))), fun v hv => num_kn (G.num v hv), kn_flat hv.1, flat_ref hv.1, .inl ⟨hv.2, rfl⟩, fun t H4 e4 nt ht => ?_⟩
      refine ⟨_, rfl, by show 2 ≤ sizeLine; decide, fun t2 nt2 => ⟨t, t2, _, rfl, rfl, (upd_ne (ne_of_none ht nt2)).trans ht, upd_same, ?_, ?_⟩⟩
      · intro v hm
        simp only [List.mem_cons, List.not_mem_nil, or_false] at hm
        rcases hm with rfl | rfl
        · show PyData.strOk _ = true
          decide +kernel
        · exact hv.1
      · exact ⟨_, rfl, iteF ⟨some x, rfl, e.trans (e4.trans (same_new nt2))⟩⟩
    rintro σ H2 ⟨a, rfl, e⟩
    have pen2 := (pen.same e1).same e
    have hs2 := e _ _ (e1 _ _ hs)
    refine ⟨_, rfl, _, rfl, s0, ns, rfl, .inl (SqL.of hs2), _, _, rfl, rfl, pn, cl, _, b, rfl, pen2, by omega, by omega, by omega, fun r H3 r0 r1 b3 pen3 => ?_⟩
    obtain ⟨sp, rfl⟩ := Int.eq_ofNat_of_zero_le r0
    have lsp : sp ≤ ns.length := by omega
    have hs3 : H3 s0 = some (.lst ns) := b3 _ _ (pen2.ne hs2 fun _ z => by cases z) hs2
    clear pen2 hs2 b3 e e1 hs pen
    refine ⟨_, rfl, by show 1 ≤ sizeLine; decide, fun L1 nL1 => ?_⟩
    have s1 := same_new (o := .lst [.int (-1)]) nL1
    have h1 := s1 _ _ hs3
    have hl1 : upd H3 L1 (.lst [.int (-1)]) L1 = some (.lst [.int (-1)]) := upd_same
    generalize upd H3 L1 (.lst [.int (-1)]) = H4 at s1 h1 hl1 ⊢
    refine ⟨_, rfl, _, rfl, ((sp : Nat) : Int), rfl, s0, ns, rfl, SqL.of h1, fun p1 np1 => ⟨p1, ns.take sp, rfl, .inl ?_, ?_⟩⟩
    · rw [cut_to lsp]
      exact SqL.of upd_same
    have s2 := same_new (o := .lst (cutV ns none (some (sp : Int)))) np1
    generalize upd H4 p1 (.lst (cutV ns none (some (sp : Int)))) = H5 at s2 ⊢
    refine fun J G1 wk hG D nD => lc_it wk (fun j H' => (∀ b o, H5 b = some o → H' b = some o) ∧ H' D = some (.lst ((intsOf ((ns.take sp).take j)).map V.int))) ⟨same_new nD, upd_same⟩ (fun j H' _ z => hG H' fun o w => z.1 _ _ w) ?_ ?_
    · rintro j x H6 H7 hj ⟨e5, hD⟩ ⟨rfl, hx⟩
      have tj : (ns.take sp).take (j + 1) = (ns.take sp).take j ++ [x] := by
        obtain ⟨lt, eq⟩ := List.getElem?_eq_some_iff.mp hx
        rw [List.take_succ_eq_append_getElem lt, eq]
      have nx : Num x := G.num x (List.mem_of_mem_take (List.mem_of_getElem? hx))
      have sz : (intsOf ((ns.take sp).take j)).length ≤ 2100 := Nat.le_trans (intsOf_len _) (by simp only [List.length_take]; omega)
      refine ⟨rfl, x, rfl, rfl, _, rfl, ?_⟩
      rcases nx with rfl | ⟨n, rfl⟩
      · refine ite2 (fun c => absurd c (by decide)) fun _ => ⟨e5, ?_⟩
        rw [tj, intsOf_append, show intsOf [V.non] = [] from rfl, List.append_nil]
        exact hD
      · refine ite2 (fun _ => ?_) fun c => absurd (by simp) c
        refine ⟨_, rfl, _, hD, by rw [List.length_map]; exact small2000 sz, fun b o z => ?_, ?_⟩
        · rw [upd_ne (ne_of_none z nD)]
          exact e5 _ _ z
        · rw [upd_same, tj, intsOf_append, List.map_append]
          rfl
    rintro H6 ⟨e5, hD⟩
    rw [List.take_of_length_le (Nat.le_refl _)] at hD
    have s3 : Same H4 H6 := s2.trans e5
    have sz2 : (intsOf (ns.take sp)).length ≤ 60 := Nat.le_trans (intsOf_len _) (by rw [List.length_take]; omega)
    refine ⟨L1, D, _, _, rfl, rfl, s3 _ _ hl1, hD, by rw [List.length_map]; show 1 + _ ≤ sizeLine; exact Nat.le_of_lt (small2000 (by omega)), fun p2 np2 => ?_⟩
    refine ⟨p2, -1 :: intsOf (ns.take sp), rfl, SqL.of upd_same, Nat.succ_pos _, fun mx hm hle => ?_⟩
    have spre : scan m 0 0 (ns.take sp) = none := scan_pre (rest := ns.drop sp) (by rw [List.take_append_drop]; exact G.sc)
    obtain ⟨k1, k2, k3⟩ := lastL_of spre
    have emx : mx = lastL 0 (ns.take sp) - 1 := by
      rcases List.mem_cons.mp hm with e | e
      · rcases k3 with k3 | k3
        · omega
        · have := hle _ (List.mem_cons_of_mem _ k3)
          omega
      · have a1 := k2 _ e
        rcases k3 with k3 | k3
        · have a2 := hle (-1) List.mem_cons_self
          omega
        · have := hle _ (List.mem_cons_of_mem _ k3)
          omega
    have hs7 : upd H6 p2 (.lst ([V.int (-1)] ++ (intsOf (ns.take sp)).map V.int)) s0 = some (.lst ns) := (same_new np2) _ _ (s3 _ _ h1)
    generalize upd H6 p2 (.lst ([V.int (-1)] ++ (intsOf (ns.take sp)).map V.int)) = H7 at hs7 ⊢
    subst emx
    clear hm hle hD s3 e5 nL1 np1 wk hG np2
    refine ⟨_, rfl, _, rfl, _, rfl, by show 1 ≤ sizeLine; decide, fun t0 nt0 => ⟨by show 6 ≤ sizeLine; decide, fun L nL => ⟨L, _, rfl, .inl (SqL.of upd_same), ?_⟩⟩⟩
    have t0at : upd H7 t0 (.tup [.int 0]) t0 = some (.tup [.int 0]) := upd_same
    have hs8 := same_new (o := .tup [.int 0]) nt0 _ _ hs7
    generalize upd H7 t0 (.tup [.int 0]) = H8 at t0at hs8 nL ⊢
    have s9 := same_new (o := .lst [.int (lastL 0 (ns.take sp) - 1), .int m, .int (-1), .bl true, .str "0", .ref t0]) nL
    generalize upd H8 L (.lst [.int (lastL 0 (ns.take sp) - 1), .int m, .int (-1), .bl true, .str "0", .ref t0]) = H9 at s9 ⊢
    have t9 := s9 _ _ t0at
    have hs9 := s9 _ _ hs8
    clear t0at hs8 s9 nL nt0 hs7
    refine fun J G1 wk hG => for_it wk (fun i σ H' => ∃ a : Option V, σ = [some (.ref pn), some (.int m), some (.ref s0), a, some (.int (sp : Nat)), some (.int (lastL 0 (ns.take sp) - 1)), none, none] ∧ Same H9 H') ⟨_, rfl, Same.refl _⟩ (fun i σ H' _ ⟨_, _, e⟩ => hG H' fun o z => e _ _ z) ?_ ?_
    · rintro i x σ H2 H3 hi ⟨a, rfl, e⟩ ⟨rfl, hx⟩
      have hv : Kn H9 x ∧ x ≠ .non ∧ btw x (lastL 0 (ns.take sp)) (m - 1) = false := by
        have hm := List.mem_of_getElem? hx
        simp only [List.mem_cons, List.not_mem_nil, or_false] at hm
        rcases hm with rfl | rfl | rfl | rfl | rfl | rfl
        · exact ⟨.int _, (fun z => nomatch z), decide_eq_false fun z => by omega⟩
        · exact ⟨.int _, (fun z => nomatch z), decide_eq_false fun z => by omega⟩
        · exact ⟨.int _, (fun z => nomatch z), decide_eq_false fun z => by omega⟩
        · exact ⟨.bl _, (fun z => nomatch z), rfl⟩
        · exact ⟨.str _, (fun z => nomatch z), rfl⟩
        · exact ⟨.tup t9, (fun z => nomatch z), rfl⟩
      obtain ⟨kx, nx, bx⟩ := hv
      have hsc := e _ _ hs9
      refine ⟨_, rfl, _, rfl, _, rfl, ((sp : Nat) : Int), rfl, s0, ns, rfl, SqL.of hsc, fun p1 np1 => ?_⟩
      rw [cut_to lsp]
      refine ⟨_, rfl, by show 1 ≤ sizeLine; decide, fun p2 np2 => ?_⟩
      have a1 := same_new (o := .lst (ns.take sp)) np1
      have a2 := same_new (o := .lst [x]) np2
      have b1 : upd H3 p1 (.lst (ns.take sp)) p1 = some (.lst (ns.take sp)) := upd_same
      have b2 : upd (upd H3 p1 (.lst (ns.take sp))) p2 (.lst [x]) p2 = some (.lst [x]) := upd_same
      refine ⟨p1, p2, _, _, rfl, rfl, a2 _ _ b1, b2, by show _ + 1 ≤ sizeLine; rw [List.length_take]; exact Nat.le_of_lt (small2000 (by omega)), fun p3 np3 => ?_⟩
      have a12 := a1.trans a2
      have hsc2 := a12 _ _ hsc
      generalize upd (upd H3 p1 (.lst (ns.take sp))) p2 (.lst [x]) = A2 at a12 hsc2 np3 ⊢
      clear a1 a2 b1 b2 np1 np2 hx wk hG
      have a3 := same_new (o := .lst (ns.take sp ++ [x])) np3
      have b3 : upd A2 p3 (.lst (ns.take sp ++ [x])) p3 = some (.lst (ns.take sp ++ [x])) := upd_same
      generalize upd A2 p3 (.lst (ns.take sp ++ [x])) = A3 at a3 b3 ⊢
      refine ⟨_, rfl, _, rfl, ((sp : Nat) : Int), rfl, s0, ns, rfl, SqL.of (a3 _ _ hsc2), fun p4 np4 => ?_⟩
      rw [cut_from lsp]
      have a4 := same_new (o := .lst (ns.drop sp)) np4
      have b4 : upd A3 p4 (.lst (ns.drop sp)) p4 = some (.lst (ns.drop sp)) := upd_same
      generalize upd A3 p4 (.lst (ns.drop sp)) = A4 at a4 b4 ⊢
      have ln : (ns.take sp ++ [x]).length + (ns.drop sp).length = ns.length + 1 := by simp only [List.length_append, List.length_take, List.length_drop, List.length_singleton]; omega
      refine ⟨p3, p4, _, _, rfl, rfl, a4 _ _ b3, b4, by rw [ln]; exact Nat.le_of_lt (small2000 (by omega)), fun p5 np5 => ?_⟩
      have a5 := same_new (o := .lst (ns.take sp ++ [x] ++ ns.drop sp)) np5
      have b5 : upd A4 p5 (.lst (ns.take sp ++ [x] ++ ns.drop sp)) p5 = some (.lst (ns.take sp ++ [x] ++ ns.drop sp)) := upd_same
      generalize upd A4 p5 (.lst (ns.take sp ++ [x] ++ ns.drop sp)) = A5 at a5 b5 ⊢
      have all : Same H9 A5 := e.trans (a12.trans (a3.trans (a4.trans a5)))
      have sc : scan m 0 0 (ns.take sp ++ [x] ++ ns.drop sp) = some sp := by
        rw [List.append_assoc, scan_app spre, List.singleton_append, scan_out nx bx, Nat.zero_add, List.length_take, Nat.min_eq_left lsp]
      refine ⟨.int m, p5, _, _, rfl, .inl (SqL.of b5), fun v hv => ?_, .int _, (fun _ z => nomatch z), .inr ⟨m, rfl, G.nn, m1, .inr ⟨by rw [List.length_append, ln]; omega, sp, sc, rfl⟩⟩, fun t H4 e4 nt ht => ?_⟩
      · rcases List.mem_append.mp hv with hv | hv
        · rcases List.mem_append.mp hv with hv | hv
          · exact num_kn (G.num v (List.mem_of_mem_take hv))
          · rw [List.mem_singleton.mp hv]
            exact kx.same all
        · exact num_kn (G.num v (List.mem_of_mem_drop hv))
      refine ⟨_, rfl, by show 2 ≤ sizeLine; decide, fun t2 nt2 => ⟨t, t2, _, rfl, rfl, (upd_ne (ne_of_none ht nt2)).trans ht, upd_same, ?_, ?_⟩⟩
      · intro v hm
        simp only [List.mem_cons, List.not_mem_nil, or_false] at hm
        rcases hm with rfl | rfl
        · show PyData.strOk _ = true
          decide +kernel
        · exact True.intro
      · exact ⟨_, rfl, iteF ⟨some x, rfl, all.trans (e4.trans (same_new nt2))⟩⟩
    rintro σ H2 ⟨a, rfl, e⟩
    have hsA := e _ _ hs9
    refine ⟨_, rfl, by show 2 ≤ sizeLine; decide, fun L nL => ⟨L, _, rfl, .inl (SqL.of upd_same), ?_⟩⟩
    generalize upd H2 L (.lst [.non, .int (-1)]) = HB
    refine fun J G1 wk hG => for_it wk (fun i σ H' => ∃ a1 : Option V, σ = [some (.ref pn), some (.int m), some (.ref s0), a, some (.int (sp : Nat)), some (.int (lastL 0 (ns.take sp) - 1)), a1, none] ∧ Same HB H') ⟨_, rfl, Same.refl _⟩ (fun i σ H' _ ⟨_, _, e⟩ => hG H' fun o z => e _ _ z) ?_ ?_
    · rintro i x σ H3 H4 hi ⟨a1, rfl, e2⟩ ⟨rfl, hx⟩
      have nx : Num x := by
        have hm := List.mem_of_getElem? hx
        simp only [List.mem_cons, List.not_mem_nil, or_false] at hm
        exact hm.imp id fun z => ⟨_, z⟩
      refine ⟨_, rfl, by show 1 ≤ sizeLine; decide, fun p1 np1 => ⟨p1, 2001, _, rfl, rfl, upd_same, by decide, by decide, (by show 1 * 2001 ≤ sizeLine; decide), fun p2 np2 => ?_⟩⟩
      have lr : (List.replicate (Int.toNat 2001) [x]).flatten.length = 2001 := by
        rw [List.length_flatten, List.map_replicate, List.sum_replicate_nat]
        rfl
      generalize he : (List.replicate (Int.toNat 2001) [x]).flatten = xs at lr ⊢
      have mem : ∀ v ∈ xs, v = x := fun v hv => by
        rw [← he] at hv
        obtain ⟨l, hl, hv⟩ := List.mem_flatten.mp hv
        rw [(List.mem_replicate.mp hl).2] at hv
        exact List.mem_singleton.mp hv
      have a1 := same_new (o := .lst [x]) np1
      have a2 := same_new (o := .lst xs) np2
      refine ⟨.int 2000, p2, xs, _, rfl, .inl (SqL.of upd_same), fun v hv => by rw [mem v hv]; exact num_kn nx, .int _, (fun _ z => nomatch z), .inr ⟨2000, rfl, by decide, by decide, .inl ⟨by rw [lr]; decide, rfl⟩⟩, fun t H5 e5 nt ht => ?_⟩
      rw [lr] at ht
      refine ⟨by show 4 ≤ sizeLine; decide, fun t2 nt2 => ⟨t, t2, _, rfl, rfl, (upd_ne (ne_of_none ht nt2)).trans ht, upd_same, ?_, ?_⟩⟩
      · intro v hm
        simp only [List.mem_cons, List.not_mem_nil, or_false] at hm
        rcases hm with rfl | rfl | rfl | rfl
        · show PyData.strOk _ = true
          decide +kernel
        · show PyData.strOk _ = true
          decide +kernel
        · exact True.intro
        · exact True.intro
      · exact ⟨_, rfl, iteF ⟨_, rfl, e2.trans (a1.trans (a2.trans (e5.trans (same_new nt2))))⟩⟩
    rintro σ H3 ⟨a1, rfl, e2⟩
    exact q H3
end
end K00
set_option Elab.async false
set_option linter.all false
set_option maxRecDepth 100001
set_option maxHeartbeats 3999999
namespace K00
open PySem L2
/-! ### ranges of ascending numbers, and the numbers of ranges -/
def seg (p : Int × Int) : List Int := (List.range (p.2 + 1 - p.1).toNat).map fun k => p.1 + (k : Nat)
def expand (ps : List (Int × Int)) : List Int := (ps.map seg).flatten
theorem expand_snoc (ps : List (Int × Int)) (p : Int × Int) : expand (ps ++ [p]) = expand ps ++ seg p := by
  unfold expand
  rw [List.map_append, List.flatten_append]
  simp
theorem seg_one (n : Int) : seg (n, n) = [n] := by
  unfold seg
  rw [show (n + 1 - n).toNat = 1 by omega]
  simp [List.range_succ]
theorem seg_join {p : Int × Int} {n : Int} (h : p.2 = n - 1) (h2 : p.1 ≤ p.2) : seg (p.1, n) = seg p ++ [n] := by
  unfold seg
  have e : (n + 1 - p.1).toNat = (p.2 + 1 - p.1).toNat + 1 := by omega
  show (List.range (n + 1 - p.1).toNat).map _ = _
  rw [e, List.range_succ, List.map_append]
  congr 1
  simp only [List.map_cons, List.map_nil, List.cons.injEq, and_true]
  omega
theorem okR_snoc {n : Int} : ∀ {ps : List (Int × Int)} {least : Int} {p : Int × Int}, okR n least (ps ++ [p]) ↔ okR n least ps ∧ (ps = [] → least ≤ p.1) ∧ (∀ q, ps.getLast? = some q → q.2 + 2 ≤ p.1) ∧ p.1 ≤ n - 1 ∧ p.1 ≤ p.2 ∧ p.2 ≤ n - 1
  | [], least, p => by
    constructor
    · rintro ⟨h1, h2, h3, h4, _⟩
      exact ⟨True.intro, fun _ => h1, (fun q z => by cases z), h2, h3, h4⟩
    · rintro ⟨_, h1, _, h2, h3, h4⟩
      exact ⟨h1 rfl, h2, h3, h4, True.intro⟩
  | q :: r, least, p => by
    rw [List.cons_append]
    constructor
    · rintro ⟨h1, h2, h3, h4, h5⟩
      obtain ⟨k1, k2, k3, k4⟩ := okR_snoc.mp h5
      refine ⟨⟨h1, h2, h3, h4, k1⟩, (fun z => by cases z), fun q2 z => ?_, k4⟩
      cases r with
      | nil =>
        cases z
        exact k2 rfl
      | cons a b => exact k3 q2 (by rw [List.getLast?_cons_cons] at z; exact z)
    · rintro ⟨⟨h1, h2, h3, h4, h5⟩, _, k3, k4⟩
      refine ⟨h1, h2, h3, h4, okR_snoc.mpr ⟨h5, fun z => ?_, fun q2 z => ?_, k4⟩⟩
      · subst z
        exact k3 q rfl
      · cases r with
        | nil => cases z
        | cons a b => exact k3 q2 (by rw [List.getLast?_cons_cons]; exact z)
structure Upto (n : Int) (acc : List (Int × Int)) (done : List Int) : Prop where
  ok : okR n 0 acc
  ex : expand acc = done
  la : ∀ p, acc.getLast? = some p → ∃ js, done = js ++ [p.2]
theorem fold_up {n : Int} : ∀ (is done : List Int) (acc : List (Int × Int)), Upto n acc done → (∀ i ∈ done ++ is, 0 ≤ i ∧ i ≤ n - 1) → (done ++ is).Pairwise (· < ·) → Upto n (is.foldl rstep acc) (done ++ is)
  | [], done, acc, U, _, _ => by
    rw [List.append_nil]
    exact U
  | x :: is, done, acc, U, hb, hp => by
    have e : done ++ x :: is = (done ++ [x]) ++ is := by simp
    rw [e] at hb hp ⊢
    refine fold_up is (done ++ [x]) (rstep acc x) ?_ hb hp
    have hx := hb x (by simp)
    have hd : ∀ i ∈ done, i < x := fun i hi => (List.pairwise_append.mp (List.pairwise_append.mp hp).1).2.2 i hi x List.mem_cons_self
    rcases List.eq_nil_or_concat acc with rfl | ⟨ps, p, rfl⟩
    · rw [rstep_nil]
      refine ⟨⟨hx.1, hx.2, Int.le_refl _, hx.2, True.intro⟩, ?_, fun p z => ?_⟩
      · have := U.ex
        rw [show expand [] = [] from rfl] at this
        rw [← this]
        show expand ([] ++ [(x, x)]) = _
        rw [expand_snoc, seg_one]
        rfl
      · cases z
        exact ⟨done, rfl⟩
    · rw [List.concat_eq_append] at U ⊢
      obtain ⟨js, ej⟩ := U.la p (List.getLast?_concat ..)
      have lt : p.2 < x := hd _ (by rw [ej]; simp)
      obtain ⟨k1, k2, k3, k4, k5, k6⟩ := okR_snoc.mp U.ok
      by_cases c : p.2 = x - 1
      · rw [rstep_join ps p x c]
        refine ⟨okR_snoc.mpr ⟨k1, k2, k3, k4, by show p.1 ≤ x; omega, hx.2⟩, ?_, fun q z => ?_⟩
        · rw [expand_snoc, seg_join c k5, ← List.append_assoc, ← expand_snoc, U.ex]
        · rw [List.getLast?_concat] at z
          cases z
          exact ⟨done, rfl⟩
      · rw [rstep_new ps p x c]
        refine ⟨okR_snoc.mpr ⟨U.ok, (fun z => by simp at z), fun q z => ?_, hx.2, Int.le_refl _, hx.2⟩, ?_, fun q z => ?_⟩
        · rw [List.getLast?_concat] at z
          cases z
          show p.2 + 2 ≤ x
          omega
        · rw [expand_snoc, seg_one, U.ex]
        · rw [List.getLast?_concat] at z
          cases z
          exact ⟨done, rfl⟩
theorem rngs_up {n : Int} (is : List Int) (hb : ∀ i ∈ is, 0 ≤ i ∧ i ≤ n - 1) (hp : is.Pairwise (· < ·)) : Upto n (rngs is) is := by
  have h := fold_up (n := n) is [] [] ⟨True.intro, rfl, fun p z => by cases z⟩ (by simpa using hb) (by simpa using hp)
  simpa [rngs] using h
/-- what stands at a number -/
def atN (ns : List V) (i : Int) : V := ns.getD i.toNat .non
theorem cutR_seg {ns : List V} {p : Int × Int} (h1 : 0 ≤ p.1) (h2 : p.1 ≤ p.2) (h3 : p.2 ≤ (ns.length : Int) - 1) : cutR ns p = (seg p).map (atN ns) := by
  unfold cutR seg
  refine List.ext_getElem? fun i => ?_
  rw [List.map_map, List.getElem?_map]
  by_cases c : i < (p.2 + 1 - p.1).toNat
  · rw [List.getElem?_take_of_lt c, List.getElem?_drop, List.getElem?_range c]
    have lt : p.1.toNat + i < ns.length := by omega
    rw [List.getElem?_eq_getElem lt]
    show _ = some (ns.getD (p.1 + (i : Nat)).toNat .non)
    rw [show (p.1 + (i : Nat)).toNat = p.1.toNat + i by omega, List.getD_eq_getElem?_getD, List.getElem?_eq_getElem lt]
    rfl
  · rw [List.getElem?_eq_none (by rw [List.length_take]; omega), List.getElem?_eq_none (by rw [List.length_range]; omega)]
    rfl
theorem intsOf_flatten : ∀ ls : List (List V), intsOf ls.flatten = (ls.map intsOf).flatten
  | [] => rfl
  | l :: r => by rw [List.flatten_cons, intsOf_append, intsOf_flatten r]; rfl
theorem behR_expand {ns : List V} : ∀ {prs : List (Int × Int)} {least : Int}, 0 ≤ least → okR ns.length least prs → behR ns prs = intsOf ((expand prs).map (atN ns))
  | [], _, _, _ => rfl
  | p :: r, least, h0, ⟨h1, _, h3, h4, h5⟩ => by
    have ih := behR_expand (ns := ns) (prs := r) (least := p.2 + 2) (by omega) h5
    have e : behR ns (p :: r) = intsOf (cutR ns p) ++ behR ns r := rfl
    have e2 : expand (p :: r) = seg p ++ expand r := rfl
    rw [e, ih, e2, List.map_append, intsOf_append, cutR_seg (by omega) h3 h4]
theorem behR_rngs {ns : List V} {is : List Int} (hb : ∀ i ∈ is, 0 ≤ i ∧ i ≤ (ns.length : Int) - 1) (hp : is.Pairwise (· < ·)) : behR ns (rngs is) = intsOf (is.map (atN ns)) := by
  have U := rngs_up is hb hp
  rw [behR_expand (Int.le_refl 0) U.ok, U.ex]
end K00
set_option Elab.async false
set_option linter.all false
set_option maxRecDepth 100001
set_option maxHeartbeats 3999999
namespace K00
open PySem L2
abbrev sRR : Stmt := topS 27
/-- a def of the top within which lambdas are made: its code object at c, its table at T -/
structure FunL (K : PySem.W.Frag) (base : Heap) (mg : Str → Option Value) (x : Str) (st : Stmt) (f c T : Addr) (fd : FuncData) : Prop where
  ex : ∃ (oc : Value) (od : Option Addr) (kV doc pm : Value) (an : Option Addr) (ct : Value) (osl : Array (Option Value)),
    fd = PySem.W.fnOf x x (defArgs st) (defBody st) (defScope st) .none kV doc pm an (.ref c) ct ∧ K.lookup f = some ⟨oc, od, .func fd, osl⟩ ∧ PySem.W.codeIn K (.ref c) x = true
  tab : LamX.TabB base mg c T
section
variable {P : Program} {w : World} {K : PySem.W.Frag} {mg : Str → Option Value} {base : Heap}
theorem FunL.okX {CX : CXT} {x : Str} {st : Stmt} {f c T : Addr} {fd : FuncData} {N ps : List Str} {k : Nat} {sp : Sp} (F : FunL K base mg x st f c T fd) (S : FnScope N ps (defScope st)) (len : ∀ vs H Q E, sp vs H Q E → vs.length = ps.length)
    (hbody : ∀ (A : Around) (outer : List Env) (s : Shared) (H : Hp) (vs : List V) (Q : VK) (E : XK), Room k (A.deeper (PyProof.Rows.envOfC x (defScope st) s.heap.objs.size f (.ref c))) → sp vs H Q E →
      ∃ t, PSs (cxOf CX P w K mg base N x (defScope st) f (.ref c) A outer s H E).nox (defBody st) t ∧ t { nx := fun _ H' => Q .non H', rt := Q } (L2.start N vs) H) : FnOk P w K mg base CX (k + 1) f fd ps sp := by
  obtain ⟨oc, od, kV, doc, pm, an, ct, osl, rfl, lk, hcd⟩ := F.ex
  refine fn_of lk hcd S len fun A outer s H vs Q E hr hsp => ?_
  obtain ⟨t, h, q⟩ := hbody A outer s H vs Q E hr hsp
  exact ⟨t, h.nox, q⟩
end
section
variable {X : Cx}
/-- _law_asked(lambda: ..) -/
theorem pe_ask {Tb : List (Addr × Str)} {g c T CN CO CB : Addr} {fd : FuncData} {k j : Nat} {params : Arguments} {body : Expr} {scope : Scope} {t : XK → TE} {p lpos pos : Pos} (FA : Fun X.K "_law_asked" "_law_asked" sAsk g fd) (bA : Binds X.K fd ["_law_function"] [])
    (gA : X.mg "_law_asked" = some (.ref g)) (C : Cts X.K X.mg CN CO CB) (TB : LamX.TabB X.base X.mg c T) (hmT : (T, X.env.qual ++ "<lambda>") ∈ Tb) (hu : ∀ p ∈ Tb, p.1 = T → p.2 = X.env.qual ++ "<lambda>") (hr : Room j X.A) (hk : k + 2 ≤ j) (L : LamX.LamS X.env.scope scope)
    (hbody : ∀ (A : Around) (outer : List Env) (s : Shared) (H : Hp) (E : XK) (f c' : Addr), Room k (A.deeper (LamX.lamEnv X scope s.heap.objs.size f c')) → PE (LamX.lamCx X A outer s H E scope f c') body (t E))
    (hg : Gl X "_law_asked" := by rfl) (hcode : X.env.code = .ref c := by rfl) (hdef : defaultsOf params X.env = ([], []) := by rfl)
    (hbind : ∀ (q : Str) (cl : List (Str × Addr)) (pm cv ctv : Value), bindArgs (PySem.W.kla_fn "<lambda>" q params body scope cl pm cv ctv) ⟨[], []⟩ = pure [] := by intros; rfl) :
    PE X (.Call (.Name "_law_asked" p) [.Lambda params body scope lpos] [] pos) (LamX.tLam Tb (TTask CN CO CB) t) := by
  obtain ⟨oc, od, kV, doc, pm, an, cdv, ct, osl, rfl, lk, hcd⟩ := FA.ex
  exact LamX.pe_lamcall (k := k) hg gA FA.kp lk hcd bA scAsk rfl (.inl rfl) (asked_gives C) TB hcode hmT hu (hr.mono hk) L hdef hbind hbody
end
theorem ext_of {H H' : Hp} (e : Same H H') : LamX.ExtN H H' := LamX.ExtN.of e
theorem IsMap.ext {K : PySem.W.Frag} {C : Addr} {H H' : Hp} {p : Addr} {m : Int} {ns : List V} (q : IsMap K C H p m ns) (e : LamX.ExtN H H') : IsMap K C H' p m ns := by
  obtain ⟨dx, t, h1, h2⟩ := q
  refine ⟨dx, t, e _ _ h1 (fun _ z => nomatch z), ?_⟩
  rcases h2 with (h | ⟨o, h⟩) | h
  · exact .inl (.inl (e _ _ h fun _ z => nomatch z))
  · exact .inl (.inr ⟨o, e _ _ h fun _ z => nomatch z⟩)
  · exact .inr h
theorem Pen.ext {H H' : Hp} {pn cl : Addr} {b : Nat} (h : Pen H pn cl b) (e : LamX.ExtN H H') : Pen H' pn cl b := let ⟨k, l, cs, h1, h2, h3, h4⟩ := h; ⟨k, l, cs, e _ _ h1 (fun _ z => nomatch z), e _ _ h2 (fun _ z => nomatch z), h3, h4⟩
theorem PrAt.ext {H H' : Hp} {ts : List V} {prs : List (Int × Int)} (h : PrAt H ts prs) (e : LamX.ExtN H H') : PrAt H' ts prs := Paired.mapP h fun _ _ ⟨a, h1, h2⟩ => ⟨a, h1, e _ _ h2 fun _ z => nomatch z⟩
/-- all but the pen and the tables is as it was -/
def Kt (pn : Addr) (H H' : Hp) : Prop := ∀ a o, a ≠ pn → H a = some o → (∀ ps, o ≠ .tbl ps) → H' a = some o
theorem Kt.ext {pn : Addr} {H H1 H2 : Hp} (a : Kt pn H H1) (e : LamX.ExtN H1 H2) : Kt pn H H2 := fun b o n h t => e _ _ (a b o n h t) t
theorem kt_but {pn : Addr} {H H1 : Hp} (a : But pn H H1) : Kt pn H H1 := fun b o n h _ => a b o n h
/-- what is no range of numbers below n -/
inductive OddR (n : Int) (H : Hp) : V → Prop
  | non : OddR n H .non
  | lst {a : Addr} {xs : List V} (h : H a = some (.lst xs)) : OddR n H (.ref a)
  | one {a : Addr} {x : V} (h : H a = some (.tup [x])) (f : Flat x) : OddR n H (.ref a)
  | pr {a : Addr} {x y : V} (h : H a = some (.tup [x, y])) (f1 : Flat x) (f2 : Flat y) (w : btw x 0 (n - 1) = false ∨ ∃ i, x = .int i ∧ btw x 0 (n - 1) = true ∧ btw y i (n - 1) = false) : OddR n H (.ref a)
theorem btw_f {i lo hi : Int} (h : ¬ (lo ≤ i ∧ i ≤ hi)) : btw (.int i) lo hi = false := decide_eq_false h
theorem odd_gap {n : Int} {f l : Int} (h : btw (.int l) f (n - 1) = false) : btw (.int f) 0 (n - 1) = false ∨ ∃ i, V.int f = .int i ∧ btw (.int f) 0 (n - 1) = true ∧ btw (.int l) i (n - 1) = false := by
  cases c : btw (.int f) 0 (n - 1) with
  | false => exact .inl rfl
  | true => exact .inr ⟨f, rfl, rfl, h⟩
theorem OddR.ext {n : Int} {H H' : Hp} {v : V} (o : OddR n H v) (e : LamX.ExtN H H') : OddR n H' v := by
  cases o with
  | non => exact .non
  | lst h => exact .lst (e _ _ h fun _ z => nomatch z)
  | one h f => exact .one (e _ _ h fun _ z => nomatch z) f
  | pr h f1 f2 w => exact .pr (e _ _ h fun _ z => nomatch z) f1 f2 w
theorem OddR.kp {n : Int} {H : Hp} {v : V} (o : OddR n H v) : Kp H v := by
  cases o with
  | non => exact ⟨.non, fun a xs z => nomatch z⟩
  | lst h =>
    refine ⟨.lst h, fun a xs z k => ?_⟩
    cases z
    rw [h] at k
    cases k
  | one h f =>
    refine ⟨.tup h, fun a xs z k x hx => ?_⟩
    cases z
    rw [h] at k
    cases k
    rw [List.mem_singleton.mp hx]
    exact kn_flat f
  | pr h f1 f2 w =>
    refine ⟨.tup h, fun a xs z k x hx => ?_⟩
    cases z
    rw [h] at k
    cases k
    rcases List.mem_cons.mp hx with rfl | hx
    · exact kn_flat f1
    · rw [List.mem_singleton.mp hx]
      exact kn_flat f2
theorem OddR.wrong {n : Int} {H : Hp} {v : V} (o : OddR n H v) : rwrong H n 0 0 [v] = some 0 := by
  cases o with
  | non => exact rwrong_none rfl
  | lst h => exact rwrong_none (by simp only [pairOf, h])
  | one h f => exact rwrong_none (by simp only [pairOf, h])
  | pr h f1 f2 w =>
    rcases w with w | ⟨i, rfl, w1, w2⟩
    · exact rwrong_1 (pairOf_tup h) w
    · exact rwrong_2 (pairOf_tup h) w1 w2
theorem at_atN {ns : List V} {i : Int} (h0 : 0 ≤ i) (h1 : i ≤ (ns.length : Int) - 1) : atI ns i = some (atN ns i) := by
  obtain ⟨k, rfl⟩ := Int.eq_ofNat_of_zero_le h0
  have lt : k < ns.length := by omega
  refine atI_nat ?_
  unfold atN
  rw [Int.toNat_natCast, List.getD_eq_getElem?_getD, List.getElem?_eq_getElem lt]
  rfl
theorem atN_mem {ns : List V} {i : Int} (h0 : 0 ≤ i) (h1 : i ≤ (ns.length : Int) - 1) : atN ns i ∈ ns := by
  have lt : i.toNat < ns.length := by omega
  unfold atN
  rw [List.getD_eq_getElem?_getD, List.getElem?_eq_getElem lt]
  exact List.getElem_mem lt
/-- ranges that go well -/
theorem ranB_ok {K : PySem.W.Frag} {C CB : Addr} {H : Hp} {p s : Addr} {m : Int} {ns ts : List V} {is : List Int} {Q : VK} {E : XK} (M : IsMap K C H p m ns) (nn : ∀ v ∈ ns, Num v) (len : ns.length ≤ 20) (hs : (H s = some (.lst ts)) ∨ H s = some (.tup ts)) (pr : PrAt H ts (rngs is))
    (hb : ∀ i ∈ is, 0 ≤ i ∧ i ≤ (ns.length : Int) - 1) (hp : is.Pairwise (· < ·)) (ln : is.length ≤ 20) (q : ∀ l H' us, H l = none → Same H H' → H' l = some (.lst us) → PrAt H' us (rngs (intsOf (is.map (atN ns)))) → Q (.ref l) H') : spRanB K C CB [.ref p, .ref s] H Q E :=
  ⟨p, s, m, ns, ts, rfl, M, nn, by omega, hs.elim (fun h => ⟨_, h⟩) fun h => ⟨_, h⟩, hs.elim (fun h => .inl (SqL.of h)) fun h => .inr (SqT.of h), prAt_kp pr, .inr ⟨rngs is, pr, (rngs_up is hb hp).ok, Nat.le_trans (rngs_len is) (by omega), fun l H' us a1 a2 a3 a4 => q l H' us a1 a2 a3 (by rw [behR_rngs hb hp] at a4; exact a4)⟩⟩
abbrev NRR : List Str := ["_law_pen_here", "_law_old", "_law_move", "_law_numbers", "_law_some", "_law_due", "_law_given", "_law_told", "_law_odd", "_law_ranges_here", "_law_touching", "_law_number"]
def spRR (K : PySem.W.Frag) (C : Addr) (Tb : List (Addr × Str)) : Sp := fun vs H Q _ => ∃ (pn cl p s : Addr) (m : Int) (b : Nat) (ns : List V), vs = [.ref pn, .int ns.length, .ref p, .ref s] ∧ Pen H pn cl b ∧ b ≤ 800000 ∧ IsMap K C H p m ns ∧ H s = some (.lst ns) ∧ ns.length ≤ 20 ∧ (∀ v ∈ ns, Num v) ∧
  LamX.Tabs Tb H ∧ ∀ H', Pen H' pn cl (b + ns.length) → (∀ a o, a ≠ pn → H a = some o → (∀ ps, o ≠ .tbl ps) → H' a = some o) → Q (.bl true) H'
section
variable {P : Program} {w : World} {K : PySem.W.Frag} {mg : Str → Option Value} {base : Heap}
theorem scRR : FnScope NRR ["_law_pen_here", "_law_old", "_law_move", "_law_numbers"] (defScope sRR) := ⟨rfl, rfl, rfl, by decide +kernel, rfl, by decide +kernel, by decide +kernel⟩
theorem ok_rr {nm : Str} {f c T g C CN CO CB : Addr} {fd fdA : FuncData} {Tb : List (Addr × Str)} (F : FunL K base mg nm sRR f c T fd) (B : Bi mg) (cD : Cal CX0 P w K mg base 1 "_law_draw" spDraw) (cLR : Cal CX0 P w K mg base 1 "_law_ranges" spRngs)
    (cR : Met (L2.CX P w) P w K mg base 4 C "ranges_behind" (spRanB K C CB)) (FA : Fun K "_law_asked" "_law_asked" sAsk g fdA) (bA : Binds K fdA ["_law_function"] []) (gA : mg "_law_asked" = some (.ref g)) (Ts : Cts K mg CN CO CB)
    (hmT : (T, nm ++ ".<locals>." ++ "<lambda>") ∈ Tb) (hu : ∀ p ∈ Tb, p.1 = T → p.2 = nm ++ ".<locals>." ++ "<lambda>") :
    FnOk P w K mg base CX0 7 f fd ["_law_pen_here", "_law_old", "_law_move", "_law_numbers"] (spRR K C Tb) := by
  refine F.okX scRR (fun vs H Q E h => ?_) (fun A outer s H vs Q E hr h => ?_)
  · obtain ⟨pn, cl, p, s, m, b, ns, rfl, _⟩ := h
    rfl
  · obtain ⟨pn, cl, p0, s0, m, b, ns, rfl, pen, hb, M, hs, len, nn, tabs, q⟩ := h
    refine ⟨_, pss_cons (ps_setLc (i := 4) (own := [("_law_number", 11)]) rfl scRR.nd rfl rfl (sw_true rfl rfl rfl (by decide +kernel)) (pi_range1 rfl B.range (pa_cons (pv 1) pa_nil)) (blkOk_by (N := NRR) (sc := defScope sRR) (by decide +kernel))
          (fun _ _ _ _ _ => pg_name (i := 11) scRR.nd rfl (Or.inl rfl)) (fun _ _ _ _ _ => pts_one (pt_cmpR op_gt (pe_c cD hr pass0 (pa_cons (pv 0) (pa_cons pe_int pa_nil))) pe_int (nomark _))) (fun _ _ _ _ _ => pv 11))
      (pss_cons (ps_set (i := 9) scRR.nd rfl (Or.inr rfl) (pe_c cLR hr pass0 (pa_cons (pv 4) pa_nil)))
      (pss_cons (ps_set (i := 5) scRR.nd rfl (Or.inl rfl) (pe_c cLR hr pass0 (pa_cons (pe_lc (own := [("_law_number", 11)]) rfl scRR.nd (pi_sqA (pv 4)) (blkOk_by (N := NRR) (sc := defScope sRR) (by decide +kernel))
          (fun _ _ _ _ _ => pg_name (i := 11) scRR.nd rfl (Or.inl rfl)) (fun _ _ _ _ _ => pts_one (pt_cmpR op_notN (pe_ix (ix_listK K rfl) (pv 3) (pv 11) (fun _ _ => rfl)) pe_non (nomark _))) (fun _ _ _ _ _ => pe_ix (ix_listK K rfl) (pv 3) (pv 11) (fun _ _ => rfl))) pa_nil)))
      (pss_cons (ps_set (i := 6) scRR.nd rfl (Or.inl rfl) (pe_callTy call_list_of rfl B.list (by decide +kernel) (pa_cons (pv 9) pa_nil)))
      (pss_cons (ps_set (i := 7) scRR.nd rfl (Or.inl rfl) (pe_mt cR hr passL (pv 2) (pa_cons (pv 6) pa_nil)))
      (pss_cons (ps_if (PW.pt (pw_or (pt_cmpR (op_nePr (hu64 hr)) (pv 7) (pv 5) (nomark _)) (pw_or1 (pt_cmpR (op_nePr (hu64 hr)) (pe_mt cR hr passL (pv 2) (pa_cons (pe_tupleOf rfl B.tuple (pv 9)) pa_nil)) (pv 5) (nomark _))))) pss_never pss_nil)
      (pss_cons (ps_expr (pe_bm PySem.F.plainAttrs_list PySem.F.slot_list_append PySem.F.type_list_append mt_append (pv 7) (pa_cons (pe_tup (pa_cons pe_int (pa_cons pe_int pa_nil))) pa_nil)))
      (pss_cons (ps_if (PW.pt (pw_or (pt_cmpR (op_nePr (hu64 hr)) (pv 6) (pv 9) (nomark _)) (pw_or1 (pt_cmpR (op_nePr (hu64 hr)) (pe_mt cR hr passL (pv 2) (pa_cons (pv 6) pa_nil)) (pv 5) (nomark _))))) pss_never pss_nil)
      (pss_cons (ps_for PassesOwn.never rfl (pi_sqA (pe_lst (pa_cons (pe_tup (pa_cons (pe_un un_neg pe_int) (pa_cons pe_int pa_nil))) (pa_cons (pe_tup (pa_cons pe_int (pa_cons (pv 1) pa_nil))) (pa_cons (pe_tup (pa_cons pe_int (pa_cons pe_int pa_nil)))
            (pa_cons (pe_lst (pa_cons pe_int (pa_cons pe_int pa_nil))) (pa_cons (pe_tup (pa_cons pe_int pa_nil)) (pa_cons pe_non (pa_cons (pe_tup (pa_cons pe_bl (pa_cons pe_int pa_nil))) pa_nil))))))))) (pg_name (i := 8) scRR.nd rfl (.inr rfl))
          (pss_one (ps_if (pt_cmpR (op_neSm (hu64 hr)) (by exact pe_ask (k := 4) (Tb := Tb) FA bA gA Ts F.tab hmT hu hr (by decide) (LamX.lamS_by (sc := defScope sRR) (by decide +kernel)) (fun A outer s H E f c' hr' => pe_mt cR hr' (passes_call (takes_of rfl rfl rfl rfl) fun _ _ _ _ h => h) (pv 2) (pa_cons (pe_lst (pa_cons (pv 8) pa_nil)) pa_nil)))
            (pe_tup (pa_cons pe_str (pa_cons pe_int pa_nil))) (nomark _)) pss_never pss_nil)))
      (pss_cons (ps_if (PW.pt (pw_and (pt_cmpR (op_nePr (hu64 hr)) (pv 9) (pe_lst pa_nil) (nomark _)) (pw_and1 (pt_cmpR op_lt (pe_op op_add (pe_ix ix_tup (pe_ix ix_list (pv 9) (pe_un un_neg pe_int) (fun _ _ => rfl)) pe_int (fun _ _ => rfl)) pe_int) (pv 1) (nomark _)))))
          (pss_cons (ps_set (i := 10) scRR.nd rfl (Or.inr rfl) (pe_tup (pa_cons (pe_op op_add (pe_ix ix_tup (pe_ix ix_list (pv 9) (pe_un un_neg pe_int) (fun _ _ => rfl)) pe_int (fun _ _ => rfl)) pe_int) (pa_cons (pe_op op_sub (pv 1) pe_int) pa_nil))))
          (pss_one (ps_ret (pe_cmpR (op_eqSm (hu64 hr)) (by exact pe_ask (k := 4) (Tb := Tb) FA bA gA Ts F.tab hmT hu hr (by decide) (LamX.lamS_by (sc := defScope sRR) (by decide +kernel)) (fun A outer s H E f c' hr' => pe_mt cR hr' (passes_call (takes_of rfl rfl rfl rfl) fun _ _ _ _ h => h) (pv 2) (pa_cons (pe_op op_cat (pv 9) (pe_lst (pa_cons (pv 10) pa_nil))) pa_nil)))
            (pe_tup (pa_cons pe_str (pa_cons (pe_len B.len (pa_cons (pv 9) pa_nil)) pa_nil))) (nomark _))))) pss_nil)
      (pss_one (ps_ret pe_bl))))))))))), ?_⟩
    have bw : ∀ i : Nat, (i : Int) < ns.length → (i : Int) ≤ (ns.length : Int) - 1 := fun i h => by omega
    refine ⟨_, rfl, (ns.length : Nat), rfl, by omega, by omega, fun L nL => lc_range (n := ((ns.length : Nat) : Int).toNat)
      (fun i H' => ∃ is : List Int, But pn H H' ∧ Pen H' pn cl (b + i) ∧ H' L = some (.lst (is.map V.int)) ∧ is.length ≤ i ∧ (∀ j ∈ is, 0 ≤ j ∧ j < (i : Int)) ∧ is.Pairwise (· < ·)) ⟨[], same_but (same_new nL), pen.same (same_new nL), upd_same, Nat.le_refl _, (fun _ z => nomatch z), .nil⟩ ?_ ?_⟩
    · rintro i H2 hi ⟨is, bt, pn1, hL, ln, hb2, hp⟩
      have lt : i < ns.length := by simpa using hi
      have npL := (pen.off nL).1
      rw [Int.zero_add]
      refine ⟨rfl, _, rfl, pn, cl, 3, _, rfl, pn1, by omega, by decide, by decide, fun r H3 r0 r1 b3 pn3 => ?_⟩
      have hL3 : H3 L = some (.lst (is.map V.int)) := b3 _ _ (Ne.symm npL) hL
      refine ⟨_, _, rfl, rfl, _, rfl, ?_⟩
      by_cases c : (0 : Int) < r
      · rw [decide_eq_true c]
        refine iteT ⟨_, rfl, _, hL3, by rw [List.length_map]; exact small2000 (by omega), is ++ [(i : Int)], fun b' o n z => ?_, ((pn3.upd npL (pen.off nL).2).mono (by omega)), ?_, by simp; omega, fun j hj => ?_, ?_⟩
        · have z3 := b3 _ _ n (bt _ _ n z)
          rw [upd_ne (ne_of_none z nL)]
          exact z3
        · rw [upd_same, List.map_append]
          rfl
        · rcases List.mem_append.mp hj with hj | hj
          · have := hb2 j hj
            omega
          · rw [List.mem_singleton.mp hj]
            omega
        · refine List.pairwise_append.mpr ⟨hp, List.pairwise_singleton _ _, fun x hx y hy => ?_⟩
          rw [List.mem_singleton.mp hy]
          exact (hb2 x hx).2
      · rw [decide_eq_false c]
        refine iteF ⟨is, fun b' o n z => b3 _ _ n (bt _ _ n z), pn3.mono (by omega), hL3, by omega, fun j hj => ?_, hp⟩
        have := hb2 j hj
        omega
    rintro H1 ⟨is, bt, pen1, hL, ln, hb2, hp⟩
    rw [show ((ns.length : Nat) : Int).toNat = ns.length from Int.toNat_natCast _] at pen1 ln hb2
    have hbi : ∀ i ∈ is, 0 ≤ i ∧ i ≤ (ns.length : Int) - 1 := fun i hi => ⟨(hb2 i hi).1, by have := (hb2 i hi).2; omega⟩
    have hs1 := bt _ _ (pen.ne hs fun _ z => by cases z) hs
    have M1 : IsMap K C H1 p0 m ns := by
      obtain ⟨dx, t, h1, h2⟩ := M
      refine ⟨dx, t, bt _ _ (pen.ne h1 fun _ z => by cases z) h1, ?_⟩
      rcases h2 with (h | ⟨o, h⟩) | h
      · exact .inl (.inl (bt _ _ (pen.ne h fun _ z => by cases z) h))
      · exact .inl (.inr ⟨o, bt _ _ (pen.ne h fun _ z => by cases z) h⟩)
      · exact .inr h
    have tabs1 : LamX.Tabs Tb H1 := fun pt hpt => by
      obtain ⟨ps, a1, a2, a3⟩ := tabs pt hpt
      refine ⟨ps, bt _ _ (pen.ne a1 fun _ z => by cases z) a1, a2, fun pos cv hc => ?_⟩
      obtain ⟨c0, e1, e2⟩ := a3 pos cv hc
      exact ⟨c0, e1, bt _ _ (pen.ne e2 fun _ z => by unfold LamX.CodeO at z; cases z) e2⟩
    have q1 : ∀ H', LamX.ExtN H1 H' → Q (.bl true) H' := fun H' e => q H' (pen1.ext e) ((kt_but bt).ext e)
    clear q bt tabs M hs pen hb2
    refine ⟨_, rfl, L, is, rfl, hL, by omega, fun R H2 ts nR e2 hR prR => ?_⟩
    have hL2 := e2 _ _ hL
    have hs2 := e2 _ _ hs1
    refine ⟨_, rfl, L, is.map V.int, rfl, .inl (SqL.of hL2), fun J G1 wk hG D nD => lc_it wk (fun j H' => Same H2 H' ∧ H' D = some (.lst ((intsOf ((is.take j).map (atN ns))).map V.int))) ⟨same_new nD, upd_same⟩ (fun j H' _ z => hG H' fun o w => z.1 _ _ w) ?_ ?_⟩
    · rintro j x H6 H7 hj ⟨e5, hD⟩ ⟨rfl, hx⟩
      obtain ⟨n, hn, rfl⟩ : ∃ n, is[j]? = some n ∧ x = V.int n := by
        rw [List.getElem?_map] at hx
        cases q2 : is[j]? with
        | none => rw [q2] at hx; cases hx
        | some n => rw [q2] at hx; exact ⟨n, rfl, (Option.some.inj hx).symm⟩
      have tj : is.take (j + 1) = is.take j ++ [n] := by
        obtain ⟨lt, eq⟩ := List.getElem?_eq_some_iff.mp hn
        rw [List.take_succ_eq_append_getElem lt, eq]
      obtain ⟨n0, n1⟩ := hbi n (List.mem_of_getElem? hn)
      have sz : (intsOf ((is.take j).map (atN ns))).length ≤ 2100 := Nat.le_trans (intsOf_len _) (by simp only [List.length_map, List.length_take]; omega)
      refine ⟨rfl, _, rfl, _, rfl, s0, ns, n, _, rfl, rfl, SqL.of (e5 _ _ hs2), at_atN n0 n1, rfl, _, rfl, ?_⟩
      rcases hv : nn _ (atN_mem n0 n1) with e | ⟨v, e⟩
      · rw [e]
        refine ite2 (fun c => absurd c (by decide)) fun _ => ⟨e5, ?_⟩
        rw [tj, List.map_append, intsOf_append, show (List.map (atN ns) [n]) = [V.non] by rw [← e]; rfl, show intsOf [V.non] = [] from rfl, List.append_nil]
        exact hD
      · rw [e]
        refine ite2 (fun _ => ?_) fun c => absurd (by simp) c
        refine ⟨_, rfl, _, rfl, s0, ns, n, _, rfl, rfl, SqL.of (e5 _ _ hs2), at_atN n0 n1, _, hD, by rw [List.length_map]; exact small2000 sz, fun b o z => ?_, ?_⟩
        · rw [upd_ne (ne_of_none z nD)]
          exact e5 _ _ z
        · rw [upd_same, tj, List.map_append, intsOf_append, show (List.map (atN ns) [n]) = [V.int v] by rw [← e]; rfl, List.map_append, e]
          rfl
    rintro H3 ⟨e3, hD⟩
    rw [List.length_map, List.take_length] at hD
    have lnd : (intsOf (is.map (atN ns))).length ≤ 20 := Nat.le_trans (intsOf_len _) (by rw [List.length_map]; omega)
    refine ⟨D, _, rfl, hD, by omega, fun Du H4 us nDu e4 hDu prDu => ?_⟩
    have hR4 := e4 _ _ (e3 _ _ hR)
    refine ⟨_, rfl, R, ts, rfl, .inl (SqL.of hR4), fun Gv nG => ?_⟩
    have e5 := same_new (o := .lst ts) nG
    have hG5 : upd H4 Gv (.lst ts) Gv = some (.lst ts) := upd_same
    generalize upd H4 Gv (.lst ts) = H5 at e5 hG5 ⊢
    have s15 : Same H1 H5 := e2.trans (e3.trans (e4.trans e5))
    have M5 := M1.same s15
    have hR5 := e5 _ _ hR4
    have prR5 : PrAt H5 ts (rngs is) := prR.same (e3.trans (e4.trans e5))
    have hDu5 := e5 _ _ hDu
    have prDu5 : PrAt H5 us (rngs (intsOf (is.map (atN ns)))) := prDu.same e5
    have tabs5 := tabs1.ext s15
    have pen5 := pen1.same s15
    have q5 : ∀ H', LamX.ExtN H5 H' → Q (.bl true) H' := fun H' e => q1 H' ((ext_of s15).trans e)
    clear q1 tabs1 prDu hDu hR4 hR prR hD e3 e4 e2 hL2 hs2 hs1 M1 hL pen1 nR nD nDu nG nL s15 e5
    obtain ⟨dx, t5, hM5, sM5⟩ := id M5
    refine ⟨_, rfl, p0, dx, _, rfl, hM5, mapF_no _ _ (by decide +kernel) (by decide +kernel), _, rfl, ?_⟩
    dsimp only [tNil, List.append_nil]
    refine ranB_ok M5 nn len (.inl hG5) prR5 hbi hp (by omega) fun Tl H6 ws nTl e6 hTl prTl => ?_
    have eqF : ∀ ps : List (Int × Int), (!decide (ps = ps)) = false := fun ps => by simp
    refine ⟨_, rfl, _, rfl, Tl, Du, ws, us, _, _, rfl, rfl, SqL.of hTl, SqL.of (e6 _ _ hDu5), prTl, prDu5.same e6, ?_⟩
    rw [eqF]
    refine ⟨_, rfl, ?_⟩
    refine iteF ?_
    have M6 := M5.same e6
    have hM6 := e6 _ _ hM5
    refine ⟨_, rfl, p0, dx, _, rfl, hM6, mapF_no _ _ (by decide +kernel) (by decide +kernel), _, rfl, .inl ⟨R, ts, rfl, SqL.of (e6 _ _ hR5), fun tt ntt => ?_⟩⟩
    have e7 := same_new (o := .tup ts) ntt
    have htt : upd H6 tt (.tup ts) tt = some (.tup ts) := upd_same
    generalize upd H6 tt (.tup ts) = H7 at e7 htt ⊢
    have s57 : Same H5 H7 := e6.trans e7
    dsimp only [tNil, List.append_nil]
    refine ranB_ok (M6.same e7) nn len (.inr htt) (prR5.same s57) hbi hp (by omega) fun T8 H8 vs8 nT8 e8 hT8 prT8 => ?_
    have s58 : Same H5 H8 := s57.trans e8
    refine ⟨_, rfl, T8, Du, vs8, us, _, _, rfl, rfl, SqL.of hT8, SqL.of (s58 _ _ hDu5), prT8, prDu5.same s58, ?_⟩
    rw [eqF]
    refine ⟨_, rfl, ?_⟩
    refine iteF ?_
    have hTl8 := e8 _ _ (e7 _ _ hTl)
    have lw : ws.length ≤ 1000 := by
      have := Paired.length prTl
      have h2 := rngs_len (intsOf (is.map (atN ns)))
      omega
    refine ⟨_, rfl, .inl ⟨rfl, _, SqL.of hTl8⟩, by show 2 ≤ sizeLine; decide, fun t9 nt9 => ⟨Tl, ws, _, rfl, rfl, (upd_ne (ne_of_none hTl8 nt9)).trans hTl8, small2000 (by omega), ?_⟩⟩
    have s59 : Same H5 (upd (upd H8 t9 (.tup [.int 99, .int 99])) Tl (.lst (ws ++ [V.ref t9]))) := fun bb o z => by
      rw [upd_ne (ne_of_none z nTl), upd_ne (ne_of_none (s58 _ _ z) nt9)]
      exact s58 _ _ z
    generalize upd (upd H8 t9 (.tup [.int 99, .int 99])) Tl (.lst (ws ++ [V.ref t9])) = H9 at s59 ⊢
    clear hTl8 s58 s57 e8 e7 e6 M6 hM6 htt hT8 prT8 hTl prTl nt9 nT8 ntt nTl lw
    refine ⟨_, rfl, _, rfl, Gv, R, ts, ts, _, _, rfl, rfl, SqL.of (s59 _ _ hG5), SqL.of (s59 _ _ hR5), prR5.same s59, prR5.same s59, ?_⟩
    rw [eqF]
    refine ⟨_, rfl, ?_⟩
    refine iteF ?_
    refine ⟨_, rfl, p0, dx, _, rfl, s59 _ _ hM5, mapF_no _ _ (by decide +kernel) (by decide +kernel), _, rfl, ?_⟩
    dsimp only [tNil, List.append_nil]
    refine ranB_ok (M5.same s59) nn len (.inl (s59 _ _ hG5)) (prR5.same s59) hbi hp (by omega) fun T8 H10 vs8 nT8 e10 hT8 prT8 => ?_
    have s510 : Same H5 H10 := s59.trans e10
    refine ⟨_, rfl, T8, Du, vs8, us, _, _, rfl, rfl, SqL.of hT8, SqL.of (s510 _ _ hDu5), prT8, prDu5.same s510, ?_⟩
    rw [eqF]
    refine ⟨_, rfl, ?_⟩
    refine iteF ?_
    have hR10 := s510 _ _ hR5
    have prR10 := prR5.same s510
    have M10 := M5.same s510
    have tabs10 := tabs5.ext s510
    have q10 : ∀ H', LamX.ExtN H10 H' → Q (.bl true) H' := fun H' e => q5 H' ((ext_of s510).trans e)
    clear q5 tabs5 M5 prR5 hR5 prDu5 hDu5 hG5 s59 e10 hT8 prT8 nT8 s510 hM5 sM5 pen5
    refine ⟨_, rfl, by show 2 ≤ sizeLine; decide, fun a1 na1 => ?_⟩
    have x1 := same_new (o := .tup [.int (-1), .int 0]) na1
    have o1 : OddR ns.length (upd H10 a1 (.tup [.int (-1), .int 0])) (.ref a1) := .pr upd_same True.intro True.intro (.inl (btw_f fun z => by omega))
    generalize upd H10 a1 (.tup [.int (-1), .int 0]) = A1 at x1 o1 ⊢
    refine ⟨_, rfl, by show 2 ≤ sizeLine; decide, fun a2 na2 => ?_⟩
    have x2 := same_new (o := .tup [.int 0, .int ns.length]) na2
    have o2 : OddR ns.length (upd A1 a2 (.tup [.int 0, .int ns.length])) (.ref a2) := .pr upd_same True.intro True.intro (odd_gap (btw_f fun z => by omega))
    generalize upd A1 a2 (.tup [.int 0, .int ns.length]) = A2 at x2 o2 ⊢
    refine ⟨by show 2 ≤ sizeLine; decide, fun a3 na3 => ?_⟩
    have x3 := same_new (o := .tup [.int 1, .int 0]) na3
    have o3 : OddR ns.length (upd A2 a3 (.tup [.int 1, .int 0])) (.ref a3) := .pr upd_same True.intro True.intro (odd_gap (btw_f fun z => by omega))
    generalize upd A2 a3 (.tup [.int 1, .int 0]) = A3 at x3 o3 ⊢
    refine ⟨by show 2 ≤ sizeLine; decide, fun a4 na4 => ?_⟩
    have x4 := same_new (o := .lst [.int 0, .int 0]) na4
    have o4 : OddR ns.length (upd A3 a4 (.lst [.int 0, .int 0])) (.ref a4) := .lst upd_same
    generalize upd A3 a4 (.lst [.int 0, .int 0]) = A4 at x4 o4 ⊢
    refine ⟨by show 1 ≤ sizeLine; decide, fun a5 na5 => ?_⟩
    have x5 := same_new (o := .tup [.int 0]) na5
    have o5 : OddR ns.length (upd A4 a5 (.tup [.int 0])) (.ref a5) := .one upd_same True.intro
    generalize upd A4 a5 (.tup [.int 0]) = A5 at x5 o5 ⊢
    refine ⟨by show 2 ≤ sizeLine; decide, fun a6 na6 => ?_⟩
    have x6 := same_new (o := .tup [.bl true, .int 1]) na6
    have o6 : OddR ns.length (upd A5 a6 (.tup [.bl true, .int 1])) (.ref a6) := .pr upd_same True.intro True.intro (.inl rfl)
    generalize upd A5 a6 (.tup [.bl true, .int 1]) = A6 at x6 o6 ⊢
    refine ⟨by show 7 ≤ sizeLine; decide, fun LL nLL => ⟨LL, _, rfl, .inl (SqL.of upd_same), ?_⟩⟩
    have x7 := same_new (o := .lst [.ref a1, .ref a2, .ref a3, .ref a4, .ref a5, .non, .ref a6]) nLL
    have hLL : upd A6 LL (.lst [.ref a1, .ref a2, .ref a3, .ref a4, .ref a5, .non, .ref a6]) LL = some (.lst [.ref a1, .ref a2, .ref a3, .ref a4, .ref a5, .non, .ref a6]) := upd_same
    generalize upd A6 LL (.lst [.ref a1, .ref a2, .ref a3, .ref a4, .ref a5, .non, .ref a6]) = H11 at x7 hLL ⊢
    have odds : ∀ x ∈ [V.ref a1, .ref a2, .ref a3, .ref a4, .ref a5, .non, .ref a6], OddR ns.length H11 x := by
      intro x hx
      simp only [List.mem_cons, List.not_mem_nil, or_false] at hx
      rcases hx with rfl | rfl | rfl | rfl | rfl | rfl | rfl
      · exact o1.ext (ext_of (x2.trans (x3.trans (x4.trans (x5.trans (x6.trans x7))))))
      · exact o2.ext (ext_of (x3.trans (x4.trans (x5.trans (x6.trans x7)))))
      · exact o3.ext (ext_of (x4.trans (x5.trans (x6.trans x7))))
      · exact o4.ext (ext_of (x5.trans (x6.trans x7)))
      · exact o5.ext (ext_of (x6.trans x7))
      · exact .non
      · exact o6.ext (ext_of x7)
    have xx : Same H10 H11 := x1.trans (x2.trans (x3.trans (x4.trans (x5.trans (x6.trans x7)))))
    have hR11 := xx _ _ hR10
    have prR11 := prR10.same xx
    have M11 := M10.same xx
    have tabs11 := tabs10.ext xx
    have q11 : ∀ H', LamX.ExtN H11 H' → Q (.bl true) H' := fun H' e => q10 H' ((ext_of xx).trans e)
    clear q10 tabs10 M10 prR10 hR10 x1 x2 x3 x4 x5 x6 x7 o1 o2 o3 o4 o5 o6 xx
    refine fun J G1 wk hG => for_it wk (fun i σ H' => ∃ a : Option V, σ = [some (.ref pn), some (.int ns.length), some (.ref p0), some (.ref s0), some (.ref L), some (.ref Du), some (.ref Gv), some (.ref Tl), a, some (.ref R), none, none] ∧ LamX.ExtN H11 H' ∧ LamX.Tabs Tb H') ⟨_, rfl, LamX.ExtN.refl _, tabs11⟩ (fun i σ H' _ ⟨_, _, e, _⟩ => hG H' fun o z => ?_) ?_ ?_
    · have e0 := Option.some.inj (hLL.symm.trans z)
      subst e0
      exact e _ _ hLL (fun _ w => nomatch w)
    · rintro i x σ H12 H13 hi ⟨a, rfl, e, tabs12⟩ ⟨rfl, hx⟩
      have ox := odds x (List.mem_of_getElem? hx)
      refine ⟨tabs12, fun H13 e13 tabs13 => ?_⟩
      have e11 : LamX.ExtN H11 H13 := e.trans e13
      have M13 := M11.ext e11
      obtain ⟨dx3, t3, hM13, sM13⟩ := id M13
      refine ⟨_, rfl, p0, dx3, _, rfl, hM13, mapF_no _ _ (by decide +kernel) (by decide +kernel), _, rfl, by show 1 ≤ sizeLine; decide, fun l nl => ?_⟩
      have x14 := same_new (o := .lst [x]) nl
      have hl : upd H13 l (.lst [x]) l = some (.lst [x]) := upd_same
      generalize upd H13 l (.lst [x]) = H14 at x14 hl ⊢
      have ox14 := ox.ext (e11.trans (ext_of x14))
      dsimp only [tNil, List.append_nil]
      refine ⟨p0, l, m, ns, [x], rfl, M13.same x14, nn, by omega, ⟨_, hl⟩, .inl (SqL.of hl), fun v hv => by rw [List.mem_singleton.mp hv]; exact ox14.kp, .inl ⟨0, ox14.wrong, fun d H15 r => .inr (.inr ⟨rfl, d, _, rfl, r.at_, fun t nt => ?_⟩)⟩⟩
      have x15 := same_new (o := .tup [.str "range", .int ((0 : Nat) : Int)]) nt
      have ht : upd H15 t (.tup [.str "range", .int ((0 : Nat) : Int)]) t = some (.tup [.str "range", .int ((0 : Nat) : Int)]) := upd_same
      generalize upd H15 t (.tup [.str "range", .int ((0 : Nat) : Int)]) = H16 at x15 ht ⊢
      refine ⟨by show 2 ≤ sizeLine; decide, fun t2 nt2 => ⟨t, t2, _, rfl, rfl, (upd_ne (ne_of_none ht nt2)).trans ht, upd_same, ?_, ?_⟩⟩
      · intro v hm
        simp only [List.mem_cons, List.not_mem_nil, or_false] at hm
        rcases hm with rfl | rfl
        · show PyData.strOk _ = true
          decide +kernel
        · exact True.intro
      · have x1316 := ext_of (x14.trans (r.same.trans (x15.trans (same_new (o := .tup [.str "range", .int ((0 : Nat) : Int)]) nt2))))
        refine ⟨_, rfl, iteF ⟨some x, rfl, e11.trans x1316, tabs13.ext (x14.trans (r.same.trans (x15.trans (same_new (o := .tup [.str "range", .int ((0 : Nat) : Int)]) nt2))))⟩⟩
    rintro σ H12 ⟨a, rfl, e, tabs12⟩
    have hR12 := e _ _ hR11 (fun _ w => nomatch w)
    have prR12 := prR11.ext e
    have M12 := M11.ext e
    have q12 : ∀ H', LamX.ExtN H12 H' → Q (.bl true) H' := fun H' e2 => q11 H' (e.trans e2)
    clear q11 tabs11 M11 prR11 hR11 e odds hLL nLL
    refine ⟨_, rfl, Nat.zero_le _, fun z nz => ?_⟩
    have xz := same_new (o := .lst []) nz
    have hz : upd H12 z (.lst []) z = some (.lst []) := upd_same
    generalize upd H12 z (.lst []) = H13 at xz hz ⊢
    have hR := xz _ _ hR12
    have prR := prR12.same xz
    have M13 := M12.same xz
    have tabs13 := tabs12.ext xz
    have q13 : ∀ H', LamX.ExtN H13 H' → Q (.bl true) H' := fun H' e2 => q12 H' ((ext_of xz).trans e2)
    clear q12 tabs12 M12 prR12 hR12
    refine ⟨R, z, ts, [], _, [], rfl, rfl, SqL.of hR, SqL.of hz, prR, .nil, ?_⟩
    have U := rngs_up is hbi hp
    rcases List.eq_nil_or_concat (rngs is) with en | ⟨ps, p, en⟩
    · rw [show (!decide (rngs is = [])) = false by simp [en]]
      refine ⟨_, rfl, ?_⟩
      refine iteF ?_
      refine iteF ?_
      exact q13 H13 (LamX.ExtN.refl _)
    rw [List.concat_eq_append] at en
    rw [show (!decide (rngs is = [])) = true by simp [en]]
    refine ⟨_, rfl, ?_⟩
    refine iteT ?_
    have okp := U.ok
    have prs := prR
    rw [en] at prs okp
    obtain ⟨us1, v, ets, pu, a0, rfl, ha0⟩ := paired_last prs
    have lst : atI ts (-1) = some (V.ref a0) := by
      rw [ets]
      exact atI_last us1 (V.ref a0)
    have two : atI [V.int p.1, V.int p.2] 1 = some (V.int p.2) := rfl
    refine ⟨_, rfl, _, rfl, R, _, _, _, rfl, rfl, SqL.of hR, lst, a0, _, _, _, rfl, rfl, SqT.of ha0, two, _, _, rfl, rfl, _, rfl, _, _, rfl, rfl, _, rfl, ?_⟩
    obtain ⟨k1, k2, k3, k4, k5, k6⟩ := okR_snoc.mp okp
    by_cases c1 : p.2 + 1 < (ns.length : Int)
    · rw [decide_eq_true c1]
      refine iteT ?_
      refine ⟨_, rfl, _, rfl, R, _, _, _, rfl, rfl, SqL.of hR, lst, a0, _, _, _, rfl, rfl, SqT.of ha0, two, _, _, rfl, rfl, _, rfl, _, _, rfl, rfl, by show 2 ≤ sizeLine; decide, fun tc ntc => ?_⟩
      have xc := same_new (o := .tup [.int (p.2 + 1), .int ((ns.length : Int) - 1)]) ntc
      have hc : upd H13 tc (.tup [.int (p.2 + 1), .int ((ns.length : Int) - 1)]) tc = some (.tup [.int (p.2 + 1), .int ((ns.length : Int) - 1)]) := upd_same
      generalize upd H13 tc (.tup [.int (p.2 + 1), .int ((ns.length : Int) - 1)]) = H14 at xc hc ⊢
      refine ⟨tabs13.ext xc, fun H15 e15 tabs15 => ?_⟩
      have e13 : LamX.ExtN H13 H15 := (ext_of xc).trans e15
      have M15 := M13.ext e13
      obtain ⟨dx3, t3, hM15, sM15⟩ := id M15
      have hR15 := e13 _ _ hR (fun _ w => nomatch w)
      refine ⟨_, rfl, p0, dx3, _, rfl, hM15, mapF_no _ _ (by decide +kernel) (by decide +kernel), _, rfl, _, rfl, by show 1 ≤ sizeLine; decide, fun l nl => ?_⟩
      have xl := same_new (o := .lst [.ref tc]) nl
      have hl : upd H15 l (.lst [.ref tc]) l = some (.lst [.ref tc]) := upd_same
      generalize upd H15 l (.lst [.ref tc]) = H16 at xl hl ⊢
      have lts : ts.length ≤ 20 := by
        have h1 := Paired.length prR
        have h2 := rngs_len is
        omega
      refine ⟨R, l, ts, [.ref tc], rfl, rfl, xl _ _ hR15, hl, by show _ + 1 ≤ sizeLine; exact Nat.le_of_lt (small2000 (by omega)), fun l2 nl2 => ?_⟩
      have xm := same_new (o := .lst (ts ++ [.ref tc])) nl2
      have hm : upd H16 l2 (.lst (ts ++ [.ref tc])) l2 = some (.lst (ts ++ [.ref tc])) := upd_same
      generalize upd H16 l2 (.lst (ts ++ [.ref tc])) = H17 at xm hm ⊢
      have e17 : LamX.ExtN H13 H17 := e13.trans (ext_of (xl.trans xm))
      have hc17 : H17 tc = some (.tup [.int (p.2 + 1), .int ((ns.length : Int) - 1)]) := (e15.trans (ext_of (xl.trans xm))) _ _ hc (fun _ w => nomatch w)
      have pr17 := prR.ext e17
      have wr : rwrong H17 ns.length 0 0 (ts ++ [.ref tc]) = some ts.length := by
        rw [rwrong_app 0 0 pr17 U.ok fun l j h1 h2 => ?_, Nat.zero_add]
        have el := h2 p (by rw [en]; exact List.getLast?_concat ..)
        exact rwrong_1 (pairOf_tup hc17) (btw_f fun z => by omega)
      dsimp only [tNil, List.append_nil]
      refine ⟨p0, l2, m, ns, _, rfl, M13.ext e17, nn, by omega, ⟨_, hm⟩, .inl (SqL.of hm), fun v hv => ?_, .inl ⟨ts.length, wr, fun d H18 r => .inr (.inr ⟨rfl, d, _, rfl, r.at_, fun t nt => ?_⟩)⟩⟩
      · rcases List.mem_append.mp hv with hv | hv
        · exact prAt_kp pr17 v hv
        · rw [List.mem_singleton.mp hv]
          refine ⟨.tup hc17, fun a xs z k x hx => ?_⟩
          cases z
          rw [hc17] at k
          cases k
          rcases List.mem_cons.mp hx with rfl | hx
          · exact .int _
          · rw [List.mem_singleton.mp hx]
            exact .int _
      have xt := same_new (o := .tup [.str "range", .int (ts.length : Nat)]) nt
      have ht : upd H18 t (.tup [.str "range", .int (ts.length : Nat)]) t = some (.tup [.str "range", .int (ts.length : Nat)]) := upd_same
      generalize upd H18 t (.tup [.str "range", .int (ts.length : Nat)]) = H19 at xt ht ⊢
      have e19 : LamX.ExtN H13 H19 := e17.trans (ext_of (r.same.trans xt))
      refine ⟨_, rfl, R, ts, rfl, .inl (SqL.of (e19 _ _ hR (fun _ w => nomatch w))), by show 2 ≤ sizeLine; decide, fun t2 nt2 => ⟨t, t2, _, rfl, rfl, (upd_ne (ne_of_none ht nt2)).trans ht, upd_same, ?_, ?_⟩⟩
      · intro v hm
        simp only [List.mem_cons, List.not_mem_nil, or_false] at hm
        rcases hm with rfl | rfl
        · show PyData.strOk _ = true
          decide +kernel
        · exact True.intro
      · exact q13 _ (e19.trans (ext_of (same_new nt2)))
    · rw [decide_eq_false c1]
      refine iteF ?_
      exact q13 H13 (LamX.ExtN.refl _)
end
end K00
set_option Elab.async false
set_option linter.all false
set_option maxRecDepth 100001
set_option maxHeartbeats 3999999
namespace K00
open PySem L2
abbrev sLaw : Stmt := topS 28
theorem hu65 {A : Around} {k : Nat} (hr : Room k A) : A.units + 65 < cLine := by have := hr.un; omega
/-- i not in xs, None and ints -/
def rNotNum (K : PySem.W.Frag) : R2 := fun x y H Q => ∃ (a : Addr) (xs : List V) (i : Int), x = .int i ∧ y = .ref a ∧ H a = some (.lst xs) ∧ (∀ v ∈ xs, Num v) ∧ Q (.bl (!decide (V.int i ∈ xs))) H
theorem any_num {xs : List V} (i : Int) (h : ∀ v ∈ xs, Num v) : ((xs.map dOf).any fun z => PyData.eqv z (.int i)) = decide (V.int i ∈ xs) := by
  induction xs with
  | nil => simp
  | cons x r ih =>
    have ih := ih fun v hv => h v (List.mem_cons_of_mem _ hv)
    have hx := eqv_num (h x List.mem_cons_self) (.inr ⟨i, rfl⟩ : Num (.int i))
    rw [List.map_cons, List.any_cons, ih]
    show (PyData.eqv (dOf x) (dOf (.int i)) || _) = _
    rw [hx, Bool.eq_iff_iff]
    simp only [Bool.or_eq_true, decide_eq_true_eq, List.mem_cons]
    exact ⟨fun z => z.imp (fun e => e.symm) id, fun z => z.imp (fun e => e.symm) id⟩
theorem op_notNum {X : Cx} (K : PySem.W.Frag) (hK : X.K = K) (hu : X.A.units + 65 < cLine) : OpR X (compareOp .NotIn) (rNotNum K) := by
  subst hK
  intro pins s σ H x y v u Q I rx ry h
  obtain ⟨a, xs, i, rfl, rfl, ha, hn, q⟩ := h
  refine op_notInD hu pins s σ H _ _ v u Q I rx ry ⟨.int i, xs.map dOf, .int i, .lst (SqL.of ha) (dpAll_num hn), ?_, shL_num hn, ?_⟩
  · show (PyData.canLay0 (.int i) && decide (PyData.depth (.int i) ≤ 64)) = true
    simp [PyData.canLay0, PyData.depth]
  · rw [any_num i hn]
    exact q
theorem IsMap.but {K : PySem.W.Frag} {C : Addr} {H H' : Hp} {p pn cl : Addr} {b : Nat} {m : Int} {ns : List V} (q : IsMap K C H p m ns) (pen : Pen H pn cl b) (bt : But pn H H') : IsMap K C H' p m ns := by
  obtain ⟨dx, t, h1, h2⟩ := q
  refine ⟨dx, t, bt _ _ (pen.ne h1 fun _ z => by cases z) h1, ?_⟩
  rcases h2 with (h | ⟨o, h⟩) | h
  · exact .inl (.inl (bt _ _ (pen.ne h fun _ z => by cases z) h))
  · exact .inl (.inr ⟨o, bt _ _ (pen.ne h fun _ z => by cases z) h⟩)
  · exact .inr h
theorem tabs_but {Tb : List (Addr × Str)} {H H' : Hp} {pn cl : Addr} {b : Nat} (tabs : LamX.Tabs Tb H) (pen : Pen H pn cl b) (bt : But pn H H') : LamX.Tabs Tb H' := fun pt hpt => by
  obtain ⟨ps, a1, a2, a3⟩ := tabs pt hpt
  refine ⟨ps, bt _ _ (pen.ne a1 fun _ z => by cases z) a1, a2, fun pos cv hc => ?_⟩
  obtain ⟨c0, e1, e2⟩ := a3 pos cv hc
  exact ⟨c0, e1, bt _ _ (pen.ne e2 fun _ z => by unfold LamX.CodeO at z; cases z) e2⟩
theorem lst_but {H H' : Hp} {pn cl a : Addr} {b : Nat} {xs : List V} (h : H a = some (.lst xs)) (pen : Pen H pn cl b) (bt : But pn H H') : H' a = some (.lst xs) := bt _ _ (pen.ne h fun _ z => by cases z) h
theorem made2 {K : PySem.W.Frag} {C CM CT CB : Addr} {H : Hp} {s : Addr} {ns : List V} {m : Int} {Qx : Addr → VK} {E : XK} (hs : Sq K H s ns) (num : ∀ v ∈ ns, Num v) (m0 : 0 ≤ m) (m1 : m ≤ 2000) (len : ns.length ≤ 2000) (sc : scan m 0 0 ns = none)
    (k : ∀ r H', Same H H' → H r = none → IsMap K C H' r m ns → Qx r .non H') : ∀ x dx, H x = none → H dx = none → dx ≠ x → spInit K C CM CT CB (.ref x :: ([.int m, .ref s] ++ [])) (upd (upd H dx (.own x)) x (.ins C dx [])) (Qx x) E := by
  intro x dx nx nd ne
  obtain ⟨p, d, s', vm, ns', e, h1, h2, h3, h4, h5, h6⟩ := made_ok (CM := CM) (CT := CT) (CB := CB) (R := fun v H' => ∃ r, v = .ref r ∧ Qx r .non H') hs num m0 m1 len sc (fun r H' a b c => ⟨r, rfl, k r H' a b c⟩) x dx nx nd ne
  cases e
  refine ⟨x, d, s, .int m, ns', rfl, h1, h2, h3, h4, h5, ?_⟩
  rcases h6 with ⟨a, b⟩ | ⟨m', e', a, b, ⟨c1, c2⟩ | ⟨c1, i, c2, c3⟩ | ⟨c1, c2, c3⟩⟩
  · cases e' : btw (.int m) 0 2000 with
    | true => rw [e'] at a; cases a
    | false => exact absurd e' (by rw [show btw (.int m) 0 2000 = true from decide_eq_true ⟨m0, m1⟩]; decide)
  · exact .inr ⟨m', e', a, b, .inl ⟨c1, fun d' H' r => (c2 d' H' r).elim⟩⟩
  · exact .inr ⟨m', e', a, b, .inr (.inl ⟨c1, i, c2, fun d' H' r => (c3 d' H' r).elim⟩)⟩
  · refine .inr ⟨m', e', a, b, .inr (.inr ⟨c1, c2, fun t H' g1 g2 g3 => ?_⟩)⟩
    obtain ⟨_, r, er, z⟩ := c3 t H' g1 g2 g3
    cases er
    exact z
theorem scan_mono {m m' : Int} (h : m ≤ m') : ∀ {l : Int} {i : Nat} {ns : List V}, scan m l i ns = none → scan m' l i ns = none
  | l, i, [], _ => rfl
  | l, i, v :: r, e => by
    cases v with
    | non =>
      rw [scan_non] at e ⊢
      exact scan_mono h e
    | int j =>
      simp only [scan] at e ⊢
      by_cases c : l ≤ j ∧ j ≤ m - 1
      · rw [if_pos c] at e
        rw [if_pos ⟨c.1, by omega⟩]
        exact scan_mono h e
      · rw [if_neg c] at e
        cases e
    | _ => simp only [scan] at e; cases e
theorem scan_none {m : Int} {ns : List V} (h : scan m 0 0 ns = none) : scan m 0 0 (ns ++ [.non]) = none := by
  rw [scan_app h]
  rfl
theorem freshL_num {m : Nat} {ns : List V} : ∀ v ∈ freshL m ns, Num v := fun v hv => by
  unfold freshL at hv
  obtain ⟨k, _, rfl⟩ := List.mem_map.mp hv
  exact .inr ⟨_, rfl⟩
theorem lastL_app : ∀ {l : Int} {a b : List V}, lastL l (a ++ b) = lastL (lastL l a) b
  | l, [], b => rfl
  | l, v :: a, b => by
    rw [List.cons_append]
    cases v <;> exact lastL_app
theorem lastL_mono {m : Int} {ms : List V} (h : scan m 0 0 ms = none) {i j : Nat} (hij : i ≤ j) : lastL 0 (ms.take i) ≤ lastL 0 (ms.take j) := by
  have e : ms.take j = ms.take i ++ (ms.take j).drop i := by
    have := (List.take_append_drop i (ms.take j)).symm
    rw [List.take_take, Nat.min_eq_left hij] at this
    exact this
  have h2 : scan m 0 0 (ms.take j) = none := scan_pre (rest := ms.drop j) (by rw [List.take_append_drop]; exact h)
  rw [e, lastL_app]
  rw [e] at h2
  have h3 : scan m 0 0 (ms.take i) = none := scan_pre h2
  rw [scan_app h3] at h2
  exact (lastL_of h2).1
theorem scan_at {m : Int} {ms : List V} (h : scan m 0 0 ms = none) {j : Nat} {a : Int} (ha : ms[j]? = some (.int a)) : lastL 0 (ms.take j) ≤ a ∧ a ≤ m - 1 ∧ lastL 0 (ms.take (j + 1)) = a + 1 := by
  obtain ⟨lt, eq⟩ := List.getElem?_eq_some_iff.mp ha
  have e : ms = ms.take j ++ (V.int a :: ms.drop (j + 1)) := by
    rw [← eq, ← List.drop_eq_getElem_cons lt, List.take_append_drop]
  have h2 : scan m 0 0 (ms.take j) = none := scan_pre (rest := ms.drop j) (by rw [List.take_append_drop]; exact h)
  have h3 := h
  rw [e, scan_app h2] at h3
  simp only [scan] at h3
  by_cases c : lastL 0 (ms.take j) ≤ a ∧ a ≤ m - 1
  · refine ⟨c.1, c.2, ?_⟩
    rw [List.take_succ_eq_append_getElem lt, eq, lastL_app]
    rfl
  · rw [if_neg c] at h3
    cases h3
/-- a map behind a map ascends -/
theorem comp_scan {m2 : Int} {ms : List V} (h : scan m2 0 0 ms = none) (nm : ∀ v ∈ ms, Num v) : ∀ {ns : List V} {l L : Int} {i k : Nat}, 0 ≤ l → scan (ms.length : Int) l i ns = none → L ≤ lastL 0 (ms.take l.toNat) → scan m2 L k (ns.map (compF ms)) = none
  | [], _, _, _, _, _, _, _ => rfl
  | v :: r, l, L, i, k, hl, hs, hL => by
    cases v with
    | non =>
      rw [scan_non] at hs
      rw [List.map_cons, show compF ms .non = .non from rfl, scan_non]
      exact comp_scan h nm hl hs hL
    | int j =>
      simp only [scan] at hs
      by_cases c : l ≤ j ∧ j ≤ (ms.length : Int) - 1
      · rw [if_pos c] at hs
        have lt : j.toNat < ms.length := by omega
        have hm := lastL_mono h (show l.toNat ≤ j.toNat by omega)
        have e1 : (j + 1).toNat = j.toNat + 1 := by omega
        have hm2 := lastL_mono h (show j.toNat ≤ j.toNat + 1 by omega)
        have ev : compF ms (.int j) = ms[j.toNat] := by
          show ms.getD j.toNat .non = _
          rw [List.getD_eq_getElem?_getD, List.getElem?_eq_getElem lt]
          rfl
        rw [List.map_cons, ev]
        rcases hv : nm _ (List.getElem_mem lt) with e | ⟨a, e⟩
        · rw [e, scan_non]
          exact comp_scan h nm (by omega) hs (by rw [e1]; omega)
        · have sa := scan_at h (j := j.toNat) (a := a) (by rw [List.getElem?_eq_getElem lt, e])
          rw [e, scan_in (show btw (.int a) L (m2 - 1) = true from decide_eq_true ⟨by omega, sa.2.1⟩)]
          exact comp_scan h nm (by omega) hs (by rw [e1]; omega)
      · rw [if_neg c] at hs
        cases hs
    | _ => simp only [scan] at hs; cases hs
theorem cut_last {xs : List V} : cutV xs none (some (-1)) = xs.take (xs.length - 1) := by
  unfold cutV
  rw [HT.sIx_none, List.drop_zero, Nat.sub_zero]
  congr 1
  show (if (-1 : Int) < 0 then ((-1 : Int) + (xs.length : Int)).toNat else min (-1 : Int).toNat xs.length) = _
  rw [if_pos (by decide)]
  omega
theorem scan_take {m : Int} {ms : List V} (h : scan m 0 0 ms = none) (k : Nat) : scan m 0 0 (ms.take k) = none := scan_pre (rest := ms.drop k) (by rw [List.take_append_drop]; exact h)
/-- a list that makes a map to m new ones from another number of old ones -/
def OthL (H : Hp) (m : Int) (n : Nat) (x : V) : Prop := ∃ a os, x = .ref a ∧ H a = some (.lst os) ∧ (∀ v ∈ os, Num v) ∧ scan m 0 0 os = none ∧ os.length ≠ n ∧ os.length ≤ 1000
theorem OthL.ext {H H' : Hp} {m : Int} {n : Nat} {x : V} (h : OthL H m n x) (e : LamX.ExtN H H') : OthL H' m n x := let ⟨a, os, h1, h2, h3, h4⟩ := h; ⟨a, os, h1, e _ _ h2 (fun _ z => nomatch z), h3, h4⟩
theorem other2 {K : PySem.W.Frag} {σ : L2.St} {H : Hp} {Q : VK} {l2 : Addr} {ms : List V} {m2 : Int} {n : Nat} (hσ : σ[7]? = some (some (.ref l2))) (hl : H l2 = some (.lst ms)) (num : ∀ v ∈ ms, Num v) (sc : scan m2 0 0 ms = none) (len : ms.length = n) (le : ms.length ≤ 900)
    (k : ∀ q R, Same H R → OthL R m2 n (.ref q) → Q (.ref q) R) : if (if true = true then !decide (ms = []) else decide (ms = [])) = true then tSl (rSlL K) (tVar 7) tNoPart (tPart (tUn (rU fun i => V.int (-i)) (tC (.int 1)))) σ H Q else tLst (tCons (tC .non) tNil) σ H Q := by
  by_cases cm : ms = []
  · rw [show (if true = true then !decide (ms = []) else decide (ms = [])) = false by simp [cm]]
    refine iteF ⟨by show 1 ≤ sizeLine; decide, fun q nq => ?_⟩
    refine k q _ (same_new nq) ⟨q, _, rfl, upd_same, fun v hv => .inl (List.mem_singleton.mp hv), rfl, ?_, by show 1 ≤ 1000; decide⟩
    rw [← len, cm]
    decide
  · rw [show (if true = true then !decide (ms = []) else decide (ms = [])) = true by simp [cm]]
    refine iteT ⟨_, hσ, _, rfl, (-1 : Int), rfl, l2, ms, rfl, SqL.of hl, fun q nq => ?_⟩
    have pos : 0 < ms.length := List.length_pos_iff.mpr cm
    rw [cut_last]
    exact k q _ (same_new nq) ⟨q, _, rfl, upd_same, fun v hv => num v (List.mem_of_mem_take hv), scan_take sc _, by rw [List.length_take]; omega, by rw [List.length_take]; omega⟩
theorem IsMap.put {K : PySem.W.Frag} {C : Addr} {H : Hp} {p a : Addr} {m : Int} {ns xs ys : List V} (q : IsMap K C H p m ns) (h : H a = some (.lst xs)) : IsMap K C (upd H a (.lst ys)) p m ns := by
  obtain ⟨dx, t, h1, h2⟩ := q
  refine ⟨dx, t, (upd_ne (ne_of h1 h fun z => nomatch z)).trans h1, ?_⟩
  rcases h2 with (k | ⟨o, k⟩) | k
  · exact .inl (.inl ((upd_ne (ne_of k h fun z => nomatch z)).trans k))
  · exact .inl (.inr ⟨o, (upd_ne (ne_of k h fun z => nomatch z)).trans k⟩)
  · exact .inr k
/-- the law -/
def spLaw (K : PySem.W.Frag) (Tb : List (Addr × Str)) : Sp := fun vs H Q _ => ∃ (a : Addr) (is : List Int), vs = [.ref a] ∧ SqL K H a (is.map V.int) ∧ LamX.Tabs Tb H ∧ ∀ H', Q (.bl true) H'
abbrev NLa : List Str := ["_law_script", "_law_pen_here", "_law_old", "_law_many", "_law_numbers", "_law_handed", "_law_fresh", "_law_goals", "_law_both", "_law_due", "_law_more", "_law_move", "_law_odd", "_law_other", "_law_number", "_law_goal"]
section
variable {P : Program} {w : World} {K : PySem.W.Frag} {mg : Str → Option Value} {base : Heap}
theorem scLaw : FnScope NLa ["_law_script"] (defScope sLaw) := ⟨rfl, rfl, rfl, by decide +kernel, rfl, by decide +kernel, by decide +kernel⟩
theorem ok_law {nm : Str} {f c T g fe C CM CT CB CN CO CR : Addr} {fd fdA fdE : FuncData} {Tb : List (Addr × Str)} (F : FunL K base mg nm sLaw f c T fd) (B : Bi mg) (TX : Txt K C) (TE : TxE K C)
    (cPn : Cal CX0 P w K mg base 1 "_law_pen" (spPen K)) (cD : Cal CX0 P w K mg base 1 "_law_draw" spDraw) (cPl : Cal CX0 P w K mg base 3 "_law_plan" spPlan)
    (mk : Mak (L2.CX P w) P w K mg base 4 "NumberMap" C (spInit K C CM CT CB)) (FE : FnOk P w K mg base CX0 1 fe fdE ["self", "other"] (spEqM K C)) (eE : PySem.W.findIn K (.ref C) "__eq__" = some (some (.ref fe))) (iE : PySem.W.isFn K (.ref fe) = true) (bE : Binds K fdE ["self", "other"] [])
    (n1 : PySem.W.notFirst K C (.ref C) = true) (n2 : PySem.W.notFirst K C (.type "tuple") = true)
    (mN : Met (L2.CX P w) P w K mg base 4 C "number_behind" (spNumB K C CN)) (mF : Met CX0 P w K mg base 1 C "fresh_numbers" (spFresh K C)) (mB : Met (L2.CX P w) P w K mg base 6 C "followed_by" (spFoll K C CO))
    (FA : Fun K "_law_asked" "_law_asked" sAsk g fdA) (bA : Binds K fdA ["_law_function"] []) (gA : mg "_law_asked" = some (.ref g)) (Ts : Cts K mg CN CO CR)
    (cRR : Cal CX0 P w K mg base 7 "_law_ranges_right" (spRR K C Tb)) (cW : Cal CX0 P w K mg base 7 "_law_wrong_right" spWrong)
    (hmT : (T, nm ++ ".<locals>." ++ "<lambda>") ∈ Tb) (hu : ∀ p ∈ Tb, p.1 = T → p.2 = nm ++ ".<locals>." ++ "<lambda>") :
    FnOk P w K mg base CX0 9 f fd ["_law_script"] (spLaw K Tb) := by
  refine F.okX scLaw (fun vs H Q E h => ?_) (fun A outer s H vs Q E hr h => ?_)
  · obtain ⟨a, is, rfl, _⟩ := h
    rfl
  · obtain ⟨a0, is, rfl, hsc, tabs, q⟩ := h
    refine ⟨_, pss_cons (ps_set (i := 1) scLaw.nd rfl (Or.inl rfl) (pe_c cPn hr pass0 (pa_cons (pv 0) pa_nil)))
      (pss_cons (ps_set (i := 2) scLaw.nd rfl (Or.inl rfl) (pe_c cD hr pass0 (pa_cons (pv 1) (pa_cons pe_int pa_nil))))
      (pss_cons (ps_asg (pe_c cPl hr pass0 (pa_cons (pv 1) (pa_cons (pv 2) pa_nil))) (pg_tup rfl (pgs_cons (pg_name (i := 3) scLaw.nd rfl (.inl rfl)) (pgs_cons (pg_name (i := 4) scLaw.nd rfl (.inr rfl)) pgs_nil))))
      (pss_cons (ps_set (i := 5) scLaw.nd rfl (Or.inl rfl) (pe_callTy call_list_of rfl B.list (by decide +kernel) (pa_cons (pv 4) pa_nil)))
      (pss_cons (ps_set (i := 11) scLaw.nd rfl (Or.inr rfl) (pe_mk mk hr passL (pa_cons (pv 3) (pa_cons (pv 5) pa_nil))))
      (pss_cons (ps_expr (pe_bm PySem.F.plainAttrs_list PySem.F.slot_list_append PySem.F.type_list_append mt_append (pv 5) (pa_cons pe_non pa_nil)))
      (pss_cons (ps_if (PW.pt (pw_or (pt_cmpR op_ne (pe_fld (pv 11) rfl) (pv 3) (nomark _)) (pw_or (pt_cmpR (op_neN (hu64 hr)) (pe_fld (pv 11) rfl) (pe_tupleOf rfl B.tuple (pv 4)) (nomark _))
          (pw_or1 (pt_not (pt_cmpR (op_ownEq FE eE iE bE pass0 hr (by decide)) (pv 11) (pe_mk mk hr passL (pa_cons (pv 3) (pa_cons (pe_tupleOf rfl B.tuple (pv 4)) pa_nil))) (nomark _))))))) pss_never pss_nil)
      (pss_cons (ps_if (PW.pt (pw_or (pt_cmpR (op_ownEq FE eE iE bE pass0 hr (by decide)) (pv 11) (pe_mk mk hr passL (pa_cons (pe_op op_add (pv 3) pe_int) (pa_cons (pv 4) pa_nil))) (nomark _))
          (pw_or (pt_cmpR (op_ownEq FE eE iE bE pass0 hr (by decide)) (pv 11) (pe_mk mk hr passL (pa_cons (pv 3) (pa_cons (pe_op op_cat (pv 4) (pe_lst (pa_cons pe_non pa_nil))) pa_nil))) (nomark _))
          (pw_or1 (pt_cmpR (op_ownEq FE eE iE bE pass0 hr (by decide)) (pv 11) (pe_tup (pa_cons (pv 3) (pa_cons (pv 4) pa_nil))) (nomark _)))))) pss_never pss_nil)
      (pss_cons (ps_if (pt_cmpR (op_neN (hu64 hr)) (pe_lc (own := [("_law_number", 14)]) rfl scLaw.nd (pi_range1 rfl B.range (pa_cons (pv 2) pa_nil)) (blkOk_by (N := NLa) (sc := defScope sLaw) (by decide +kernel))
          (fun _ _ _ _ _ => pg_name (i := 14) scLaw.nd rfl (Or.inl rfl)) (fun _ _ _ _ _ => pts_nil) (fun _ _ _ _ _ => pe_mt mN hr passL (pv 11) (pa_cons (pv 14) pa_nil))) (pv 4) (nomark _)) pss_never pss_nil)
      (pss_cons (ps_set (i := 6) scLaw.nd rfl (Or.inl rfl) (pe_mt0 mF hr pass0 (pv 11)))
      (pss_cons (ps_expr (pe_bm PySem.F.plainAttrs_list PySem.F.slot_list_append PySem.F.type_list_append mt_append (pv 6) (pa_cons pe_int pa_nil)))
      (pss_cons (ps_if (pt_cmpR (op_neN (hu64 hr)) (pe_mt0 mF hr pass0 (pv 11)) (pe_lc (own := [("_law_goal", 15)]) rfl scLaw.nd (pi_range1 rfl B.range (pa_cons (pv 3) pa_nil)) (blkOk_by (N := NLa) (sc := defScope sLaw) (by decide +kernel))
          (fun _ _ _ _ _ => pg_name (i := 15) scLaw.nd rfl (Or.inl rfl)) (fun _ _ _ _ _ => pts_one (pt_cmpR (op_notNum K rfl (hu65 hr)) (pv 15) (pv 4) rfl)) (fun _ _ _ _ _ => pv 15)) (nomark _)) pss_never pss_nil)
      (pss_cons (ps_for PassesOwn.never rfl (pi_sqA (pe_lst (pa_cons (pe_un un_neg pe_int) (pa_cons (pv 2) (pa_cons pe_bl (pa_cons pe_non (pa_cons pe_str pa_nil))))))) (pg_name (i := 12) scLaw.nd rfl (.inr rfl))
          (pss_one (ps_if (pt_cmpR (op_neSm (hu64 hr)) (by exact pe_ask (k := 6) (Tb := Tb) FA bA gA Ts F.tab hmT hu hr (by decide) (LamX.lamS_by (sc := defScope sLaw) (by decide +kernel)) (fun A outer s H E f c' hr' => pe_mt mN hr' (passes_call (takes_of rfl rfl rfl rfl) fun _ _ _ _ h => h) (pv 11) (pa_cons (pv 12) pa_nil)))
            (pe_tup (pa_cons pe_str (pa_cons (pv 12) pa_nil))) (nomark _)) pss_never pss_nil)))
      (pss_cons (ps_asg (pe_c cPl hr pass0 (pa_cons (pv 1) (pa_cons (pv 3) pa_nil))) (pg_tup rfl (pgs_cons (pg_name (i := 10) scLaw.nd rfl (.inr rfl)) (pgs_cons (pg_name (i := 7) scLaw.nd rfl (.inr rfl)) pgs_nil))))
      (pss_cons (ps_set (i := 8) scLaw.nd rfl (Or.inl rfl) (pe_mt mB hr passL (pv 11) (pa_cons (pe_mk mk hr passL (pa_cons (pv 10) (pa_cons (pv 7) pa_nil))) pa_nil)))
      (pss_cons (ps_setLc (i := 9) (own := [("_law_goal", 15)]) rfl scLaw.nd rfl rfl (sw_true rfl rfl rfl (by decide +kernel)) (pi_sqA (pv 4)) (blkOk_by (N := NLa) (sc := defScope sLaw) (by decide +kernel))
          (fun _ _ _ _ _ => pg_name (i := 15) scLaw.nd rfl (Or.inl rfl)) (fun _ _ _ _ _ => pts_nil) (fun _ _ _ _ _ => pe_ifExp (pt_cmpR op_isN (pv 15) pe_non (nomark _)) pe_non (pe_ix (ix_listK K rfl) (pv 7) (pv 15) (fun _ _ => rfl))))
      (pss_cons (ps_if (PW.pt (pw_or (pt_cmpR op_ne (pe_fld (pv 8) rfl) (pv 10) (nomark _)) (pw_or1 (pt_cmpR (op_neN (hu64 hr)) (pe_fld (pv 8) rfl) (pe_tupleOf rfl B.tuple (pv 9)) (nomark _))))) pss_never pss_nil)
      (pss_cons (ps_for PassesOwn.never rfl (pi_sqA (pe_lst (pa_cons (pe_op op_cat (pv 7) (pe_lst (pa_cons pe_non pa_nil))) (pa_cons (pe_ifExp (pt_cmpR (op_neN (hu64 hr)) (pv 7) (pe_lst pa_nil) (nomark _)) (pe_slice sl_list (pv 7) po_none (po_some (pe_un un_neg pe_int))) (pe_lst (pa_cons pe_non pa_nil))) pa_nil))))
            (pg_name (i := 13) scLaw.nd rfl (.inr rfl))
          (pss_one (ps_if (pt_cmpR (op_neSm (hu64 hr)) (by exact pe_ask (k := 6) (Tb := Tb) FA bA gA Ts F.tab hmT hu hr (by decide) (LamX.lamS_by (sc := defScope sLaw) (by decide +kernel)) (fun A outer s H E f c' hr' => pe_mt mB hr' (passes_call (takes_of rfl rfl rfl rfl) fun _ _ _ _ h => h) (pv 11) (pa_cons (pe_mk mk hr' passL (pa_cons (pv 10) (pa_cons (pv 13) pa_nil))) pa_nil)))
            (pe_tup (pa_cons pe_str (pa_cons pe_int pa_nil))) (nomark _)) pss_never pss_nil)))
      (pss_one (ps_ret (pe_and (pe_c cRR hr pass0 (pa_cons (pv 1) (pa_cons (pv 2) (pa_cons (pv 11) (pa_cons (pv 4) pa_nil))))) (pe_one (pe_c cW hr pass0 (pa_cons (pv 1) (pa_cons (pv 3) (pa_cons (pv 4) pa_nil))))))))))))))))))))))))), ?_⟩
    refine ⟨_, rfl, a0, is, rfl, hsc, fun pn cl H1 npn ncl e1 pen1 => ?_⟩
    have tabs1 := tabs.ext e1
    refine ⟨_, rfl, pn, cl, 10, 0, rfl, pen1, by omega, by decide, by decide, fun r H2 r0 r1 b2 pen2 => ?_⟩
    have tabs2 := tabs_but tabs1 pen1 b2
    obtain ⟨old, rfl⟩ := Int.eq_ofNat_of_zero_le r0
    refine ⟨_, rfl, _, rfl, pn, cl, old, _, rfl, pen2, by omega, by omega, fun t l m ns H3 b3 pen3 nt nl ht hl len G m1 => ?_⟩
    have tabs3 := tabs_but tabs2 pen2 b3
    obtain ⟨m, rfl⟩ := Int.eq_ofNat_of_zero_le G.nn
    refine ⟨t, _, rfl, SqT.of ht, rfl, _, _, rfl, _, _, rfl, rfl, ?_⟩
    clear tabs tabs1 tabs2 hsc e1 b2 b3 pen1 pen2 npn ncl ht nt nl r0
    have num : ∀ v ∈ ns, Num v := G.num
    refine ⟨_, rfl, l, ns, rfl, .inl (SqL.of hl), fun hd nhd => ?_⟩
    have e4 := same_new (o := .lst ns) nhd
    have hhd : upd H3 hd (.lst ns) hd = some (.lst ns) := upd_same
    generalize upd H3 hd (.lst ns) = H4 at e4 hhd ⊢
    refine ⟨_, rfl, _, rfl, ?_⟩
    refine made2 (.inl (SqL.of hhd)) num G.nn (by omega) (by omega) G.sc fun p H5 e5 np M => ⟨rfl, ?_⟩
    have hhd5 := e5 _ _ hhd
    refine ⟨_, rfl, .inl ⟨rfl, _, SqL.of hhd5⟩, hd, ns, _, rfl, rfl, hhd5, small2000 (by omega), ?_⟩
    have M6 : IsMap K C (upd H5 hd (.lst (ns ++ [.non]))) p (m : Nat) ns := M.put hhd5
    have e6 : Same H3 (upd H5 hd (.lst (ns ++ [.non]))) := fun b o z => by
      rw [upd_ne (ne_of_none z nhd)]
      exact e5 _ _ (e4 _ _ z)
    generalize upd H5 hd (.lst (ns ++ [.non])) = H6 at M6 e6 ⊢
    have hl6 := e6 _ _ hl
    have pen6 := pen3.same e6
    have tabs6 := tabs3.ext e6
    clear M e6 hhd5 e5 e4 hhd nhd np tabs3 pen3 hl
    obtain ⟨dx, t6, hM6, sM6⟩ := id M6
    have sMM : ∀ {H' : Hp}, Same H6 H' → SqT K H' t6 ns := fun e => Same.seqT e sM6
    refine ⟨_, rfl, p, C, dx, _, _, rfl, hM6, TX.cl, TX.nM, mapF_many _ _, _, rfl, rfl, _, rfl, ?_⟩
    rw [show (!decide (V.int ((m : Nat) : Int) = V.int ((m : Nat) : Int))) = false by simp]
    refine iteF ?_
    refine ⟨_, rfl, p, C, dx, _, _, rfl, hM6, TX.cl, TX.nN, mapF_numbers _ _, _, rfl, .inl ⟨l, ns, rfl, SqL.of hl6, fun tt ntt => ?_⟩⟩
    refine ⟨t6, tt, ns, ns, rfl, rfl, .inr ⟨sMM (same_new ntt), SqT.of upd_same⟩, num, num, _, rfl, ?_⟩
    have e7 := same_new (o := .tup ns) ntt
    generalize upd H6 tt (.tup ns) = H7 at e7 ⊢
    rw [show (if true = true then !decide (ns = ns) else decide (ns = ns)) = false by simp]
    refine iteF ?_
    have hl7 := e7 _ _ hl6
    refine ⟨_, rfl, _, rfl, _, rfl, .inl ⟨l, ns, rfl, SqL.of hl7, fun t2 nt2 => ?_⟩⟩
    have e8 := same_new (o := .tup ns) nt2
    have h2 : upd H7 t2 (.tup ns) t2 = some (.tup ns) := upd_same
    generalize upd H7 t2 (.tup ns) = H8 at e8 h2 ⊢
    refine made2 (.inr (SqT.of h2)) num G.nn (by omega) (by omega) G.sc fun p2 H9 e9 np2 M2 => ⟨rfl, ?_⟩
    have e69 : Same H6 H9 := e7.trans (e8.trans e9)
    have M9 := M6.same e69
    refine ⟨p, dx, _, .ref C, rfl, e69 _ _ hM6, M2.ty TX TE, n1, p, .ref p2, (m : Nat), ns, rfl, M9, .inl ⟨p2, (m : Nat), ns, rfl, M2, num, num, ⟨_, rfl⟩, ?_⟩⟩
    rw [show (decide (((m : Nat) : Int) = ((m : Nat) : Int)) && decide (ns = ns)) = true by simp]
    refine ⟨_, rfl, ?_⟩
    refine iteF ?_
    have hl9 := e69 _ _ hl6
    clear e7 e8 e9 hl7 h2 M2 np2 nt2 ntt
    refine ⟨_, rfl, _, rfl, _, _, rfl, rfl, _, rfl, ?_⟩
    refine made2 (.inl (SqL.of hl9)) num (by omega) (by omega) (by omega) (scan_mono (m := (m : Nat)) (by omega) G.sc) fun p3 HA eA npA MA => ⟨rfl, ?_⟩
    have e6A := e69.trans eA
    refine ⟨p, dx, _, .ref C, rfl, e6A _ _ hM6, MA.ty TX TE, n1, p, .ref p3, (m : Nat), ns, rfl, M6.same e6A, .inl ⟨p3, _, ns, rfl, MA, num, num, ⟨_, rfl⟩, ?_⟩⟩
    rw [show (decide (((m : Nat) : Int) = ((m : Nat) : Int) + 1) && decide (ns = ns)) = false by rw [Bool.and_eq_false_iff]; left; exact decide_eq_false (by omega)]
    refine ⟨_, rfl, ?_⟩
    refine iteF ?_
    refine ⟨_, rfl, _, rfl, _, rfl, by show 1 ≤ sizeLine; decide, fun q1 nq1 => ?_⟩
    have eB := same_new (o := .lst [.non]) nq1
    have hq1 : upd HA q1 (.lst [.non]) q1 = some (.lst [.non]) := upd_same
    generalize upd HA q1 (.lst [.non]) = HB at eB hq1 ⊢
    have e6B := e6A.trans eB
    refine ⟨l, q1, _, _, rfl, rfl, e6B _ _ hl6, hq1, by show _ + 1 ≤ sizeLine; exact Nat.le_of_lt (small2000 (by omega)), fun q2 nq2 => ?_⟩
    have eC := same_new (o := .lst (ns ++ [.non])) nq2
    have hq2 : upd HB q2 (.lst (ns ++ [.non])) q2 = some (.lst (ns ++ [.non])) := upd_same
    generalize upd HB q2 (.lst (ns ++ [.non])) = HC at eC hq2 ⊢
    have num2 : ∀ v ∈ ns ++ [V.non], Num v := fun v hv => (List.mem_append.mp hv).elim (num v) fun z => .inl (List.mem_singleton.mp z)
    refine made2 (.inl (SqL.of hq2)) num2 G.nn (by omega) (by rw [List.length_append]; show _ + 1 ≤ 2000; omega) (scan_none G.sc) fun p4 HD eD npD MD => ⟨rfl, ?_⟩
    have e6D := e6B.trans (eC.trans eD)
    refine ⟨p, dx, _, .ref C, rfl, e6D _ _ hM6, MD.ty TX TE, n1, p, .ref p4, (m : Nat), ns, rfl, M6.same e6D, .inl ⟨p4, _, _, rfl, MD, num, num2, ⟨_, rfl⟩, ?_⟩⟩
    rw [show (decide (((m : Nat) : Int) = ((m : Nat) : Int)) && decide (ns = ns ++ [V.non])) = false by simp]
    refine ⟨_, rfl, ?_⟩
    refine iteF ?_
    refine ⟨_, rfl, _, rfl, _, rfl, by show 2 ≤ sizeLine; decide, fun t3 nt3 => ?_⟩
    have eE := same_new (o := .tup [.int (m : Nat), .ref l]) nt3
    have ht3 : upd HD t3 (.tup [.int (m : Nat), .ref l]) t3 = some (.tup [.int (m : Nat), .ref l]) := upd_same
    generalize upd HD t3 (.tup [.int (m : Nat), .ref l]) = HE at eE ht3 ⊢
    have e6E := e6D.trans eE
    refine ⟨p, dx, _, .type "tuple", rfl, e6E _ _ hM6, .base (.tup ht3), n2, p, .ref t3, (m : Nat), ns, rfl, M6.same e6E, .inr ⟨t3, _, rfl, ht3, ⟨_, rfl⟩, ?_⟩⟩
    refine ⟨_, rfl, ?_⟩
    refine iteF ?_
    have hlE := e6E _ _ hl6
    have ME := M6.same e6E
    have penE := pen6.same e6E
    have tabsE := tabs6.ext e6E
    have hME := e6E _ _ hM6
    clear eA eB eC eD eE e6A e6B e6D e69 hl9 M9 MA MD hq1 hq2 ht3 nq1 nq2 npA npD nt3 pen6 tabs6 hl6 M6 hM6 sMM sM6 e6E
    refine ⟨_, rfl, (old : Nat), rfl, by omega, by omega, fun L nL => lc_range (n := ((old : Nat) : Int).toNat) (fun i H' => Same HE H' ∧ H' L = some (.lst (ns.take i))) ⟨same_new nL, upd_same⟩ ?_ ?_⟩
    · rintro i H2 hi ⟨e, hL⟩
      have lt : i < ns.length := by
        have : i < old := by simpa using hi
        omega
      rw [Int.zero_add]
      refine ⟨rfl, ?_⟩
      unfold tYes
      refine iteT ?_
      refine ⟨_, rfl, p, dx, _, rfl, e _ _ hME, mapF_no _ _ (by decide +kernel) (by decide +kernel), _, rfl, ?_⟩
      dsimp only [tNil, List.append_nil]
      refine ⟨p, _, (m : Nat), ns, rfl, ME.same e, .int _, (fun _ z => nomatch z), .inl ⟨i, ns[i], rfl, List.getElem?_eq_getElem lt, _, hL, small2000 (by rw [List.length_take]; omega), fun b o z => ?_, ?_⟩⟩
      · rw [upd_ne (ne_of_none z nL)]
        exact e _ _ z
      · rw [upd_same, List.take_succ_eq_append_getElem lt]
    rintro HF ⟨eF, hL⟩
    rw [show ((old : Nat) : Int).toNat = old from Int.toNat_natCast _, List.take_of_length_le (by omega)] at hL
    refine ⟨_, rfl, L, l, ns, ns, rfl, rfl, .inl ⟨SqL.of hL, SqL.of (eF _ _ hlE)⟩, num, num, _, rfl, ?_⟩
    rw [show (if true = true then !decide (ns = ns) else decide (ns = ns)) = false by simp]
    refine iteF ?_
    clear hL
    have hlF := eF _ _ hlE
    have MF := ME.same eF
    have hMF := eF _ _ hME
    have m60 : m ≤ 60 := by omega
    refine ⟨_, rfl, p, dx, _, rfl, hMF, mapF_no _ _ (by decide +kernel) (by decide +kernel), p, m, ns, rfl, MF, by omega, by omega, num, fun fl HG nfl eG hfl => ?_⟩
    have lfl := freshL_len m ns
    refine ⟨_, rfl, .inl ⟨rfl, _, SqL.of hfl⟩, fl, _, _, rfl, rfl, hfl, small2000 (by omega), ?_⟩
    have eH : Same HF (upd HG fl (.lst (freshL m ns ++ [.int 99]))) := fun b o z => by
      rw [upd_ne (ne_of_none z nfl)]
      exact eG _ _ z
    generalize upd HG fl (.lst (freshL m ns ++ [.int 99])) = HH at eH ⊢
    refine ⟨_, rfl, p, dx, _, rfl, eH _ _ hMF, mapF_no _ _ (by decide +kernel) (by decide +kernel), p, m, ns, rfl, MF.same eH, by omega, by omega, num, fun fl2 HI nfl2 eI hfl2 => ?_⟩
    have eFI := eH.trans eI
    have hlI := eFI _ _ hlF
    refine ⟨_, rfl, (m : Nat), rfl, by omega, by omega, fun L nL => lc_range (n := ((m : Nat) : Int).toNat) (fun i H' => Same HI H' ∧ H' L = some (.lst (freshL i ns))) ⟨same_new nL, upd_same⟩ ?_ ?_⟩
    · rintro i H2 hi ⟨e, hL⟩
      rw [Int.zero_add]
      have lt : i < m := by simpa using hi
      refine ⟨rfl, _, rfl, _, rfl, l, ns, (i : Nat), rfl, rfl, e _ _ hlI, num, _, rfl, ?_⟩
      by_cases c : V.int (i : Nat) ∈ ns
      · rw [decide_eq_true c]
        refine iteF ⟨e, ?_⟩
        rw [freshL_succ, if_pos c, List.append_nil]
        exact hL
      · rw [decide_eq_false c]
        refine iteT ⟨_, rfl, _, hL, small2000 (Nat.le_trans (freshL_len _ _) (by omega)), fun b o z => ?_, ?_⟩
        · rw [upd_ne (ne_of_none z nL)]
          exact e _ _ z
        · rw [freshL_succ, if_neg c]
          exact upd_same
    rintro HJ ⟨eJ, hL⟩
    rw [Int.toNat_natCast] at hL
    refine ⟨fl2, L, _, _, rfl, rfl, .inl ⟨SqL.of (eJ _ _ hfl2), SqL.of hL⟩, freshL_num, freshL_num, _, rfl, ?_⟩
    rw [show (if true = true then !decide (freshL m ns = freshL m ns) else decide (freshL m ns = freshL m ns)) = false by simp]
    refine iteF ?_
    have eEJ := eF.trans (eFI.trans eJ)
    have hlJ := eEJ _ _ hlE
    have MJ := ME.same eEJ
    have penJ := penE.same eEJ
    have tabsJ := tabsE.ext eEJ
    clear eF eFI eJ eEJ eI eH eG hlF hlI hlE ME MF hME hMF penE tabsE hfl hfl2 nfl nfl2 hL nL
    refine ⟨_, rfl, _, rfl, by show 5 ≤ sizeLine; decide, fun LL nLL => ⟨LL, _, rfl, .inl (SqL.of upd_same), ?_⟩⟩
    have xK := same_new (o := .lst [.int (-1), .int (old : Nat), .bl true, .non, .str "0"]) nLL
    have hLL : upd HJ LL (.lst [.int (-1), .int (old : Nat), .bl true, .non, .str "0"]) LL = some (.lst [.int (-1), .int (old : Nat), .bl true, .non, .str "0"]) := upd_same
    generalize upd HJ LL (.lst [.int (-1), .int (old : Nat), .bl true, .non, .str "0"]) = HK at xK hLL ⊢
    have hlK := xK _ _ hlJ
    have MK := MJ.same xK
    have penK := penJ.same xK
    have tabsK := tabsJ.ext xK
    clear hlJ MJ penJ tabsJ xK
    refine fun J G1 wk hG => for_it wk (fun i σ H' => ∃ a : Option V, σ = [some (.ref a0), some (.ref pn), some (.int (old : Nat)), some (.int (m : Nat)), some (.ref l), some (.ref hd), some (.ref fl), none, none, none, none, some (.ref p), a, none, none, none] ∧ LamX.ExtN HK H' ∧ LamX.Tabs Tb H') ⟨_, rfl, LamX.ExtN.refl _, tabsK⟩ (fun i σ H' _ ⟨_, _, e, _⟩ => hG H' fun o z => ?_) ?_ ?_
    · have e0 := Option.some.inj (hLL.symm.trans z)
      subst e0
      exact e _ _ hLL (fun _ w => nomatch w)
    · rintro i x σ H12 H13 hi ⟨a, rfl, e, tabs12⟩ ⟨rfl, hx⟩
      have hv : Flat x ∧ btw x 0 ((ns.length : Int) - 1) = false := by
        have hm := List.mem_of_getElem? hx
        simp only [List.mem_cons, List.not_mem_nil, or_false] at hm
        rcases hm with rfl | rfl | rfl | rfl | rfl
        · exact ⟨True.intro, btw_f fun z => by omega⟩
        · exact ⟨True.intro, btw_f fun z => by omega⟩
        · exact ⟨True.intro, rfl⟩
        · exact ⟨True.intro, rfl⟩
        · refine ⟨?_, rfl⟩
          show PyData.strOk _ = true
          decide +kernel
      refine ⟨tabs12, fun H13 e13 tabs13 => ?_⟩
      have e11 : LamX.ExtN HK H13 := e.trans e13
      have M13 := MK.ext e11
      obtain ⟨dx3, t3, hM13, sM13⟩ := id M13
      refine ⟨_, rfl, p, dx3, _, rfl, hM13, mapF_no _ _ (by decide +kernel) (by decide +kernel), _, rfl, ?_⟩
      dsimp only [tNil, List.append_nil]
      refine ⟨p, x, (m : Nat), ns, rfl, M13, kn_flat hv.1, flat_ref hv.1, .inr ⟨hv.2, fun d H15 r => .inl ⟨rfl, d, _, rfl, r.at_, fun t nt => ?_⟩⟩⟩
      have x15 := same_new (o := .tup [.str "number", x]) nt
      have ht : upd H15 t (.tup [.str "number", x]) t = some (.tup [.str "number", x]) := upd_same
      generalize upd H15 t (.tup [.str "number", x]) = H16 at x15 ht ⊢
      refine ⟨_, rfl, by show 2 ≤ sizeLine; decide, fun t2 nt2 => ⟨t, t2, _, rfl, rfl, (upd_ne (ne_of_none ht nt2)).trans ht, upd_same, ?_, ?_⟩⟩
      · intro v hm
        simp only [List.mem_cons, List.not_mem_nil, or_false] at hm
        rcases hm with rfl | rfl
        · show PyData.strOk _ = true
          decide +kernel
        · exact hv.1
      · have xx := r.same.trans (x15.trans (same_new (o := .tup [.str "number", x]) nt2))
        exact ⟨_, rfl, iteF ⟨some x, rfl, e11.trans (ext_of xx), tabs13.ext xx⟩⟩
    rintro σ HL ⟨odd, rfl, eL, tabsL⟩
    have hlL := eL _ _ hlK (fun _ w => nomatch w)
    have ML := MK.ext eL
    have penL := penK.ext eL
    clear hlK MK penK tabsK eL hLL nLL
    refine ⟨_, rfl, _, rfl, pn, cl, m, _, rfl, penL, m60, by omega, fun t2 l2 m2 ms HM bM penM nt2 nl2 ht2 hl2 len2 G2 m2le => ?_⟩
    have tabsM := tabs_but tabsL penL bM
    have hlM := lst_but hlL penL bM
    have MM := ML.but penL bM
    obtain ⟨m2, rfl⟩ := Int.eq_ofNat_of_zero_le G2.nn
    have num2 : ∀ v ∈ ms, Num v := G2.num
    refine ⟨t2, _, rfl, SqT.of ht2, rfl, _, _, rfl, _, _, rfl, rfl, ?_⟩
    clear tabsL hlL ML penL bM ht2 nt2 nl2
    obtain ⟨dx2, t7, hMM, sMM⟩ := id MM
    refine ⟨_, rfl, p, dx2, _, rfl, hMM, mapF_no _ _ (by decide +kernel) (by decide +kernel), _, rfl, _, rfl, ?_⟩
    have sc3 : scan (m2 : Nat) 0 0 (ns.map (compF ms)) = none := comp_scan G2.sc num2 (Int.le_refl 0) (by rw [len2]; exact G.sc) (Int.le_refl 0)
    refine made2 (.inl (SqL.of hl2)) num2 G2.nn (by omega) (by omega) G2.sc fun p2 HN eN np2 M2 => ⟨rfl, ?_⟩
    dsimp only [tNil, List.append_nil]
    refine ⟨p, p2, (m : Nat), (m2 : Nat), ns, ms, rfl, MM.same eN, M2, .inr ⟨by rw [len2], fun v hv => ?_, num2, G2.nn, by omega, by omega, sc3, fun pb HO2 eO npb Mb => ?_⟩⟩
    · exact (G.mem v hv).imp id fun ⟨j, e1, e2⟩ => ⟨j, e1, by omega⟩
    have eMO := eN.trans eO
    have hlO := eMO _ _ hlM
    have hl2O := eMO _ _ hl2
    refine ⟨_, rfl, l, ns, rfl, .inl (SqL.of hlO), fun J G1 wk hG L nL => lc_it wk (fun i H' => Same HO2 H' ∧ H' L = some (.lst ((ns.take i).map (compF ms)))) ⟨same_new nL, upd_same⟩ (fun i H' _ z => hG H' fun o w => z.1 _ _ w) ?_ ?_⟩
    · rintro i x H1 H2 hi ⟨e, hL⟩ ⟨rfl, hx⟩
      refine ⟨rfl, ?_⟩
      unfold tYes
      refine iteT ?_
      have tk : ns.take (i + 1) = ns.take i ++ [x] := by
        obtain ⟨lt, eq⟩ := List.getElem?_eq_some_iff.mp hx
        rw [List.take_succ_eq_append_getElem lt, eq]
      have fin : ∀ y, y = compF ms x → ∃ acc, H2 L = some (.lst acc) ∧ acc.length < sizeLine ∧ Same HO2 (upd H2 L (.lst (acc ++ [y]))) ∧ upd H2 L (.lst (acc ++ [y])) L = some (.lst ((ns.take (i + 1)).map (compF ms))) := fun y ey => by
        refine ⟨_, hL, small2000 (by rw [List.length_map, List.length_take]; omega), fun b o z => ?_, ?_⟩
        · rw [upd_ne (ne_of_none z nL)]
          exact e _ _ z
        · rw [upd_same, tk, List.map_append, ey]
          rfl
      refine ⟨x, rfl, rfl, _, rfl, ?_⟩
      rcases G.mem x (List.mem_of_getElem? hx) with rfl | ⟨j, rfl, hj⟩
      · refine ite2 (fun _ => fin _ rfl) fun c => absurd (by decide) c
      · refine ite2 (fun c => absurd c (by simp)) fun _ => ?_
        have hj2 : j < ms.length := by omega
        have hv : ms[j]? = some (compF ms (.int (j : Nat))) := by
          show ms[j]? = some (ms.getD ((j : Nat) : Int).toNat .non)
          rw [Int.toNat_natCast, List.getD_eq_getElem?_getD, List.getElem?_eq_getElem hj2]
          rfl
        exact ⟨_, rfl, _, rfl, l2, ms, _, _, rfl, rfl, SqL.of (e _ _ hl2O), atI_nat hv, fin _ rfl⟩
    rintro HP ⟨eP, hL⟩
    rw [List.take_length] at hL
    have MbP := Mb.same eP
    obtain ⟨dxb, tb, hMb, sMb⟩ := id MbP
    have num3 : ∀ v ∈ ns.map (compF ms), Num v := fun v hv => by
      obtain ⟨x, hx, rfl⟩ := List.mem_map.mp hv
      rcases G.mem x hx with rfl | ⟨j, rfl, hj⟩
      · exact .inl rfl
      · have hj2 : j < ms.length := by omega
        show Num (ms.getD ((j : Nat) : Int).toNat .non)
        rw [Int.toNat_natCast, List.getD_eq_getElem?_getD, List.getElem?_eq_getElem hj2]
        exact num2 _ (List.getElem_mem hj2)
    refine ⟨_, rfl, pb, C, dxb, _, _, rfl, hMb, TX.cl, TX.nM, mapF_many _ _, _, rfl, rfl, _, rfl, ?_⟩
    rw [show (!decide (V.int ((m2 : Nat) : Int) = V.int ((m2 : Nat) : Int))) = false by simp]
    refine iteF ?_
    refine ⟨_, rfl, pb, C, dxb, _, _, rfl, hMb, TX.cl, TX.nN, mapF_numbers _ _, _, rfl, .inl ⟨L, _, rfl, SqL.of hL, fun tt ntt => ?_⟩⟩
    refine ⟨tb, tt, _, _, rfl, rfl, .inr ⟨Same.seqT (same_new ntt) sMb, SqT.of upd_same⟩, num3, num3, _, rfl, ?_⟩
    have eQ := same_new (o := .tup (ns.map (compF ms))) ntt
    generalize upd HP tt (.tup (ns.map (compF ms))) = HQ at eQ ⊢
    rw [show (if true = true then !decide (ns.map (compF ms) = ns.map (compF ms)) else decide (ns.map (compF ms) = ns.map (compF ms))) = false by simp]
    refine iteF ?_
    have eMQ := eMO.trans (eP.trans eQ)
    have hlQ := eMQ _ _ hlM
    have hl2Q := eMQ _ _ hl2
    have MQ := MM.same eMQ
    have penQ := penM.same eMQ
    have tabsQ := tabsM.ext eMQ
    clear eMQ eQ hMb sMb MbP hL eP hl2O hlO eMO eO eN M2 Mb tabsM hlM MM hMM sMM penM hl2 ntt
    refine ⟨_, rfl, by show 1 ≤ sizeLine; decide, fun q1 nq1 => ?_⟩
    have x1 := same_new (o := .lst [.non]) nq1
    have hq1 : upd HQ q1 (.lst [.non]) q1 = some (.lst [.non]) := upd_same
    generalize upd HQ q1 (.lst [.non]) = R1 at x1 hq1 ⊢
    have h21 := x1 _ _ hl2Q
    refine ⟨l2, q1, _, _, rfl, rfl, h21, hq1, by show _ + 1 ≤ sizeLine; exact Nat.le_of_lt (small2000 (by omega)), fun q2 nq2 => ?_⟩
    have x2 := same_new (o := .lst (ms ++ [.non])) nq2
    have hq2 : upd R1 q2 (.lst (ms ++ [.non])) q2 = some (.lst (ms ++ [.non])) := upd_same
    generalize upd R1 q2 (.lst (ms ++ [.non])) = R2 at x2 hq2 ⊢
    have h22 := x2 _ _ h21
    have o1 : OthL R2 (m2 : Nat) m (.ref q2) := ⟨q2, _, rfl, hq2, fun v hv => (List.mem_append.mp hv).elim (num2 v) fun z => .inl (List.mem_singleton.mp z), scan_none G2.sc, by rw [List.length_append]; show _ + 1 ≠ m; omega, by rw [List.length_append]; show _ + 1 ≤ 1000; omega⟩
    refine ⟨_, rfl, Nat.zero_le _, fun z nz => ?_⟩
    have x3 := same_new (o := .lst []) nz
    have hz : upd R2 z (.lst []) z = some (.lst []) := upd_same
    generalize upd R2 z (.lst []) = R3 at x3 hz ⊢
    have h23 := x3 _ _ h22
    have o3 := o1.ext (ext_of x3)
    refine ⟨l2, z, ms, [], rfl, rfl, .inl ⟨SqL.of h23, SqL.of hz⟩, num2, (fun _ z => nomatch z), _, rfl, ?_⟩
    refine other2 rfl h23 num2 G2.sc len2 (by omega) fun q4 R4 x4 o4 => ?_
    have o14 := o3.ext (ext_of x4)
    have x14 : Same HQ R4 := x1.trans (x2.trans (x3.trans x4))
    have hl4 := x14 _ _ hlQ
    have M4 := MQ.same x14
    have pen4 := penQ.same x14
    have tabs4 := tabsQ.ext x14
    clear x14 x1 x2 x3 x4 o3 o1 hz hq1 hq2 h21 h22 h23 hlQ hl2Q MQ penQ tabsQ nz nq1 nq2
    refine ⟨by show 2 ≤ sizeLine; decide, fun LL nLL => ⟨LL, _, rfl, .inl (SqL.of upd_same), ?_⟩⟩
    have xK := same_new (o := .lst [.ref q2, .ref q4]) nLL
    have hLL : upd R4 LL (.lst [.ref q2, .ref q4]) LL = some (.lst [.ref q2, .ref q4]) := upd_same
    generalize upd R4 LL (.lst [.ref q2, .ref q4]) = R5 at xK hLL ⊢
    have hl5 := xK _ _ hl4
    have M5 := M4.same xK
    have pen5 := pen4.same xK
    have tabs5 := tabs4.ext xK
    have o5 := o14.ext (ext_of xK)
    have o6 := o4.ext (ext_of xK)
    clear hl4 M4 pen4 tabs4 xK o14 o4
    refine fun J G1 wk hG => for_it wk (fun i σ H' => ∃ a : Option V, σ = [some (.ref a0), some (.ref pn), some (.int (old : Nat)), some (.int (m : Nat)), some (.ref l), some (.ref hd), some (.ref fl), some (.ref l2), some (.ref pb), some (.ref L), some (.int (m2 : Nat)), some (.ref p), odd, a, none, none] ∧ LamX.ExtN R5 H' ∧ LamX.Tabs Tb H') ⟨_, rfl, LamX.ExtN.refl _, tabs5⟩ (fun i σ H' _ ⟨_, _, e, _⟩ => hG H' fun o z => ?_) ?_ ?_
    · have e0 := Option.some.inj (hLL.symm.trans z)
      subst e0
      exact e _ _ hLL (fun _ w => nomatch w)
    · rintro i x σ H12 H13 hi ⟨a, rfl, e, tabs12⟩ ⟨rfl, hx⟩
      have ox : OthL R5 (m2 : Nat) m x := by
        have hm := List.mem_of_getElem? hx
        simp only [List.mem_cons, List.not_mem_nil, or_false] at hm
        rcases hm with rfl | rfl
        · exact o5
        · exact o6
      refine ⟨tabs12, fun H13 e13 tabs13 => ?_⟩
      have e11 : LamX.ExtN R5 H13 := e.trans e13
      have M13 := M5.ext e11
      obtain ⟨ax, os, rfl, hos, numo, sco, nem, leo⟩ := ox.ext e11
      obtain ⟨dx3, t3, hM13, sM13⟩ := id M13
      refine ⟨_, rfl, p, dx3, _, rfl, hM13, mapF_no _ _ (by decide +kernel) (by decide +kernel), _, rfl, _, rfl, ?_⟩
      refine made2 (.inl (SqL.of hos)) numo (by omega) (by omega) (by omega) sco fun p5 H14 e14 np5 M14 => ⟨rfl, ?_⟩
      dsimp only [tNil, List.append_nil]
      refine ⟨p, p5, (m : Nat), (m2 : Nat), ns, os, rfl, M13.same e14, M14, .inl ⟨by omega, fun H15 e15 => .inr (.inl ⟨rfl, fun t nt => ?_⟩)⟩⟩
      have x15 := same_new (o := .tup [.str "other", .int 0]) nt
      have ht : upd H15 t (.tup [.str "other", .int 0]) t = some (.tup [.str "other", .int 0]) := upd_same
      generalize upd H15 t (.tup [.str "other", .int 0]) = H16 at x15 ht ⊢
      refine ⟨by show 2 ≤ sizeLine; decide, fun t2 nt2 => ⟨t, t2, _, rfl, rfl, (upd_ne (ne_of_none ht nt2)).trans ht, upd_same, ?_, ?_⟩⟩
      · intro v hm
        simp only [List.mem_cons, List.not_mem_nil, or_false] at hm
        rcases hm with rfl | rfl
        · show PyData.strOk _ = true
          decide +kernel
        · exact True.intro
      · have xx := e14.trans (e15.trans (x15.trans (same_new (o := .tup [.str "other", .int 0]) nt2)))
        exact ⟨_, rfl, iteF ⟨_, rfl, e11.trans (ext_of xx), tabs13.ext xx⟩⟩
    rintro σ H6 ⟨oth, rfl, e6, tabs6⟩
    have hl6 := e6 _ _ hl5 (fun _ w => nomatch w)
    have M6 := M5.ext e6
    have pen6 := pen5.ext e6
    clear hl5 M5 pen5 tabs5 e6 hLL nLL o5 o6
    subst len
    refine ⟨_, rfl, _, rfl, _, rfl, _, rfl, ?_⟩
    dsimp only [tNil, List.append_nil]
    refine ⟨pn, cl, p, l, (m : Nat), _, ns, rfl, pen6, by omega, M6, hl6, by omega, num, tabs6, fun H7 pen7 kt => ?_⟩
    have hl7 := kt l _ (pen6.ne hl6 fun _ z => by cases z) hl6 (fun _ w => nomatch w)
    refine ⟨_, rfl, ?_⟩
    refine ⟨_, rfl, _, rfl, _, rfl, ?_⟩
    dsimp only [tNil, List.append_nil]
    exact ⟨pn, cl, l, (m : Nat), _, ns, rfl, pen7, by omega, hl7, by omega, G, by omega, fun H' => q H'⟩
end
end K00
set_option Elab.async false
set_option linter.all false
set_option maxRecDepth 100001
set_option maxHeartbeats 3999999
namespace K00
open PySem L2
/-! ### what the top leaves -/
/-- an own exception class as the rules want it -/
def oexB (K : PySem.W.Frag) (C : Addr) : Bool := (match K.lookup C with
  | some ⟨.type "type", _, .cls cd, sl⟩ => (match sl.toList, cd.mro with
    | [_, _, _, _, some (.builtin nw), _], .ref D :: bm => decide (D = C) && (decide (nw = "ValueError.__new__") && (!cd.hasDel && (cd.hasDict && PySem.HandSPX.refsVE bm)))
    | _, _ => false)
  | _ => false) && (He.eqO (PySem.W.findIn K (.ref C) "__setattr__") (some (some (.builtin "object.__setattr__"))) && (decide (PySem.W.subIn K (.ref C) (.type "BaseException") = some true) && (decide (PySem.W.typeIn K (.ref C) = some (.type "type")) && PySem.W.keepIn K (.ref C))))
theorem oexB_ok {K : PySem.W.Frag} {C : Addr} (h : oexB K C = true) : OexC K C := by
  obtain ⟨h1, h⟩ := He.ba h
  obtain ⟨h2, h⟩ := He.ba h
  obtain ⟨h3, h⟩ := He.ba h
  obtain ⟨h4, h5⟩ := He.ba h
  refine ⟨?_, He.eqO_ok h2, of_decide_eq_true h3, of_decide_eq_true h4, h5⟩
  split at h1
  · rename_i dd cd sl ho
    split at h1
    · rename_i x0 x1 x2 x3 nw x5 D bm hs hm
      obtain ⟨g1, g⟩ := He.ba h1
      obtain ⟨g2, g⟩ := He.ba g
      obtain ⟨g3, g⟩ := He.ba g
      obtain ⟨g4, g5⟩ := He.ba g
      have e1 := of_decide_eq_true g1
      have e2 := of_decide_eq_true g2
      subst e1 e2
      obtain ⟨nm, bs, mro, ns, qn, hd, sn, sub, ab, col, del⟩ := cd
      dsimp only at hm g3 g4
      subst hm g4
      have e3 : del = false := by
        cases del with
        | false => rfl
        | true => cases g3
      subst e3
      have hsl : sl = #[x0, x1, x2, x3, some (.builtin "ValueError.__new__"), x5] := by
        obtain ⟨l⟩ := sl
        have h' : l = _ := hs
        rw [h']
      subst hsl
      exact ⟨nm, qn, ns, bs, bm, sn, sub, ab, col, dd, x0, x1, x2, x3, x5, ho, g5⟩
    · cases h1
  · cases h1
def fa0 : List He.Fa := [.glo "is_whole", .glo "is_between", .glo "is_tuple_of", .glo "copied", .glo "first_wrong_range", .glo "ranges_of", .glo "_law_pen", .glo "_law_draw", .glo "_law_pick", .glo "_law_plan", .glo "_law_ranges", .glo "_law_made", .glo "_law_asked", .glo "_law_wrong_right", .glo "_law_ranges_right", .glo "law", .glo "BadMany", .glo "TooMany", .glo "BadMap", .glo "BadRange", .glo "NoNumber", .glo "OtherMap", .glo "NumberMap", .free "isinstance", .free "int", .free "bool", .free "tuple", .free "list", .free "dict", .free "len"]
def fa1 : List He.Fa := [.free "enumerate", .free "range", .free "abs", .free "max", .cls "NumberMap", .mkr "NumberMap", .noat "BadMany" "many", .noat "TooMany" "what", .noat "TooMany" "many", .noat "TooMany" "most", .noat "BadMap" "index", .noat "BadRange" "index", .noat "NoNumber" "number", .noat "NumberMap" "many", .noat "NumberMap" "numbers", .meth "BadMany" "__init__", .meth "TooMany" "__init__", .meth "BadMap" "__init__", .meth "BadRange" "__init__", .meth "NoNumber" "__init__", .meth "OtherMap" "__init__", .meth "NumberMap" "__init__", .meth "NumberMap" "__eq__", .meth "NumberMap" "number_behind", .meth "NumberMap" "fresh_numbers", .meth "NumberMap" "followed_by", .meth "NumberMap" "ranges_behind", .exm "BadMany" "BadMany" true, .exm "TooMany" "TooMany" true, .exm "BadMap" "BadMap" true]
def fa2 : List He.Fa := [.exm "TooMany" "BadMany" false, .exm "BadMap" "BadMany" false, .exm "BadMap" "TooMany" false, .exm "NoNumber" "NoNumber" true, .exm "OtherMap" "OtherMap" true, .exm "BadRange" "BadRange" true, .exm "OtherMap" "NoNumber" false, .exm "BadRange" "NoNumber" false, .exm "BadRange" "OtherMap" false]
def faA : List He.Fa := fa0 ++ fa1 ++ fa2
def dd0 : He.DefD := ⟨("is_whole", none), "is_whole", "is_whole", defArgs sWhole, defBody sWhole, defScope sWhole, [], []⟩
def dd1 : He.DefD := ⟨("is_between", none), "is_between", "is_between", defArgs sBetween, defBody sBetween, defScope sBetween, [], []⟩
def dd2 : He.DefD := ⟨("is_tuple_of", none), "is_tuple_of", "is_tuple_of", defArgs sTupOf, defBody sTupOf, defScope sTupOf, [], []⟩
def dd3 : He.DefD := ⟨("copied", none), "copied", "copied", defArgs sCopied, defBody sCopied, defScope sCopied, [], []⟩
def dd4 : He.DefD := ⟨("first_wrong_range", none), "first_wrong_range", "first_wrong_range", defArgs sFWR, defBody sFWR, defScope sFWR, [], []⟩
def dd5 : He.DefD := ⟨("ranges_of", none), "ranges_of", "ranges_of", defArgs sRanges, defBody sRanges, defScope sRanges, [], []⟩
def dd6 : He.DefD := ⟨("_law_pen", none), "_law_pen", "_law_pen", defArgs sPen, defBody sPen, defScope sPen, [], []⟩
def dd7 : He.DefD := ⟨("_law_draw", none), "_law_draw", "_law_draw", defArgs sDraw, defBody sDraw, defScope sDraw, [], []⟩
def dd8 : He.DefD := ⟨("_law_pick", none), "_law_pick", "_law_pick", defArgs sPick, defBody sPick, defScope sPick, [], []⟩
def dd9 : He.DefD := ⟨("_law_plan", none), "_law_plan", "_law_plan", defArgs sPlan, defBody sPlan, defScope sPlan, [], []⟩
def dd10 : He.DefD := ⟨("_law_ranges", none), "_law_ranges", "_law_ranges", defArgs sLRan, defBody sLRan, defScope sLRan, [], []⟩
def dd11 : He.DefD := ⟨("_law_made", none), "_law_made", "_law_made", defArgs sMade, defBody sMade, defScope sMade, [], []⟩
def dd12 : He.DefD := ⟨("_law_asked", none), "_law_asked", "_law_asked", defArgs sAsk, defBody sAsk, defScope sAsk, [], []⟩
def dd13 : He.DefD := ⟨("_law_wrong_right", none), "_law_wrong_right", "_law_wrong_right", defArgs sWrong, defBody sWrong, defScope sWrong, [], []⟩
def dd14 : He.DefD := ⟨("_law_ranges_right", none), "_law_ranges_right", "_law_ranges_right", defArgs sRR, defBody sRR, defScope sRR, [], []⟩
def dd15 : He.DefD := ⟨("law", none), "law", "law", defArgs sLaw, defBody sLaw, defScope sLaw, [], []⟩
def dd16 : He.DefD := ⟨("BadMany", some "__init__"), "__init__", "BadMany.__init__", defArgs sBMany, defBody sBMany, defScope sBMany, [], []⟩
def dd17 : He.DefD := ⟨("TooMany", some "__init__"), "__init__", "TooMany.__init__", defArgs sTMany, defBody sTMany, defScope sTMany, [], []⟩
def dd18 : He.DefD := ⟨("BadMap", some "__init__"), "__init__", "BadMap.__init__", defArgs sBMap, defBody sBMap, defScope sBMap, [], []⟩
def dd19 : He.DefD := ⟨("BadRange", some "__init__"), "__init__", "BadRange.__init__", defArgs sBRange, defBody sBRange, defScope sBRange, [], []⟩
def dd20 : He.DefD := ⟨("NoNumber", some "__init__"), "__init__", "NoNumber.__init__", defArgs sNoNum, defBody sNoNum, defScope sNoNum, [], []⟩
def dd21 : He.DefD := ⟨("OtherMap", some "__init__"), "__init__", "OtherMap.__init__", defArgs sOMap, defBody sOMap, defScope sOMap, [], []⟩
def dd22 : He.DefD := ⟨("NumberMap", some "__init__"), "__init__", "NumberMap.__init__", defArgs sInit, defBody sInit, defScope sInit, [], []⟩
def dd23 : He.DefD := ⟨("NumberMap", some "__eq__"), "__eq__", "NumberMap.__eq__", defArgs sEq, defBody sEq, defScope sEq, [], []⟩
def dd24 : He.DefD := ⟨("NumberMap", some "number_behind"), "number_behind", "NumberMap.number_behind", defArgs sNumB, defBody sNumB, defScope sNumB, [], []⟩
def dd25 : He.DefD := ⟨("NumberMap", some "fresh_numbers"), "fresh_numbers", "NumberMap.fresh_numbers", defArgs sFresh, defBody sFresh, defScope sFresh, [], []⟩
def dd26 : He.DefD := ⟨("NumberMap", some "followed_by"), "followed_by", "NumberMap.followed_by", defArgs sFoll, defBody sFoll, defScope sFoll, [], []⟩
def dd27 : He.DefD := ⟨("NumberMap", some "ranges_behind"), "ranges_behind", "NumberMap.ranges_behind", defArgs sRanB, defBody sRanB, defScope sRanB, [], []⟩
def fnA : List He.DefD := [dd0, dd1, dd2, dd3, dd4, dd5, dd6, dd7, dd8, dd9, dd10, dd11, dd12, dd13, dd14, dd15, dd16, dd17, dd18, dd19, dd20, dd21, dd22, dd23, dd24, dd25, dd26, dd27]
abbrev lawD : Str × Option Str := ("law", none)
abbrev rrD : Str × Option Str := ("_law_ranges_right", none)
/-- what else is asked of K, and of the tables ts -/
def exA (K : PySem.W.Frag) (ts : List Addr) : Bool := ((oexB K (He.ga K "BadMany") && xfB K (He.ga K "BadMany")) && (oexB K (He.ga K "TooMany") && xfB K (He.ga K "TooMany")) && (oexB K (He.ga K "BadMap") && xfB K (He.ga K "BadMap")) && (oexB K (He.ga K "BadRange") && xfB K (He.ga K "BadRange")) && (oexB K (He.ga K "NoNumber") && xfB K (He.ga K "NoNumber")) && (oexB K (He.ga K "OtherMap") && xfB K (He.ga K "OtherMap"))) && ((He.eqO (PySem.W.findIn K (.ref (He.ga K "NumberMap")) "__class__") (some (some (.builtin "object.__class__"))) && (He.eqO (PySem.W.specialIn K (.builtin "object.__class__") "__get__") (some (some (.builtin "getset_descriptor.__get__"))) && (decide (PySem.W.takesIn K (.builtin "object.__class__") = some true) && (decide (PySem.W.mroIn K (He.ga K "NumberMap") (.type "object") = some true) && decide (PySem.W.kitOne K (.type "tuple") (.ref (He.ga K "NumberMap")) = some false))))) && ((PySem.W.notFirst K (He.ga K "NumberMap") (.ref (He.ga K "NumberMap")) && PySem.W.notFirst K (He.ga K "NumberMap") (.type "tuple")) &&
  (decide ((He.cT K lawD).2 ∈ ts) && (decide ((He.cT K rrD).2 ∈ ts) && (decide ((He.cT K lawD).2 ≠ (He.cT K rrD).2) && (PySem.W.codeHdIn K (He.cT K lawD).1 (He.cT K lawD).2 && (PySem.W.codeHdIn K (He.cT K rrD).1 (He.cT K rrD).2 && ((K.lookup (He.cT K lawD).2).isNone && (K.lookup (He.cT K rrD).2).isNone))))))))
theorem fun_ofD {K : PySem.W.Frag} {x qual : Str} {st : Stmt} {f : Addr} {fd : FuncData} (F : FunD K x qual (defArgs st) (defBody st) (defScope st) [] [] f fd) : Fun K x qual st f fd := by
  obtain ⟨oc, od, dV, kV, doc, pm, an, cdv, ct, osl, e, lk, hcd, dv, _⟩ := F.ex
  rcases dv with ⟨_, rfl⟩ | ⟨h, _⟩
  · exact ⟨⟨oc, od, kV, doc, pm, an, cdv, ct, osl, e, lk, hcd⟩, F.kp⟩
  · exact absurd rfl h
theorem funL_of {K : PySem.W.Frag} {base : Heap} {mg : Str → Option Value} {x : Str} {st : Stmt} {fd : FuncData} (F : Fun K x x st (He.fAd K (x, none)) fd) (T : LamX.TabB base mg (He.cT K (x, none)).1 (He.cT K (x, none)).2) :
    FunL K base mg x st (He.fAd K (x, none)) (He.cT K (x, none)).1 (He.cT K (x, none)).2 fd := by
  obtain ⟨oc, od, kV, doc, pm, an, cdv, ct, osl, e, lk, hcd⟩ := F.ex
  obtain ⟨c, rfl⟩ := He.codeIn_ref hcd
  have e2 : (He.cT K (x, none)).1 = c := by
    refine He.codeOf_eq lk ?_
    rw [e] <;> rfl
  exact ⟨⟨oc, od, kV, doc, pm, an, ct, osl, by rw [e2]; exact e, lk, by rw [e2]; exact hcd⟩, T⟩
theorem isNone_of {α : Type} {o : Option α} (h : o.isNone = true) : o = none := by
  cases o with
  | none => rfl
  | some _ => cases h
/-- the law's promise, of what the top leaves -/
theorem at_law {l : PySem.W.OpenLaw} {w : World} {K : PySem.W.Frag} {h : Heap} {mg : Str → Option Value} {fl : Addr} {ts : List Addr} (KX : K.In h) (G : h.Ns mainGlobals mg) (hfl : mg ("law" : Str) = some (.ref fl)) (c : He.SaysD faA fnA K) (ex : exA K ts = true) (hT : ∀ P ∈ ts, h.get? P = some { cls := .none, data := .fields #[] }) :
    LamX.LawAtS l w K CX0 9 63 "_law_script" mg fl h := by
  obtain ⟨xE, ex⟩ := He.ba ex
  obtain ⟨xT, ex⟩ := He.ba ex
  obtain ⟨xN, ex⟩ := He.ba ex
  obtain ⟨t1, ex⟩ := He.ba ex
  obtain ⟨t2, ex⟩ := He.ba ex
  obtain ⟨t3, ex⟩ := He.ba ex
  obtain ⟨t4, ex⟩ := He.ba ex
  obtain ⟨t5, ex⟩ := He.ba ex
  obtain ⟨t6, t7⟩ := He.ba ex
  obtain ⟨y1, xT⟩ := He.ba xT
  obtain ⟨y2, xT⟩ := He.ba xT
  obtain ⟨y3, xT⟩ := He.ba xT
  obtain ⟨y4, y5⟩ := He.ba xT
  obtain ⟨n1, n2⟩ := He.ba xN
  obtain ⟨xE, z5⟩ := He.ba xE
  obtain ⟨xE, z4⟩ := He.ba xE
  obtain ⟨xE, z3⟩ := He.ba xE
  obtain ⟨xE, z2⟩ := He.ba xE
  obtain ⟨xE, z1⟩ := He.ba xE
  obtain ⟨o0, f0⟩ := He.ba xE
  obtain ⟨o1, f1⟩ := He.ba z1
  obtain ⟨o2, f2⟩ := He.ba z2
  obtain ⟨o3, f3⟩ := He.ba z3
  obtain ⟨o4, f4⟩ := He.ba z4
  obtain ⟨o5, f5⟩ := He.ba z5
  have B : Bi mg := ⟨He.free_ok KX G (c.fact 23 (f := .free "isinstance") rfl), He.free_ok KX G (c.fact 24 (f := .free "int") rfl), He.free_ok KX G (c.fact 25 (f := .free "bool") rfl), He.free_ok KX G (c.fact 26 (f := .free "tuple") rfl), He.free_ok KX G (c.fact 27 (f := .free "list") rfl), He.free_ok KX G (c.fact 28 (f := .free "dict") rfl), He.free_ok KX G (c.fact 29 (f := .free "len") rfl), He.free_ok KX G (c.fact 30 (f := .free "enumerate") rfl), He.free_ok KX G (c.fact 31 (f := .free "range") rfl), He.free_ok KX G (c.fact 32 (f := .free "abs") rfl), He.free_ok KX G (c.fact 33 (f := .free "max") rfl)⟩
  obtain ⟨d0, D0⟩ := c.def_ 0 (d := dd0) rfl
  have F0 : Fun K "is_whole" "is_whole" sWhole (He.ga K "is_whole") d0 := fun_ofD D0
  have b0 : Binds K d0 ["value"] [] := F0.binds fun _ _ _ _ _ _ us hl => match us, hl with | [_], _ => rfl
  obtain ⟨d1, D1⟩ := c.def_ 1 (d := dd1) rfl
  have F1 : Fun K "is_between" "is_between" sBetween (He.ga K "is_between") d1 := fun_ofD D1
  have b1 : Binds K d1 ["value", "low", "high"] [] := F1.binds fun _ _ _ _ _ _ us hl => match us, hl with | [_, _, _], _ => rfl
  obtain ⟨d2, D2⟩ := c.def_ 2 (d := dd2) rfl
  have F2 : Fun K "is_tuple_of" "is_tuple_of" sTupOf (He.ga K "is_tuple_of") d2 := fun_ofD D2
  have b2 : Binds K d2 ["value", "size"] [] := F2.binds fun _ _ _ _ _ _ us hl => match us, hl with | [_, _], _ => rfl
  obtain ⟨d3, D3⟩ := c.def_ 3 (d := dd3) rfl
  have F3 : Fun K "copied" "copied" sCopied (He.ga K "copied") d3 := fun_ofD D3
  have b3 : Binds K d3 ["value"] [] := F3.binds fun _ _ _ _ _ _ us hl => match us, hl with | [_], _ => rfl
  obtain ⟨d4, D4⟩ := c.def_ 4 (d := dd4) rfl
  have F4 : Fun K "first_wrong_range" "first_wrong_range" sFWR (He.ga K "first_wrong_range") d4 := fun_ofD D4
  have b4 : Binds K d4 ["ranges", "many"] [] := F4.binds fun _ _ _ _ _ _ us hl => match us, hl with | [_, _], _ => rfl
  obtain ⟨d5, D5⟩ := c.def_ 5 (d := dd5) rfl
  have F5 : Fun K "ranges_of" "ranges_of" sRanges (He.ga K "ranges_of") d5 := fun_ofD D5
  have b5 : Binds K d5 ["numbers"] [] := F5.binds fun _ _ _ _ _ _ us hl => match us, hl with | [_], _ => rfl
  obtain ⟨d6, D6⟩ := c.def_ 6 (d := dd6) rfl
  have F6 : Fun K "_law_pen" "_law_pen" sPen (He.ga K "_law_pen") d6 := fun_ofD D6
  have b6 : Binds K d6 ["_law_script"] [] := F6.binds fun _ _ _ _ _ _ us hl => match us, hl with | [_], _ => rfl
  obtain ⟨d7, D7⟩ := c.def_ 7 (d := dd7) rfl
  have F7 : Fun K "_law_draw" "_law_draw" sDraw (He.ga K "_law_draw") d7 := fun_ofD D7
  have b7 : Binds K d7 ["_law_pen_here", "_law_many"] [] := F7.binds fun _ _ _ _ _ _ us hl => match us, hl with | [_, _], _ => rfl
  obtain ⟨d8, D8⟩ := c.def_ 8 (d := dd8) rfl
  have F8 : Fun K "_law_pick" "_law_pick" sPick (He.ga K "_law_pick") d8 := fun_ofD D8
  have b8 : Binds K d8 ["_law_pen_here", "_law_some"] [] := F8.binds fun _ _ _ _ _ _ us hl => match us, hl with | [_, _], _ => rfl
  obtain ⟨d9, D9⟩ := c.def_ 9 (d := dd9) rfl
  have F9 : Fun K "_law_plan" "_law_plan" sPlan (He.ga K "_law_plan") d9 := fun_ofD D9
  have b9 : Binds K d9 ["_law_pen_here", "_law_old"] [] := F9.binds fun _ _ _ _ _ _ us hl => match us, hl with | [_, _], _ => rfl
  obtain ⟨d10, D10⟩ := c.def_ 10 (d := dd10) rfl
  have F10 : Fun K "_law_ranges" "_law_ranges" sLRan (He.ga K "_law_ranges") d10 := fun_ofD D10
  have b10 : Binds K d10 ["_law_numbers"] [] := F10.binds fun _ _ _ _ _ _ us hl => match us, hl with | [_], _ => rfl
  obtain ⟨d11, D11⟩ := c.def_ 11 (d := dd11) rfl
  have F11 : Fun K "_law_made" "_law_made" sMade (He.ga K "_law_made") d11 := fun_ofD D11
  have b11 : Binds K d11 ["_law_many", "_law_numbers"] [] := F11.binds fun _ _ _ _ _ _ us hl => match us, hl with | [_, _], _ => rfl
  obtain ⟨d12, D12⟩ := c.def_ 12 (d := dd12) rfl
  have F12 : Fun K "_law_asked" "_law_asked" sAsk (He.ga K "_law_asked") d12 := fun_ofD D12
  have b12 : Binds K d12 ["_law_function"] [] := F12.binds fun _ _ _ _ _ _ us hl => match us, hl with | [_], _ => rfl
  obtain ⟨d13, D13⟩ := c.def_ 13 (d := dd13) rfl
  have F13 : Fun K "_law_wrong_right" "_law_wrong_right" sWrong (He.ga K "_law_wrong_right") d13 := fun_ofD D13
  have b13 : Binds K d13 ["_law_pen_here", "_law_many", "_law_numbers"] [] := F13.binds fun _ _ _ _ _ _ us hl => match us, hl with | [_, _, _], _ => rfl
  obtain ⟨d14, D14⟩ := c.def_ 14 (d := dd14) rfl
  have F14 : Fun K "_law_ranges_right" "_law_ranges_right" sRR (He.ga K "_law_ranges_right") d14 := fun_ofD D14
  have b14 : Binds K d14 ["_law_pen_here", "_law_old", "_law_move", "_law_numbers"] [] := F14.binds fun _ _ _ _ _ _ us hl => match us, hl with | [_, _, _, _], _ => rfl
  obtain ⟨d15, D15⟩ := c.def_ 15 (d := dd15) rfl
  have F15 : Fun K "law" "law" sLaw (He.ga K "law") d15 := fun_ofD D15
  have b15 : Binds K d15 ["_law_script"] [] := F15.binds fun _ _ _ _ _ _ us hl => match us, hl with | [_], _ => rfl
  obtain ⟨d16, D16⟩ := c.def_ 16 (d := dd16) rfl
  have F16 : Fun K "__init__" "BadMany.__init__" sBMany (He.ma K (He.ga K "BadMany") "__init__") d16 := fun_ofD D16
  have b16 : Binds K d16 ["self", "many"] [] := F16.binds fun _ _ _ _ _ _ us hl => match us, hl with | [_, _], _ => rfl
  have m16 : Meth K (He.ga K "BadMany") "__init__" (He.ma K (He.ga K "BadMany") "__init__") := He.meth_ok (c.fact 45 (f := .meth "BadMany" "__init__") rfl)
  obtain ⟨d17, D17⟩ := c.def_ 17 (d := dd17) rfl
  have F17 : Fun K "__init__" "TooMany.__init__" sTMany (He.ma K (He.ga K "TooMany") "__init__") d17 := fun_ofD D17
  have b17 : Binds K d17 ["self", "what", "many", "most"] [] := F17.binds fun _ _ _ _ _ _ us hl => match us, hl with | [_, _, _, _], _ => rfl
  have m17 : Meth K (He.ga K "TooMany") "__init__" (He.ma K (He.ga K "TooMany") "__init__") := He.meth_ok (c.fact 46 (f := .meth "TooMany" "__init__") rfl)
  obtain ⟨d18, D18⟩ := c.def_ 18 (d := dd18) rfl
  have F18 : Fun K "__init__" "BadMap.__init__" sBMap (He.ma K (He.ga K "BadMap") "__init__") d18 := fun_ofD D18
  have b18 : Binds K d18 ["self", "index"] [] := F18.binds fun _ _ _ _ _ _ us hl => match us, hl with | [_, _], _ => rfl
  have m18 : Meth K (He.ga K "BadMap") "__init__" (He.ma K (He.ga K "BadMap") "__init__") := He.meth_ok (c.fact 47 (f := .meth "BadMap" "__init__") rfl)
  obtain ⟨d19, D19⟩ := c.def_ 19 (d := dd19) rfl
  have F19 : Fun K "__init__" "BadRange.__init__" sBRange (He.ma K (He.ga K "BadRange") "__init__") d19 := fun_ofD D19
  have b19 : Binds K d19 ["self", "index"] [] := F19.binds fun _ _ _ _ _ _ us hl => match us, hl with | [_, _], _ => rfl
  have m19 : Meth K (He.ga K "BadRange") "__init__" (He.ma K (He.ga K "BadRange") "__init__") := He.meth_ok (c.fact 48 (f := .meth "BadRange" "__init__") rfl)
  obtain ⟨d20, D20⟩ := c.def_ 20 (d := dd20) rfl
  have F20 : Fun K "__init__" "NoNumber.__init__" sNoNum (He.ma K (He.ga K "NoNumber") "__init__") d20 := fun_ofD D20
  have b20 : Binds K d20 ["self", "number"] [] := F20.binds fun _ _ _ _ _ _ us hl => match us, hl with | [_, _], _ => rfl
  have m20 : Meth K (He.ga K "NoNumber") "__init__" (He.ma K (He.ga K "NoNumber") "__init__") := He.meth_ok (c.fact 49 (f := .meth "NoNumber" "__init__") rfl)
  obtain ⟨d21, D21⟩ := c.def_ 21 (d := dd21) rfl
  have F21 : Fun K "__init__" "OtherMap.__init__" sOMap (He.ma K (He.ga K "OtherMap") "__init__") d21 := fun_ofD D21
  have b21 : Binds K d21 ["self"] [] := F21.binds fun _ _ _ _ _ _ us hl => match us, hl with | [_], _ => rfl
  have m21 : Meth K (He.ga K "OtherMap") "__init__" (He.ma K (He.ga K "OtherMap") "__init__") := He.meth_ok (c.fact 50 (f := .meth "OtherMap" "__init__") rfl)
  obtain ⟨d22, D22⟩ := c.def_ 22 (d := dd22) rfl
  have F22 : Fun K "__init__" "NumberMap.__init__" sInit (He.ma K (He.ga K "NumberMap") "__init__") d22 := fun_ofD D22
  have b22 : Binds K d22 ["self", "many", "numbers"] [] := F22.binds fun _ _ _ _ _ _ us hl => match us, hl with | [_, _, _], _ => rfl
  have m22 : Meth K (He.ga K "NumberMap") "__init__" (He.ma K (He.ga K "NumberMap") "__init__") := He.meth_ok (c.fact 51 (f := .meth "NumberMap" "__init__") rfl)
  obtain ⟨d23, D23⟩ := c.def_ 23 (d := dd23) rfl
  have F23 : Fun K "__eq__" "NumberMap.__eq__" sEq (He.ma K (He.ga K "NumberMap") "__eq__") d23 := fun_ofD D23
  have b23 : Binds K d23 ["self", "other"] [] := F23.binds fun _ _ _ _ _ _ us hl => match us, hl with | [_, _], _ => rfl
  have m23 : Meth K (He.ga K "NumberMap") "__eq__" (He.ma K (He.ga K "NumberMap") "__eq__") := He.meth_ok (c.fact 52 (f := .meth "NumberMap" "__eq__") rfl)
  obtain ⟨d24, D24⟩ := c.def_ 24 (d := dd24) rfl
  have F24 : Fun K "number_behind" "NumberMap.number_behind" sNumB (He.ma K (He.ga K "NumberMap") "number_behind") d24 := fun_ofD D24
  have b24 : Binds K d24 ["self", "number"] [] := F24.binds fun _ _ _ _ _ _ us hl => match us, hl with | [_, _], _ => rfl
  have m24 : Meth K (He.ga K "NumberMap") "number_behind" (He.ma K (He.ga K "NumberMap") "number_behind") := He.meth_ok (c.fact 53 (f := .meth "NumberMap" "number_behind") rfl)
  obtain ⟨d25, D25⟩ := c.def_ 25 (d := dd25) rfl
  have F25 : Fun K "fresh_numbers" "NumberMap.fresh_numbers" sFresh (He.ma K (He.ga K "NumberMap") "fresh_numbers") d25 := fun_ofD D25
  have b25 : Binds K d25 ["self"] [] := F25.binds fun _ _ _ _ _ _ us hl => match us, hl with | [_], _ => rfl
  have m25 : Meth K (He.ga K "NumberMap") "fresh_numbers" (He.ma K (He.ga K "NumberMap") "fresh_numbers") := He.meth_ok (c.fact 54 (f := .meth "NumberMap" "fresh_numbers") rfl)
  obtain ⟨d26, D26⟩ := c.def_ 26 (d := dd26) rfl
  have F26 : Fun K "followed_by" "NumberMap.followed_by" sFoll (He.ma K (He.ga K "NumberMap") "followed_by") d26 := fun_ofD D26
  have b26 : Binds K d26 ["self", "other"] [] := F26.binds fun _ _ _ _ _ _ us hl => match us, hl with | [_, _], _ => rfl
  have m26 : Meth K (He.ga K "NumberMap") "followed_by" (He.ma K (He.ga K "NumberMap") "followed_by") := He.meth_ok (c.fact 55 (f := .meth "NumberMap" "followed_by") rfl)
  obtain ⟨d27, D27⟩ := c.def_ 27 (d := dd27) rfl
  have F27 : Fun K "ranges_behind" "NumberMap.ranges_behind" sRanB (He.ma K (He.ga K "NumberMap") "ranges_behind") d27 := fun_ofD D27
  have b27 : Binds K d27 ["self", "ranges"] [] := F27.binds fun _ _ _ _ _ _ us hl => match us, hl with | [_, _], _ => rfl
  have m27 : Meth K (He.ga K "NumberMap") "ranges_behind" (He.ma K (He.ga K "NumberMap") "ranges_behind") := He.meth_ok (c.fact 56 (f := .meth "NumberMap" "ranges_behind") rfl)
  have q_BadMany_many : PySem.W.findIn K (.ref (He.ga K "BadMany")) "many" = some none := He.noat_ok (c.fact 36 (f := .noat "BadMany" "many") rfl)
  have q_TooMany_what : PySem.W.findIn K (.ref (He.ga K "TooMany")) "what" = some none := He.noat_ok (c.fact 37 (f := .noat "TooMany" "what") rfl)
  have q_TooMany_many : PySem.W.findIn K (.ref (He.ga K "TooMany")) "many" = some none := He.noat_ok (c.fact 38 (f := .noat "TooMany" "many") rfl)
  have q_TooMany_most : PySem.W.findIn K (.ref (He.ga K "TooMany")) "most" = some none := He.noat_ok (c.fact 39 (f := .noat "TooMany" "most") rfl)
  have q_BadMap_index : PySem.W.findIn K (.ref (He.ga K "BadMap")) "index" = some none := He.noat_ok (c.fact 40 (f := .noat "BadMap" "index") rfl)
  have q_BadRange_index : PySem.W.findIn K (.ref (He.ga K "BadRange")) "index" = some none := He.noat_ok (c.fact 41 (f := .noat "BadRange" "index") rfl)
  have q_NoNumber_number : PySem.W.findIn K (.ref (He.ga K "NoNumber")) "number" = some none := He.noat_ok (c.fact 42 (f := .noat "NoNumber" "number") rfl)
  have q_NumberMap_many : PySem.W.findIn K (.ref (He.ga K "NumberMap")) "many" = some none := He.noat_ok (c.fact 43 (f := .noat "NumberMap" "many") rfl)
  have q_NumberMap_numbers : PySem.W.findIn K (.ref (He.ga K "NumberMap")) "numbers" = some none := He.noat_ok (c.fact 44 (f := .noat "NumberMap" "numbers") rfl)
  have TX : Txt K (He.ga K "NumberMap") := ⟨He.cls_ok (c.fact 34 (f := .cls "NumberMap") rfl), q_NumberMap_many, q_NumberMap_numbers⟩
  have TE : TxE K (He.ga K "NumberMap") := ⟨He.eqO_ok y1, He.eqO_ok y2, of_decide_eq_true y3, of_decide_eq_true y4, of_decide_eq_true y5⟩
  have MK : Mk K (He.ga K "NumberMap") (He.ma K (He.ga K "NumberMap") "__init__") := He.mkr_ok (c.fact 35 (f := .mkr "NumberMap") rfl)
  have ct_BadMany : Ct K mg "BadMany" (He.ga K "BadMany") := ⟨(He.glo_ok KX G (c.fact 16 (f := .glo "BadMany") rfl)), xfB_ok f0, He.exm_ok (c.fact 57 (f := .exm "BadMany" "BadMany" true) rfl)⟩
  have ct_TooMany : Ct K mg "TooMany" (He.ga K "TooMany") := ⟨(He.glo_ok KX G (c.fact 17 (f := .glo "TooMany") rfl)), xfB_ok f1, He.exm_ok (c.fact 58 (f := .exm "TooMany" "TooMany" true) rfl)⟩
  have ct_BadMap : Ct K mg "BadMap" (He.ga K "BadMap") := ⟨(He.glo_ok KX G (c.fact 18 (f := .glo "BadMap") rfl)), xfB_ok f2, He.exm_ok (c.fact 59 (f := .exm "BadMap" "BadMap" true) rfl)⟩
  have ct_BadRange : Ct K mg "BadRange" (He.ga K "BadRange") := ⟨(He.glo_ok KX G (c.fact 19 (f := .glo "BadRange") rfl)), xfB_ok f3, He.exm_ok (c.fact 65 (f := .exm "BadRange" "BadRange" true) rfl)⟩
  have ct_NoNumber : Ct K mg "NoNumber" (He.ga K "NoNumber") := ⟨(He.glo_ok KX G (c.fact 20 (f := .glo "NoNumber") rfl)), xfB_ok f4, He.exm_ok (c.fact 63 (f := .exm "NoNumber" "NoNumber" true) rfl)⟩
  have ct_OtherMap : Ct K mg "OtherMap" (He.ga K "OtherMap") := ⟨(He.glo_ok KX G (c.fact 21 (f := .glo "OtherMap") rfl)), xfB_ok f5, He.exm_ok (c.fact 64 (f := .exm "OtherMap" "OtherMap" true) rfl)⟩
  have Ts : Cts K mg (He.ga K "NoNumber") (He.ga K "OtherMap") (He.ga K "BadRange") := ⟨ct_NoNumber, ct_OtherMap, ct_BadRange, q_NoNumber_number, q_BadRange_index, He.exm_ok (c.fact 66 (f := .exm "OtherMap" "NoNumber" false) rfl), He.exm_ok (c.fact 67 (f := .exm "BadRange" "NoNumber" false) rfl), He.exm_ok (c.fact 68 (f := .exm "BadRange" "OtherMap" false) rfl)⟩
  have el : fl = He.ga K "law" := by
    have e := hfl.symm.trans (He.glo_ok KX G (c.fact 15 (f := .glo "law") rfl))
    cases e
    rfl
  subst el
  have ne12 : (He.cT K lawD).2 ≠ (He.cT K rrD).2 := of_decide_eq_true t3
  refine ⟨d15, [He.cT K lawD, He.cT K rrD], spLaw K [((He.cT K lawD).2, ("law" : Str) ++ ".<locals>." ++ "<lambda>"), ((He.cT K rrD).2, ("_law_ranges_right" : Str) ++ ".<locals>." ++ "<lambda>")], ?_, ?_, ?_, ?_, ?_, ?_⟩
  · intro p hp
    simp only [List.mem_cons, List.not_mem_nil, or_false] at hp
    rcases hp with rfl | rfl
    · exact hT _ (of_decide_eq_true t1)
    · exact hT _ (of_decide_eq_true t2)
  · intro p hp
    simp only [List.mem_cons, List.not_mem_nil, or_false] at hp
    rcases hp with rfl | rfl
    · exact isNone_of t6
    · exact isNone_of t7
  · intro p hp
    simp only [List.mem_cons, List.not_mem_nil, or_false] at hp
    rcases hp with rfl | rfl
    · exact PySem.W.codeHd_of_K KX t4
    · exact PySem.W.codeHd_of_K KX t5
  · exact fun s u => FunD.bindsA (ps := ["_law_script"]) D15 (fun _ _ _ _ _ _ us hl => match us, hl with | [_], _ => rfl) s [u] rfl
  · intro H a ns hl hb hH hS
    refine ⟨a, ns, rfl, hS, fun p hp => ?_, fun _ => rfl⟩
    simp only [List.mem_cons, List.not_mem_nil, or_false] at hp
    rcases hp with rfl | rfl
    · exact LamX.TabS.nil (hH (He.cT K lawD) List.mem_cons_self)
    · exact LamX.TabS.nil (hH (He.cT K rrD) (List.mem_cons_of_mem _ List.mem_cons_self))
  · intro base KB GB TB
    have cWh : Cal CX0 l.prog w K mg base 1 "is_whole" spWhole := ⟨_, d0, _, ok_whole F0 B, (He.glo_ok KX G (c.fact 0 (f := .glo "is_whole") rfl)), F0.kp, b0⟩
    have cB : Cal CX0 l.prog w K mg base 2 "is_between" spBetween := ⟨_, d1, _, ok_between F1 cWh, (He.glo_ok KX G (c.fact 1 (f := .glo "is_between") rfl)), F1.kp, b1⟩
    have cTu : Cal CX0 l.prog w K mg base 1 "is_tuple_of" spTupOf := ⟨_, d2, _, ok_tupOf F2 B, (He.glo_ok KX G (c.fact 2 (f := .glo "is_tuple_of") rfl)), F2.kp, b2⟩
    have cC : Cal CX0 l.prog w K mg base 1 "copied" spCopied := ⟨_, d3, _, ok_copied F3 B, (He.glo_ok KX G (c.fact 3 (f := .glo "copied") rfl)), F3.kp, b3⟩
    have xBadMany : Xc l.prog w K mg base 2 "BadMany" (He.ga K "BadMany") (spX1 K "many") := ⟨oexB_ok o0, (He.glo_ok KX G (c.fact 16 (f := .glo "BadMany") rfl)), _, d16, _, m16.at_, beq_iff_eq.mp m16.fn, ok_BMany F16 cC, b16⟩
    have xTooMany : Xc l.prog w K mg base 2 "TooMany" (He.ga K "TooMany") (spX3 K "what" "many" "most") := ⟨oexB_ok o1, (He.glo_ok KX G (c.fact 17 (f := .glo "TooMany") rfl)), _, d17, _, m17.at_, beq_iff_eq.mp m17.fn, ok_TMany F17 cC, b17⟩
    have xBadMap : Xc l.prog w K mg base 2 "BadMap" (He.ga K "BadMap") (spX1 K "index") := ⟨oexB_ok o2, (He.glo_ok KX G (c.fact 18 (f := .glo "BadMap") rfl)), _, d18, _, m18.at_, beq_iff_eq.mp m18.fn, ok_BMap F18 cC, b18⟩
    have xBadRange : Xc l.prog w K mg base 2 "BadRange" (He.ga K "BadRange") (spX1 K "index") := ⟨oexB_ok o3, (He.glo_ok KX G (c.fact 19 (f := .glo "BadRange") rfl)), _, d19, _, m19.at_, beq_iff_eq.mp m19.fn, ok_BRange F19 cC, b19⟩
    have xNoNumber : Xc l.prog w K mg base 2 "NoNumber" (He.ga K "NoNumber") (spX1 K "number") := ⟨oexB_ok o4, (He.glo_ok KX G (c.fact 20 (f := .glo "NoNumber") rfl)), _, d20, _, m20.at_, beq_iff_eq.mp m20.fn, ok_NoNum F20 cC, b20⟩
    have xOtherMap : Xc l.prog w K mg base 1 "OtherMap" (He.ga K "OtherMap") spX0 := ⟨oexB_ok o5, (He.glo_ok KX G (c.fact 21 (f := .glo "OtherMap") rfl)), _, d21, _, m21.at_, beq_iff_eq.mp m21.fn, ok_OMap F21, b21⟩
    have mk : Mak (L2.CX l.prog w) l.prog w K mg base 4 "NumberMap" (He.ga K "NumberMap") (spInit K (He.ga K "NumberMap") (He.ga K "BadMany") (He.ga K "TooMany") (He.ga K "BadMap")) := ⟨_, d22, _, MK, ok_init F22 B TX cB xBadMany q_BadMany_many xTooMany ⟨q_TooMany_what, q_TooMany_many, q_TooMany_most⟩ xBadMap q_BadMap_index, (He.glo_ok KX G (c.fact 22 (f := .glo "NumberMap") rfl)), b22⟩
    have cFW : Cal CX0 l.prog w K mg base 3 "first_wrong_range" (spFWR K) := ⟨_, d4, _, ok_fwr F4 B cTu cB, (He.glo_ok KX G (c.fact 4 (f := .glo "first_wrong_range") rfl)), F4.kp, b4⟩
    have cRg : Cal CX0 l.prog w K mg base 1 "ranges_of" spRngs := ⟨_, d5, _, ok_ranges F5, (He.glo_ok KX G (c.fact 5 (f := .glo "ranges_of") rfl)), F5.kp, b5⟩
    have mN : Met (L2.CX l.prog w) l.prog w K mg base 4 (He.ga K "NumberMap") "number_behind" (spNumB K (He.ga K "NumberMap") (He.ga K "NoNumber")) := ⟨_, d24, _, TX.cl, m24, ok_numB F24 B TX cB xNoNumber q_NoNumber_number, b24⟩
    have mF : Met CX0 l.prog w K mg base 1 (He.ga K "NumberMap") "fresh_numbers" (spFresh K (He.ga K "NumberMap")) := ⟨_, d25, _, TX.cl, m25, ok_fresh F25 B TX, b25⟩
    have mB : Met (L2.CX l.prog w) l.prog w K mg base 6 (He.ga K "NumberMap") "followed_by" (spFoll K (He.ga K "NumberMap") (He.ga K "OtherMap")) := ⟨_, d26, _, TX.cl, m26, ok_foll F26 B TX mk xOtherMap, b26⟩
    have mR : Met (L2.CX l.prog w) l.prog w K mg base 4 (He.ga K "NumberMap") "ranges_behind" (spRanB K (He.ga K "NumberMap") (He.ga K "BadRange")) := ⟨_, d27, _, TX.cl, m27, ok_ranB F27 B TX cFW cRg xBadRange q_BadRange_index, b27⟩
    have cPn : Cal CX0 l.prog w K mg base 1 "_law_pen" (spPen K) := ⟨_, d6, _, ok_pen F6 B, (He.glo_ok KX G (c.fact 6 (f := .glo "_law_pen") rfl)), F6.kp, b6⟩
    have cD : Cal CX0 l.prog w K mg base 1 "_law_draw" spDraw := ⟨_, d7, _, ok_draw F7 B, (He.glo_ok KX G (c.fact 7 (f := .glo "_law_draw") rfl)), F7.kp, b7⟩
    have cPk : Cal CX0 l.prog w K mg base 2 "_law_pick" spPick := ⟨_, d8, _, ok_pick F8 B cD, (He.glo_ok KX G (c.fact 8 (f := .glo "_law_pick") rfl)), F8.kp, b8⟩
    have cPl : Cal CX0 l.prog w K mg base 3 "_law_plan" spPlan := ⟨_, d9, _, ok_plan F9 B cD cPk, (He.glo_ok KX G (c.fact 9 (f := .glo "_law_plan") rfl)), F9.kp, b9⟩
    have cLR : Cal CX0 l.prog w K mg base 1 "_law_ranges" spRngs := ⟨_, d10, _, ok_lran F10, (He.glo_ok KX G (c.fact 10 (f := .glo "_law_ranges") rfl)), F10.kp, b10⟩
    have cMd : Cal CX0 l.prog w K mg base 6 "_law_made" (spMade K) := ⟨_, d11, _, ok_made F11 mk ct_BadMany ct_TooMany ct_BadMap q_BadMany_many ⟨q_TooMany_what, q_TooMany_many, q_TooMany_most⟩ q_BadMap_index (He.exm_ok (c.fact 60 (f := .exm "TooMany" "BadMany" false) rfl)) (He.exm_ok (c.fact 61 (f := .exm "BadMap" "BadMany" false) rfl)) (He.exm_ok (c.fact 62 (f := .exm "BadMap" "TooMany" false) rfl)), (He.glo_ok KX G (c.fact 11 (f := .glo "_law_made") rfl)), F11.kp, b11⟩
    have cWr : Cal CX0 l.prog w K mg base 7 "_law_wrong_right" spWrong := ⟨_, d13, _, ok_wrong F13 B cD cMd, (He.glo_ok KX G (c.fact 13 (f := .glo "_law_wrong_right") rfl)), F13.kp, b13⟩
    have L1 : FunL K base mg "law" sLaw (He.ga K "law") (He.cT K lawD).1 (He.cT K lawD).2 d15 := funL_of F15 (TB _ List.mem_cons_self)
    have L2' : FunL K base mg "_law_ranges_right" sRR (He.ga K "_law_ranges_right") (He.cT K rrD).1 (He.cT K rrD).2 d14 := funL_of F14 (TB _ (List.mem_cons_of_mem _ List.mem_cons_self))
    have cRR : Cal CX0 l.prog w K mg base 7 "_law_ranges_right" (spRR K (He.ga K "NumberMap") [((He.cT K lawD).2, ("law" : Str) ++ ".<locals>." ++ "<lambda>"), ((He.cT K rrD).2, ("_law_ranges_right" : Str) ++ ".<locals>." ++ "<lambda>")]) := ⟨_, d14, _, ok_rr L2' B cD cLR mR F12 b12 (He.glo_ok KX G (c.fact 12 (f := .glo "_law_asked") rfl)) Ts (List.mem_cons_of_mem _ List.mem_cons_self) (fun p hp e => ?_), (He.glo_ok KX G (c.fact 14 (f := .glo "_law_ranges_right") rfl)), F14.kp, b14⟩
    · refine ok_law L1 B TX TE cPn cD cPl mk (ok_eq F23 B TX TE (He.glo_ok KX G (c.fact 22 (f := .glo "NumberMap") rfl))) m23.at_ m23.fn b23 n1 n2 mN mF mB F12 b12 (He.glo_ok KX G (c.fact 12 (f := .glo "_law_asked") rfl)) Ts cRR cWr List.mem_cons_self fun p hp e => ?_
      simp only [List.mem_cons, List.not_mem_nil, or_false] at hp
      rcases hp with rfl | rfl
      · rfl
      · exact absurd e.symm ne12
    · simp only [List.mem_cons, List.not_mem_nil, or_false] at hp
      rcases hp with rfl | rfl
      · exact absurd e ne12
      · rfl
end K00
set_option Elab.async false
open PySem.W PySem PyProof.Rows in
set_option maxRecDepth 100001 in
set_option maxHeartbeats 0 in
theorem PySem.Challenge.cw_wordvault_k00_maps_of_numbers_holds : PySem.Challenge.rw_wordvault_k00_maps_of_numbers.Holds := by
  w_on; o_law
  k_head
  case hw => w_witness2
  k_fill
  refine LamX.walk_ofTs (l := PySem.Challenge.rw_wordvault_k00_maps_of_numbers) (n := 63) (k := 9) (x := "_law_script") (CX := fun _ => L2.CX0) rfl (by decide) rfl ⟨rfl, by decide, by decide⟩ (fun w h Y => PySem.W.km_in_of Y) ?F (fun _ _ _ _ _ z => z)
  case F =>
    intro w mg fa h Y KX G hmg
    refine K00.at_law KX G hmg ?c ?e (PySem.W.km_tabs_of Y)
    case c =>
      show He.obsD K00.faA K00.fnA _ = He.valD K00.fnA
      kernel_rfl
    case e => kernel_rfl
