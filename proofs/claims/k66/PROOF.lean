import PyProof.Rows.All
import Wide.All
import OpenK.AllK
import Wide.FinOn
import KE.GoesEnum
import HandS.ForMost
import HandS.Walk
import HandS.ForExc
import HandS.ExcInit
import HandS.TryMany
import HandS.Lambda
import HandS.SortKw
import KE.KSortKey
import PyProof.Rows.SortStr
import PyProof.Rows.SortKeyStr
import HandS.Text
import KE.LtSeq
import KE.KRevSl
import PyProof.ListStr
import PyProof.StrOps2
import PyProof.SliceStr2
import PyProof.Rows.StrJoinStr
import HandS.DictComp
import HandS.NoneIn
import HandS.IsInst
import HandS.Conv
import HandS.Flow
import HandS.Deep
import HandS.Codes
import HandS.Wide
import HandS.TupAny
import HandS.EndTab
import HandS.ExcField
import HandS.Strs
import HandS.SortInts
import HandS.WideBits
import PyProof.Rows.StrIntSpec
import PyProof.FString4
import HandS.FStr
import HandS.StrMore
import HandS.SetFor
import HandS.ExcIs
import HandS.HeadWalk
import KE.KDflt
import PyProof.ReprRoads
import HandS.HeadHook4
import KE.KNestM
import PySem.Challenge.RW_wordvault_k66_kinds_of_damage
set_option Elab.async false
set_option maxRecDepth 100001
set_option maxHeartbeats 1999999
/-! enumerate over a tuple. -/
namespace PySem
theorem enumT_new {v : Value} {o : Obj} {G : Heap → Prop} (B : Begins v o G) : Meets (Builtin.«enumerate.__new__» ⟨[.type "enumerate", v], []⟩)
    (fun _ R z => G z.heap ∧ R (.ok (.ret (.ref (z.heap.push o).objs.size)))
      { z with heap := (z.heap.push o).push { cls := .type "enumerate", data := .fields #[.none, .bool false, .ref z.heap.objs.size, rawInt 0, .none, .none] } }) :=
  .of_wp fun P W A R z hz => by
    obtain ⟨hp, gs, dr, tk, os⟩ := z
    obtain ⟨g0, r0⟩ := hz
    have su := sub_enumerate
    have it0 : ∀ {A' : Around} {E : Value → Shared → Prop} {Q : Value → Shared → Prop}, Q (.ref hp.objs.size) ⟨hp.push o, gs, dr, tk, os⟩ → wpAny (model P W) A' (pyIter v) Q E ⟨hp, gs, dr, tk, os⟩ :=
      fun q => B.iter P W _ _ ⟨hp, gs, dr, tk, os⟩ _ g0 q
    wp_walk using it0
    refine wpAny_stack_any fun sk => wpAny_pure ?_
    split
    next c _ _ _ _ _ =>
      cases (c == Value.type "enumerate") <;> (wp_walk using it0; exact ⟨_, rfl, r0⟩)
    next => wp_walk using it0; exact ⟨_, rfl, r0⟩
theorem enumT_call {P : Program} {W : World} {A : Around} {E : Value → Shared → Prop} {z : Shared} {v : Value} {o : Obj} {G : Heap → Prop} {Q : Value → Shared → Prop} (B : Begins v o G) (g0 : G z.heap)
    (k : ∀ h2, IsEnum h2 (z.heap.objs.size + 1) z.heap.objs.size 0 .none → h2.get? z.heap.objs.size = some o → (∀ b u, z.heap.get? b = some u → h2.get? b = some u) → Q (.ref (z.heap.objs.size + 1)) { z with heap := h2 }) :
    wpAny (model P W) A (call (.type "enumerate") [v]) Q E z := by
  refine callType_new F.called_enumerate (by decide) (F.typeCall_enumerate_1 _) (F.newCall_enumerate_1 _) (fun ob => F.args_object_init_2 ob _) F.entry_enumerate_new (enumT_new B) ⟨g0, ?_⟩
  have sz : (z.heap.push o).objs.size = z.heap.objs.size + 1 := Heap.size_push ..
  show _ ∧ _
  rw [sz]
  have en : IsEnum ((z.heap.push o).push { cls := .type "enumerate", data := .fields #[.none, .bool false, .ref z.heap.objs.size, rawInt 0, .none, .none] }) (z.heap.objs.size + 1) z.heap.objs.size 0 .none := by
    have q := Heap.get?_push_size (z.heap.push o) (o := { cls := .type "enumerate", data := .fields #[.none, .bool false, .ref z.heap.objs.size, rawInt 0, .none, .none] }) rfl
    rw [sz] at q
    exact q
  exact ⟨⟨_, en, rfl⟩, k _ en (Heap.get?_push_of_some _ (Heap.get?_push_size _ B.free)) fun b u e => Heap.get?_push_of_some _ (Heap.get?_push_of_some _ e)⟩
end PySem
namespace L2
open PySem.Spec PySem PyProof.Rows
/-- the tuple at a, each item in a new pair behind its number -/
def ItEnT (K : PySem.W.Frag) (a : Addr) : It where
  go := fun i H => ∃ (xs : List V) (x : V), SqT K H a xs ∧ xs[i]? = some x
  yld := fun i H v H2 => ∃ p x, v = .ref p ∧ H p = none ∧ H2 = upd H p (.tup [.int (i : Nat), x]) ∧ ∀ xs, SqT K H a xs → xs[i]? = some x
  stop := fun i H => ∃ xs : List V, SqT K H a xs ∧ xs.length ≤ i
theorem two_of {b e d : Addr} (h : b ∈ [e, d]) : b = e ∨ b = d := by simpa using h
theorem turn_enT {P : Program} {W : World} {K : PySem.W.Frag} {es : List Expr} {kk : Nat} {tp : Pos} (a e d : Addr) :
    Turn P W K (.Tuple es kk tp) (ItEnT K a) [e, d] e (fun i h => (∃ was, IsEnum h e d ((i : Nat) : Int) was) ∧ h.IsTupleIter d a i ∧ e ≠ d) where
  mem := List.mem_cons_self
  obj := fun i h st b hb => by
    obtain ⟨⟨was, he⟩, ⟨o, ho, hc, hd⟩, _⟩ := st
    rcases two_of hb with rfl | rfl
    · exact ⟨_, he, fun _ q => nomatch q⟩
    · exact ⟨o, ho, fun _ q => by rw [hd] at q; cases q⟩
  keep := fun i h h2 st k => ⟨let ⟨was, he⟩ := st.1; ⟨was, k e (by simp) _ he⟩, st.2.1.at fun o q => k d (by simp) o q, st.2.2⟩
  item := by
    intro X hP hW hK hc i pins s σ H E I hf st hg
    subst hP hW hK
    obtain ⟨⟨was, he⟩, hit, hne⟩ := st
    obtain ⟨xs, x, hq, hx⟩ := hg
    obtain ⟨its, rv, p, hz⟩ := I.tuple hq
    obtain ⟨u, hu, ru⟩ := rv.get hx
    have le : e < s.heap.objs.size := Heap.lt_size he
    have ld : d < s.heap.objs.size := let ⟨_, q, _⟩ := hit; Heap.lt_size q
    have la : a < s.heap.objs.size := p.lt
    have had : a ≠ d := fun z => by
      obtain ⟨o1, h1, c1, _⟩ := hit
      obtain ⟨o2, h2, c2, _⟩ := p
      rw [z, h1] at h2
      have := Option.some.inj h2
      subst this
      rw [c1] at c2
      exact absurd c2 (by decide)
    have hae : a ≠ e := fun z => by
      obtain ⟨o2, h2, c2, _⟩ := p
      have h1 : s.heap.get? e = some _ := he
      rw [z, h1] at h2
      have := Option.some.inj h2
      subst this
      exact absurd (show Value.type "enumerate" = Value.type "tuple" from c2) (by decide)
    have hi : i < its.toArray.size := by
      have := (List.getElem?_eq_some_iff.mp hu).1
      simpa using this
    have D := Draws.tuple (prog := X.prog) (w := X.w) (A := X.A.in1) (I.ok.hd hc) d a had its.toArray
    refine wpAny_pyNext_enum_itemD (n := its.toArray.size) (i := i) D he ⟨hit, p⟩ hi hne (fun m => ?_) fun y h2 tk hy ho hs2 hT hsz hk => ?_
    · rcases two_of m with z | z
      · exact hne z
      · exact hae z.symm
    have ey : y = u := by
      have q : its.toArray[i]? = some u := by simpa using hu
      rw [hy] at q
      exact Option.some.inj q
    subst ey
    refine ⟨_, rfl, wpAny_letOwnedTupleGo_enum (s := { s with heap := h2, toks := tk + 1 }) ho fun h3 he3 sb => ?_⟩
    have hT3 : h3.get? s.heap.objs.size = some { cls := .type "tuple", data := .seq #[.int i tk, y] } := (sb.2 _ (Nat.ne_of_gt le)).trans hT
    have new : ObjOk X.prog X.w (upd H s.heap.objs.size (.tup [.int (i : Nat), x])) h3 s.heap.objs.size (.tup [.int (i : Nat), x]) :=
      ⟨by show 2 ≤ sizeLine; decide, [.int i tk, y], .cons ⟨_, rfl⟩ (.cons ru .nil), ⟨_, hT3, rfl, _, rfl⟩⟩
    have J : Inv X pins σ (upd H s.heap.objs.size (.tup [.int (i : Nat), x])) { s with heap := h3, toks := tk + 1 } :=
      I.turnedNew (ch := [e, d]) (fun b o hb q => (sb.2 b fun z => hb (by simp [z])).trans (hk b o (fun z => hb (by simp [z])) (fun z => hb (by simp [z])) q)) hf (Nat.le_refl _) new
    refine ⟨.ref s.heap.objs.size, _, J, rfl, ⟨_, x, rfl, I.hok.fresh (Nat.le_refl _), rfl, fun ys hy2 => by rw [I.tuple_inj hy2 hq]; exact hx⟩, ⟨⟨y, ?_⟩, hs2.1.at fun o q => (sb.2 d (Ne.symm hne)).trans q, hne⟩, fun b hb => ?_⟩
    · have e1 : ((i + 1 : Nat) : Int) = (i : Int) + 1 := by omega
      rw [e1]
      exact he3
    · have lb : b < s.heap.objs.size := by
        rcases two_of hb with z | z
        · rw [z]; exact le
        · rw [z]; exact ld
      rw [upd_ne (Nat.ne_of_lt lb)]
      exact (hf b hb).1
  done := by
    intro X hP hW hK hc i pins s σ H E I hf st hg
    subst hP hW hK
    obtain ⟨⟨was, he⟩, hit, hne⟩ := st
    obtain ⟨xs, hq, hx⟩ := hg
    obtain ⟨its, rv, p, hz⟩ := I.tuple hq
    obtain ⟨f0, f1, f2, f3, f4, f5⟩ := hf d (by simp)
    have hl := rv.length
    unfold pyNext
    refine wpAny_bind (wpAny_attempt (wpAny_callSpecial?_slot (name := Str.ofString "__next__") ⟨_, he, rfl⟩ F.slot_enumerate_next
      (wpAny_call_entry F.slot_enumerate_next ⟨_, he, rfl⟩ F.entry_enumerate_next ?_ (F.args_enumerate_next_1 _))))
    show wpAny _ _ (field (.ref e) 2 >>= _) _ _ _
    refine wpAny_bind (wpAny_field he rfl (x := .ref d) rfl ?_)
    refine wpAny_bind (wpAny_nextOf_tuple_end (I.ok.hd hc) hit p (by simp; omega) fun h2 x eb hx2 => ?_)
    obtain ⟨o, ho, hcl⟩ := hx2
    refine wpAny_bind (wpAny_isInstance (T := "StopIteration") (b := true) ⟨o, ho, hcl⟩ isSubtype_stop ?_)
    exact wpAny_pure ⟨rfl, I.turned (t' := s.toks) (fun b o hb q => eb b o hb q) f0 f1 f3 f4 f5⟩
  self := fun A i s Q E st h => let ⟨⟨_, he⟩, _⟩ := st; wpAny_pyIter_enum he h
def iEnT (K : PySem.W.Frag) (ta : TA) : TI := fun σ H R => ta σ H fun vs H1 => ∃ a xs, vs = [.ref a] ∧ SqT K H1 a xs ∧ R (ItEnT K a) H1
theorem pi_enT {X : Cx} {e : Expr} {ta : TA} {p pos tp : Pos} {es : List Expr} {kk : Nat} (hg : Gl X "enumerate") (hm : X.mg "enumerate" = none) (ha : PA X [e] ta) (hs : starEach [e] X.env = [(false, eval e X.env)] := by rfl) :
    PI X (.Tuple es kk tp) (.Call (.Name "enumerate" p) [e] [] pos) (iEnT X.K ta) := by
  constructor
  intro pins s σ H R I h
  refine Call_ (ld_blt I hg hm boot_enumerate (PyProof.Rows.callWith_type1 (thn (ha.run pos pins s σ H _ I h) fun us s1 hh => ?_) hs rfl))
  obtain ⟨vs, H1, I1, r1, a, xs, ex, hq, q⟩ := hh
  subst ex
  cases r1 with
  | cons r rr =>
    cases rr
    cases r
    obtain ⟨its, rv, p2, hz⟩ := I1.tuple hq
    refine enumT_call (begins_tuple a its.toArray) p2 fun h2 he hd hk => wpAny_pyIter_enum he ?_
    have I2 : Inv X pins σ H1 { s1 with heap := h2 } := I1.kept (t' := s1.toks) hk
    refine ⟨s1.heap.objs.size + 1, [s1.heap.objs.size + 1, s1.heap.objs.size], _, _, H1, rfl, I2, turn_enT a (s1.heap.objs.size + 1) s1.heap.objs.size, ⟨⟨.none, he⟩, ⟨_, hd, rfl, rfl⟩, Nat.succ_ne_self _⟩, fun b hb => ?_, q⟩
    have ge : s1.heap.objs.size ≤ b := by
      rcases two_of hb with z | z
      · rw [z]; exact Nat.le_add_right _ _
      · rw [z]; exact Nat.le_refl _
    exact I1.fpOk ge (I1.hok.fresh ge)
theorem walk_enT {K : PySem.W.Frag} {a : Addr} {xs : List V} : Walk (ItEnT K a) xs.length (fun H => SqT K H a xs) (YPair (fun i => some (.int (i : Nat))) (fun i => xs[i]?)) where
  goes := fun i _ hi q => ⟨xs, xs[i], q, by simp [hi]⟩
  stops := fun _ q => ⟨xs, q, Nat.le_refl _⟩
  yields := fun i H v H2 _ q y => let ⟨p, x, h1, h2, h3, h4⟩ := y; ⟨p, .int (i : Nat), x, h1, h2, h3, rfl, h4 xs q⟩
end L2
set_option Elab.async false
set_option linter.all false
set_option maxRecDepth 100001
set_option maxHeartbeats 1999999
/-! enumerate over a text. -/
namespace L2
open PySem.Spec PySem PyProof.Rows
def ItEnS (x : Str) : It where
  go := fun i _ => i < x.cps.size
  yld := fun i H v H2 => ∃ p c, v = .ref p ∧ H p = none ∧ H2 = upd H p (.tup [.int (i : Nat), .str ⟨#[c]⟩]) ∧ x.cps[i]? = some c
  stop := fun i _ => x.cps.size ≤ i
theorem strIter_at {h h' : Heap} {a : Addr} {ty : String} {x : Str} {t : Tok} {i : Nat} (y : h.IsStrIter a ty x t i) (k : ∀ o, h.get? a = some o → h'.get? a = some o) : h'.IsStrIter a ty x t i := let ⟨o, ho, r⟩ := y; ⟨o, k o ho, r⟩
theorem text_end {prog : Program} {w : World} {A : Around} {E : Value → Shared → Prop} {s : Shared} {it : Addr} {x : Str} {t : Tok} {i : Nat} {Q : Value → Shared → Prop} (hh : A.handled = none) (hit : s.heap.IsStrIter it (strIterType x) x t i) (hx : x.cps[i]? = none)
    (hE : ∀ h' e, Heap.ExtBut it s.heap h' → (∃ o, h'.get? e = some o ∧ o.cls = .type "StopIteration") → E (.ref e) { s with heap := h' }) : wpAny (model prog w) A (Builtin.SmallTypes.nextOf (.ref it)) Q E s := by
  cases ha : x.cps.all (· < 128)
  · simp only [strIterType, ha, Bool.false_eq_true, if_false] at hit
    exact wpAny_nextOf_wide_end hh hit hx hE
  · simp only [strIterType, ha, if_true] at hit
    exact wpAny_nextOf_ascii_end hh hit hx hE
theorem turn_enS {P : Program} {W : World} {K : PySem.W.Frag} {es : List Expr} {kk : Nat} {tp : Pos} (x : Str) (t : Tok) (e d : Addr) :
    Turn P W K (.Tuple es kk tp) (ItEnS x) [e, d] e (fun i h => (∃ was, IsEnum h e d ((i : Nat) : Int) was) ∧ h.IsStrIter d (strIterType x) x t i ∧ e ≠ d) where
  mem := List.mem_cons_self
  obj := fun i h st b hb => by
    obtain ⟨⟨was, he⟩, ⟨o, ho, hc, hd⟩, _⟩ := st
    rcases two_of hb with rfl | rfl
    · exact ⟨_, he, fun _ q => nomatch q⟩
    · exact ⟨o, ho, fun _ q => by rw [hd] at q; cases q⟩
  keep := fun i h h2 st k => ⟨let ⟨was, he⟩ := st.1; ⟨was, k e (by simp) _ he⟩, strIter_at st.2.1 fun o q => k d (by simp) o q, st.2.2⟩
  item := by
    intro X hP hW hK hc i pins s σ H E I hf st hg
    subst hP hW hK
    obtain ⟨⟨was, he⟩, hit, hne⟩ := st
    have hi : i < x.cps.size := hg
    have le : e < s.heap.objs.size := Heap.lt_size he
    have ld : d < s.heap.objs.size := let ⟨_, q, _⟩ := hit; Heap.lt_size q
    have D := Draws.text (prog := X.prog) (w := X.w) (A := X.A.in1) (I.ok.hd hc) d x t
    refine wpAny_pyNext_enum_itemD (n := x.cps.size) (i := i) D he hit hi hne (fun m => ?_) fun y h2 tk hy ho hs2 hT hsz hk => ?_
    · exact hne (by simpa using m)
    obtain ⟨c, u, hcx, rfl⟩ := hy
    refine ⟨_, rfl, wpAny_letOwnedTupleGo_enum (s := { s with heap := h2, toks := tk + 1 }) ho fun h3 he3 sb => ?_⟩
    have hT3 : h3.get? s.heap.objs.size = some { cls := .type "tuple", data := .seq #[.int i tk, .str ⟨#[c]⟩ u] } := (sb.2 _ (Nat.ne_of_gt le)).trans hT
    have new : ObjOk X.prog X.w (upd H s.heap.objs.size (.tup [.int (i : Nat), .str ⟨#[c]⟩])) h3 s.heap.objs.size (.tup [.int (i : Nat), .str ⟨#[c]⟩]) :=
      ⟨by show 2 ≤ sizeLine; decide, [.int i tk, .str ⟨#[c]⟩ u], .cons ⟨_, rfl⟩ (.cons ⟨_, rfl⟩ .nil), ⟨_, hT3, rfl, _, rfl⟩⟩
    have J : Inv X pins σ (upd H s.heap.objs.size (.tup [.int (i : Nat), .str ⟨#[c]⟩])) { s with heap := h3, toks := tk + 1 } :=
      I.turnedNew (ch := [e, d]) (fun b o hb q => (sb.2 b fun z => hb (by simp [z])).trans (hk b o (fun z => hb (by simp [z])) (fun z => hb (by simp [z])) q)) hf (Nat.le_refl _) new
    refine ⟨.ref s.heap.objs.size, _, J, rfl, ⟨_, c, rfl, I.hok.fresh (Nat.le_refl _), rfl, hcx⟩, ⟨⟨.str ⟨#[c]⟩ u, ?_⟩, strIter_at hs2 fun o q => (sb.2 d (Ne.symm hne)).trans q, hne⟩, fun b hb => ?_⟩
    · have e1 : ((i + 1 : Nat) : Int) = (i : Int) + 1 := by omega
      rw [e1]
      exact he3
    · have lb : b < s.heap.objs.size := by
        rcases two_of hb with z | z
        · rw [z]; exact le
        · rw [z]; exact ld
      rw [upd_ne (Nat.ne_of_lt lb)]
      exact (hf b hb).1
  done := by
    intro X hP hW hK hc i pins s σ H E I hf st hg
    subst hP hW hK
    obtain ⟨⟨was, he⟩, hit, hne⟩ := st
    have hx : x.cps.size ≤ i := hg
    obtain ⟨f0, f1, f2, f3, f4, f5⟩ := hf d (by simp)
    unfold pyNext
    refine wpAny_bind (wpAny_attempt (wpAny_callSpecial?_slot (name := Str.ofString "__next__") ⟨_, he, rfl⟩ F.slot_enumerate_next
      (wpAny_call_entry F.slot_enumerate_next ⟨_, he, rfl⟩ F.entry_enumerate_next ?_ (F.args_enumerate_next_1 _))))
    show wpAny _ _ (field (.ref e) 2 >>= _) _ _ _
    refine wpAny_bind (wpAny_field he rfl (x := .ref d) rfl ?_)
    have none : x.cps[i]? = none := by simp [hx]
    refine wpAny_bind (text_end (I.ok.hd hc) hit none fun h2 ex eb hx2 => ?_)
    obtain ⟨o, ho, hcl⟩ := hx2
    refine wpAny_bind (wpAny_isInstance (T := "StopIteration") (b := true) ⟨o, ho, hcl⟩ isSubtype_stop ?_)
    exact wpAny_pure ⟨rfl, I.turned (t' := s.toks) (fun b o hb q => eb b o hb q) f0 f1 f3 f4 f5⟩
  self := fun A i s Q E st h => let ⟨⟨_, he⟩, _⟩ := st; wpAny_pyIter_enum he h
def iEnS (ta : TA) : TI := fun σ H R => ta σ H fun vs H1 => ∃ x, vs = [.str x] ∧ R (ItEnS x) H1
theorem pi_enS {X : Cx} {e : Expr} {ta : TA} {p pos tp : Pos} {es : List Expr} {kk : Nat} (hg : Gl X "enumerate") (hm : X.mg "enumerate" = none) (ha : PA X [e] ta) (hs : starEach [e] X.env = [(false, eval e X.env)] := by rfl) :
    PI X (.Tuple es kk tp) (.Call (.Name "enumerate" p) [e] [] pos) (iEnS ta) := by
  constructor
  intro pins s σ H R I h
  refine Call_ (ld_blt I hg hm boot_enumerate (PyProof.Rows.callWith_type1 (thn (ha.run pos pins s σ H _ I h) fun us s1 hh => ?_) hs rfl))
  obtain ⟨vs, H1, I1, r1, x, ex, q⟩ := hh
  subst ex
  cases r1 with
  | cons r rr =>
    cases rr
    obtain ⟨t, rfl⟩ := r
    refine enumT_call (begins_text x t) trivial fun h2 he hd hk => wpAny_pyIter_enum he ?_
    have I2 : Inv X pins σ H1 { s1 with heap := h2 } := I1.kept (t' := s1.toks) hk
    refine ⟨s1.heap.objs.size + 1, [s1.heap.objs.size + 1, s1.heap.objs.size], _, _, H1, rfl, I2, turn_enS x t (s1.heap.objs.size + 1) s1.heap.objs.size, ⟨⟨.none, he⟩, ⟨_, hd, rfl, rfl⟩, Nat.succ_ne_self _⟩, fun b hb => ?_, q⟩
    have ge : s1.heap.objs.size ≤ b := by
      rcases two_of hb with z | z
      · rw [z]; exact Nat.le_add_right _ _
      · rw [z]; exact Nat.le_refl _
    exact I1.fpOk ge (I1.hok.fresh ge)
theorem walk_enS {x : Str} : Walk (ItEnS x) x.cps.size (fun _ => True) (YPair (fun i => some (.int (i : Nat))) (fun i => (x.cps[i]?).map fun c => V.str ⟨#[c]⟩)) where
  goes := fun i _ hi _ => hi
  stops := fun _ _ => Nat.le_refl _
  yields := fun i H v H2 _ _ y => let ⟨p, c, h1, h2, h3, h4⟩ := y; ⟨p, .int (i : Nat), .str ⟨#[c]⟩, h1, h2, h3, rfl, by show Option.map _ _ = _; rw [h4]; rfl⟩
end L2
set_option Elab.async false
set_option maxRecDepth 100001
set_option maxHeartbeats 3999999
/-! raise C(), C an own class whose own __init__ stores nothing. -/
namespace L2
open PySem.Spec PySem PyProof.Rows
section
variable {X : Cx}
theorem mk_bare {pins : List (Addr × Obj)} {σ : St} {H1 H2 : Hp} {Q : XK} {hp hp2 h2 : Heap} {g1 g2 : Array GenState} {d1 d2 : Drawn} {t1 t2 : Nat} {o1 o2 : OsState} {a C : Addr} (T : Raises X (.ref C))
    (I1 : Inv X pins σ H1 ⟨hp, g1, d1, t1, o1⟩) (big : hp.objs.size ≤ a) (k : ∀ b o, hp.get? b = some o → hp2.get? b = some o) (un : Un (frs X.stack) [] (upd H1 a (exo a C none)) H2 hp2 h2)
    (hok : HOk X.prog X.w H2 h2) (ho : o2 = o1) (hb : AllBare g2) (ea : H2 a = some (exo a C none)) (q : Q (.ref C) none (del H2 a)) : MkP X pins σ Q (.ref a) ⟨h2, g2, d2, t2, o2⟩ := by
  obtain ⟨t0, he⟩ := exo_at hok ea
  have na : H1 a = none := I1.hok.fresh big
  obtain ⟨G, gyes, gno⟩ := restrict h2 fun b => decide (b ≠ a)
  have gk : ∀ b, b ≠ a → G.get? b = h2.get? b := fun b z => gyes b (decide_eq_true z)
  have ga : G.get? a = none := gno a (by simp)
  have ne : ∀ {b : Addr} {o : Obj}, hp.get? b = some o → b ≠ a := fun z => Nat.ne_of_lt (Nat.lt_of_lt_of_le (Heap.lt_size z) big)
  have free : ∀ {b : Addr}, b ≠ a → H1 b = none → upd H1 a (exo a C none) b = none := fun z n => (upd_ne z).trans n
  have U : Un (frs X.stack) [] H1 (del H2 a) hp G := {
    keep := fun b o z n hf hx => (gk b (ne z)).trans (un.keep b o (k b o z) (free (ne z) n) hf hx)
    slot := fun b o z n hf hx => let ⟨sl, e⟩ := un.slot b o (k b o z) (free (ne z) n) hf hx; ⟨sl, (gk b (ne z)).trans e⟩
    free := fun b o z n hx => (del_ne (ne z)).trans (un.free b o (k b o z) (free (ne z) n) hx)
    there := fun b o z hx => let ⟨o', e⟩ := un.there b o (k b o z) hx; ⟨o', (gk b (ne z)).trans e⟩
    tups := fun b xs z => (del_ne (ne_of_none z na)).trans (un.tups b xs ((upd_ne (ne_of_none z na)).trans z))
    frzs := fun b o v z => (del_ne (ne_of_none z na)).trans (un.frzs b o v ((upd_ne (ne_of_none z na)).trans z))
    tbls := fun b ps z => let ⟨m, e⟩ := un.tbls b ps ((upd_ne (ne_of_none z na)).trans z); ⟨m, (del_ne (ne_of_none z na)).trans e⟩ }
  have hG : HOk X.prog X.w (del H2 a) G := fun b o z => by
    have hba : b ≠ a := fun e => by
      rw [e, del_same] at z
      cases z
    rw [del_ne hba] at z
    have own : ∀ {c : Addr}, H2 c = some (.own b) → c ≠ a := fun hc => at_ne ea hc exo_own
    refine (hok b o z).stay (fun c v hc y => ?_) (fun c hc => (del_ne (own hc)).trans hc) fun c xs hc => (del_ne (at_ne ea hc exo_tup)).trans hc
    refine (gk c ?_).trans y
    rcases hc with rfl | hc
    · exact hba
    · exact own hc
  have J : Inv X pins σ (del H2 a) ⟨G, g2, d2, t2, o2⟩ := I1.call' (ch := []) ho U hG hb fun b z => absurd z (by simp)
  refine ⟨a, _, _, ⟨G, g2, d2, t2, o2⟩, _, .ref C, none, rfl, J, fun b o z => ?_, ga, he, ⟨rfl, rfl⟩, rfl, rfl, del_same, rfl, hb, T, q⟩
  have hba : b ≠ a := fun e => by
    rw [e] at z
    have z' : G.get? a = some o := z
    rw [ga] at z'
    cases z'
  exact (gk b hba).symm.trans z
/-- C(): what its __init__ keeps, at the fresh exception -/
def tMkO0 (C : Addr) (sp : Sp) : St → Hp → XK → Prop := fun _ H Q => ∀ a, H a = none → sp [.ref a] (upd H a (exo a C none)) (fun v H2 => v = .non ∧ H2 a = some (exo a C none) ∧ Q (.ref C) none (del H2 a)) (fun _ _ _ => False)
theorem pmk_oex0 {CX : CXT} {x : Str} {p pos : Pos} {C fI : Addr} {k : Nat} {fd : FuncData} {ps : List Str} {sp : Sp} (T : OexC X.K C) (iC : PySem.W.findIn X.K (.ref C) "__init__" = some (some (.ref fI))) (tI : PySem.W.typeIn X.K (.ref fI) = some (.type "function"))
    (F1 : FnOk X.prog X.w X.K X.mg X.base CX k fI fd ps sp) (hr : Room (k + 1) X.A) (hb : Binds X.K fd ps []) (hx : Passes CX X (fun _ _ _ => False)) (hg : Gl X x) (hm : X.mg x = some (.ref C)) (hdb : (x == ("__debug__" : Str)) = false := by decide) :
    PMk X (.Call (.Name x p) [] [] pos) (tMkO0 C sp) := by
  intro pins s σ H Q I h
  obtain ⟨nm, qn, N, bs, bm, sn, sb, ab, col, dd, j0, j1, j2, j3, j5, hC, hbm⟩ := T.cls
  refine wpAny_Call_Name_kw (ld_glob I hg hm ?_ hdb)
  refine PySem.W.callWith_K0 I.kIn T.kC ?_
  show wpAny _ _ (call (.ref C) []) _ _ _
  obtain ⟨hp, g, dr, tk, os⟩ := s
  have big : hp.objs.size ≤ hp.objs.size + 1 := Nat.le_succ _
  have hn : H (hp.objs.size + 1) = none := I.hok.fresh big
  have hq := h (hp.objs.size + 1) hn
  have kk : ∀ b o, hp.get? b = some o → ((hp.push (PySem.W.kdv_tup [])).push (PySem.HandSPX.excO C hp.objs.size)).get? b = some o := fun b o e => Heap.get?_push_of_some _ (Heap.get?_push_of_some _ e)
  have hget : ((hp.push (PySem.W.kdv_tup [])).push (PySem.HandSPX.excO C hp.objs.size)).get? (hp.objs.size + 1) = some (PySem.HandSPX.excO C hp.objs.size) := by heap_get
  have I2 : Inv X pins σ (upd H (hp.objs.size + 1) (exo (hp.objs.size + 1) C none)) ⟨(hp.push (PySem.W.kdv_tup [])).push (PySem.HandSPX.excO C hp.objs.size), g, dr, tk, os⟩ := I.laid (t' := tk) kk big (exo_ok hget)
  have r2 : Vals [V.ref (hp.objs.size + 1)] [Value.ref (hp.objs.size + 1)] := .cons rfl .nil
  have hl : ([Value.ref (hp.objs.size + 1)] ++ ([] : List Value)).length = ps.length := (F1.len _ _ _ _ hq)
  refine wpAny_call (PySem.HandSPX.call_own F.excBase_ValueError (fun Y => PySem.HandSPX.refsVE_contains Y bm hbm) (I.kIn _ _ hC) (PySem.W.looks_findIn I.kIn iC) (fun self => PySem.W.bind_fn I.kIn self tI) (by show 0 ≤ sizeLine; exact Nat.zero_le _)
    (codeAny_mono (F1.run _ X.stack _ _ ⟨[Value.ref (hp.objs.size + 1)], []⟩ [Value.ref (hp.objs.size + 1)] _ _ (fun _ _ _ => False) (hr.make C [] []) (I2.env0.make C [] []) (hb _ [Value.ref (hp.objs.size + 1)] I2.kIn hl) r2 hq) fun r s2 hq2 => ?_))
  cases r with
  | error er => exact hx pins σ _ _ er s2 I2 hq2
  | ok fl =>
    cases fl with
    | ret u =>
      obtain ⟨v, H2, os2, bare2, un2, hok2, rv, ev, ea, q2⟩ := hq2
      subst ev
      obtain ⟨h2, g2, d2, t2, o2⟩ := s2
      exact ⟨rv, mk_bare (raises_own T.exC T.tyC) I big kk un2 hok2 os2 bare2 ea q2⟩
    | next => exact hq2.elim
    | brk => exact hq2.elim
    | cont => exact hq2.elim
end
end L2
set_option Elab.async false
set_option maxRecDepth 100001
set_option maxHeartbeats 3999999
/-! try with several clauses, some of which name the exception. -/
namespace L2
open PySem.Spec PySem PyProof.Rows
/-- a clause: its class, the slot of its name, its suite's reading -/
abbrev Clause := Value × Option Nat × (Addr → Value → Option Addr → TS)
def endsOf : Option Nat → Ends → Ends
  | none, D => D
  | some i, D => ⟨fun σ H => D.nx (σ.set i none) H, D.rt, fun σ H => D.bk (σ.set i none) H, fun σ H => D.ct (σ.set i none) H⟩
def slotOf : Option Nat → Addr → St → St
  | none, _, σ => σ
  | some i, a, σ => σ.set i (some (.ref a))
def wClauses (K : PySem.W.Frag) (Wout : WX) (D : Ends) : List Clause → WX
  | [], cls, d, σ, H => Wout cls d σ H
  | (c, i, ts) :: r, cls, d, σ, H => ∃ b, PySem.W.exmOne K cls c = some b ∧ (b = true → ∀ a, H a = none → ts a cls d (endsOf i D) (slotOf i a σ) H) ∧ (b = false → wClauses K Wout D r cls d σ H)
def SuiteOk (X : Cx) (sts : List Stmt) (ts : Addr → Value → Option Addr → TS) : Prop :=
  ∀ (a : Addr) (oe : Obj) (cls : Value) (d : Option Addr) (pn : List (Addr × Obj)), Zc cls d oe → (∃ vs, oe.data = .fields vs) → PSs (X.suite a ((a, oe) :: pn)) sts (ts a cls d)
inductive ClausesOk (X : Cx) : List ExceptHandler → List Clause → Prop
  | nil : ClausesOk X [] []
  | plain {x c ts b₀ su np p2 hds l} (hc : Names X x c) (ok : SuiteOk X (b₀ :: su) ts) (r : ClausesOk X hds l) : ClausesOk X (.ExceptHandler (some (.Name x np)) none (b₀ :: su) p2 :: hds) ((c, none, ts) :: l)
  | named {x c ts b₀ su np p2 hds l n i} (hc : Names X x c) (hi : X.N[i]? = some n) (hn : X.env.kindOf n = some .local) (ok : SuiteOk X (b₀ :: su) ts) (r : ClausesOk X hds l) :
      ClausesOk X (.ExceptHandler (some (.Name x np)) (some n) (b₀ :: su) p2 :: hds) ((c, some i, ts) :: l)
section
variable {X : Cx} {pins : List (Addr × Obj)} {σ : St} {H : Hp} {z sI : Shared} {a : Addr} {cls : Value} {d : Option Addr} {B h : Heap} {D : Ends}
/-- an exception that has come to its try: what is known there -/
structure Come (X : Cx) (pins : List (Addr × Obj)) (σ : St) (H : Hp) (sI z : Shared) (a : Addr) (cls : Value) (d : Option Addr) (B h : Heap) : Prop where
  hs : X.stack = X.env :: X.outer
  hf : X.env.frame = some X.env.locals
  J : Inv X pins σ H sI
  nb : ∀ b o, sI.heap.get? b = some o → b ∉ frs X.stack → B.get? b = some o
  fl : HandSPX.FlyingZ B (X.env :: X.outer) a (Zc cls d) h
  up : sI.heap.UpToSlots h
  na : H a = none
  os : z.os = sI.os
  ag : AllBare z.gens
theorem Come.inv (C : Come X pins σ H sI z a cls d B h) : Inv X pins σ H { z with heap := h } := C.J.landed C.nb C.fl.1 C.up C.os C.ag
theorem Come.apart (C : Come X pins σ H sI z a cls d B h) : a ≠ X.env.locals ∧ a ∉ X.fs := by
  obtain ⟨oe, vs, he, _, hd⟩ := C.fl.there
  have no : a ∉ frs (X.env :: X.outer) := fun m => by
    obtain ⟨_, o, e, q⟩ := C.fl.2.2.1.mem m
    rw [he] at e
    cases e
    exact q _ hd
  refine ⟨fun e => no (List.mem_filterMap.mpr ⟨X.env, List.mem_cons_self, by rw [C.hf, e]⟩), fun m => ?_⟩
  obtain ⟨e, he, q⟩ := List.mem_filterMap.mp m
  exact no (List.mem_filterMap.mpr ⟨e, List.mem_cons_of_mem _ he, q⟩)
theorem Come.suite (C : Come X pins σ H sI z a cls d B h) : ∃ oe, Zc cls d oe ∧ (∃ vs, oe.data = .fields vs) ∧ h.get? a = some oe ∧ Inv (X.suite a ((a, oe) :: (X.pn ++ pins))) [] σ H { z with heap := h } := by
  obtain ⟨oe, vs, he, hz, hd⟩ := C.fl.there
  exact ⟨oe, hz, ⟨vs, hd⟩, he, C.inv.suite he hd C.na C.apart.1 C.apart.2⟩
theorem Come.step (C : Come X pins σ H sI z a cls d B h) {h2 : Heap} (fl : HandSPX.FlyingZ B (X.env :: X.outer) a (Zc cls d) h2) (up : h.UpToSlots h2) : Come X pins σ H sI z a cls d B h2 :=
  ⟨C.hs, C.hf, C.J, C.nb, fl, C.up.trans up, C.na, C.os, C.ag⟩
/-- the class of a clause is looked at -/
theorem Come.test (C : Come X pins σ H sI z a cls d B h) {x : Str} {c : Value} {np : Pos} {b : Bool} (hc : Names X x c) (hb : PySem.W.exmOne X.K cls c = some b) {Q : Bool → Shared → Prop} {E E2 : Value → Shared → Prop} (q : Q b { z with heap := h }) :
    wpAny (model X.prog X.w) (X.A.mark (some (.ref a))) (eval (.Name x np) X.env) (fun u s1 => wpAny (model X.prog X.w) (X.A.mark (some (.ref a))) (excMatches (.ref a) u) Q E2 s1) E { z with heap := h } := by
  obtain ⟨oe, hz, _, he, S⟩ := C.suite
  have LT : PySem.W.Looks (model X.prog X.w) h (typeOf (.ref a)) cls := fun _ _ _ _ k q2 => wpAny_typeOf_ref (k _ _ he) (by rw [hz.1]; exact q2)
  have LM := (PySem.W.exm_one (M := model X.prog X.w) C.inv.kIn LT hb).here (A := X.A.mark (some (.ref a))) (Q := Q) (E := E2) (s := { z with heap := h }) q
  obtain ⟨hg, hdb, hm | ⟨hm, hv, hnn⟩⟩ := hc
  · exact ld_glob (X := X.suite a ((a, oe) :: (X.pn ++ pins))) S hg hm LM hdb
  · exact ld_blt (X := X.suite a ((a, oe) :: (X.pn ++ pins))) S hg hm hv LM hnn hdb
/-- no clause is left: it goes on -/
theorem Come.on {Wout : WX} (C : Come X pins σ H sI z a cls d B h) (tk : Takes X Wout) (wo : Wout cls d σ H) :
    wpAny (model X.prog X.w) X.A (handleBy (.ref a) X.env []) (SP X pins D) X.xe { z with heap := h } := by
  refine wpAny_handleBy_nil ?_
  obtain ⟨_, _, _, oe, vs, T, oT, ts, he, _, hd, h1, _⟩ := id C.fl
  unfold PySem.passOn
  refine wpAny_bind (wpAny_field he hd h1 ?_)
  rw [if_neg (show ¬ ((Value.ref T == Value.none) = true) from by simp)]
  have fin : wpAny (model X.prog X.w) X.A (setFlight (.ref a) X.env.frame) (fun _ s4 => wpAny (model X.prog X.w) X.A (throw (.ref a) : Sem Flow) (SP X pins D) X.xe s4) X.xe { z with heap := h } := by
    rw [C.hf]
    refine HandSPX.setFlight_upZ C.fl fun h4 hh4 up4 => wpAny_throw (tk _ _ ?_)
    exact ⟨a, B, sI, pins, σ, H, cls, d, rfl, C.J, C.nb, C.up.trans up4, .inr (.inr (by rw [C.hs]; exact hh4)), C.na, C.os, C.ag, wo⟩
  first | exact wpAny_bind (wpAny_pure (wpAny_bind fin)) | exact wpAny_bind fin
theorem Come.run {Wout : WX} {hds : List ExceptHandler} {l : List Clause} (hN : X.N.Nodup) (tk : Takes X Wout) (ok : ClausesOk X hds l) : ∀ {h : Heap}, Come X pins σ H sI z a cls d B h → wClauses X.K Wout D l cls d σ H →
    wpAny (model X.prog X.w) X.A (handleBy (.ref a) X.env hds) (SP X pins D) X.xe { z with heap := h } := by
  induction ok with
  | nil => exact fun C w => C.on tk w
  | plain hc su r ih =>
    intro h C w
    obtain ⟨b, hb, yes, no⟩ := w
    refine wpAny_handleBy_cons (codeAny_handlers_test (C.test hc hb ?_)) (by intro q; cases q)
    cases b with
    | false => exact ih C (no rfl)
    | true =>
      refine codeAny_handlers_suite ?_
      refine HandSPX.lands_againZ C.fl fun h4 fl4 up4 => ?_
      have C4 := C.step fl4 up4
      obtain ⟨oe, hz, hd, he, S⟩ := C4.suite
      refine wpAny_mono ((su a oe cls d (X.pn ++ pins) hz hd).run [] _ _ H _ S (yes rfl a C.na)) (fun f s6 hsp => ?_) (fun _ _ q => False.elim q)
      cases f with
      | next => exact let ⟨_, _, S6, q6⟩ := hsp; ⟨_, _, S6.unsuite C.J.ok, q6⟩
      | brk => exact let ⟨_, _, S6, q6⟩ := hsp; ⟨_, _, S6.unsuite C.J.ok, q6⟩
      | cont => exact let ⟨_, _, S6, q6⟩ := hsp; ⟨_, _, S6.unsuite C.J.ok, q6⟩
      | ret u => exact let ⟨_, _, _, S6, r6, q6⟩ := hsp; ⟨_, _, _, S6.unsuite C.J.ok, r6, q6⟩
  | @named x c ts b₀ suite np p2 hds l n i hc hi hn su r ih =>
    intro h C w
    obtain ⟨b, hb, yes, no⟩ := w
    refine wpAny_handleBy_cons (codeAny_handlers_test (C.test hc hb ?_)) (by intro q; cases q)
    cases b with
    | false => exact ih C (no rfl)
    | true =>
      refine codeAny_handlers_suite_as ?_
      refine HandSPX.lands_againZ C.fl fun h4 fl4 up4 => ?_
      have C4 := C.step fl4 up4
      obtain ⟨oe, hz, hd, he, S⟩ := C4.suite
      refine store_ok (X := X.suite a ((a, oe) :: (X.pn ++ pins))) (v := .ref a) S hN hi (.inl hn) rfl (fun s5 S5 => ?_) (.inr hn)
      refine wpAny_mono ((su a oe cls d (X.pn ++ pins) hz hd).run [] s5 _ H _ S5 (yes rfl a C.na)) (fun f s6 hsp => ?_) (fun _ _ q => False.elim q)
      have away : ∀ {σ6 : St} {H6 : Hp} {Q : Shared → Prop}, Inv (X.suite a ((a, oe) :: (X.pn ++ pins))) [] σ6 H6 s6 → (∀ s7, Inv X pins (σ6.set i none) H6 s7 → Q s7) →
          wpAny (model X.prog X.w) X.A (do bindName X.env n .none; unbindBehindTheSuite X.env n p2) (fun _ s7 => Q s7) X.xe s6 := fun S6 hq => gone_ok (S6.unsuite C.J.ok) hN hi hn hq
      cases f with
      | next => exact let ⟨_, _, S6, q6⟩ := hsp; away S6 fun s7 J7 => ⟨_, _, J7, q6⟩
      | brk => exact let ⟨_, _, S6, q6⟩ := hsp; away S6 fun s7 J7 => ⟨_, _, J7, q6⟩
      | cont => exact let ⟨_, _, S6, q6⟩ := hsp; away S6 fun s7 J7 => ⟨_, _, J7, q6⟩
      | ret u => exact let ⟨_, _, _, S6, r6, q6⟩ := hsp; away S6 fun s7 J7 => ⟨_, _, _, J7, r6, q6⟩
end
/-- try: body / except C1 as n: .. / except C2: .. -/
theorem ps_try_clauses {X : Cx} {body : List Stmt} {hd₀ : ExceptHandler} {hds : List ExceptHandler} {l : List Clause} {pos : Pos} {tb : WX → TS} {Wout : WX} (hs : X.stack = X.env :: X.outer) (hf : X.env.frame = some X.env.locals) (hN : X.N.Nodup) (tk : Takes X Wout)
    (hb : ∀ (W : WX) (pn : List (Addr × Obj)) (xe : Value → Shared → Prop), Takes (X.tr pn xe) W → PassesOwn (model X.prog X.w) X.A X.env xe → PSs (X.tr pn xe) body (tb W)) (ok : ClausesOk X (hd₀ :: hds) l) :
    PS X (.Try body (hd₀ :: hds) [] [] pos) (fun D σ H => tb (wClauses X.K Wout D l) D σ H) := by
  constructor
  intro pins s σ H D I h
  have oX := I.ok
  have fr : X.A.frames = some (X.env :: X.outer) := by rw [oX.frames, hs]
  refine wpAny_Try_except ?_
  refine wpAny_mono ((hb (wClauses X.K Wout D l) (X.pn ++ pins) (fun e s₁ => wpAny (model X.prog X.w) X.A (noteFrame e X.env) (fun _ s₂ => wpAny (model X.prog X.w) X.A (setFlight e none) (fun _ s₃ =>
    wpAny (model X.prog X.w) X.A (handleBy e X.env (hd₀ :: hds)) (SP X pins D) X.xe s₃) X.xe s₂) X.xe s₁) (fun u s1 xx => ?_) PassesOwn.looking).run [] s σ H D (I.toTry _) h) (fun f s1 hsp => ?_) fun _ _ he => he
  · obtain ⟨a, B, sI, pins', σ', H', cls, d, rfl, J', nb, up, sky, na, os, ag, w⟩ := xx
    have sky' : Sky B (X.env :: X.outer) a (Zc cls d) X.env.locals s1.heap := by rw [← hs]; exact sky
    show wpAny (model X.prog X.w) X.A (noteFrame (.ref a) X.env) _ _ _
    refine Sky.land Zc.steady fr hf sky' fun h3 fl3 up3 => ?_
    exact Come.run (z := s1) hN tk ok ⟨hs, hf, J'.ofTry oX, nb, fl3, up.trans up3, na, os, ag⟩ w
  · cases f with
    | next => exact let ⟨σ', H', J', q⟩ := hsp; wpAny_execs_nil ⟨σ', H', J'.ofTry oX, q⟩
    | brk => exact let ⟨σ', H', J', q⟩ := hsp; ⟨σ', H', J'.ofTry oX, q⟩
    | cont => exact let ⟨σ', H', J', q⟩ := hsp; ⟨σ', H', J'.ofTry oX, q⟩
    | ret u => exact let ⟨v, σ', H', J', r, q⟩ := hsp; ⟨v, σ', H', J'.ofTry oX, r, q⟩
end L2
set_option Elab.async false
set_option linter.all false
set_option maxRecDepth 100001
set_option maxHeartbeats 3999999
/-! sorted(xs, key=lambda x: ..): any order of the keys that the sort can tell. -/
namespace SrtL
open PySem PyProof.Rows Srt SrtO
theorem zip_list (ks vs : List Value) : (ks.toArray.zip vs.toArray).toList = ks.zip vs := by
  rw [ksk_zip]
section
variable {prog : Program} {w : World} {A : Around} {E : Value → Shared → Prop} {s : Shared} {a kS : Addr} {e1 ek : Nat} {vs ks : List Value} {ltv : Value → Value → Bool} {R : PySem.Fin → Shared → Prop}
/-- what is left when the list is sorted -/
def doneHeap (h : Heap) (kS a : Addr) (out : Array Value) : Heap := (h.update kS (Obj.mapSeq fun _ => (#[] : Array Value))).update a (Obj.mapSeq fun _ => out)
theorem tail_ord {st : SortSt} (hk : s.heap.get? kS = some (seqObj "list" ks.toArray ek)) (ha : s.heap.get? a = some (seqObj "list" #[] e1)) (ne : kS ≠ a) (hz : vs.length ≤ sizeLine) (hl : ks.length = vs.length) (hsz : (arrOf st).size = vs.length) (hfl : failedOf st = none)
    (h : R (.done (.ret .none)) { s with heap := doneHeap s.heap kS a ((arrOf st).map (·.2)) }) : wpAny (model prog w) A (ksk_tail a false e1 (.ref kS) st) R E s := by
  have s1 := Heap.SameBut.update s.heap kS (Obj.mapSeq fun _ => (#[] : Array Value))
  have na1 : (s.heap.update kS (Obj.mapSeq fun _ => (#[] : Array Value))).get? a = some (seqObj "list" #[] e1) := (s1.2 a ne.symm).trans ha
  unfold ksk_tail
  try dsimp only
  refine wpAny_bind (listUpdate_at hk rfl ?_ (by rw [List.size_toArray]; omega) (Nat.zero_le _))
  refine wpAny_bind (wpAny_letGo ?_)
  refine wpAny_bind (seqEpoch_at na1 rfl ?_)
  refine wpAny_bind (listUpdate_at na1 rfl ?_ (Nat.zero_le _) (by simp only [Bool.false_eq_true, if_false, Array.size_map]; omega))
  rw [hfl]
  simp only [bne_self_eq_false, Bool.false_eq_true, if_false]
  exact wpAny_pure h
theorem end_ord (O : Swo ltv) (hk : s.heap.get? kS = some (seqObj "list" ks.toArray ek)) (ha : s.heap.get? a = some (seqObj "list" #[] e1)) (ne : kS ≠ a) (hz : vs.length ≤ sizeLine) (hl : ks.length = vs.length)
    (hS : 2 ≤ vs.length → ∃ κ, (∀ (Q : SortKind → Shared → Prop) (E : Value → Shared → Prop), Q κ s → wpAny (model prog w) A (keyKind' ks.toArray) Q E s) ∧ Cmp prog w A s κ (fun p => p.1 ∈ ks) (lt2 ltv))
    (h : ∀ ps : List Keyed, Srtd (lt2 ltv) ps → Stb (lt2 ltv) ps (ks.zip vs) → R (.done (.ret .none)) { s with heap := doneHeap s.heap kS a (ps.map (·.2)).toArray }) :
    wpAny (model prog w) A (ksk_end a false vs.toArray e1 (.ref kS) ks.toArray) R E s := by
  have hzs : (ks.toArray.zip vs.toArray).size = vs.length := by rw [Array.size_zip, List.size_toArray, List.size_toArray, hl, Nat.min_self]
  have fin : ∀ st : SortSt, Srtd (lt2 ltv) (arrOf st).toList → Stb (lt2 ltv) (arrOf st).toList (ks.toArray.zip vs.toArray).toList → R (.done (.ret .none)) { s with heap := doneHeap s.heap kS a ((arrOf st).map (·.2)) } := by
    intro st h1 h2
    rw [zip_list] at h2
    have h3 := h _ h1 h2
    have e : ((arrOf st).toList.map (·.2)).toArray = (arrOf st).map (·.2) := by
      rw [← Array.toList_map, Array.toArray_toList]
    rw [e] at h3
    exact h3
  have size : ∀ st : SortSt, Stb (lt2 ltv) (arrOf st).toList (ks.toArray.zip vs.toArray).toList → (arrOf st).size = vs.length := by
    intro st h2
    have := h2.perm.length_eq
    rw [Array.length_toList, Array.length_toList, hzs] at this
    exact this
  unfold ksk_end
  try dsimp only
  simp only [Bool.false_eq_true, if_false]
  by_cases h2 : vs.toArray.size < 2
  · rw [if_pos h2, if_pos h2]
    refine wpAny_bind (wpAny_pure ?_)
    rw [StateT.run_pure]
    refine wpAny_bind (wpAny_pure ?_)
    try dsimp only
    rw [List.size_toArray] at h2
    refine tail_ord (st := SortSt.mk' general' (ks.toArray.zip vs.toArray) #[] 7 none) hk ha ne hz hl hzs rfl (fin (SortSt.mk' general' (ks.toArray.zip vs.toArray) #[] 7 none) ?_ (Stb.refl _))
    show Srtd (lt2 ltv) (ks.toArray.zip vs.toArray).toList
    have hlz : (ks.toArray.zip vs.toArray).toList.length < 2 := by rw [Array.length_toList, hzs]; exact h2
    revert hlz
    generalize (ks.toArray.zip vs.toArray).toList = l
    intro hlz
    match l, hlz with
    | [], _ => exact List.Pairwise.nil
    | [v], _ => exact List.pairwise_singleton _ _
    | _ :: _ :: l, h => exact absurd h (by rw [List.length_cons, List.length_cons]; omega)
  · rw [if_neg h2, if_neg h2]
    rw [List.size_toArray] at h2
    obtain ⟨κ, hkind, hT⟩ := hS (by omega)
    refine wpAny_bind (hkind _ _ ?_)
    have hall : AllL (fun p : Keyed => p.1 ∈ ks) (ks.toArray.zip vs.toArray).toList := fun p hm => by
      rw [zip_list] at hm
      obtain ⟨x, y⟩ := p
      exact (List.of_mem_zip hm).1
    refine wpAny_bind (wpAny_mono (wpS_sortO (st0 := SortSt.mk' κ (ks.toArray.zip vs.toArray) #[] 7 none)
      (Q := fun _ st' => Srtd (lt2 ltv) (arrOf st').toList ∧ Stb (lt2 ltv) (arrOf st').toList (ks.toArray.zip vs.toArray).toList ∧ failedOf st' = none) (swo2 O) hT rfl hall rfl rfl fun st' a1 a2 a3 => ⟨a1, a2, a3⟩) ?_ fun _ _ e => e)
    rintro ⟨⟨⟩, st'⟩ s' ⟨rfl, hp1, hp2, hf⟩
    try dsimp only
    exact tail_ord hk ha ne hz hl (size st' hp2) hf (fin st' hp1 hp2)
/-- what is asked of the keys' making: J of the keys so far -/
structure Keys (prog : Program) (w : World) (A : Around) (f : Value) (vs : List Value) (ltv : Value → Value → Bool) (R : PySem.Fin → Shared → Prop) (a kS : Addr) (e1 : Nat) (J : List Value → Shared → Prop) : Prop where
  obj : ∀ ks s, J ks s → (∃ ek, s.heap.get? kS = some (seqObj "list" ks.toArray ek)) ∧ s.heap.get? a = some (seqObj "list" #[] e1)
  turn : ∀ (ks : List Value) (v : Value) (s : Shared), J ks s → vs[ks.length]? = some v → wpAny (model prog w) A (call f [v]) (fun k s' => (∃ ek, s'.heap.get? kS = some (seqObj "list" ks.toArray ek)) ∧ J (ks ++ [k]) { s' with heap := s'.heap.update kS (Obj.mapSeq (·.push k)) }) (fun _ _ => False) s
  kind : ∀ ks s, J ks s → ks.length = vs.length → 2 ≤ vs.length → ∃ κ, (∀ (Q : SortKind → Shared → Prop) (E : Value → Shared → Prop), Q κ s → wpAny (model prog w) A (keyKind' ks.toArray) Q E s) ∧ Cmp prog w A s κ (fun p => p.1 ∈ ks) (lt2 ltv)
  fin : ∀ ks s, J ks s → ks.length = vs.length → ∀ ps : List Keyed, Srtd (lt2 ltv) ps → Stb (lt2 ltv) ps (ks.zip vs) → R (.done (.ret .none)) { s with heap := doneHeap s.heap kS a (ps.map (·.2)).toArray }
theorem rest_ord {f : Value} {J : List Value → Shared → Prop} (O : Swo ltv) (ne : kS ≠ a) (hz : vs.length ≤ sizeLine) (h0 : J [] s) (Y : Keys prog w A f vs ltv R a kS e1 J) : wpAny (model prog w) A (ksk_rest a f false vs.toArray e1 (.ref kS)) R E s := by
  unfold ksk_rest
  refine wpAny_bind (wpAny_rule ?_)
  first
    | rw [List.forIn_toArray]
    | (rw [← Array.forIn_toList]; simp only [List.toList_toArray])
    | rw [← Array.forIn_toList]
  refine wpAny_bind (ksk_fold (fun i s' => ∃ ks, J ks s' ∧ ks.length = i) vs 0 s ⟨[], h0, rfl⟩ ?step ?done)
  case step =>
    rintro j x s' hx ⟨ks, hJ, lk⟩
    simp only [Nat.zero_add] at lk ⊢
    have hj : j < vs.length := (List.getElem?_eq_some_iff.mp hx).1
    refine wpAny_bind (wpAny_attempt (wpAny_mono (Y.turn ks x s' hJ (by rw [lk]; exact hx)) (fun k s'' he => ?_) fun _ _ hF => hF.elim))
    obtain ⟨⟨ek, hk⟩, hJ2⟩ := he
    try dsimp only
    refine wpAny_bind (listUpdate_at hk rfl ?_ (by rw [List.size_toArray]; omega) (Nat.le_trans (Nat.le_of_eq (Array.size_push ..)) (by rw [List.size_toArray]; omega)))
    exact wpAny_pure ⟨rfl, _, hJ2, by rw [List.length_append, lk]; rfl⟩
  case done =>
    rintro s' ⟨ks, hJ, lk⟩
    rw [Nat.zero_add] at lk
    obtain ⟨⟨ek, hk⟩, ha⟩ := Y.obj ks s' hJ
    try dsimp only
    refine wpAny_bind (listItems_at hk rfl ?_)
    exact end_ord O hk ha ne hz lk (Y.kind ks s' hJ lk) (Y.fin ks s' hJ lk)
theorem tree_ord {f : Value} {n : Nat} (O : Swo ltv) (ho : s.heap.get? a = some (seqObj "list" vs.toArray n)) (hz : vs.length ≤ sizeLine)
    (h : ∀ (h1 : Heap) (kS : Addr) (e1 : Nat), (∀ b o, b ≠ a → s.heap.get? b = some o → h1.get? b = some o) → h1.get? a = some (seqObj "list" #[] e1) → h1.get? kS = some (seqObj "list" #[] 0) → s.heap.objs.size ≤ kS →
      ∃ J, J [] { s with heap := h1 } ∧ Keys prog w A f vs ltv R a kS e1 J) : wpAny (model prog w) A (ksk_tree a f false) R E s := by
  have ha : a < s.heap.objs.size := Heap.lt_size ho
  have s1 := Heap.SameBut.update s.heap a (Obj.mapSeq fun _ => (#[] : Array Value))
  obtain ⟨e1, ho1⟩ : ∃ e1, (s.heap.update a (Obj.mapSeq fun _ => (#[] : Array Value))).get? a = some (seqObj "list" #[] e1) := ⟨_, get?_update_seq ho fun _ => #[]⟩
  have hkS : ((s.heap.update a (Obj.mapSeq fun _ => (#[] : Array Value))).push (seqObj "tuple" vs.toArray 0)).objs.size = s.heap.objs.size + 1 := by rw [size_push', Heap.size_update]
  unfold ksk_tree
  refine wpAny_bind (listItems_at ho rfl ?_)
  refine wpAny_bind (listUpdate_at ho rfl ?_ (by rw [List.size_toArray]; omega) (Nat.zero_le _))
  refine wpAny_bind (seqEpoch_at ho1 rfl ?_)
  refine wpAny_bind (wpAny_newTuple ?_ (by show vs.length ≤ _; exact hz))
  refine wpAny_bind (wpAny_newList ?_ (Nat.zero_le _))
  refine wpAny_holding ?_
  obtain ⟨J, j0, Y⟩ := h (((s.heap.update a (Obj.mapSeq fun _ => (#[] : Array Value))).push (seqObj "tuple" vs.toArray 0)).push (seqObj "list" #[] 0)) ((s.heap.update a (Obj.mapSeq fun _ => (#[] : Array Value))).push (seqObj "tuple" vs.toArray 0)).objs.size e1
    (fun b o hb e => Heap.get?_push_of_some _ (Heap.get?_push_of_some _ ((Heap.get?_update_ne _ _ _ _ hb).trans e))) (Heap.get?_push_of_some _ (Heap.get?_push_of_some _ ho1)) (Heap.get?_push_size _ rfl) (by rw [hkS]; exact Nat.le_succ _)
  exact rest_ord (s := { s with heap := ((s.heap.update a (Obj.mapSeq fun _ => (#[] : Array Value))).push (seqObj "tuple" vs.toArray 0)).push (seqObj "list" #[] 0) }) O (by rw [hkS]; exact Nat.ne_of_gt (Nat.lt_succ_of_lt ha)) hz j0 Y
/-- sorted(l, key=q) -/
theorem sorted_ord {l q : Addr} {Q : Value → Shared → Prop} (O : Swo ltv) (hl : s.heap.IsList l vs.toArray) (hz : vs.length ≤ sizeLine)
    (h : ∀ (h1 : Heap) (d kS : Addr) (e1 : Nat), (∀ b o, s.heap.get? b = some o → h1.get? b = some o) → h1.get? d = some (seqObj "list" #[] e1) → h1.get? kS = some (seqObj "list" #[] 0) → s.heap.objs.size ≤ d → s.heap.objs.size ≤ kS → kS ≠ d →
      ∃ J, J [] { s with heap := h1 } ∧ Keys prog w A.in1.in1 (.ref q) vs ltv (fun r s' => r = .done (.ret .none) ∧ Q (.ref d) s') d kS e1 J) :
    wpAny (model prog w) A (call (.builtin "sorted") [.ref l] [(Str.ofString "key", .ref q)]) Q E s := by
  refine call_function_entry_kw kind_sorted plain_sorted entry_sorted (ksk_s1 _ _) ?_
  unfold Builtin.«sorted»
  refine wpAny_bind (m := checkCount "sorted" 1 1 _) (wpAny_pure ?_)
  refine wpAny_bind (collect_list hl ?_ hz)
  refine wpAny_bind (wpAny_newList ?_ hz)
  have hsz : ((s.heap.push (seqObj "list" #[] 0)).update s.heap.objs.size (Obj.mapSeq (· ++ vs.toArray))).objs.size = s.heap.objs.size + 1 := by
    rw [Heap.size_update, size_push']
  have hoL : (((s.heap.push (seqObj "list" #[] 0)).update s.heap.objs.size (Obj.mapSeq (· ++ vs.toArray))).push (seqObj "list" vs.toArray 0)).get? (s.heap.objs.size + 1) = some (seqObj "list" vs.toArray 0) := by
    rw [← hsz]; exact Heap.get?_push_size _ rfl
  have keep : ∀ b o, s.heap.get? b = some o → b ≠ s.heap.objs.size + 1 ∧ (((s.heap.push (seqObj "list" #[] 0)).update s.heap.objs.size (Obj.mapSeq (· ++ vs.toArray))).push (seqObj "list" vs.toArray 0)).get? b = some o := fun b o q => by
    have hlt : b < s.heap.objs.size := Heap.lt_size q
    refine ⟨Nat.ne_of_lt (Nat.lt_succ_of_lt hlt), Heap.get?_push_of_some _ ?_⟩
    rw [Heap.get?_update_ne _ _ _ _ (Nat.ne_of_lt hlt)]
    exact Heap.get?_push_of_some _ q
  have size2 : (((s.heap.push (seqObj "list" #[] 0)).update s.heap.objs.size (Obj.mapSeq (· ++ vs.toArray))).push (seqObj "list" vs.toArray 0)).objs.size = s.heap.objs.size + 2 := by rw [size_push', hsz]
  show wpAny _ _ _ _ _ { s with heap := ((s.heap.push (seqObj "list" #[] 0)).update s.heap.objs.size (Obj.mapSeq (· ++ vs.toArray))).push (seqObj "list" vs.toArray 0) }
  rw [hsz]
  refine wpAny_bind (wpAny_holding (wpAny_call_entry_kw slot_list_sort ⟨_, hoL, rfl⟩ entry_list_sort ?_ (ksk_l1 _ _)))
  rw [ksk_t1]
  refine tree_ord O hoL hz fun h1 kS e1 hk ha hkS hge => ?_
  dsimp only at hge hk
  rw [size2] at hge
  obtain ⟨J, j0, Y⟩ := h h1 (s.heap.objs.size + 1) kS e1 (fun b o q => hk b o (keep b o q).1 (keep b o q).2) ha hkS (Nat.le_succ _) (Nat.le_trans (Nat.le_add_right _ 2) hge) (Nat.ne_of_gt (Nat.lt_of_lt_of_le (Nat.lt_succ_self _) hge))
  refine ⟨J, j0, ⟨Y.obj, Y.turn, Y.kind, fun ks s' hJ hl ps h1 h2 => ?_⟩⟩
  obtain ⟨_, z⟩ := Y.fin ks s' hJ hl ps h1 h2
  exact ⟨_, rfl, wpAny_pure ⟨_, rfl, z⟩⟩
end
end SrtL
set_option Elab.async false
set_option linter.all false
set_option maxRecDepth 100001
set_option maxHeartbeats 3999999
namespace LamX
open PySem PySem.Spec PyProof.Rows L2
/-! ### a lambda of one parameter -/
structure LamP (sc scope : Scope) (a : Str) : Prop where
  kind : scope.kind = .function
  co : scope.isCoroutine = false
  gen : scope.isGenerator = false
  par : scope.names.lookup a = some .local
  own : ∀ y ∈ scope.names, y.2 ≠ .cell ∧ (y.2 = .local → y.1 = a)
  free : ∀ y ∈ scope.names, y.2 = .free → sc.names.lookup y.1 = some .cell ∨ sc.names.lookup y.1 = some .free
def lamPB (sc scope : Scope) (a : Str) : Bool :=
  decide (scope.kind = .function) && !scope.isCoroutine && !scope.isGenerator && decide (scope.names.lookup a = some .local) && scope.names.all fun y => !decide (y.2 = .cell) && (!decide (y.2 = .local) || decide (y.1 = a)) && (!decide (y.2 = .free) || decide (sc.names.lookup y.1 = some .cell) || decide (sc.names.lookup y.1 = some .free))
theorem lamP_by {sc scope : Scope} {a : Str} (h : lamPB sc scope a = true) : LamP sc scope a := by
  unfold lamPB at h
  simp only [Bool.and_eq_true, Bool.or_eq_true, Bool.not_eq_true', decide_eq_true_eq, decide_eq_false_iff_not, List.all_eq_true] at h
  obtain ⟨⟨⟨⟨h1, h2⟩, h3⟩, h0⟩, h4⟩ := h
  refine ⟨h1, h2, h3, h0, fun y hy => ⟨(h4 y hy).1.1, fun e => ?_⟩, fun y hy e => ?_⟩
  · rcases (h4 y hy).1.2 with z | z
    · exact absurd e z
    · exact z
  · rcases (h4 y hy).2 with (z | z) | z
    · exact absurd e z
    · exact .inl z
    · exact .inr z
theorem LamP.has {X : Cx} {scope : Scope} {a : Str} (L : LamP X.env.scope scope a) (ok : X.Ok) : ∀ y ∈ scope.names, y.2 = .free → ∃ c, X.env.cells.lookup y.1 = some c := fun y hy e => by
  rcases L.free y hy e with k | k
  · exact ok.has _ (.inl k)
  · exact ok.has _ (.inr k)
section
variable {X : Cx} {pins : List (Addr × Obj)} {σ : L2.St} {H : Hp} {s : Shared}
theorem lam_start1 {A : Around} {E : XK} {scope : Scope} {a : Str} {i : Nat} {v : V} {u : Value} {f c' : Addr} {h₁ : Heap} {tk : Nat} (I : Inv X pins σ H s) (L : LamP X.env.scope scope a) (hA : A.frames = some X.stack) (hd : A.handled = none) (nd : X.N.Nodup) (hN : X.N[i]? = some a) (rv : RelV v u)
    (hns : h₁.Ns s.heap.objs.size fun y => ([(a, u)] : List (Str × Value)).reverse.lookup y) (kp : ∀ b o, s.heap.get? b = some o → h₁.get? b = some o) :
    Inv (lamCx X A X.stack s H E scope f c') [] (σ.set i (some v)) H { s with heap := h₁, toks := tk } := by
  have e0 := I.env0
  have hfree := L.has I.ok
  have cm : ∀ {y c}, (cloFrom X.env.cells scope.names []).lookup y = some c → X.env.cells.lookup y = some c := fun {y c} e => by
    rcases cloFrom_mem (PySem.mem_of_lookup e) with hm | ⟨h1, h2⟩
    · cases hm
    · obtain ⟨c1, hc⟩ := hfree _ h1 rfl
      have hc : X.env.cells.lookup y = some c1 := hc
      have e2 : c = c1 := by
        rw [h2, hc] <;> rfl
      rw [e2]
      exact hc
  have look : ∀ {y}, scope.names.lookup y = some .free → ∃ c, (cloFrom X.env.cells scope.names []).lookup y = some c := fun {y} hl => by
    have hy : (y, NameKind.free) ∈ scope.names := PySem.mem_of_lookup hl
    exact mem_lookup (cloFrom_has (cells := X.env.cells) (acc := []) hy)
  have cellK : ∀ {c : Addr} {v : Option Value}, s.heap.IsCell c v → h₁.IsCell c v := fun {c v} ⟨o, ho, hd⟩ => ⟨o, kp _ _ ho, hd⟩
  have noA : ∀ b : Addr, b ∉ (lamCx X A X.stack s H E scope f c').ex := fun b z => absurd (show b ∈ ([] : List Addr) from z) (by simp)
  refine ⟨⟨e0.mod, L.kind, rfl, rfl, Nat.le_refl _, fun y z c e1 e2 => I.ok.inj y z c (cm e1) (cm e2), fun y hy => ?_, fun y c z _ => ?_, fun _ => hd, Around.frames_deeper hA, .inr ⟨rfl, rfl⟩, fun b z => absurd z (noA b), e0.bs, e0.bsz, fun b _ _ => noA b,
      fun b z => absurd z (noA b), e0.funs, e0.frf⟩,
    rfl, e0.bare, Un.kept kp, ⟨_, hns, fun j y w e1 e2 e3 => ?_⟩, fun y c e => ?_, e0.hok.fresh (Nat.le_refl _), fun y c e => I.freeC y c (cm e), fun q hq => absurd (show q ∈ ([] : List (Addr × Obj)) ++ [] from hq) (by simp), e0.hok.kept kp, by rw [List.length_set]; exact I.len⟩
  · have hy : scope.names.lookup y = some .cell ∨ scope.names.lookup y = some .free := hy
    rcases hy with hy | hy
    · exact absurd rfl (L.own _ (PySem.mem_of_lookup hy)).1
    · exact look hy
  · have z : false = true := z
    cases z
  · have e1 : X.N[j]? = some y := e1
    by_cases ej : j = i
    · rw [ej] at e1 e2
      rw [hN] at e1
      cases e1
      have lt : i < σ.length := by rw [I.len]; exact (List.getElem?_eq_some_iff.mp hN).1
      rw [List.getElem?_set_self lt] at e2
      cases e2
      refine ⟨u, rv, .inl ⟨L.par, ?_⟩⟩
      simp [List.lookup]
    · rw [List.getElem?_set_ne (fun z => ej z.symm)] at e2
      have ya : y ≠ a := fun z => ej (nodup_ix nd (z ▸ e1) hN)
      have e3 : Vis scope y := e3
      rcases e3 with k | k | k
      · exact absurd ((L.own _ (PySem.mem_of_lookup k)).2 rfl) ya
      · exact absurd rfl (L.own _ (PySem.mem_of_lookup k)).1
      · obtain ⟨m, hn, hl⟩ := I.loc
        have hvis : Vis X.env.scope y := (L.free _ (PySem.mem_of_lookup k) rfl).elim (fun k => .inr (.inl k)) (fun k => .inr (.inr k))
        obtain ⟨w', r, q⟩ := hl j y w e1 e2 hvis
        obtain ⟨c2, h2⟩ := look k
        refine ⟨w', r, .inr ⟨.inr k, c2, h2, ?_⟩⟩
        have c1 := cm h2
        rcases q with ⟨k', _⟩ | ⟨_, c3, e', z⟩
        · have k' : X.env.scope.names.lookup y = some .local := k'
          rcases L.free _ (PySem.mem_of_lookup k) rfl with k2 | k2 <;> rw [show X.env.scope.names.lookup y = _ from k2] at k' <;> cases k'
        · rw [c1] at e'
          cases e'
          exact cellK z
  · obtain ⟨w', z⟩ := I.cell y c (cm e)
    exact ⟨w', cellK z⟩
/-- the lambda called with one value, in the def that made it -/
theorem lam_call1 {A : Around} {scope : Scope} {a : Str} {i k : Nat} {v : V} {u pm ctv : Value} {f c' : Addr} {params : Arguments} {body : Expr} {tb : TE} {Q : VK} (I : Inv X pins σ H s) (L : LamP X.env.scope scope a) (hA : A.frames = some X.stack) (hr : Room (k + 1) A) (nd : X.N.Nodup) (hN : X.N[i]? = some a) (rv : RelV v u)
    (hf : s.heap.get? f = some (PySem.W.kla_obj "<lambda>" (X.env.qual ++ "<lambda>") params body scope (cloFrom X.env.cells scope.names []) pm c' ctv)) (hc : H c' = some (CodeO c' (X.env.qual ++ "<lambda>")))
    (hbind : bindArgs (PySem.W.kla_fn "<lambda>" (X.env.qual ++ "<lambda>") params body scope (cloFrom X.env.cells scope.names []) pm (.ref c') ctv) ⟨[u], []⟩ = pure [(a, u)])
    (hbody : Room k (A.deeper (lamEnv X scope s.heap.objs.size f c')) → PE (lamCx X A X.stack s H C8.E0 scope f c') body tb) (ht : tb (σ.set i (some v)) H Q) :
    codeAny (model X.prog X.w) A (.call (.ref f) ⟨[u], []⟩) (CR (L2.CX X.prog X.w) X.stack X.prog X.w H s Q C8.E0) s := by
  obtain ⟨⟨oc, vs, t, hoc, hdc, hvc⟩, _, _⟩ := I.hok c' _ hc
  refine PySem.W.kla_callFunE hr.depth hf rfl L.co L.gen rfl ⟨c', oc, vs, t, rfl, hoc, hdc, hvc⟩ ?_
  rw [hbind]
  refine wpAny_pure (wpAny_newFunctionEnv (fun y hy => (L.own y hy).1) (fun y hy => ?_) (fun h₁ hns hsb => ⟨I.nolimit.fresh _ hsb, ?_⟩) L.kind)
  · rw [List.mem_singleton.mp hy]
    exact L.par
  show codeAny _ _ (.expr body (lamEnv X scope s.heap.objs.size f c')) _ _
  have kp : ∀ b o, s.heap.get? b = some o → h₁.get? b = some o := fun b o e => hsb.extBut b o (Nat.ne_of_lt (Heap.lt_size e)) (Heap.get?_push_of_some _ e)
  have J : Inv (lamCx X A X.stack s H C8.E0 scope f c') [] (σ.set i (some v)) H { s with heap := h₁, toks := s.toks + ([(a, u)] : List (Str × Value)).length } := lam_start1 I L hA hr.hd nd hN rv hns kp
  refine PySem.W.kla_codeExpr (wpAny_mono ((hbody (hr.deeper _)).run [] _ _ H Q J ht) (fun v s' hq => ?_) fun e s' hq => hq)
  obtain ⟨w', H', J', rv, q⟩ := hq
  exact ⟨w', H', J'.os, J'.bare, J'.base, J'.hok, rv, q⟩
end
end LamX
set_option Elab.async false
set_option linter.all false
set_option maxRecDepth 100001
set_option maxHeartbeats 3999999
namespace SrtL
open PySem PyProof.Rows Srt SrtO L2 LamX
/-! ### orders of keys -/
structure KeyOrd (α : Type) where
  lt : α → α → Bool
  enc : α → V
  dec : Value → α
  val : α → Value
  swo : Swo lt
  rel : ∀ k u, RelV (enc k) u → dec u = k
  back : ∀ k, dec (val k) = k
  sortable : ∀ {prog : Program} {w : World} {A : Around} {s : Shared} (us : List Value), (∀ u ∈ us, ∃ k, RelV (enc k) u) → 2 ≤ us.length →
    ∃ κ, (∀ (Q : SortKind → Shared → Prop) (E : Value → Shared → Prop), Q κ s → wpAny (model prog w) A (keyKind' us.toArray) Q E s) ∧ Cmp prog w A s κ (fun p => p.1 ∈ us) (lt2 fun x y => lt (dec x) (dec y))
theorem swo_dec {α β : Type} {lt : α → α → Bool} (O : Swo lt) (f : β → α) : Swo fun x y => lt (f x) (f y) := ⟨fun x y h => O.asym _ _ h, fun x y z h1 h2 => O.tr _ _ _ h1 h2⟩
def decI : Value → Int
  | .int i _ => i
  | _ => 0
def decS : Value → Str
  | .str z _ => z
  | _ => Str.empty
theorem ints_dec : ∀ {us : List Value}, (∀ u ∈ us, ∃ k, RelV (.int k) u) → IntsAre us (us.map decI)
  | [], _ => .nil
  | u :: us, h => by
    obtain ⟨k, t, e⟩ := h u List.mem_cons_self
    subst e
    exact .cons k t (ints_dec fun v hv => h v (List.mem_cons_of_mem _ hv))
def ordInt : KeyOrd Int where
  lt i j := decide (i < j)
  enc := .int
  dec := decI
  val i := .int i 0
  swo := ⟨fun x y h => by have := of_decide_eq_true h; exact decide_eq_false (by omega), fun x y z h1 h2 => by have := of_decide_eq_false h1; have := of_decide_eq_false h2; exact decide_eq_false (by omega)⟩
  rel k u h := by obtain ⟨t, rfl⟩ := h; rfl
  back k := rfl
  sortable us h h2 := by
    have hI := ints_dec h
    refine ⟨oneType', fun Q E hq => ?_, fun p q hm hm' => ?_⟩
    · match us, hI, h2 with
      | v1 :: v2 :: rest, hI, _ =>
        rw [keyKind_ints hI]
        exact wpAny_pure hq
      | [], _, h => exact absurd h (by decide)
      | [v], _, h => exact absurd h (by simp)
    · obtain ⟨a, t, e⟩ := h _ hm
      obtain ⟨b, u, e'⟩ := h _ hm'
      show wpAny _ _ (keyLt' oneType' p.1 q.1) (fun r s' => s' = _ ∧ r = decide (decI p.1 < decI q.1)) (fun _ _ => False) _
      rw [e, e', keyLt'_oneType]
      exact oneLt_int ⟨rfl, rfl⟩
theorem strs_dec : ∀ {us : List Value}, (∀ u ∈ us, ∃ k, RelV (.str k) u) → StrsAre us (us.map decS)
  | [], _ => .nil
  | u :: us, h => by
    obtain ⟨k, t, e⟩ := h u List.mem_cons_self
    subst e
    exact .cons k t (strs_dec fun v hv => h v (List.mem_cons_of_mem _ hv))
theorem swo_nats : Swo fun (a b : List Nat) => decide (a < b) := by
  refine ⟨fun x y h => ?_, fun x y z h1 h2 => ?_⟩
  · have h := of_decide_eq_true h
    exact decide_eq_false fun z => List.lt_irrefl x (List.lt_trans h z)
  · have h1 := List.not_lt.mp (of_decide_eq_false h1)
    have h2 := List.not_lt.mp (of_decide_eq_false h2)
    exact decide_eq_false (List.not_lt.mpr (List.le_trans h1 h2))
def ordStr : KeyOrd Str where
  lt a b := decide (a.cps.toList < b.cps.toList)
  enc := .str
  dec := decS
  val z := .str z 0
  swo := swo_dec swo_nats fun a : Str => a.cps.toList
  rel k u h := by obtain ⟨t, rfl⟩ := h; rfl
  back k := rfl
  sortable us h h2 := by
    have hI := strs_dec h
    refine ⟨oneType', fun Q E hq => ?_, fun p q hm hm' => ?_⟩
    · match us, hI, h2 with
      | v1 :: v2 :: rest, hI, _ =>
        rw [keyKind_strs hI]
        exact wpAny_pure hq
      | [], _, h => exact absurd h (by decide)
      | [v], _, h => exact absurd h (by simp)
    · obtain ⟨a, t, e⟩ := h _ hm
      obtain ⟨b, u, e'⟩ := h _ hm'
      show wpAny _ _ (keyLt' oneType' p.1 q.1) (fun r s' => s' = _ ∧ r = decide ((decS p.1).cps.toList < (decS q.1).cps.toList)) (fun _ _ => False) _
      rw [e, e', keyLt'_oneType]
      exact oneLt_str ⟨rfl, rfl⟩
end SrtL
set_option Elab.async false
set_option linter.all false
set_option maxRecDepth 100001
set_option maxHeartbeats 3999999
namespace SrtL
open PySem PyProof.Rows Srt SrtO L2 LamX
def bk (u : Value) : V := (absV u).getD .non
theorem bk_rel {x : V} {u : Value} (r : RelV x u) : bk u = x := by
  unfold bk
  rw [r.abs]
  rfl
section
variable {α : Type} (O : KeyOrd α) (g : V → α)
theorem zip_fact : ∀ {xs : List V} {vs ks : List Value}, Vals xs vs → Vals (xs.map fun x => O.enc (g x)) ks → (∀ p ∈ ks.zip vs, O.dec p.1 = g (bk p.2) ∧ RelV (bk p.2) p.2) ∧ (ks.zip vs).map (fun p => bk p.2) = xs
  | [], _, _, .nil, .nil => ⟨fun _ h => (by simp at h), rfl⟩
  | x :: xs, _, _, .cons r t, .cons r2 t2 => by
    obtain ⟨h1, h2⟩ := zip_fact t t2
    refine ⟨fun p hp => ?_, ?_⟩
    · rw [List.zip_cons_cons] at hp
      rcases List.mem_cons.mp hp with rfl | hp
      · rw [bk_rel r]
        exact ⟨O.rel _ _ r2, r⟩
      · exact h1 p hp
    · rw [List.zip_cons_cons, List.map_cons, h2]
      show bk _ :: xs = x :: xs
      rw [bk_rel r]
abbrev ltG (x y : V) : Bool := O.lt (g x) (g y)
abbrev ltD (x y : Value) : Bool := O.lt (O.dec x) (O.dec y)
theorem conv {xs : List V} {vs ks : List Value} {ps : List Keyed} (hv : Vals xs vs) (hk : Vals (xs.map fun x => O.enc (g x)) ks) (h1 : Srtd (lt2 (ltD O)) ps) (h2 : Stb (lt2 (ltD O)) ps (ks.zip vs)) :
    Vals (ps.map fun p => bk p.2) (ps.map (·.2)) ∧ Srtd (ltG O g) (ps.map fun p => bk p.2) ∧ Stb (ltG O g) (ps.map fun p => bk p.2) xs := by
  obtain ⟨f1, f2⟩ := zip_fact O g hv hk
  have mem : ∀ p ∈ ps, O.dec p.1 = g (bk p.2) ∧ RelV (bk p.2) p.2 := fun p hp => f1 p (h2.perm.mem_iff.mp hp)
  refine ⟨?_, ?_, ?_⟩
  · clear h1 h2
    induction ps with
    | nil => exact .nil
    | cons p ps ih => exact .cons (mem p List.mem_cons_self).2 (ih fun q hq => mem q (List.mem_cons_of_mem _ hq))
  · refine srtd_map (f := fun p : Keyed => bk p.2) (lt := ltG O g) ?_
    refine List.Pairwise.imp_of_mem (fun {p q} hp hq hr => ?_) h1
    show O.lt (g (bk q.2)) (g (bk p.2)) = false
    rw [← (mem p hp).1, ← (mem q hq).1]
    exact hr
  · have h3 : Stb (fun p q : Keyed => ltG O g (bk p.2) (bk q.2)) ps (ks.zip vs) := by
      refine ⟨h2.perm, fun x => ?_⟩
      have e : ∀ p : Keyed, O.dec p.1 = g (bk p.2) → eqv (fun p q : Keyed => ltG O g (bk p.2) (bk q.2)) x p = eqv (lt2 (ltD O)) (O.val (g (bk x.2)), x.2) p := by
        intro p hp
        show (!O.lt (g (bk x.2)) (g (bk p.2)) && !O.lt (g (bk p.2)) (g (bk x.2))) = (!O.lt (O.dec (O.val (g (bk x.2)))) (O.dec p.1) && !O.lt (O.dec p.1) (O.dec (O.val (g (bk x.2)))))
        rw [O.back, hp]
      rw [List.filter_congr fun p hp => e p (mem p hp).1, List.filter_congr fun p hp => e p (f1 p hp).1]
      exact h2.cls _
    have h4 := Stb.map (swo_dec O.swo g) (fun p : Keyed => bk p.2) h3
    rw [f2] at h4
    exact h4
end
/-- sorted(e, key=lambda x: tb): the keys are read at one and the same heap -/
def tSortLam {α : Type} (Tb : List (Addr × Str)) (K : PySem.W.Frag) (O : KeyOrd α) (i : Nat) (te tb : TE) : TE := fun σ H Q => te σ H fun x H1 => ∃ (a : Addr) (xs : List V) (g : V → α), x = .ref a ∧ SqL K H1 a xs ∧ Tabs Tb H1 ∧
  ∀ H2, ExtN H1 H2 → Tabs Tb H2 → SqL K H2 a xs ∧ (∀ v ∈ xs, tb (σ.set i (some v)) H2 fun kv H4 => kv = O.enc (g v) ∧ H4 = H2) ∧
    ∀ ys p, Srtd (ltG O g) ys → Stb (ltG O g) ys xs → H2 p = none → Q (.ref p) (upd H2 p (.lst ys))
section
variable {X : Cx} {pins : List (Addr × Obj)} {σ : L2.St} {H : Hp} {s : Shared}
theorem fp_keep {b : Addr} {o : Obj} {H' : Hp} {h' : Heap} (I : Inv X pins σ H s) (un : Un (frs X.stack) [] H H' s.heap h') (hn : H b = none) (hf : b ∉ frs X.stack) (hb : s.heap.get? b = some o) : h'.get? b = some o := un.keep b o hb hn hf (by simp)
theorem fp_nofr {b : Addr} (I : Inv X pins σ H s) (hf : FpOk X pins H b) : b ∉ frs X.stack := fun z => by
  rcases List.mem_cons.mp (I.stkSub _ z) with e | e
  · exact hf.2.1 e
  · exact hf.2.2.1 e
/-- the sorted list is known from now on -/
theorem inv_done {kS d : Addr} {ks out : List Value} {ys : List V} {ek e1 : Nat} (I : Inv X pins σ H s) (fk : FpOk X pins H kS) (fd : FpOk X pins H d) (ne : kS ≠ d) (hk : s.heap.get? kS = some (seqObj "list" ks.toArray ek)) (hd : s.heap.get? d = some (seqObj "list" #[] e1))
    (hl : ys.length ≤ sizeLine) (hv : Vals ys out) : Inv X pins σ (upd H d (.lst ys)) { s with heap := doneHeap s.heap kS d out.toArray } := by
  have s1 := Heap.SameBut.update s.heap kS (Obj.mapSeq fun _ => (#[] : Array Value))
  have nd1 : (s.heap.update kS (Obj.mapSeq fun _ => (#[] : Array Value))).get? d = some (seqObj "list" #[] e1) := (s1.2 d ne.symm).trans hd
  obtain ⟨e2, hd2⟩ : ∃ e2, (doneHeap s.heap kS d out.toArray).get? d = some (seqObj "list" out.toArray e2) := ⟨_, get?_update_seq nd1 fun _ => out.toArray⟩
  obtain ⟨e3, hk3⟩ : ∃ e3, (s.heap.update kS (Obj.mapSeq fun _ => (#[] : Array Value))).get? kS = some (seqObj "list" #[] e3) := ⟨_, get?_update_seq hk fun _ => #[]⟩
  have kp : ∀ b o, b ≠ kS → b ≠ d → s.heap.get? b = some o → (doneHeap s.heap kS d out.toArray).get? b = some o := fun b o h1 h2 e => by
    show ((s.heap.update kS (Obj.mapSeq fun _ => (#[] : Array Value))).update d _).get? b = _
    rw [Heap.get?_update_ne _ _ _ _ h2, Heap.get?_update_ne _ _ _ _ h1]
    exact e
  have nK : ∀ b u, H b = some u → b ≠ kS := fun b u e z => by rw [z, fk.1] at e; cases e
  have nD : ∀ b u, H b = some u → b ≠ d := fun b u e z => by rw [z, fd.1] at e; cases e
  have stay : ∀ b u, H b = some u → upd H d (.lst ys) b = some u := fun b u e => (upd_ne (nD b u e)).trans e
  refine I.step (g' := s.gens) (t' := s.toks) (d' := s.drawn) (ch := [kS, d]) (fun b hb => ?_) (fun b o _ _ hc e _ => kp b o (fun z => hc (by simp [z])) (fun z => hc (by simp [z])) e) (fun b o _ _ hc e _ => ⟨o.slots, kp b o (fun z => hc (by simp [z])) (fun z => hc (by simp [z])) e⟩)
    (fun b o hc _ n => (upd_ne (fun z => hc (by simp [z]))).trans n) (fun b o hc e => ⟨o, kp b o (fun z => hc (by simp [z])) (fun z => hc (by simp [z])) e⟩) (fun b xs e => stay _ _ e) (fun b o u e => stay _ _ e) (fun b ps e => ⟨#[], by rw [stay _ _ e]; simp⟩) (fun m hm => ?_) (fun b u e => ?_) I.bare
  · rcases List.mem_cons.mp hb with rfl | hb
    · exact ⟨fk.2.2.2.1, fk.2.1, fk.2.2.2.2.1, fk.2.2.2.2.2⟩
    · rw [List.mem_singleton.mp hb]
      exact ⟨fd.2.2.2.1, fd.2.1, fd.2.2.2.2.1, fd.2.2.2.2.2⟩
  · obtain ⟨o, es, ep, ho, r⟩ := hm
    exact ⟨o, es, ep, kp _ o (Ne.symm fk.2.1) (Ne.symm fd.2.1) ho, r⟩
  · by_cases hb : b = d
    · rw [hb, upd_same] at e
      cases e
      rw [hb]
      exact ⟨hl, out, e2, hv, hd2⟩
    · rw [upd_ne hb] at e
      refine (I.hok b u e).stay (fun c v hc q => ?_) (fun _ q => stay _ _ q) fun _ _ q => stay _ _ q
      rcases hc with z | z
      · rw [z] at q ⊢
        exact kp _ _ (nK b u e) hb q
      · exact kp _ _ (nK c _ z) (nD c _ z) q
end
end SrtL
set_option Elab.async false
set_option linter.all false
set_option maxRecDepth 100001
set_option maxHeartbeats 3999999
namespace SrtL
open PySem PyProof.Rows Srt SrtO L2 LamX
section
variable {X : Cx} {p lpos kpos pos : Pos} {e : Expr} {te tb : TE} {α : Type}
theorem frames2 (I : X.Ok) : X.A.in1.in1.frames = some X.stack := I.frames
theorem pe_sortLam (O : KeyOrd α) {Tb : List (Addr × Str)} {c T : Addr} {k i : Nat} {a : Str} {params : Arguments} {body : Expr} {scope : Scope} (hg : Gl X "sorted") (hm : X.mg "sorted" = none) (he : PE X e te) (TB : TabB X.base X.mg c T) (hmT : (T, X.env.qual ++ "<lambda>") ∈ Tb) (hu : ∀ p ∈ Tb, p.1 = T → p.2 = X.env.qual ++ "<lambda>")
    (hr : Room (k + 3) X.A) (L : LamP X.env.scope scope a) (nd : X.N.Nodup) (hN : X.N[i]? = some a)
    (hbody : ∀ (s : Shared) (H : Hp) (f c' : Addr), Room k (X.A.in1.in1.deeper (lamEnv X scope s.heap.objs.size f c')) → PE (lamCx X X.A.in1.in1 X.stack s H C8.E0 scope f c') body tb)
    (hcode : X.env.code = .ref c := by rfl) (hdef : defaultsOf params X.env = ([], []) := by rfl)
    (hbind : ∀ (q : Str) (cl : List (Str × Addr)) (pm cv ctv u : Value), bindArgs (PySem.W.kla_fn "<lambda>" q params body scope cl pm cv ctv) ⟨[u], []⟩ = pure [(a, u)] := by intros; rfl)
    (hs0 : starEach [e] X.env = (false, eval e X.env) :: starEach [] X.env := by rfl) (hs : backTo pos (starEach [e] X.env) = (false, eval e X.env) :: backTo pos (starEach [] X.env) := by rfl) (hpl : (backTo pos (starEach [e] X.env)).any (·.1) = false := by rfl) :
    PE X (.Call (.Name "sorted" p) [e] [⟨some "key", .Lambda params body scope lpos, kpos⟩] pos) (tSortLam Tb X.K O i te tb) := by
  refine ⟨fun pins s σ H Q I h => ?_⟩
  refine wpAny_Call_Name_kw (ld_blt (u := Value.builtin "sorted") I hg hm (by decide +kernel) ?_ (by decide) (by decide))
  refine PyProof.Rows.callWith_kw (thn ((pa_cons he pa_nil hs0).run pos pins s σ H (fun vs H1 => match vs with
    | [x] => ∃ (a : Addr) (xs : List V) (g : V → α), x = .ref a ∧ SqL X.K H1 a xs ∧ Tabs Tb H1 ∧
  ∀ H2, ExtN H1 H2 → Tabs Tb H2 → SqL X.K H2 a xs ∧ (∀ v ∈ xs, tb (σ.set i (some v)) H2 fun kv H4 => kv = O.enc (g v) ∧ H4 = H2) ∧
    ∀ ys p, Srtd (ltG O g) ys → Stb (ltG O g) ys xs → H2 p = none → Q (.ref p) (upd H2 p (.lst ys))
    | _ => False) I h) fun us s1 ⟨vs, H1, I1, r1, q1⟩ => ?_) hs hpl (by rfl) (by rfl)
  obtain ⟨x, rfl, u, rfl, rx, q1⟩ : ∃ x, vs = [x] ∧ ∃ u, us = [u] ∧ RelV x u ∧ ∃ (a : Addr) (xs : List V) (g : V → α), x = .ref a ∧ SqL X.K H1 a xs ∧ Tabs Tb H1 ∧
      ∀ H2, ExtN H1 H2 → Tabs Tb H2 → SqL X.K H2 a xs ∧ (∀ v ∈ xs, tb (σ.set i (some v)) H2 fun kv H4 => kv = O.enc (g v) ∧ H4 = H2) ∧
        ∀ ys p, Srtd (ltG O g) ys → Stb (ltG O g) ys xs → H2 p = none → Q (.ref p) (upd H2 p (.lst ys)) := by
    cases vs with
    | nil => exact q1.elim
    | cons x r =>
      cases r with
      | nil =>
        cases r1 with
        | cons rx t =>
          cases t
          exact ⟨x, rfl, _, rfl, rx, q1⟩
      | cons y r => exact q1.elim
  obtain ⟨l, xs, g, rfl, hl1, hT1, q1⟩ := q1
  obtain rfl : u = Value.ref l := rx
  show wpAny _ _ (evalAll ((do let v ← eval (.Lambda params body scope lpos) X.env; standAt pos; pure v) :: (backToKw pos (keywordEach [] X.env)).map (·.2))) _ _ s1
  refine wpAny_evalAll_cons (wpAny_bind (lam_make2 I1 TB hcode hmT hu hT1 hdef (L.has I1.ok) fun f c' pm ctv H2 s2 I2 e12 hT2 hf hfn hfr hc => wpAny_bind (wpAny_standAt (wpAny_pure ?_))))
  refine wpAny_evalAll_nil ?_
  show wpAny _ _ (call (.builtin "sorted") [.ref l] [(Str.ofString "key", .ref f)]) _ _ s2
  obtain ⟨hl2, hkey, hend⟩ := q1 H2 e12 hT2
  obtain ⟨its, rv, hil, hz⟩ := I2.list hl2
  refine sorted_ord (vs := its) (ltv := ltD O) (swo_dec O.swo O.dec) hil.isList (by rw [← rv.length]; exact hz) fun h1 d kS e1 hkp hd hkS gd gk nkd => ?_
  have fk : FpOk X pins H2 kS := I2.fpOk gk (I2.hok.fresh gk)
  have fd : FpOk X pins H2 d := I2.fpOk gd (I2.hok.fresh gd)
  have hroom : Room (k + 1) X.A.in1.in1 := (Room.in1 (Room.in1 hr))
  refine ⟨fun ks s' => Inv X pins σ H2 s' ∧ (∃ ek, s'.heap.get? kS = some (seqObj "list" ks.toArray ek)) ∧ s'.heap.get? d = some (seqObj "list" #[] e1) ∧ s'.heap.get? f = some (PySem.W.kla_obj "<lambda>" (X.env.qual ++ "<lambda>") params body scope (cloFrom X.env.cells scope.names []) pm c' ctv) ∧ Vals ((xs.take ks.length).map fun x => O.enc (g x)) ks,
    ⟨I2.kept (t' := s2.toks) hkp, ⟨0, hkS⟩, hd, hkp _ _ hf, by rw [List.length_nil, List.take_zero]; exact .nil⟩, ⟨fun ks s' h => ⟨h.2.1, h.2.2.1⟩, ?_, ?_, ?_⟩⟩
  · rintro ks u s' ⟨J, ⟨ek, jk⟩, jd, jf, jv⟩ hu2
    obtain ⟨x, hx, rx⟩ : ∃ x, xs[ks.length]? = some x ∧ RelV x u := by
      have lt : ks.length < xs.length := by rw [rv.length]; exact (List.getElem?_eq_some_iff.mp hu2).1
      obtain ⟨u', h1, h2⟩ := rv.get (List.getElem?_eq_getElem lt)
      rw [hu2] at h1
      cases h1
      exact ⟨_, List.getElem?_eq_getElem lt, h2⟩
    refine wpAny_call (codeAny_mono (lam_call1 (A := X.A.in1.in1) (i := i) (Q := fun kv H4 => kv = O.enc (g x) ∧ H4 = H2) J L J.ok.frames hroom nd hN rx jf hc (hbind _ _ _ _ _ _) (fun _ => hbody s' H2 f c' ‹_›) (hkey x (List.mem_of_getElem? hx))) fun r s'' hq => ?_)
    cases r with
    | error e =>
      obtain ⟨_, _, _, _, _, _, _, _, _, _, _, _, z⟩ := hq
      exact z
    | ok fl =>
      cases fl with
      | ret kv =>
        obtain ⟨v, H', os, bare, un, hok, rk, rfl, rfl⟩ := id hq
        obtain ⟨v2, H3, J2, _, _, rfl⟩ := J.after hq
        have kept : ∀ b o, H3 b = none → b ∉ frs X.stack → s'.heap.get? b = some o → s''.heap.get? b = some o := fun b o h1 h2 h3 => un.keep b o h3 h1 h2 (by simp)
        have jk2 := kept _ _ fk.1 (fp_nofr J fk) jk
        have jd2 := kept _ _ fd.1 (fp_nofr J fd) jd
        have jf2 := kept _ _ hfn hfr jf
        have sb := Heap.SameBut.update s''.heap kS (Obj.mapSeq (·.push kv))
        have kb : ∀ b o, b ≠ kS → s''.heap.get? b = some o → (s''.heap.update kS (Obj.mapSeq (·.push kv))).get? b = some o := fun b o hb e => (sb.2 b hb).trans e
        obtain ⟨c2, hc2⟩ : ∃ c2, (s''.heap.update kS (Obj.mapSeq (·.push kv))).get? kS = some (seqObj "list" (ks.toArray.push kv) c2) := ⟨_, get?_update_seq jk2 (·.push kv)⟩
        have nf : f ≠ kS := fun z => Nat.lt_irrefl _ (Nat.lt_of_lt_of_le (z ▸ Heap.lt_size hf) gk)
        refine ⟨⟨ek, jk2⟩, J2.turned (t' := s''.toks) kb fk.1 fk.2.1 fk.2.2.2.1 fk.2.2.2.2.1 fk.2.2.2.2.2, ⟨c2, by rw [hc2, List.push_toArray]⟩, kb _ _ nkd.symm jd2, kb _ _ nf jf2, ?_⟩
        have e1 : xs.take (ks ++ [kv]).length = xs.take ks.length ++ [x] := by
          rw [List.length_append, List.length_singleton, List.take_add_one, hx]
          rfl
        rw [e1, List.map_append]
        exact Paired.snoc jv rk
      | next => exact False.elim hq
      | brk => exact False.elim hq
      | cont => exact False.elim hq
  · rintro ks s' ⟨J, _, _, _, jv⟩ lk h2
    refine O.sortable ks (fun u hu => ?_) (by omega)
    obtain ⟨j, hj⟩ := List.mem_iff_getElem?.mp hu
    obtain ⟨lt, _⟩ := List.getElem?_eq_some_iff.mp hj
    have lt2 : j < ((xs.take ks.length).map fun x => O.enc (g x)).length := by rw [jv.length]; exact lt
    obtain ⟨u', h3, h4⟩ := jv.get (List.getElem?_eq_getElem lt2)
    rw [hj] at h3
    cases h3
    rw [List.getElem_map] at h4
    exact ⟨_, h4⟩
  · rintro ks s' ⟨J, ⟨ek, jk⟩, jd, _, jv⟩ lk ps h1 h2
    have lx : xs.length = ks.length := by rw [rv.length, lk]
    rw [← lx, List.take_length] at jv
    obtain ⟨y1, y2, y3⟩ := conv O g rv jv h1 h2
    refine ⟨rfl, .ref d, _, inv_done (ys := ps.map fun p => bk p.2) J fk fd nkd jk jd (by rw [y3.len]; exact hz) y1, rfl, hend _ d y2 y3 fd.1⟩
end
end SrtL
set_option Elab.async false
set_option linter.all false
set_option maxRecDepth 100001
set_option maxHeartbeats 1999999
/-! rules for texts: list(s), s * n, s[::-1], and for lists of ints: xs < ys. -/
namespace L2
open PySem.Spec PySem PyProof.Rows
def sgn (c : Nat) : V := .str ⟨#[c]⟩
def sgns (z : Str) : List V := z.cps.toList.map sgn
theorem vals_get : ∀ {xs : List V} {us : List Value}, xs.length = us.length → (∀ (j : Nat) x u, xs[j]? = some x → us[j]? = some u → RelV x u) → Vals xs us
  | [], [], _, _ => .nil
  | [], _ :: _, h, _ => by simp at h
  | _ :: _, [], h, _ => by simp at h
  | x :: xs, u :: us, h, k => .cons (k 0 x u rfl rfl) (vals_get (by simpa using h) fun j a b h1 h2 => k (j + 1) a b (by simpa using h1) (by simpa using h2))
section
variable {X : Cx}
/-- list(s) -/
theorem call_listS (hc : X.calm = true) : CallR X (.type "list") (fun xs H Q => ∃ z : Str, xs = [.str z] ∧ z.length ≤ sizeLine ∧ ∀ p, H p = none → Q (.ref p) (upd H p (.lst (sgns z)))) := by
  intro pins s σ H xs us Q I r h
  obtain ⟨z, rfl, hz, q⟩ := h
  obtain ⟨u, rfl, rx⟩ := vals1 r
  obtain ⟨t, rfl⟩ := rx
  refine PySem.call_list_str (I.ok.hd hc) z t (fun h' tk acc' c' hk hS hacc => ?_) hz
  refine ⟨.ref _, upd H s.heap.objs.size (.lst (sgns z)), I.laid (t' := tk) hk (Nat.le_refl _) ⟨?_, acc'.toList, c', ?_, by rw [hS]⟩, rfl, q _ (I.hok.fresh (Nat.le_refl _))⟩
  · unfold sgns
    rw [List.length_map, Array.length_toList]
    exact hz
  · refine vals_get ?_ fun j x u h1 h2 => ?_
    · unfold sgns
      rw [List.length_map, Array.length_toList, Array.length_toList, hacc.1]
    · unfold sgns at h1
      rw [List.getElem?_map] at h1
      rw [Array.getElem?_toList] at h2
      obtain ⟨c, t', hc', rfl⟩ := hacc.2 j u h2
      rw [Array.getElem?_toList, hc'] at h1
      cases h1
      exact ⟨t', rfl⟩
/-! ### xs < ys -/
theorem firstLt_map (e r : Nat → Bool) (fin : Bool) : ∀ l : List Nat, SeqAt.firstLt e r fin (l.map (· + 1)) = SeqAt.firstLt (fun j => e (j + 1)) (fun j => r (j + 1)) fin l
  | [] => rfl
  | j :: l => by
    rw [List.map_cons]
    unfold SeqAt.firstLt
    rw [firstLt_map e r fin l]
theorem firstLt_lex : ∀ ns ms : List Int, SeqAt.firstLt (fun j => ns.getD j 0 == ms.getD j 0) (fun j => decide (ns.getD j 0 < ms.getD j 0)) (decide (ns.length < ms.length)) (List.range (min ns.length ms.length)) = HT.lexLt ns ms
  | [], [] => rfl
  | [], y :: ys => by simp [SeqAt.firstLt, HT.lexLt]
  | x :: xs, [] => by simp [SeqAt.firstLt, HT.lexLt]
  | x :: xs, y :: ys => by
    have ih := firstLt_lex xs ys
    have e : List.range (min (x :: xs).length (y :: ys).length) = 0 :: (List.range (min xs.length ys.length)).map (· + 1) := by
      rw [List.length_cons, List.length_cons, Nat.succ_min_succ, List.range_succ_eq_map]
    rw [e, HT.lexLt_cons]
    show (if (x == y) = true then _ else decide (x < y)) = _
    by_cases c : x = y
    · rw [if_pos (by simpa using c), if_pos c, firstLt_map, ← ih]
      simp
    · rw [if_neg (by simpa using c), if_neg c]
theorem ints_get : ∀ {ns : List Int} {us : List Value}, Vals (ns.map V.int) us → ∀ (j : Nat) u, us[j]? = some u → ∃ t, u = .int (ns.getD j 0) t
  | [], _, .nil, j, u, h => by simp at h
  | n :: ns, _, .cons ⟨t, e⟩ r, 0, u, h => by
    simp at h
    subst h e
    exact ⟨t, rfl⟩
  | n :: ns, _, .cons _ r, j + 1, u, h => by
    obtain ⟨t, e⟩ := ints_get r j u (by simpa using h)
    exact ⟨t, by simpa using e⟩
def rLtLI (K : PySem.W.Frag) : R2 := fun x y H Q => ∃ a b ns ms, x = .ref a ∧ y = .ref b ∧ SqL K H a (ns.map V.int) ∧ SqL K H b (ms.map V.int) ∧ Q (.bl (HT.lexLt ns ms)) H
theorem op_ltLI (hu : X.A.units < cLine) : OpR X (compareOp .Lt) (rLtLI X.K) := by
  intro pins s σ H x y v u Q I rx ry h
  obtain ⟨a, b, ns, ms, rfl, rfl, ha, hb, q⟩ := h
  cases rx
  cases ry
  obtain ⟨its, r1, p1, _⟩ := I.list ha
  obtain ⟨its2, r2, p2, _⟩ := I.list hb
  have l1 : its.toArray.size = ns.length := by have := r1.length; simp at this ⊢; omega
  have l2 : its2.toArray.size = ms.length := by have := r2.length; simp at this ⊢; omega
  have g1 : ∀ j (h : j < its.toArray.size), ∃ t, its.toArray[j] = .int (ns.getD j 0) t := fun j h => ints_get r1 j _ (by simpa using (List.getElem?_eq_getElem (by simpa using h)))
  have g2 : ∀ j (h : j < its2.toArray.size), ∃ t, its2.toArray[j] = .int (ms.getD j 0) t := fun j h => ints_get r2 j _ (by simpa using (List.getElem?_eq_getElem (by simpa using h)))
  refine SeqAt.RcLt.lists (e := fun j => ns.getD j 0 == ms.getD j 0) (r := fun j => decide (ns.getD j 0 < ms.getD j 0)) p1.isList p2.isList hu (fun j h1 h2 => ?_) (fun j h1 h2 _ => ?_) X.prog X.w _ _ ?_
  · obtain ⟨t, e1⟩ := g1 j h1
    obtain ⟨t', e2⟩ := g2 j h2
    rw [e1, e2]
    exact SeqAt.EqAt.int_int _ _ _ _
  · obtain ⟨t, e1⟩ := g1 j h1
    obtain ⟨t', e2⟩ := g2 j h2
    rw [e1, e2]
    exact fun prog w E Q h => HT.rcLt_int _ _ _ _ _ _ prog w E Q h
  · rw [l1, l2, firstLt_lex]
    exact ⟨.bl _, H, I, rfl, q⟩
/-! ### s * n -/
def repS (z : Str) (k : Nat) : Str := ⟨((List.replicate k z.cps.toList).flatten).toArray⟩
theorem fold_rep (z : Array Nat) : ∀ (k : Nat) (a : Array Nat), ((List.replicate k z).foldl (· ++ ·) a) = a ++ ((List.replicate k z.toList).flatten).toArray
  | 0, a => by simp
  | k + 1, a => by
    rw [List.replicate_succ, List.foldl_cons, fold_rep z k, List.replicate_succ, List.flatten_cons]
    refine Array.ext' ?_
    simp
def rMulS : R2 := fun x y H Q => ∃ (z : Str) (k : Nat), x = .str z ∧ y = .int (k : Nat) ∧ 2 ≤ k ∧ k ≤ 1000 ∧ 1 ≤ z.length ∧ z.length ≤ 1000 ∧ Q (.str (repS z k)) H
theorem op_mulS : OpR X (binaryOp .Mult) rMulS := by
  intro pins s σ H x y v u Q I rx ry h
  obtain ⟨z, k, rfl, rfl, k2, k1, z1, z2, q⟩ := h
  obtain ⟨t, rfl⟩ := rx
  obtain ⟨t', rfl⟩ := ry
  have n1 : ¬ ((k : Nat) : Int) < 1 := by omega
  have n2 : (((k : Nat) : Int) == 1 || z.length == 0) = false := by
    simp
    omega
  refine P.mul_str (by simp; omega) (fun _ _ => ?_) (fun _ _ => ?_) ?_
  · have hk : (9007199254740 : Int) ≤ (2 ^ 63 - 1) / ((k : Nat) : Int) := by
      refine (Int.le_ediv_iff_mul_le (by omega)).mpr ?_
      have : (9007199254740 : Int) * ((k : Nat) : Int) ≤ 9007199254740 * 1000 := Int.mul_le_mul_of_nonneg_left (by omega) (by decide)
      have e : (9007199254740 : Int) * 1000 ≤ 2 ^ 63 - 1 := by decide
      omega
    omega
  · rw [Int.toNat_natCast]
    have : z.length * k ≤ 1000 * 1000 := Nat.mul_le_mul z2 k1
    exact decide_eq_false (Nat.not_lt.mpr (Nat.le_trans this (by decide)))
  · rw [if_neg n1, if_neg (by rw [n2]; decide), Int.toNat_natCast, fold_rep]
    have e : (#[] ++ ((List.replicate k z.cps.toList).flatten).toArray : Array Nat) = ((List.replicate k z.cps.toList).flatten).toArray := by simp
    rw [e]
    refine ⟨?_, .str (repS z k), H, I.tok _, ⟨_, rfl⟩, q⟩
    show (((List.replicate k z.cps.toList).flatten).toArray).size ≤ sizeLine
    rw [List.size_toArray, List.length_flatten, List.map_replicate, List.sum_replicate_nat, Array.length_toList]
    have : k * z.length ≤ 1000 * 1000 := Nat.mul_le_mul k1 z2
    exact Nat.le_trans this (by decide)
/-! ### s[::-1] -/
def revS (z : Str) : Str := ⟨z.cps.toList.reverse.toArray⟩
def tRevS (te : TE) : TE := fun σ H Q => te σ H fun x H1 => ∃ z : Str, x = .str z ∧ z.length ≤ sizeLine ∧ Q (.str (revS z)) H1
theorem pick_rev (z : Str) : (Builtin.Str.strSliceIndices none none (-1) z.length).filterMap (z.cps[·]?) = z.cps.toList.reverse := by
  show (sliceRange ((z.cps.size : Int) - 1) (-1) (-1)).filterMap (z.cps[·]?) = _
  rw [PySem.W.krv_sliceRange, PySem.W.krv_range, List.filterMap_reverse, PySem.W.krv_all]
theorem pe_revS {e : Expr} {te : TE} {k : Nat} {p1 p2 p3 pos : Pos} (he : PE X e te) : PE X (.Subscript e (.Slice none none (some (.UnaryOp .USub (.Constant (.int 1) k p1) p2)) p3) pos) (tRevS te) := by
  refine ⟨fun pins s σ H Q I h => ?_⟩
  refine Subscript_ (thn (he.run pins s σ H _ I h) fun v s1 ⟨x, H1, I1, r1, q1⟩ => ?_)
  obtain ⟨z, ex, hz, q⟩ := q1
  subst ex
  obtain ⟨t, rfl⟩ := r1
  have hst : PO X (some (.UnaryOp .USub (.Constant (.int 1) k p1) p2)) (tPart (tUn (rU fun i => .int (-i)) (tC (.int 1)))) := po_some (pe_un un_neg pe_int)
  refine wpAny_Slice (thn (po_none.run pins s1 σ H1 (fun o H2 => o = none ∧ H2 = H1) I1 ⟨rfl, rfl⟩) fun vl s2 ⟨l, H2, I2, pl, el, e2⟩ => ?_)
  subst el e2
  refine thn (po_none.run pins s2 σ H2 (fun o H3 => o = none ∧ H3 = H2) I2 ⟨rfl, rfl⟩) fun vu s3 ⟨u, H3, I3, pu, eu, e3⟩ => ?_
  subst eu e3
  refine thn (hst.run pins s3 σ H3 (fun o H4 => o = some (-1) ∧ H4 = H3) I3 ⟨1, rfl, -1, rfl, rfl, rfl⟩) fun vs s4 ⟨o, H4, I4, ps, eo, e4⟩ => ?_
  subst eo e4
  have I5 : Inv X pins σ H4 { s4 with heap := s4.heap.push { cls := .type "slice", data := .fields #[vl, vu, vs] } } := I4.kept (t' := s4.toks) fun b ob q => Heap.get?_push_of_some _ q
  obtain ⟨l0, rfl, e0⟩ := IsPart.raw pl
  obtain ⟨u0, rfl, e1⟩ := IsPart.raw pu
  obtain ⟨v0, rfl, e2⟩ := IsPart.raw ps
  have l0n : l0 = none := by cases l0 with | none => rfl | some _ => cases e0
  have u0n : u0 = none := by cases u0 with | none => rfl | some _ => cases e1
  subst l0n u0n
  obtain ⟨tk, rfl⟩ : ∃ tk, v0 = some (-1, tk) := by
    cases v0 with
    | none => cases e2
    | some p =>
      obtain ⟨a, b⟩ := p
      have : a = -1 := Option.some.inj e2
      exact ⟨b, by rw [this]⟩
  show wpAny (model X.prog X.w) X.A (subscriptTail e (.Slice none none (some (.UnaryOp .USub (.Constant (.int 1) k p1) p2)) p3) (.str z t) (.ref s4.heap.objs.size)) (EP X pins σ Q) X.xe _
  refine tail_any (ops := [.str z t, .ref s4.heap.objs.size]) (typeIs_str _ z t) F.slot_str_getitem.lookup ?_ (by with_unfolding_all rfl)
  refine wpAny_getItem_str_slice (l := none) (u := none) (st := some (-1, tk)) ⟨_, Heap.get?_push_size _ rfl, rfl, rfl⟩ rfl ?_
  show Made.post (if ((-1 : Int) == 1 && (Builtin.Str.strSliceIndices none none (-1) z.length).length == z.length) = true then Made.val (.str z t) else Made.str ⟨((Builtin.Str.strSliceIndices none none (-1) z.length).filterMap (z.cps[·]?)).toArray⟩) _ _
  rw [if_neg (by simp), pick_rev]
  refine ⟨?_, .str (revS z), H4, I5.tok _, ⟨_, rfl⟩, q⟩
  show (z.cps.toList.reverse.toArray).size ≤ sizeLine
  rw [List.size_toArray, List.length_reverse, Array.length_toList]
  exact hz
/-! ### sep.join(s), s a text -/
theorem mt_joinS (hc : X.calm = true) : MtR X "str.join" (fun x xs H Q => ∃ a z : Str, x = .str a ∧ xs = [.str z] ∧ JoinOk a (PyProof.Rows.signs z) = true ∧ Q (.str (Txt.join a (PyProof.Rows.signs z))) H) := by
  intro pins s σ H x xs v us Q I rx rs h
  obtain ⟨a, z, rfl, rfl, ok, q⟩ := h
  obtain ⟨t, rfl⟩ := rx
  obtain ⟨u, rfl, ru⟩ := vals1 rs
  obtain ⟨t', rfl⟩ := ru
  exact SC.joinStr (I.ok.hd hc) ok fun h' k t2 hk => ⟨.str _, H, I.kept (t' := k) hk, ⟨t2, rfl⟩, q⟩
end
end L2
set_option Elab.async false
set_option linter.all false
set_option maxRecDepth 100001
set_option maxHeartbeats 3999999
namespace K66
open PySem L2
def topS (i : Nat) : Stmt := PySem.Challenge.pw_wordvault_k66_kinds_of_damage.main.body.getD i (.Pass ⟨0, 0, 0, 0⟩)
abbrev sWhole : Stmt := topS 2
abbrev sBetween : Stmt := topS 3
abbrev sPen : Stmt := topS 17
abbrev sDraw : Stmt := topS 18
abbrev sPick : Stmt := topS 19
/-! what kinds of values are met -/
inductive Kn (H : Hp) : V → Prop where
  | non : Kn H .non
  | bl (b : Bool) : Kn H (.bl b)
  | int (i : Int) : Kn H (.int i)
  | str (x : Str) : Kn H (.str x)
  | lst {a : Addr} {xs : List V} (e : H a = some (.lst xs)) : Kn H (.ref a)
  | tup {a : Addr} {xs : List V} (e : H a = some (.tup xs)) : Kn H (.ref a)
theorem Kn.same {H H2 : Hp} {v : V} (k : Kn H v) (s : Same H H2) : Kn H2 v := by
  cases k with
  | non => exact .non
  | bl b => exact .bl b
  | int i => exact .int i
  | str x => exact .str x
  | lst e => exact .lst (s _ _ e)
  | tup e => exact .tup (s _ _ e)
def isI : V → Bool
  | .int _ => true
  | _ => false
def isB : V → Bool
  | .bl _ => true
  | _ => false
def isT (H : Hp) : V → Bool
  | .ref a => match H a with
    | some (.tup _) => true
    | _ => false
  | _ => false
def isL (H : Hp) : V → Bool
  | .ref a => match H a with
    | some (.lst _) => true
    | _ => false
  | _ => false
theorem isT_lst {H : Hp} {a : Addr} {xs : List V} (e : H a = some (.lst xs)) : isT H (.ref a) = false := by simp only [isT, e]
theorem isT_tup {H : Hp} {a : Addr} {xs : List V} (e : H a = some (.tup xs)) : isT H (.ref a) = true := by simp only [isT, e]
theorem isL_lst {H : Hp} {a : Addr} {xs : List V} (e : H a = some (.lst xs)) : isL H (.ref a) = true := by simp only [isL, e]
theorem isL_tup {H : Hp} {a : Addr} {xs : List V} (e : H a = some (.tup xs)) : isL H (.ref a) = false := by simp only [isL, e]
def KT (K : PySem.W.Frag) (t : String) (bi bb bt bl : Bool) : Prop := PySem.W.kitOne K (.type t) (.type "int") = some bi ∧ PySem.W.kitOne K (.type t) (.type "bool") = some bb ∧
    PySem.W.kitOne K (.type t) (.type "tuple") = some bt ∧ PySem.W.kitOne K (.type t) (.type "list") = some bl ∧ PySem.W.kitOne K (.type t) (.type "dict") = some false
theorem kt_of {K : PySem.W.Frag} {t : String} {bi bb bt bl : Bool} (h : kitB t "int" = some bi ∧ kitB t "bool" = some bb ∧ kitB t "tuple" = some bt ∧ kitB t "list" = some bl ∧ kitB t "dict" = some false) : KT K t bi bb bt bl := h
theorem kt_non {K : PySem.W.Frag} : KT K "NoneType" false false false false := kt_of (by decide +kernel)
theorem kt_bl {K : PySem.W.Frag} : KT K "bool" true true false false := kt_of (by decide +kernel)
theorem kt_int {K : PySem.W.Frag} : KT K "int" true false false false := kt_of (by decide +kernel)
theorem kt_str {K : PySem.W.Frag} : KT K "str" false false false false := kt_of (by decide +kernel)
theorem kt_lst {K : PySem.W.Frag} : KT K "list" false false false true := kt_of (by decide +kernel)
theorem kt_tup {K : PySem.W.Frag} : KT K "tuple" false false true false := kt_of (by decide +kernel)
/-- a known value's type, and what isinstance says of it -/
theorem Kn.kinds (K : PySem.W.Frag) {H : Hp} {v : V} (k : Kn H v) : ∃ t : String, TyX K H v (.type t) ∧ KT K t (isI v || isB v) (isB v) (isT H v) (isL H v) := by
  cases k with
  | non => exact ⟨_, .base .non, kt_non⟩
  | bl b => exact ⟨_, .base (.bl b), kt_bl⟩
  | int i => exact ⟨_, .base (.int i), kt_int⟩
  | str x => exact ⟨_, .base (.str x), kt_str⟩
  | lst e =>
    rw [isT_lst e, isL_lst e]
    exact ⟨_, .base (.lst e), kt_lst⟩
  | tup e =>
    rw [isT_tup e, isL_tup e]
    exact ⟨_, .base (.tup e), kt_tup⟩
def spWhole : Sp := fun vs H Q _ => ∃ v, vs = [v] ∧ Kn H v ∧ Q (.bl (isI v)) H
def btw : V → Int → Int → Bool
  | .int i, lo, hi => decide (lo ≤ i ∧ i ≤ hi)
  | _, _, _ => false
def spBetween : Sp := fun vs H Q _ => ∃ v lo hi, vs = [v, .int lo, .int hi] ∧ Kn H v ∧ Q (.bl (btw v lo hi)) H
/-- how many items a known tuple has -/
def isTn (H : Hp) (v : V) (n : Int) : Bool := match v with
  | .ref a => match H a with
    | some (.tup xs) => decide ((xs.length : Int) = n)
    | _ => false
  | _ => false
def spTupOf : Sp := fun vs H Q _ => ∃ v n, vs = [v, .int n] ∧ Kn H v ∧ Q (.bl (isTn H v n)) H
section
variable {P : Program} {w : World} {K : PySem.W.Frag} {mg : Str → Option Value} {base : Heap}
/-- a def of the top that may be called by its name; CX: what it may let out -/
structure Cal (CX : CXT) (P : Program) (w : World) (K : PySem.W.Frag) (mg : Str → Option Value) (base : Heap) (k : Nat) (x : Str) (sp : Sp) : Prop where
  ex : ∃ (f : Addr) (fd : FuncData) (ps : List Str), FnOk P w K mg base CX k f fd ps sp ∧ mg x = some (.ref f) ∧ PySem.W.keepIn K (.ref f) = true ∧ Binds K fd ps []
/-- a method of the class at C -/
structure Met (CX : CXT) (P : Program) (w : World) (K : PySem.W.Frag) (mg : Str → Option Value) (base : Heap) (k : Nat) (C : Addr) (m : Str) (sp : Sp) : Prop where
  ex : ∃ (f : Addr) (fd : FuncData) (ps : List Str), Cls K C ∧ Meth K C m f ∧ FnOk P w K mg base CX k f fd ps sp ∧ Binds K fd ps []
/-- a class that may be made by its name -/
structure Mak (CX : CXT) (P : Program) (w : World) (K : PySem.W.Frag) (mg : Str → Option Value) (base : Heap) (k : Nat) (x : Str) (C : Addr) (sp : Sp) : Prop where
  ex : ∃ (f : Addr) (fd : FuncData) (ps : List Str), Mk K C f ∧ FnOk P w K mg base CX k f fd ps sp ∧ mg x = some (.ref C) ∧ Binds K fd ps []
section
variable {X : Cx} {CX : CXT} {k j : Nat} {C : Addr} {x m : Str} {sp : Sp} {p pos apos : Pos} {e o : Expr} {es : List Expr} {ta : TE} {t : TA} {E : XK}
theorem pe_c (c : Cal CX X.prog X.w X.K X.mg X.base k x sp) (hr : Room j X.A) (hx : Passes CX X E) (ha : PA X (e :: es) t) (hk : k ≤ j := by decide) (hg : Gl X x := by rfl) (hdb : (x == ("__debug__" : Str)) = false := by decide)
    (he : starEach (e :: es) X.env = (false, eval e X.env) :: starEach es X.env := by rfl) (hpl : (backTo pos (starEach es X.env)).any (·.1) = false := by rfl) : PE X (.Call (.Name x p) (e :: es) [] pos) (tCall sp [] E t) := by
  obtain ⟨f, fd, ps, F, hm, kp, b⟩ := c.ex
  exact pe_call F (hr.mono hk) hg hm kp b .nil hx ha hdb he hpl
theorem pe_mt (c : Met CX X.prog X.w X.K X.mg X.base k C m sp) (hr : Room j X.A) (hx : Passes CX X E) (he : PE X o ta) (ha : PA X (e :: es) t) (hk : k ≤ j := by decide) {pl : Sem Bool}
    (hst : starEach (e :: es) X.env = (false, eval e X.env) :: starEach es X.env := by rfl) (hpl : (backTo pos (starEach es X.env)).any (·.1) = false := by rfl)
    (hc : eval (.Call (.Attribute o m apos) (e :: es) [] pos) X.env = (do
      let ov ← eval o X.env
      standAt apos.atName
      let (f, first) ← holding [ov] (getMethod ov m pl)
      callWith pos f first (backTo pos (starEach (e :: es) X.env)) (backToKw pos (keywordEach [] X.env))) := by rfl) :
    PE X (.Call (.Attribute o m apos) (e :: es) [] pos) (tMeth C m sp [] E ta t) := by
  obtain ⟨f, fd, ps, cc, hm, F, b⟩ := c.ex
  exact pe_meth he cc hm F (hr.mono hk) b .nil hx ha hst hpl hc
theorem pe_mt0 (c : Met CX X.prog X.w X.K X.mg X.base k C m sp) (hr : Room j X.A) (hx : Passes CX X E) (he : PE X o ta) (hk : k ≤ j := by decide) {pl : Sem Bool}
    (hc : eval (.Call (.Attribute o m apos) [] [] pos) X.env = (do
      let ov ← eval o X.env
      standAt apos.atName
      let (f, first) ← holding [ov] (getMethod ov m pl)
      callWith pos f first (backTo pos (starEach [] X.env)) (backToKw pos (keywordEach [] X.env))) := by rfl) :
    PE X (.Call (.Attribute o m apos) [] [] pos) (tMeth C m sp [] E ta tNil) := by
  obtain ⟨f, fd, ps, cc, hm, F, b⟩ := c.ex
  exact pe_meth0 he cc hm F (hr.mono hk) b .nil hx hc
theorem pe_mk (c : Mak CX X.prog X.w X.K X.mg X.base k x C sp) (hr : Room j X.A) (hx : Passes CX X E) (ha : PA X (e :: es) t) (hk : k + 1 ≤ j := by decide) (hg : Gl X x := by rfl) (hdb : (x == ("__debug__" : Str)) = false := by decide)
    (he : starEach (e :: es) X.env = (false, eval e X.env) :: starEach es X.env := by rfl) (hpl : (backTo pos (starEach es X.env)).any (·.1) = false := by rfl) : PE X (.Call (.Name x p) (e :: es) [] pos) (tMake C sp [] E t) := by
  obtain ⟨f, fd, ps, M, F, hm, b⟩ := c.ex
  exact pe_make M F (hr.mono hk) hg hm b .nil hx ha hdb he hpl
end
/-- the built-in names that the module leaves as they are -/
structure Bi (mg : Str → Option Value) : Prop where
  isi : mg "isinstance" = none
  int : mg "int" = none
  bool : mg "bool" = none
  tuple : mg "tuple" = none
  list : mg "list" = none
  dict : mg "dict" = none
  len : mg "len" = none
  enum : mg "enumerate" = none
  range : mg "range" = none
  abs : mg "abs" = none
  max : mg "max" = none
  min : mg "min" = none
section
variable {X : Cx}
theorem pe_isi {a : Expr} {es : List Expr} {t : TA} {p pos : Pos} (hm : X.mg "isinstance" = none) (ha : PA X (a :: es) t) (hg : Gl X "isinstance" := by rfl)
    (he : starEach (a :: es) X.env = (false, eval a X.env) :: starEach es X.env := by rfl) (hpl : (backTo pos (starEach es X.env)).any (·.1) = false := by rfl) :
    PE X (.Call (.Name "isinstance" p) (a :: es) [] pos) (tCB (rIsi X.K) t) := pe_callB call_isi hg hm PyProof.Rows.boot_isinstance ha (he := he) (hpl := hpl)
theorem pe_ty (n : String) {x : Str} {p : Pos} (hm : X.mg x = none) (hv : bootBuiltins x = some (.type n) := by decide +kernel) (hg : Gl X x := by rfl) (h1 : x ≠ "__name__" := by decide) (h2 : (x == ("__debug__" : Str)) = false := by decide) : PE X (.Name x p) (tC (.ty n)) :=
  pe_bltn (v := .ty n) hg hm hv rfl h1 h2
theorem pe_len {a : Expr} {es : List Expr} {t : TA} {p pos : Pos} (hm : X.mg "len" = none) (ha : PA X (a :: es) t) (hg : Gl X "len" := by rfl) (he : starEach (a :: es) X.env = (false, eval a X.env) :: starEach es X.env := by rfl)
    (hpl : (backTo pos (starEach es X.env)).any (·.1) = false := by rfl) :
    PE X (.Call (.Name "len" p) (a :: es) [] pos) (tCB (fun xs H Q => ∃ p ys, xs = [.ref p] ∧ (SqL X.K H p ys ∨ SqT X.K H p ys) ∧ Q (.int ys.length) H) t) := pe_callB call_len_seq hg hm PySem.boot_len ha (he := he) (hpl := hpl)
theorem pa1 {a : Expr} {ta : TE} (ha : PE X a ta) (hs : starEach (a :: []) X.env = (false, eval a X.env) :: starEach [] X.env := by rfl) : PA X [a] (tCons ta tNil) := pa_cons ha pa_nil hs
end
theorem scWhole : FnScope ["value"] ["value"] (defScope sWhole) := ⟨rfl, rfl, rfl, by decide +kernel, rfl, by decide +kernel, by decide +kernel⟩
theorem ok_whole {f : Addr} {fd : FuncData} (F : Fun K "is_whole" "is_whole" sWhole f fd) (B : Bi mg) : FnOk P w K mg base CX0 1 f fd ["value"] spWhole := by
  refine F.ok scWhole (fun vs H Q E h => ?_) (fun cdv A outer s H vs Q E hr h => ?_)
  · obtain ⟨v, rfl, _⟩ := h
    rfl
  · obtain ⟨v, rfl, k, q⟩ := h
    refine ⟨_, pss_one (ps_ret (pe_and (pe_isi B.isi (pa_cons (pv 0) (pa_cons (pe_ty "int" B.int) pa_nil))) (pe_one (pe_not (pe_isi B.isi (pa_cons (pv 0) (pa_cons (pe_ty "bool" B.bool) pa_nil))))))), ?_⟩
    obtain ⟨t, ty, k1, k2, _⟩ := k.kinds K
    refine ⟨v, rfl, v, _, _, _, _, rfl, .ty "int", ty, k1, _, rfl, ?_⟩
    cases v with
    | bl b => exact ⟨_, rfl, _, _, _, _, _, rfl, .ty "bool", ty, k2, _, rfl, q⟩
    | int i => exact ⟨_, rfl, _, _, _, _, _, rfl, .ty "bool", ty, k2, _, rfl, q⟩
    | _ => exact q
theorem scBetween : FnScope ["value", "low", "high"] ["value", "low", "high"] (defScope sBetween) := ⟨rfl, rfl, rfl, by decide +kernel, rfl, by decide +kernel, by decide +kernel⟩
theorem ok_between {f : Addr} {fd : FuncData} (F : Fun K "is_between" "is_between" sBetween f fd) (cW : Cal CX0 P w K mg base 1 "is_whole" spWhole) : FnOk P w K mg base CX0 2 f fd ["value", "low", "high"] spBetween := by
  refine F.ok scBetween (fun vs H Q E h => ?_) (fun cdv A outer s H vs Q E hr h => ?_)
  · obtain ⟨v, lo, hi, rfl, _⟩ := h
    rfl
  · obtain ⟨v, lo, hi, rfl, k, q⟩ := h
    refine ⟨_, pss_one (ps_ret (pe_and (pe_c cW hr pass0 (pa_cons (pv 0) pa_nil)) (pe_one (pe_chain op_le op_le (pv 1) (pv 0) (pv 2))))), ?_⟩
    refine ⟨v, rfl, v, rfl, k, _, rfl, ?_⟩
    cases v with
    | int i =>
      refine ⟨_, rfl, _, rfl, _, _, rfl, rfl, _, rfl, ?_⟩
      by_cases c : lo ≤ i
      · rw [decide_eq_true c]
        refine ⟨_, rfl, _, _, rfl, rfl, ?_⟩
        have e : decide (i ≤ hi) = btw (.int i) lo hi := by
          show decide (i ≤ hi) = decide (lo ≤ i ∧ i ≤ hi)
          exact decide_eq_decide.mpr ⟨fun h => ⟨c, h⟩, fun h => h.2⟩
        show Q (.bl (decide (i ≤ hi))) H
        rw [e]
        exact q
      · rw [decide_eq_false c]
        have e : false = btw (.int i) lo hi := (decide_eq_false fun h => c h.1).symm
        show Q (.bl false) H
        rw [e]
        exact q
    | _ => exact q
end
theorem Same.seqT {K : PySem.W.Frag} {H H' : Hp} {a : Addr} {xs : List V} (e : Same H H') (h : SqT K H a xs) : SqT K H' a xs := by
  rcases h with (h | ⟨o, h⟩) | h
  · exact .inl (.inl (e _ _ h))
  · exact .inl (.inr ⟨o, e _ _ h⟩)
  · exact .inr h
theorem same_new {H : Hp} {p : Addr} {o : HO} (n : H p = none) : Same H (upd H p o) := fun b u e => by
  rw [upd_ne (ne_of_none e n)]
  exact e
/-- a list or a tuple of these items -/
def Sq (K : PySem.W.Frag) (H : Hp) (a : Addr) (xs : List V) : Prop := SqL K H a xs ∨ SqT K H a xs
theorem Sq.same {K : PySem.W.Frag} {H H' : Hp} {a : Addr} {xs : List V} (q : Sq K H a xs) (e : Same H H') : Sq K H' a xs := q.imp (fun h => e.seq h) fun h => Same.seqT e h
section
variable {X : Cx} {tg e : Expr} {w1 w2 : TI}
/-- a list or a tuple, item by item -/
def iSqS (K : PySem.W.Frag) (te : TE) : TI := fun σ H R => te σ H fun x H1 => ∃ a xs, x = .ref a ∧ Sq K H1 a xs ∧ ∀ (J : It) (G : Hp → Prop), Walk J xs.length G (YAt xs) → (∀ H', Same H1 H' → G H') → R J H1
open PySem.Spec PyProof.Rows in
theorem pi_sq {te : TE} (he : PE X e te) : PI X tg e (iSqS X.K te) := by
  constructor
  intro pins s σ H R I h
  refine thn (he.run pins s σ H _ I h) fun u s1 hh => ?_
  obtain ⟨v, H1, I1, r1, a, xs, ev, sq, k⟩ := hh
  subst ev
  cases r1
  have near : ∀ b ∈ [s1.heap.objs.size], FpOk X pins H1 b := fun b hb => by
    rw [List.mem_singleton.mp hb]
    exact I1.fpOk (Nat.le_refl _) (I1.hok.fresh (Nat.le_refl _))
  have J1 : ∀ o : Obj, Inv X pins σ H1 { s1 with heap := s1.heap.push o } := fun o => I1.kept (t' := s1.toks) fun b u z => Heap.get?_push_of_some _ z
  rcases sq with hq | hq
  · obtain ⟨its, rv, p1, hz⟩ := I1.list hq
    exact wpAny_pyIter_list p1.isList ⟨s1.heap.objs.size, _, _, _, H1, rfl, J1 _, turn_list a _, ⟨_, Heap.get?_push_size _ rfl, rfl, rfl⟩, near, k _ _ walk_list fun H' z => z.seq hq⟩
  · obtain ⟨its, rv, p2, hz⟩ := I1.tuple hq
    exact wpAny_pyIter_tuple (show s1.heap.IsTuple a its.toArray from p2) ⟨s1.heap.objs.size, _, _, _, H1, rfl, J1 _, turn_tuple a _, ⟨_, Heap.get?_push_size _ rfl, rfl, rfl⟩, near, k _ _ walk_tup fun H' z => Same.seqT z hq⟩
end
/-! ### None or an int -/
def Num (v : V) : Prop := v = .non ∨ ∃ i, v = .int i
def dOf : V → PyData
  | .int i => .int i
  | .bl b => .bool b
  | .str x => .str x
  | _ => .none
theorem eqv_num {a b : V} (ha : Num a) (hb : Num b) : PyData.eqv (dOf a) (dOf b) = decide (a = b) := by
  rcases ha with rfl | ⟨i, rfl⟩ <;> rcases hb with rfl | ⟨j, rfl⟩
  · simp [dOf, PyData.eqv]
  · simp [dOf, PyData.eqv]
  · simp [dOf, PyData.eqv]
  · rw [dec_int]
    simp [dOf, PyData.eqv]
theorem eqvAll_num : ∀ {xs ys : List V}, (∀ v ∈ xs, Num v) → (∀ v ∈ ys, Num v) → PyData.eqvAll (xs.map dOf) (ys.map dOf) = decide (xs = ys)
  | [], [], _, _ => by simp [PyData.eqvAll]
  | [], _ :: _, _, _ => by simp [PyData.eqvAll]
  | _ :: _, [], _, _ => by simp [PyData.eqvAll]
  | x :: xs, y :: ys, hx, hy => by
    have ih := eqvAll_num (fun v m => hx v (List.mem_cons_of_mem _ m)) fun v m => hy v (List.mem_cons_of_mem _ m)
    have e : PyData.eqvAll ((x :: xs).map dOf) ((y :: ys).map dOf) = (PyData.eqv (dOf x) (dOf y) && PyData.eqvAll (xs.map dOf) (ys.map dOf)) := by simp only [List.map_cons, PyData.eqvAll]
    rw [e, ih, eqv_num (hx x List.mem_cons_self) (hy y List.mem_cons_self)]
    by_cases h1 : x = y
    · by_cases h2 : xs = ys
      · simp [h1, h2]
      · simp [h1, h2]
    · simp [h1]
theorem dp_num {K : PySem.W.Frag} {H : Hp} {v : V} (h : Num v) : Dp K H v (dOf v) := by
  rcases h with rfl | ⟨i, rfl⟩
  · exact .non
  · exact .int i
theorem dpAll_num {K : PySem.W.Frag} {H : Hp} : ∀ {xs : List V}, (∀ v ∈ xs, Num v) → DpAll K H xs (xs.map dOf)
  | [], _ => .nil
  | x :: xs, h => .cons (dp_num (h x List.mem_cons_self)) (dpAll_num fun v m => h v (List.mem_cons_of_mem _ m))
theorem lay_num : ∀ {xs : List V}, (∀ v ∈ xs, Num v) → PyData.canLayAll0 (xs.map dOf) = true
  | [], _ => by simp [PyData.canLayAll0]
  | x :: xs, h => by
    have ih := lay_num fun v m => h v (List.mem_cons_of_mem x m)
    rw [List.map_cons, PyData.canLayAll0, ih, Bool.and_true]
    rcases h x List.mem_cons_self with rfl | ⟨i, rfl⟩ <;> simp [dOf, PyData.canLay0]
theorem depth_num : ∀ {xs : List V}, (∀ v ∈ xs, Num v) → PyData.depthAll (xs.map dOf) ≤ 1
  | [], _ => by simp [PyData.depthAll]
  | x :: xs, h => by
    have ih := depth_num fun v m => h v (List.mem_cons_of_mem x m)
    simp only [List.map_cons, PyData.depthAll]
    rcases h x List.mem_cons_self with rfl | ⟨i, rfl⟩ <;> simp only [dOf, PyData.depth] <;> omega
theorem shL_num {xs : List V} (h : ∀ v ∈ xs, Num v) : SeqAt.shaped (.list (xs.map dOf)) = true := by
  have h1 := lay_num h
  have h2 := depth_num h
  show (PyData.canLay0 (.list (xs.map dOf)) && decide (PyData.depth (.list (xs.map dOf)) ≤ 64)) = true
  rw [Bool.and_eq_true]
  refine ⟨by simp only [PyData.canLay0]; exact h1, decide_eq_true ?_⟩
  simp only [PyData.depth]
  omega
theorem shT_num {xs : List V} (h : ∀ v ∈ xs, Num v) : SeqAt.shaped (.tuple (xs.map dOf)) = true := by
  have h1 := lay_num h
  have h2 := depth_num h
  show (PyData.canLay0 (.tuple (xs.map dOf)) && decide (PyData.depth (.tuple (xs.map dOf)) ≤ 64)) = true
  rw [Bool.and_eq_true]
  refine ⟨by simp only [PyData.canLay0]; exact h1, decide_eq_true ?_⟩
  simp only [PyData.depth]
  omega
/-- two lists, or two tuples, of None and ints -/
def rEqN (K : PySem.W.Frag) (neg : Bool) : R2 := fun x y H Q => ∃ a b xs ys, x = .ref a ∧ y = .ref b ∧ ((SqL K H a xs ∧ SqL K H b ys) ∨ (SqT K H a xs ∧ SqT K H b ys)) ∧ (∀ v ∈ xs, Num v) ∧ (∀ v ∈ ys, Num v) ∧ Q (.bl (if neg then !decide (xs = ys) else decide (xs = ys))) H
section
variable {X : Cx}
theorem op_eqN (hu : X.A.units + 64 < cLine) : OpR X (compareOp .Eq) (rEqN X.K false) := by
  intro pins s σ H x y v u Q I rx ry h
  obtain ⟨a, b, xs, ys, rfl, rfl, d, nx, ny, q⟩ := h
  rcases d with ⟨d1, d2⟩ | ⟨d1, d2⟩
  · refine op_eqD hu pins s σ H _ _ v u Q I rx ry ⟨.list (xs.map dOf), .list (ys.map dOf), .lst d1 (dpAll_num nx), .lst d2 (dpAll_num ny), shL_num nx, shL_num ny, ?_⟩
    rw [show PyData.eqv (.list (xs.map dOf)) (.list (ys.map dOf)) = decide (xs = ys) by rw [← eqvAll_num nx ny]; simp only [PyData.eqv]]
    exact q
  · refine op_eqD hu pins s σ H _ _ v u Q I rx ry ⟨.tuple (xs.map dOf), .tuple (ys.map dOf), .tup d1 (dpAll_num nx), .tup d2 (dpAll_num ny), shT_num nx, shT_num ny, ?_⟩
    rw [show PyData.eqv (.tuple (xs.map dOf)) (.tuple (ys.map dOf)) = decide (xs = ys) by rw [← eqvAll_num nx ny]; simp only [PyData.eqv]]
    exact q
theorem op_neN (hu : X.A.units + 64 < cLine) : OpR X (compareOp .NotEq) (rEqN X.K true) := by
  intro pins s σ H x y v u Q I rx ry h
  obtain ⟨a, b, xs, ys, rfl, rfl, d, nx, ny, q⟩ := h
  rcases d with ⟨d1, d2⟩ | ⟨d1, d2⟩
  · refine op_neD hu pins s σ H _ _ v u Q I rx ry ⟨.list (xs.map dOf), .list (ys.map dOf), .lst d1 (dpAll_num nx), .lst d2 (dpAll_num ny), shL_num nx, shL_num ny, ?_⟩
    rw [show PyData.eqv (.list (xs.map dOf)) (.list (ys.map dOf)) = decide (xs = ys) by rw [← eqvAll_num nx ny]; simp only [PyData.eqv]]
    exact q
  · refine op_neD hu pins s σ H _ _ v u Q I rx ry ⟨.tuple (xs.map dOf), .tuple (ys.map dOf), .tup d1 (dpAll_num nx), .tup d2 (dpAll_num ny), shT_num nx, shT_num ny, ?_⟩
    rw [show PyData.eqv (.tuple (xs.map dOf)) (.tuple (ys.map dOf)) = decide (xs = ys) by rw [← eqvAll_num nx ny]; simp only [PyData.eqv]]
    exact q
/-- x == y, x an instance of the class at C with an own __eq__ -/
def rOwnEq (K : PySem.W.Frag) (C : Addr) (sp : Sp) : R2 := fun x y H Q => ∃ a dx fs tb, x = .ref a ∧ H a = some (.ins C dx fs) ∧ TyX K H y tb ∧ PySem.W.notFirst K C tb = true ∧ sp [x, y] H (fun v H' => (∃ b, v = .bl b) ∧ Q v H') E0
theorem op_ownEq {CX : CXT} {n j : Nat} {C f : Addr} {fd : FuncData} {ps : List Str} {sp : Sp} (F : FnOk X.prog X.w X.K X.mg X.base CX n f fd ps sp) (hs : PySem.W.findIn X.K (.ref C) "__eq__" = some (some (.ref f))) (hf : PySem.W.isFn X.K (.ref f) = true) (hb : Binds X.K fd ps [])
    (hx : Passes CX X E0) (hr : Room j X.A) (hj : n ≤ j) : OpR X (compareOp .Eq) (rOwnEq X.K C sp) := by
  intro pins s σ H x y v u Q I rx ry h
  obtain ⟨a, dx, fs, tb, rfl, ha, ty, nf, h⟩ := h
  have hr := hr.mono hj
  cases (show v = Value.ref a from rx)
  obtain ⟨mA, J, _⟩ := ins_get I.hok ha
  obtain ⟨od, J, _⟩ := J.look
  obtain ⟨Pz, Z, p, _⟩ := kit_of I ry ty
  obtain ⟨m, hF⟩ := I.fr
  show wpAny (model X.prog X.w) X.A (richCompare .Eq (.ref a) u) (EP X pins σ Q) X.xe s
  have hu : X.A.units < cLine := by have := hr.un; omega
  refine PySem.W.cmp_K (op := .Eq) (tb := tb) hu hF I.ok.mod.kin J (Z.ty _ _ I.kIn p) nf hs hf ?_
  have hl := F.len _ _ _ _ h
  have r2 : Vals [V.ref a, y] [Value.ref a, u] := .cons rfl (.cons ry .nil)
  refine wpAny_call (codeAny_mono (F.run X.A X.stack s H ⟨[.ref a, u], []⟩ [.ref a, u] [.ref a, y] _ E0 hr I.env0 (by
    have := hb s [.ref a, u] I.kIn (by simpa using hl)
    simpa using this) r2 h) fun r s' hq => ?_)
  cases r with
  | error e => exact hx pins σ H s e s' I hq
  | ok fl =>
    cases fl with
    | ret w =>
      obtain ⟨z, H', I', rz, ⟨b, ez⟩, q⟩ := I.after hq
      subst ez
      cases rz
      exact ⟨.bl b, H', I', rfl, q⟩
    | next => exact False.elim hq
    | brk => exact False.elim hq
    | cont => exact False.elim hq
end
theorem kit_self {K : PySem.W.Frag} {C : Addr} : PySem.W.kitOne K (.ref C) (.ref C) = some true := by
  unfold PySem.W.kitOne
  rw [if_pos (by simp)]

theorem hu64 {A : Around} {k : Nat} (hr : Room k A) : A.units + 64 < cLine := by have := hr.un; omega
theorem hu65 {A : Around} {k : Nat} (hr : Room k A) : A.units + 65 < cLine := by have := hr.un; omega
theorem small2000 {n : Nat} (h : n ≤ 2100) : n < sizeLine := Nat.lt_of_le_of_lt h (by decide)
theorem small10 {n : Nat} (h : n ≤ 10000) : n < sizeLine := Nat.lt_of_le_of_lt h (by decide)
theorem num_kn {H : Hp} {v : V} (h : Num v) : Kn H v := by
  rcases h with rfl | ⟨i, rfl⟩
  · exact .non
  · exact .int i

section
variable {X : Cx} (K : PySem.W.Frag)
theorem pe_fldK (hK : X.K = K) {e : Expr} {ta : TE} {f : Str} {pos : Pos} (he : PE X e ta) (hb : attributeBase e f X.env (eval e X.env) = eval e X.env := by rfl) : PE X (.Attribute e f pos) (tFld K ta f) := by
  subst hK
  exact pe_fld he hb
theorem ix_tupK (hK : X.K = K) : IxR X (rIxT K) := by
  subst hK
  exact ix_tup
theorem ix_listK (hK : X.K = K) : IxR X (rIxL K) := by
  subst hK
  exact ix_list
end

theorem paired_last {α β : Type} {F : α → β → Prop} : ∀ {ts : List α} {ps : List β} {p : β}, Paired F ts (ps ++ [p]) → ∃ us v, ts = us ++ [v] ∧ Paired F us ps ∧ F v p
  | _, [], _, .cons h .nil => ⟨[], _, rfl, .nil, h⟩
  | _, _ :: _, _, .cons h t =>
    let ⟨us, v, e, q1, q2⟩ := paired_last t
    ⟨_ :: us, v, by rw [e]; rfl, .cons h q1, q2⟩
section
variable {X : Cx} {tg e : Expr}
/-- a list or a tuple, item by item; it stays where its own object does -/
def iSqA (K : PySem.W.Frag) (te : TE) : TI := fun σ H R => te σ H fun x H1 => ∃ a xs, x = .ref a ∧ Sq K H1 a xs ∧ ∀ (J : It) (G : Hp → Prop), Walk J xs.length G (YAt xs) → (∀ H', (∀ o, H1 a = some o → H' a = some o) → G H') → R J H1
theorem sqL_at {K : PySem.W.Frag} {H H' : Hp} {a : Addr} {xs : List V} (h : SqL K H a xs) (e : ∀ o, H a = some o → H' a = some o) : SqL K H' a xs := by
  rcases h with (h | ⟨o, h⟩) | h
  · exact .inl (.inl (e _ h))
  · exact .inl (.inr ⟨o, e _ h⟩)
  · exact .inr h
theorem sqT_at {K : PySem.W.Frag} {H H' : Hp} {a : Addr} {xs : List V} (h : SqT K H a xs) (e : ∀ o, H a = some o → H' a = some o) : SqT K H' a xs := by
  rcases h with (h | ⟨o, h⟩) | h
  · exact .inl (.inl (e _ h))
  · exact .inl (.inr ⟨o, e _ h⟩)
  · exact .inr h
open PySem.Spec PyProof.Rows in
theorem pi_sqA {te : TE} (he : PE X e te) : PI X tg e (iSqA X.K te) := by
  constructor
  intro pins s σ H R I h
  refine thn (he.run pins s σ H _ I h) fun u s1 hh => ?_
  obtain ⟨v, H1, I1, r1, a, xs, ev, sq, k⟩ := hh
  subst ev
  cases r1
  have near : ∀ b ∈ [s1.heap.objs.size], FpOk X pins H1 b := fun b hb => by
    rw [List.mem_singleton.mp hb]
    exact I1.fpOk (Nat.le_refl _) (I1.hok.fresh (Nat.le_refl _))
  have J1 : ∀ o : Obj, Inv X pins σ H1 { s1 with heap := s1.heap.push o } := fun o => I1.kept (t' := s1.toks) fun b u z => Heap.get?_push_of_some _ z
  rcases sq with hq | hq
  · obtain ⟨its, rv, p1, hz⟩ := I1.list hq
    exact wpAny_pyIter_list p1.isList ⟨s1.heap.objs.size, _, _, _, H1, rfl, J1 _, turn_list a _, ⟨_, Heap.get?_push_size _ rfl, rfl, rfl⟩, near, k _ _ walk_list fun H' z => sqL_at hq z⟩
  · obtain ⟨its, rv, p2, hz⟩ := I1.tuple hq
    exact wpAny_pyIter_tuple (show s1.heap.IsTuple a its.toArray from p2) ⟨s1.heap.objs.size, _, _, _, H1, rfl, J1 _, turn_tuple a _, ⟨_, Heap.get?_push_size _ rfl, rfl, rfl⟩, near, k _ _ walk_tup fun H' z => sqT_at hq z⟩
end

/-! ### the law's pen -/
def penK (cl : Addr) (k left : Int) : List (Key × V) := [(.inr "cells", .ref cl), (.inr "next", .int k), (.inr "left", .int left)]
theorem valV_eq {k : Key} {v : V} {r : List (Key × V)} : valV ((k, v) :: r) k = some v := by
  unfold valV
  rw [List.find?_cons_of_pos (by simp)]
  rfl
theorem valV_ne {k j : Key} {v : V} {r : List (Key × V)} (h : ¬ j = k) : valV ((j, v) :: r) k = valV r k := by
  unfold valV
  rw [List.find?_cons_of_neg (by simpa using h)]
theorem k12 : ¬ (Sum.inr ("cells" : Str) : Key) = Sum.inr ("next" : Str) := by decide +kernel
theorem k13 : ¬ (Sum.inr ("cells" : Str) : Key) = Sum.inr ("left" : Str) := by decide +kernel
theorem k23 : ¬ (Sum.inr ("next" : Str) : Key) = Sum.inr ("left" : Str) := by decide +kernel
theorem k32 : ¬ (Sum.inr ("left" : Str) : Key) = Sum.inr ("next" : Str) := by decide +kernel
theorem pen_cells (cl : Addr) (k l : Int) : valV (penK cl k l) (.inr "cells") = some (.ref cl) := valV_eq
theorem pen_opened (cl : Addr) (k l : Int) : valV (penK cl k l) (.inr "next") = some (.int k) := (valV_ne k12).trans valV_eq
theorem pen_left (cl : Addr) (k l : Int) : valV (penK cl k l) (.inr "left") = some (.int l) := (valV_ne k13).trans ((valV_ne k23).trans valV_eq)
theorem put_opened (cl : Addr) (k l j : Int) : putK (penK cl k l) (.inr "next") (.int j) = penK cl j l := by
  unfold putK penK
  rw [if_pos (by simp)]
  simp only [List.map_cons, List.map_nil, k12, k32, if_false, if_true]
theorem put_left (cl : Addr) (k l j : Int) : putK (penK cl k l) (.inr "left") (.int j) = penK cl k j := by
  unfold putK penK
  rw [if_pos (by simp)]
  simp only [List.map_cons, List.map_nil, k13, k23, if_false, if_true]
/-- at pn: the pen, at most b cells opened -/
def Pen (H : Hp) (pn cl : Addr) (b : Nat) : Prop := ∃ (k : Nat) (l : Int) (cs : List Int), H pn = some (.dK (penK cl (k : Nat) l)) ∧ H cl = some (.lst (cs.map V.int)) ∧ k ≤ b ∧ cs.length ≤ 63
/-- all but what is at pn is as it was -/
def But (pn : Addr) (H H' : Hp) : Prop := ∀ b o, b ≠ pn → H b = some o → H' b = some o
theorem But.refl {pn : Addr} {H : Hp} : But pn H H := fun _ _ _ h => h
theorem But.trans {pn : Addr} {H H1 H2 : Hp} (a : But pn H H1) (b : But pn H1 H2) : But pn H H2 := fun c o n h => b c o n (a c o n h)
def spDraw : Sp := fun vs H Q _ => ∃ (pn cl : Addr) (m : Int) (b : Nat), vs = [.ref pn, .int m] ∧ Pen H pn cl b ∧ b ≤ 1000000 ∧ 0 < m ∧ m < 1073741824 ∧ ∀ (r : Int) H', 0 ≤ r → r < m → But pn H H' → Pen H' pn cl (b + 1) → Q (.int r) H'
def spPen (K : PySem.W.Frag) : Sp := fun vs H Q _ => ∃ (a : Addr) (ns : List Int), vs = [.ref a] ∧ SqL K H a (ns.map V.int) ∧ ∀ pn cl H', H pn = none → H cl = none → Same H H' → Pen H' pn cl 0 → Q (.ref pn) H'
section
variable {P : Program} {w : World} {K : PySem.W.Frag} {mg : Str → Option Value} {base : Heap}
theorem scPen : FnScope ["_law_script"] ["_law_script"] (defScope sPen) := ⟨rfl, rfl, rfl, by decide +kernel, rfl, by decide +kernel, by decide +kernel⟩
theorem ok_pen {f : Addr} {fd : FuncData} (F : Fun K "_law_pen_of" "_law_pen_of" sPen f fd) (B : Bi mg) : FnOk P w K mg base CX0 1 f fd ["_law_script"] (spPen K) := by
  refine F.ok scPen (fun vs H Q E h => ?_) (fun cdv A outer s H vs Q E hr h => ?_)
  · obtain ⟨a, ns, rfl, _⟩ := h
    rfl
  · obtain ⟨a, ns, rfl, hs, q⟩ := h
    refine ⟨_, pss_one (ps_ret (pe_disp (pps_cons pe_str (pe_callTy call_list_of rfl B.list (by decide +kernel) (pa_cons (pe_slice sl_list (pv 0) po_none (po_some pe_int)) pa_nil)) (pps_cons pe_str pe_int (pps_cons pe_str pe_int pps_nil))) rfl rfl (by simp) (by decide))), ?_⟩
    intro p np
    have hs2 := (same_new (o := .dK []) np).seq hs
    refine ⟨_, rfl, 63, rfl, a, _, rfl, hs2, fun c nc => ⟨c, _, rfl, .inl (SqL.of upd_same), fun l nl => ?_⟩⟩
    have npl : p ≠ l := ne_of_none ((upd_ne (ne_of_none upd_same nc)).trans upd_same) nl
    have npc : p ≠ c := ne_of_none upd_same nc
    have ec : cutV (ns.map V.int) none (some 63) = (ns.take 63).map V.int := by
      unfold cutV
      rw [show ((63 : Int)) = ((63 : Nat) : Int) from rfl, HT.sIx_nat, HT.sIx_none, List.drop_zero, Nat.sub_zero, List.length_map, ← List.map_take]
      congr 1
      by_cases c : 63 ≤ ns.length
      · rw [Nat.min_eq_left c]
      · rw [Nat.min_eq_right (by omega), List.take_of_length_le (Nat.le_refl _), List.take_of_length_le (by omega)]
    refine ⟨(upd_ne npl).trans ((upd_ne npc).trans upd_same), [(.inr "cells", .ref l), (.inr "next", .int 0), (.inr "left", .int 0)], rfl, (by show 3 ≤ 15; decide), ?_⟩
    have em : mergeK [] [((.inr ("cells" : Str) : Key), V.ref l), (.inr ("next" : Str), .int 0), (.inr ("left" : Str), .int 0)] = penK l ((0 : Nat) : Int) 0 := by
      unfold mergeK penK
      simp only [List.foldl_cons, List.foldl_nil]
      have h1 : valV ([(.inr ("cells" : Str), V.ref l)] : List (Key × V)) (.inr ("next" : Str)) = none := (valV_ne k12).trans rfl
      have h2 : valV ([(.inr ("cells" : Str), V.ref l), (.inr ("next" : Str), V.int 0)] : List (Key × V)) (.inr ("left" : Str)) = none := (valV_ne k13).trans ((valV_ne k23).trans rfl)
      rw [show putK ([] : List (Key × V)) (.inr ("cells" : Str)) (.ref l) = [(.inr ("cells" : Str), .ref l)] from rfl, putK_new _ h1]
      simp only [List.cons_append, List.nil_append]
      rw [putK_new _ h2]
      rfl
    rw [em]
    have nl0 : H l = none := by
      cases z : H l with
      | none => rfl
      | some o =>
        have z1 : upd H p (.dK []) l = some o := (upd_ne (ne_of_none z np)).trans z
        rw [(upd_ne (ne_of_none z1 nc)).trans z1] at nl
        cases nl
    refine q p l _ np nl0 (fun b o z => ?_) ⟨0, 0, ns.take 63, upd_same, ?_, Nat.le_refl _, by rw [List.length_take]; omega⟩
    · have nb : b ≠ p := ne_of_none z np
      have z1 : upd H p (.dK []) b = some o := (upd_ne nb).trans z
      have nc2 : b ≠ c := ne_of_none z1 nc
      have z2 : upd (upd H p (.dK [])) c (.lst (cutV (ns.map V.int) none (some 63))) b = some o := (upd_ne nc2).trans z1
      rw [upd_ne nb, upd_ne (ne_of_none z2 nl)]
      exact z2
    · rw [upd_ne (Ne.symm npl), upd_same, ec]
theorem getL {H : Hp} {pn cl : Addr} {k l : Int} (hp : H pn = some (.dK (penK cl k l))) : DGet H pn (.str "left") (some (.int l)) := by
  have z := DGet.k (k := .inr ("left" : Str)) hp
  rw [pen_left] at z
  exact z
theorem getO {H : Hp} {pn cl : Addr} {k l : Int} (hp : H pn = some (.dK (penK cl k l))) : DGet H pn (.str "next") (some (.int k)) := by
  have z := DGet.k (k := .inr ("next" : Str)) hp
  rw [pen_opened] at z
  exact z
theorem getC {H : Hp} {pn cl : Addr} {k l : Int} (hp : H pn = some (.dK (penK cl k l))) : DGet H pn (.str "cells") (some (.ref cl)) := by
  have z := DGet.k (k := .inr ("cells" : Str)) hp
  rw [pen_cells] at z
  exact z
theorem putL {H : Hp} {pn cl : Addr} {k l : Int} (j : Int) (hp : H pn = some (.dK (penK cl k l))) : DPut H pn (.str "left") (.int j) (upd H pn (.dK (penK cl k j))) := by
  have z := DPut.k (k := .inr ("left" : Str)) (v := .int j) hp (by show 3 < sizeLine; decide)
  rw [put_left] at z
  exact z
theorem putO' {H : Hp} {pn cl : Addr} {k l : Int} (j : Int) (hp : H pn = some (.dK (penK cl k l))) : DPut H pn (.str "next") (.int j) (upd H pn (.dK (penK cl j l))) := by
  have z := DPut.k (k := .inr ("next" : Str)) (v := .int j) hp (by show 3 < sizeLine; decide)
  rw [put_opened] at z
  exact z
theorem scDraw : FnScope ["_law_pen", "_law_many", "_law_digit", "_law_index", "_law_size", "_law_cell", "_law_mixed"] ["_law_pen", "_law_many"] (defScope sDraw) := ⟨rfl, rfl, rfl, by decide +kernel, rfl, by decide +kernel, by decide +kernel⟩
theorem mix_lt (x : Int) {m : Int} (h : 0 < m) : 0 ≤ x % m ∧ x % m < m := ⟨Int.emod_nonneg _ (by omega), Int.emod_lt_of_pos _ h⟩
section
variable {X : Cx}
theorem pe_int1 {a : Expr} {es : List Expr} {t : TA} {p pos : Pos} (hm : X.mg "int" = none) (ha : PA X (a :: es) t) (hg : Gl X "int" := by rfl) (he : starEach (a :: es) X.env = (false, eval a X.env) :: starEach es X.env := by rfl)
    (hpl : (backTo pos (starEach es X.env)).any (·.1) = false := by rfl) : PE X (.Call (.Name "int" p) (a :: es) [] pos) (tCB (fun xs H Q => (∃ i, xs = [.int i] ∧ Q (.int i) H) ∨ ∃ k, xs = [.bl k] ∧ Q (.int (if k then 1 else 0)) H) t) :=
  pe_callTy call_int1 hg hm (by decide +kernel) ha (he := he) (hpl := hpl)
theorem pe_abs {a : Expr} {es : List Expr} {t : TA} {p pos : Pos} (hm : X.mg "abs" = none) (ha : PA X (a :: es) t) (hg : Gl X "abs" := by rfl) (he : starEach (a :: es) X.env = (false, eval a X.env) :: starEach es X.env := by rfl)
    (hpl : (backTo pos (starEach es X.env)).any (·.1) = false := by rfl) : PE X (.Call (.Name "abs" p) (a :: es) [] pos) (tCB (fun xs H Q => ∃ i, xs = [.int i] ∧ Q (.int (if i < 0 then -i else i)) H) t) :=
  pe_callB call_abs hg hm (by decide +kernel) ha (he := he) (hpl := hpl)
end
theorem ok_draw {f : Addr} {fd : FuncData} (F : Fun K "_law_draw" "_law_draw" sDraw f fd) (B : Bi mg) : FnOk P w K mg base CX0 1 f fd ["_law_pen", "_law_many"] spDraw := by
  refine F.ok scDraw (fun vs H Q E h => ?_) (fun cdv A outer s H vs Q E hr h => ?_)
  · obtain ⟨pn, cl, m, b, rfl, _⟩ := h
    rfl
  · obtain ⟨pn, cl, m, b, rfl, ⟨k, l, cs, hp, hc, hk, lc⟩, hb, m0, m1, q⟩ := h
    refine ⟨_, pss_cons (ps_if (pt_cmpR op_gt (pe_dget (hu_of hr) (pv 0) pe_str (fun _ _ => rfl)) pe_int (nomark _))
        (pss_cons (ps_set (i := 2) scDraw.nd rfl (Or.inl rfl) (pe_op op_mod (pe_int1 B.int (pa_cons (pe_dget (hu_of hr) (pv 0) pe_str (fun _ _ => rfl)) pa_nil)) (pv 1)))
        (pss_cons (ps_dput (hu_of hr) (pv 0) pe_str (pe_op op_fdiv (pe_dget (hu_of hr) (pv 0) pe_str (fun _ _ => rfl)) (pv 1)) rfl) (pss_one (ps_ret (pv 2))))) pss_nil)
      (pss_cons (ps_par (i := 3) (j := 4) rfl scDraw.nd rfl rfl (by decide) rfl rfl (pa_cons (pe_dget (hu_of hr) (pv 0) pe_str (fun _ _ => rfl)) (pa_cons (pe_len B.len (pa_cons (pe_dget (hu_of hr) (pv 0) pe_str (fun _ _ => rfl)) pa_nil)) pa_nil)) rfl)
      (pss_cons (ps_dput (hu_of hr) (pv 0) pe_str (pe_op op_add (pv 3) pe_int) rfl)
      (pss_cons (ps_if (pt_cmpR op_eq (pv 4) pe_int (nomark _)) (pss_one (ps_ret (pe_op op_mod (pe_int1 B.int (pa_cons (pe_op op_add (pe_op op_mul pe_int (pv 3)) pe_int) pa_nil)) (pv 1)))) pss_nil)
      (pss_cons (ps_set (i := 5) scDraw.nd rfl (Or.inl rfl) (pe_ix ix_list (pe_dget (hu_of hr) (pv 0) pe_str (fun _ _ => rfl)) (pe_op op_mod (pe_int1 B.int (pa_cons (pv 3) pa_nil)) (pv 4)) (fun _ _ => rfl)))
      (pss_cons (ps_if (PW.pt (pw_and (pt_cmpR op_lt (pv 3) (pv 4) (nomark _)) (pw_and1 (pt_cmpR op_ge (pe_abs B.abs (pa_cons (pv 5) pa_nil)) (pe_op op_pow pe_int pe_int) (nomark _)))))
        (pss_cons (ps_dput (hu_of hr) (pv 0) pe_str (pe_op op_fdiv (pe_op op_sub (pe_abs B.abs (pa_cons (pv 5) pa_nil)) (pe_op op_pow pe_int pe_int)) (pv 1)) rfl)
        (pss_one (ps_ret (pe_op op_mod (pe_int1 B.int (pa_cons (pe_op op_sub (pe_abs B.abs (pa_cons (pv 5) pa_nil)) (pe_op op_pow pe_int pe_int)) pa_nil)) (pv 1))))) pss_nil)
      (pss_cons (ps_set (i := 6) scDraw.nd rfl (Or.inl rfl) (pe_op op_add (pe_op op_mul (pe_op op_mod (pe_int1 B.int (pa_cons (pv 5) pa_nil)) pe_int) pe_int) (pe_op op_mul (pe_op op_mul pe_int (pv 3)) (pv 3))))
      (pss_cons (ps_set (i := 6) scDraw.nd rfl (Or.inl rfl) (pe_op op_mod (pe_int1 B.int (pa_cons (pe_op op_add (pe_op op_add (pv 6) (pe_op op_mul pe_int (pv 3))) pe_int) pa_nil)) pe_int))
      (pss_cons (ps_set (i := 6) scDraw.nd rfl (Or.inl rfl) (pe_op op_mod (pe_int1 B.int (pa_cons (pe_op op_add (pe_op op_add (pe_op op_add (pe_op op_mul (pv 6) (pv 6)) (pe_op op_mul pe_int (pv 6))) (pe_op op_mul pe_int (pv 3))) pe_int) pa_nil)) pe_int))
      (pss_one (ps_ret (pe_op op_mod (pe_int1 B.int (pa_cons (pe_op op_fdiv (pe_op op_mod (pe_int1 B.int (pa_cons (pe_op op_mul (pv 6) (pe_op op_add (pv 6) pe_int)) pa_nil)) pe_int) pe_int) pa_nil)) (pv 1)))))))))))), ?_⟩
    have ncp : cl ≠ pn := ne_of hc hp (fun z => by cases z)
    refine ⟨_, rfl, pn, _, rfl, getL hp, _, _, rfl, rfl, _, rfl, ?_⟩
    refine ite2 (fun _ => ?_) fun _ => ?_
    · refine ⟨_, rfl, pn, _, rfl, getL hp, .inl ⟨_, rfl, _, rfl, _, _, rfl, rfl, m0, ?_⟩⟩
      refine ⟨_, rfl, pn, _, rfl, getL hp, _, rfl, _, _, rfl, rfl, ⟨m0, m1⟩, _, rfl, pn, _, rfl, putL _ hp, ?_⟩
      exact ⟨_, rfl, q _ _ (mix_lt _ m0).1 (mix_lt _ m0).2 (fun c o n z => (upd_ne n).trans z) ⟨k, _, cs, upd_same, (upd_ne ncp).trans hc, Nat.le_succ_of_le hk, lc⟩⟩
    · refine ⟨_, rfl, pn, _, rfl, getO hp, _, rfl, pn, _, rfl, getC hp, cl, _, rfl, .inl (SqL.of hc), _, _, rfl, ?_⟩
      refine ⟨_, rfl, _, _, rfl, rfl, _, rfl, pn, _, rfl, putO' _ hp, ?_⟩
      have ek : ((k : Nat) : Int) + 1 = ((k + 1 : Nat) : Int) := by omega
      rw [ek]
      generalize eH2 : upd H pn (.dK (penK cl ((k + 1 : Nat) : Int) l)) = H3
      have hp3 : H3 pn = some (.dK (penK cl ((k + 1 : Nat) : Int) l)) := by rw [← eH2]; exact upd_same
      have hc3 : H3 cl = some (.lst (cs.map V.int)) := by rw [← eH2]; exact (upd_ne ncp).trans hc
      have e3 : But pn H H3 := fun c o n z => by rw [← eH2]; exact (upd_ne n).trans z
      have fin : ∀ (r : Int) (H4 : Hp) (l2 : Int), 0 ≤ r → r < m → H4 = H3 ∨ H4 = upd H3 pn (.dK (penK cl ((k + 1 : Nat) : Int) l2)) → Q (.int r) H4 := fun r H4 l2 r0 r1 e4 => by
        rcases e4 with rfl | rfl
        · exact q r _ r0 r1 e3 ⟨k + 1, l, cs, hp3, hc3, Nat.succ_le_succ hk, lc⟩
        · exact q r _ r0 r1 (fun c o n z => (upd_ne n).trans (e3 c o n z)) ⟨k + 1, l2, cs, upd_same, (upd_ne ncp).trans hc3, Nat.succ_le_succ hk, lc⟩
      refine ⟨_, rfl, rfl, _, rfl, ?_⟩
      refine ite2 (fun c => ?_) fun c => ?_
      · refine ⟨_, rfl, _, _, rfl, rfl, .inl ⟨by decide, by decide⟩, ?_⟩
        refine ⟨_, _, rfl, rfl, .inl ⟨_, rfl, _, rfl, _, _, rfl, rfl, m0, ?_⟩⟩
        exact fin _ _ 0 (mix_lt _ m0).1 (mix_lt _ m0).2 (.inl rfl)
      have cne : cs ≠ [] := fun z => by
        rw [z] at c
        exact c (by decide)
      have lpos : 0 < cs.length := List.length_pos_iff.mpr cne
      refine ⟨_, rfl, pn, _, rfl, getC hp3, _, rfl, .inl ⟨_, rfl, _, rfl, _, _, rfl, rfl, (by rw [List.length_map]; omega), cl, _, _, .int (cs[k % cs.length]'(Nat.mod_lt _ lpos)), rfl, rfl, SqL.of hc3, ?_, ?_⟩⟩
      · rw [List.length_map]
        have em : ((k : Nat) : Int) % ((cs.length : Nat) : Int) = ((k % cs.length : Nat) : Int) := by omega
        rw [em]
        refine atI_nat ?_
        rw [List.getElem?_map, List.getElem?_eq_getElem (Nat.mod_lt _ lpos)]
        rfl
      generalize cs[k % cs.length]'(Nat.mod_lt _ lpos) = cell
      refine ⟨_, rfl, _, rfl, _, _, rfl, rfl, _, rfl, ?_⟩
      refine ite2 (fun _ => ?_) fun _ => iteF ?_
      refine ⟨_, rfl, _, rfl, _, _, rfl, rfl, ⟨by decide, by decide, by decide⟩, _, _, rfl, rfl, _, rfl, ?_⟩
      refine ite2 (fun _ => ?_) fun _ => ?_
      refine ⟨_, rfl, _, rfl, _, _, rfl, rfl, ⟨by decide, by decide, by decide⟩, _, _, rfl, rfl, _, rfl, _, _, rfl, rfl, ⟨m0, m1⟩, _, rfl, pn, _, rfl, putL _ hp3, ?_⟩
      refine ⟨_, rfl, _, rfl, _, _, rfl, rfl, ⟨by decide, by decide, by decide⟩, _, _, rfl, rfl, .inl ⟨_, rfl, _, rfl, _, _, rfl, rfl, m0, ?_⟩⟩
      exact fin _ _ _ (mix_lt _ m0).1 (mix_lt _ m0).2 (.inr rfl)
      all_goals
        refine ⟨_, rfl, .inl ⟨_, rfl, _, _, rfl, rfl, (by show (0 : Int) < _; decide), _, _, rfl, rfl, .inr ⟨by decide, by decide⟩, ?_⟩⟩
        refine ⟨_, rfl, _, _, rfl, rfl, .inl ⟨by decide, by decide⟩, _, rfl, _, _, rfl, rfl, .inr ⟨by omega, by omega⟩, _, _, rfl, rfl, ?_⟩
        refine ⟨_, rfl, _, rfl, _, _, rfl, rfl, .inl ⟨by decide, by decide⟩, _, _, rfl, rfl, _, _, rfl, rfl, .inl ⟨_, rfl, _, _, rfl, rfl, (by show (0 : Int) < _; decide), ?_⟩⟩
        generalize emx : (cell % 4294967197 * 52711 + 20353 * ((k : Nat) : Int) * ((k : Nat) : Int) + 1531 * ((k : Nat) : Int) + 11) % 4294967189 = mx
        have b1 : 0 ≤ mx ∧ mx < 4294967189 := by rw [← emx]; exact mix_lt _ (by decide)
        refine ⟨_, rfl, _, rfl, _, _, rfl, rfl, .inl ⟨by omega, by omega⟩, ?_⟩
        refine ⟨_, rfl, _, _, rfl, rfl, .inl ⟨by decide, by decide⟩, _, _, rfl, rfl, _, rfl, _, _, rfl, rfl, .inl ⟨by decide, by decide⟩, _, _, rfl, rfl, _, _, rfl, rfl, .inl ⟨_, rfl, _, _, rfl, rfl, (by show (0 : Int) < _; decide), ?_⟩⟩
        generalize emy : (mx * mx + 68903 * mx + 23 * ((k : Nat) : Int) + 7) % 4294967161 = my
        have b2 : 0 ≤ my ∧ my < 4294967161 := by rw [← emy]; exact mix_lt _ (by decide)
        refine ⟨_, rfl, _, rfl, _, _, rfl, rfl, _, _, rfl, rfl, .inl ⟨by omega, by omega⟩, .inl ⟨_, rfl, _, _, rfl, rfl, (by show (0 : Int) < _; decide), _, _, rfl, rfl, ⟨by decide, by decide⟩, .inl ⟨_, rfl, _, rfl, _, _, rfl, rfl, m0, ?_⟩⟩⟩
        exact fin _ _ 0 (mix_lt _ m0).1 (mix_lt _ m0).2 (.inl rfl)
end
def spPick : Sp := fun vs H Q _ => ∃ (pn cl s : Addr) (xs : List V) (b : Nat), vs = [.ref pn, .ref s] ∧ Pen H pn cl b ∧ b ≤ 1000000 ∧ H s = some (.lst xs) ∧ 0 < xs.length ∧ xs.length ≤ 1000 ∧ ∀ x H', x ∈ xs → But pn H H' → Pen H' pn cl (b + 1) → Q x H'
theorem Pen.mono {H : Hp} {pn cl : Addr} {b c : Nat} (h : Pen H pn cl b) (e : b ≤ c) : Pen H pn cl c := let ⟨k, l, cs, h1, h2, h3, h4⟩ := h; ⟨k, l, cs, h1, h2, Nat.le_trans h3 e, h4⟩
theorem Pen.same {H H' : Hp} {pn cl : Addr} {b : Nat} (h : Pen H pn cl b) (e : Same H H') : Pen H' pn cl b := let ⟨k, l, cs, h1, h2, h3, h4⟩ := h; ⟨k, l, cs, e _ _ h1, e _ _ h2, h3, h4⟩
theorem Pen.ne {H : Hp} {pn cl a : Addr} {b : Nat} {o : HO} (h : Pen H pn cl b) (ha : H a = some o) (d : ∀ kvs, o ≠ .dK kvs) : a ≠ pn := let ⟨_, _, _, h1, _⟩ := h; ne_of ha h1 (d _)
/-- the pen stays where another object is written -/
theorem Pen.upd {H : Hp} {pn cl a : Addr} {b : Nat} {o : HO} (h : Pen H pn cl b) (n1 : pn ≠ a) (n2 : cl ≠ a) : Pen (L2.upd H a o) pn cl b := let ⟨k, l, cs, h1, h2, h3, h4⟩ := h; ⟨k, l, cs, (upd_ne n1).trans h1, (upd_ne n2).trans h2, h3, h4⟩
theorem Pen.off {H : Hp} {pn cl a : Addr} {b : Nat} (h : Pen H pn cl b) (n : H a = none) : pn ≠ a ∧ cl ≠ a := let ⟨_, _, _, h1, h2, _⟩ := h; ⟨ne_of_none h1 n, ne_of_none h2 n⟩
theorem same_but {pn : Addr} {H H' : Hp} (e : Same H H') : But pn H H' := fun b o _ h => e b o h
section
variable {P : Program} {w : World} {K : PySem.W.Frag} {mg : Str → Option Value} {base : Heap}
theorem scPick : FnScope ["_law_pen", "_law_items"] ["_law_pen", "_law_items"] (defScope sPick) := ⟨rfl, rfl, rfl, by decide +kernel, rfl, by decide +kernel, by decide +kernel⟩
theorem ok_pick {f : Addr} {fd : FuncData} (F : Fun K "_law_pick" "_law_pick" sPick f fd) (B : Bi mg) (cD : Cal CX0 P w K mg base 1 "_law_draw" spDraw) : FnOk P w K mg base CX0 2 f fd ["_law_pen", "_law_items"] spPick := by
  refine F.ok scPick (fun vs H Q E h => ?_) (fun cdv A outer s H vs Q E hr h => ?_)
  · obtain ⟨pn, cl, s, xs, b, rfl, _⟩ := h
    rfl
  · obtain ⟨pn, cl, s0, xs, b, rfl, pen, hb, hs, l0, l1, q⟩ := h
    refine ⟨_, pss_one (ps_ret (pe_ix ix_list (pv 1) (pe_c cD hr pass0 (pa_cons (pv 0) (pa_cons (pe_len B.len (pa_cons (pv 1) pa_nil)) pa_nil))) (fun _ _ => rfl))), ?_⟩
    refine ⟨_, rfl, _, rfl, _, rfl, s0, xs, rfl, .inl (SqL.of hs), pn, cl, _, b, rfl, pen, hb, by omega, by omega, fun r H' r0 r1 e pen2 => ?_⟩
    obtain ⟨r, rfl⟩ := Int.eq_ofNat_of_zero_le r0
    have lt : r < xs.length := by omega
    exact ⟨s0, xs, _, xs[r], rfl, rfl, SqL.of (e _ _ (pen.ne hs fun _ z => by cases z) hs), atI_nat (List.getElem?_eq_getElem lt), q _ _ (List.getElem_mem lt) e pen2⟩
end
def Flat : V → Prop
  | .non | .bl _ | .int _ => True
  | .str x => PyData.strOk x = true
  | _ => False
theorem dp_flat {K : PySem.W.Frag} {H : Hp} {v : V} (h : Flat v) : Dp K H v (dOf v) := by
  cases v with
  | non => exact .non
  | bl b => exact .bl b
  | int i => exact .int i
  | str x => exact .str x
  | _ => exact h.elim
theorem dpAll_flat {K : PySem.W.Frag} {H : Hp} : ∀ {xs : List V}, (∀ v ∈ xs, Flat v) → DpAll K H xs (xs.map dOf)
  | [], _ => .nil
  | x :: xs, h => .cons (dp_flat (h x List.mem_cons_self)) (dpAll_flat fun v m => h v (List.mem_cons_of_mem _ m))
theorem lay_flat : ∀ {xs : List V}, (∀ v ∈ xs, Flat v) → PyData.canLayAll0 (xs.map dOf) = true
  | [], _ => by simp [PyData.canLayAll0]
  | x :: xs, h => by
    have ih := lay_flat fun v m => h v (List.mem_cons_of_mem x m)
    have hx := h x List.mem_cons_self
    rw [List.map_cons, PyData.canLayAll0, ih, Bool.and_true]
    cases x <;> simp [dOf, PyData.canLay0, Flat] at hx ⊢
    exact hx
theorem depth_flat : ∀ (xs : List V), PyData.depthAll (xs.map dOf) ≤ 1
  | [] => by simp [PyData.depthAll]
  | x :: xs => by
    have ih := depth_flat xs
    simp only [List.map_cons, PyData.depthAll]
    cases x <;> simp only [dOf, PyData.depth] <;> omega
theorem shT_flat {xs : List V} (h : ∀ v ∈ xs, Flat v) : SeqAt.shaped (.tuple (xs.map dOf)) = true := by
  have h1 := lay_flat h
  have h2 := depth_flat xs
  show (PyData.canLay0 (.tuple (xs.map dOf)) && decide (PyData.depth (.tuple (xs.map dOf)) ≤ 64)) = true
  rw [Bool.and_eq_true]
  refine ⟨by simp only [PyData.canLay0]; exact h1, decide_eq_true ?_⟩
  simp only [PyData.depth]
  omega
/-- two tuples with the same flat items -/
def rSm (b : Bool) : R2 := fun x y H Q => ∃ s t us, x = .ref s ∧ y = .ref t ∧ H s = some (.tup us) ∧ H t = some (.tup us) ∧ (∀ v ∈ us, Flat v) ∧ Q (.bl b) H
section
variable {X : Cx}
theorem op_neSm (hu : X.A.units + 64 < cLine) : OpR X (compareOp .NotEq) (rSm false) := by
  intro pins s σ H x y v u Q I rx ry h
  obtain ⟨a, b, us, rfl, rfl, d1, d2, f, q⟩ := h
  have sh := shT_flat f
  refine op_neD hu pins s σ H _ _ v u Q I rx ry ⟨_, _, .tup (SqT.of d1) (dpAll_flat f), .tup (SqT.of d2) (dpAll_flat f), sh, sh, ?_⟩
  rw [SeqAt.eqv_refl _ (Bool.and_eq_true_iff.mp sh).1]
  exact q
theorem op_eqSm (hu : X.A.units + 64 < cLine) : OpR X (compareOp .Eq) (rSm true) := by
  intro pins s σ H x y v u Q I rx ry h
  obtain ⟨a, b, us, rfl, rfl, d1, d2, f, q⟩ := h
  have sh := shT_flat f
  refine op_eqD hu pins s σ H _ _ v u Q I rx ry ⟨_, _, .tup (SqT.of d1) (dpAll_flat f), .tup (SqT.of d2) (dpAll_flat f), sh, sh, ?_⟩
  rw [SeqAt.eqv_refl _ (Bool.and_eq_true_iff.mp sh).1]
  exact q
end
theorem cut_to {xs : List V} {k : Nat} (h : k ≤ xs.length) : cutV xs none (some (k : Int)) = xs.take k := by
  unfold cutV
  rw [HT.sIx_nat, HT.sIx_none, List.drop_zero, Nat.sub_zero, Nat.min_eq_left h]
theorem cut_from {xs : List V} {k : Nat} (h : k ≤ xs.length) : cutV xs (some (k : Int)) none = xs.drop k := by
  unfold cutV
  rw [HT.sIx_nat, HT.sIx_none, Nat.min_eq_left h, List.take_of_length_le (by rw [List.length_drop]; exact Nat.le_refl _)]
theorem kn_flat {H : Hp} {v : V} (h : Flat v) : Kn H v := by
  cases v with
  | non => exact .non
  | bl b => exact .bl b
  | int i => exact .int i
  | str x => exact .str x
  | _ => exact h.elim
theorem flat_ref {v : V} (h : Flat v) : ∀ b, v ≠ .ref b := fun b e => by
  rw [e] at h
  exact h
end K66
set_option Elab.async false
set_option linter.all false
set_option maxRecDepth 100001
set_option maxHeartbeats 3999999
namespace K66
open PySem L2
abbrev sCopied : Stmt := topS 5
def spCopied : Sp := fun vs H Q _ => ∃ v, vs = [v] ∧ Flat v ∧ Q v H
section
variable {P : Program} {w : World} {K : PySem.W.Frag} {mg : Str → Option Value} {base : Heap}
theorem scCopied : FnScope ["value", "part", "key"] ["value"] (defScope sCopied) := ⟨rfl, rfl, rfl, by decide +kernel, rfl, by decide +kernel, by decide +kernel⟩
theorem ok_copied {f : Addr} {fd : FuncData} (F : Fun K "copied" "copied" sCopied f fd) (B : Bi mg) : FnOk P w K mg base CX0 1 f fd ["value"] spCopied := by
  refine F.ok scCopied (fun vs H Q E h => ?_) (fun cdv A outer s H vs Q E hr h => ?_)
  · obtain ⟨v, rfl, _⟩ := h
    rfl
  · obtain ⟨v, rfl, fl, q⟩ := h
    refine ⟨_, pss_cons (ps_if (pt_val (pe_isi B.isi (pa_cons (pv 0) (pa_cons (pe_ty "list" B.list) pa_nil)))) pss_never pss_nil) (pss_cons (ps_if (pt_val (pe_isi B.isi (pa_cons (pv 0) (pa_cons (pe_ty "tuple" B.tuple) pa_nil)))) pss_never pss_nil)
      (pss_cons (ps_if (pt_val (pe_isi B.isi (pa_cons (pv 0) (pa_cons (pe_ty "dict" B.dict) pa_nil)))) pss_never pss_nil) (pss_one (ps_ret (pv 0))))), ?_⟩
    obtain ⟨t, ty, _, _, k3, k4, k5⟩ := (kn_flat (H := H) fl).kinds K
    have f3 : isT H v = false := by cases v <;> first | rfl | exact fl.elim
    have f4 : isL H v = false := by cases v <;> first | rfl | exact fl.elim
    rw [f3] at k3
    rw [f4] at k4
    exact ⟨v, rfl, v, _, _, _, _, rfl, .ty "list", ty, k4, _, rfl, iteF ⟨v, rfl, v, _, _, _, _, rfl, .ty "tuple", ty, k3, _, rfl, iteF ⟨v, rfl, v, _, _, _, _, rfl, .ty "dict", ty, k5, _, rfl, iteF ⟨v, rfl, q⟩⟩⟩⟩
def frm : V → Int → Bool
  | .int i, lo => decide (lo ≤ i)
  | _, _ => false
def spFrom : Sp := fun vs H Q _ => ∃ v lo, vs = [v, .int lo] ∧ Kn H v ∧ Q (.bl (frm v lo)) H
end
/-- an exception of three flat fields -/
def spX3 (K : PySem.W.Frag) (f g h : Str) : Sp := fun vs H Q _ => ∃ (a C : Addr) (u v w : V), vs = [.ref a, u, v, w] ∧ OexC K C ∧ PySem.W.findIn K (.ref C) f = some none ∧ PySem.W.findIn K (.ref C) g = some none ∧ PySem.W.findIn K (.ref C) h = some none ∧
  Flat u ∧ Flat v ∧ Flat w ∧ H a = some (exo a C none) ∧
  ∀ dx H', H dx = none → dx ≠ a → (∀ b, b ≠ a → b ≠ dx → H' b = H b) → H' a = some (exo a C (some dx)) → H' dx = some (exd dx [(h, w), (g, v), (f, u)]) → Q .non H'
def spX0 : Sp := fun vs H Q _ => ∃ a : Addr, vs = [.ref a] ∧ Q .non H
/-- an exception of one flat field -/
def spX1 (K : PySem.W.Frag) (f : Str) : Sp := fun vs H Q _ => ∃ (a C : Addr) (u : V), vs = [.ref a, u] ∧ OexC K C ∧ PySem.W.findIn K (.ref C) f = some none ∧ Flat u ∧ H a = some (exo a C none) ∧
  ∀ dx H', H dx = none → dx ≠ a → (∀ b, b ≠ a → b ≠ dx → H' b = H b) → H' a = some (exo a C (some dx)) → H' dx = some (exd dx [(f, u)]) → Q .non H'
/-- an exception of two flat fields -/
def spX2 (K : PySem.W.Frag) (f g : Str) : Sp := fun vs H Q _ => ∃ (a C : Addr) (u v : V), vs = [.ref a, u, v] ∧ OexC K C ∧ PySem.W.findIn K (.ref C) f = some none ∧ PySem.W.findIn K (.ref C) g = some none ∧ Flat u ∧ Flat v ∧ H a = some (exo a C none) ∧
  ∀ dx H', H dx = none → dx ≠ a → (∀ b, b ≠ a → b ≠ dx → H' b = H b) → H' a = some (exo a C (some dx)) → H' dx = some (exd dx [(g, v), (f, u)]) → Q .non H'
section
variable {P : Program} {w : World} {K : PySem.W.Frag} {mg : Str → Option Value} {base : Heap}
end
/-- behind a raise: all that was there, and the error's fields at d -/
structure Rsd (H H' : Hp) (d : Addr) (fs : List (Str × V)) : Prop where
  new : H d = none
  same : Same H H'
  at_ : H' d = some (.xd fs)
theorem rsd_of {H H2 : Hp} {a d C : Addr} {fs : List (Str × V)} (na : H a = none) (nd : H d = none) (h : ∀ b, b ≠ a → b ≠ d → H2 b = H b) : Rsd H (upd (del H2 a) d (.xd fs)) d fs :=
  ⟨nd, fun b o e => by
    rw [upd_ne (ne_of_none e nd), del_ne (ne_of_none e na), h b (ne_of_none e na) (ne_of_none e nd)]
    exact e, upd_same⟩
theorem raise3 {H : Hp} {C : Addr} {f g h : Str} {u v z : V} {R : XK} {K : PySem.W.Frag} (T : OexC K C) (n1 : PySem.W.findIn K (.ref C) f = some none) (n2 : PySem.W.findIn K (.ref C) g = some none) (n3 : PySem.W.findIn K (.ref C) h = some none)
    (k1 : Flat u) (k2 : Flat v) (k3 : Flat z) (r : ∀ d H', Rsd H H' d [(h, z), (g, v), (f, u)] → R (.ref C) (some d) H') :
    ([u, v, z] : List V).length ≤ 1000 ∧ ∀ a, H a = none → spX3 K f g h (.ref a :: ([u, v, z] ++ [])) (upd H a (exo a C none)) (fun y H2 => y = .non ∧ ∃ (d : Addr) (fs : List (Str × V)), H2 a = some (exo a C (some d)) ∧ H2 d = some (exd d fs) ∧ H d = none ∧ R (.ref C) (some d) (upd (del H2 a) d (.xd fs))) (fun _ _ _ => False) := by
  refine ⟨by show 3 ≤ 1000; decide, fun a na => ⟨a, C, u, v, z, rfl, T, n1, n2, n3, k1, k2, k3, upd_same, fun dx H' nd ne hk ha hd => ⟨rfl, dx, _, ha, hd, ?_, r _ _ ?_⟩⟩⟩
  · rw [upd_ne ne] at nd
    exact nd
  · refine rsd_of (C := C) na (by rw [upd_ne ne] at nd; exact nd) fun b h1 h2 => ?_
    rw [hk b h1 h2, upd_ne h1]
theorem raise0 {H : Hp} {C : Addr} {R : XK} {K : PySem.W.Frag} (r : ∀ H', Same H H' → R (.ref C) none H') :
    ∀ a, H a = none → spX0 [.ref a] (upd H a (exo a C none)) (fun v H2 => v = .non ∧ H2 a = some (exo a C none) ∧ R (.ref C) none (del H2 a)) (fun _ _ _ => False) := fun a na =>
  ⟨a, rfl, rfl, upd_same, r _ fun b o e => by rw [del_ne (ne_of_none e na), upd_ne (ne_of_none e na)]; exact e⟩
theorem raise2 {H : Hp} {C : Addr} {f g : Str} {u v : V} {R : XK} {K : PySem.W.Frag} (T : OexC K C) (n1 : PySem.W.findIn K (.ref C) f = some none) (n2 : PySem.W.findIn K (.ref C) g = some none)
    (k1 : Flat u) (k2 : Flat v) (r : ∀ d H', Rsd H H' d [(g, v), (f, u)] → R (.ref C) (some d) H') :
    ([u, v] : List V).length ≤ 1000 ∧ ∀ a, H a = none → spX2 K f g (.ref a :: ([u, v] ++ [])) (upd H a (exo a C none)) (fun y H2 => y = .non ∧ ∃ (d : Addr) (fs : List (Str × V)), H2 a = some (exo a C (some d)) ∧ H2 d = some (exd d fs) ∧ H d = none ∧ R (.ref C) (some d) (upd (del H2 a) d (.xd fs))) (fun _ _ _ => False) := by
  refine ⟨by show 2 ≤ 1000; decide, fun a na => ⟨a, C, u, v, rfl, T, n1, n2, k1, k2, upd_same, fun dx H' nd ne hk ha hd => ⟨rfl, dx, _, ha, hd, ?_, r _ _ ?_⟩⟩⟩
  · rw [upd_ne ne] at nd
    exact nd
  · refine rsd_of (C := C) na (by rw [upd_ne ne] at nd; exact nd) fun b h1 h2 => ?_
    rw [hk b h1 h2, upd_ne h1]
theorem raise1 {H : Hp} {C : Addr} {f : Str} {u : V} {R : XK} {K : PySem.W.Frag} (T : OexC K C) (n1 : PySem.W.findIn K (.ref C) f = some none)
    (k1 : Flat u) (r : ∀ d H', Rsd H H' d [(f, u)] → R (.ref C) (some d) H') :
    ([u] : List V).length ≤ 1000 ∧ ∀ a, H a = none → spX1 K f (.ref a :: ([u] ++ [])) (upd H a (exo a C none)) (fun y H2 => y = .non ∧ ∃ (d : Addr) (fs : List (Str × V)), H2 a = some (exo a C (some d)) ∧ H2 d = some (exd d fs) ∧ H d = none ∧ R (.ref C) (some d) (upd (del H2 a) d (.xd fs))) (fun _ _ _ => False) := by
  refine ⟨by show 1 ≤ 1000; decide, fun a na => ⟨a, C, u, rfl, T, n1, k1, upd_same, fun dx H' nd ne hk ha hd => ⟨rfl, dx, _, ha, hd, ?_, r _ _ ?_⟩⟩⟩
  · rw [upd_ne ne] at nd
    exact nd
  · refine rsd_of (C := C) na (by rw [upd_ne ne] at nd; exact nd) fun b h1 h2 => ?_
    rw [hk b h1 h2, upd_ne h1]
/-! ### lists, tuples, what stays -/
/-- a list or a tuple at u -/
def LT (H : Hp) (u : Addr) (ts : List V) : Prop := H u = some (.lst ts) ∨ H u = some (.tup ts)
theorem LT.sq {K : PySem.W.Frag} {H : Hp} {u : Addr} {ts : List V} (h : LT H u ts) : Sq K H u ts := h.elim (fun h => .inl (SqL.of h)) fun h => .inr (SqT.of h)
theorem LT.same {H H' : Hp} {u : Addr} {ts : List V} (h : LT H u ts) (e : Same H H') : LT H' u ts := h.imp (fun h => e _ _ h) fun h => e _ _ h
theorem LT.kn {H : Hp} {u : Addr} {ts : List V} (h : LT H u ts) : Kn H (.ref u) := h.elim .lst .tup
def isLT (H : Hp) (v : V) : Bool := isL H v || isT H v
theorem LT.is {H : Hp} {u : Addr} {ts : List V} (h : LT H u ts) : isLT H (.ref u) = true := by
  unfold isLT
  rcases h with h | h
  · rw [isL_lst h]
    rfl
  · rw [isT_tup h, Bool.or_true]
theorem Kn.any (K : PySem.W.Frag) {H : Hp} {v : V} (k : Kn H v) : ∃ t : String, TyX K H v (.type t) ∧ PySem.W.kitAny K (.type t) [.type "list", .type "tuple"] = some (isLT H v) := by
  obtain ⟨t, ty, _, _, k3, k4, _⟩ := k.kinds K
  refine ⟨t, ty, kitAny_cons k4 (fun z => ?_) (fun z => by unfold isLT; rw [z]; rfl)⟩
  refine kitAny_cons k3 (fun z2 => by unfold isLT; rw [z, z2]; rfl) (fun z2 => by unfold isLT; rw [z2, Bool.or_true])
theorem Kn.lt_same {H H' : Hp} {v : V} (k : Kn H v) (e : Same H H') : isLT H' v = isLT H v := by
  unfold isLT
  cases k with
  | lst h => rw [isL_lst h, isL_lst (e _ _ h)]; rfl
  | tup h => rw [isT_tup h, isT_tup (e _ _ h), Bool.or_true, Bool.or_true]
  | _ => rfl
theorem paired_get {α β : Type} {F : α → β → Prop} : ∀ {ts : List α} {ps : List β} {i : Nat} {v : α}, Paired F ts ps → ts[i]? = some v → ∃ p, ps[i]? = some p ∧ F v p
  | _, _, _, _, .nil, h => by simp at h
  | _, _, 0, _, .cons h _, e => by cases e; exact ⟨_, rfl, h⟩
  | _, _, i + 1, v, .cons _ t, e => paired_get (i := i) t (by simpa using e)
theorem paired_to {α β : Type} {F : α → β → Prop} : ∀ {ts : List α} {ps : List β} {i : Nat} {p : β}, Paired F ts ps → ps[i]? = some p → ∃ v, ts[i]? = some v ∧ F v p
  | _, _, _, _, .nil, h => by simp at h
  | _, _, 0, _, .cons h _, e => by cases e; exact ⟨_, rfl, h⟩
  | _, _, i + 1, v, .cons _ t, e => paired_to (i := i) t (by simpa using e)
theorem paired_map {α β γ : Type} {F : α → β → Prop} {G : α → γ → Prop} {g : β → γ} (h : ∀ a b, F a b → G a (g b)) : ∀ {ts : List α} {ps : List β}, Paired F ts ps → Paired G ts (ps.map g)
  | _, _, .nil => .nil
  | _, _, .cons x t => .cons (h _ _ x) (paired_map h t)
theorem paired_unmap {α β γ : Type} {F : α → β → Prop} {G : α → γ → Prop} {g : β → γ} (h : ∀ a b, G a (g b) → F a b) : ∀ {ps : List β} {ts : List α}, Paired G ts (ps.map g) → Paired F ts ps
  | [], _, .nil => .nil
  | _ :: _, _, .cons x t => .cons (h _ _ x) (paired_unmap h t)
/-- tuples stay -/
def TT (H H' : Hp) : Prop := ∀ a xs, H a = some (.tup xs) → H' a = some (.tup xs)
theorem TT.same {H H' : Hp} (e : Same H H') : TT H H' := fun a xs z => e _ _ z
theorem TT.trans {H H1 H2 : Hp} (a : TT H H1) (b : TT H1 H2) : TT H H2 := fun c xs z => b _ _ (a _ _ z)
theorem TT.lst {H : Hp} {D : Addr} {xs ys : List V} (hD : H D = some (.lst xs)) : TT H (upd H D (.lst ys)) := fun a zs z => (upd_ne (ne_of z hD fun y => nomatch y)).trans z
/-- what is not at p stays -/
def ButI (p : Addr) (H H' : Hp) : Prop := ∀ b o, b ≠ p → H b = some o → H' b = some o
structure RsC (p : Addr) (H H' : Hp) (d : Addr) (fs : List (Str × V)) : Prop where
  new : H d = none
  same : ButI p H H'
  at_ : H' d = some (.xd fs)
structure TL (H H' : Hp) : Prop where
  l : ∀ a xs, H a = some (.lst xs) → H' a = some (.lst xs)
  t : ∀ a xs, H a = some (.tup xs) → H' a = some (.tup xs)
theorem TL.but {H H' : Hp} {C p dx : Addr} {fs : List (Str × V)} (hp : H p = some (.ins C dx fs)) (u : ButI p H H') : TL H H' := ⟨fun a xs z => u _ _ (ne_of z hp fun y => nomatch y) z, fun a xs z => u _ _ (ne_of z hp fun y => nomatch y) z⟩
theorem TL.pen {H H' : Hp} {pn cl : Addr} {b : Nat} (pen : Pen H pn cl b) (u : But pn H H') : TL H H' := by
  obtain ⟨k, l, cs, h1, _⟩ := pen
  exact ⟨fun a xs z => u _ _ (ne_of z h1 fun y => nomatch y) z, fun a xs z => u _ _ (ne_of z h1 fun y => nomatch y) z⟩
theorem TL.trans {H H1 H2 : Hp} (a : TL H H1) (b : TL H1 H2) : TL H H2 := ⟨fun c xs z => b.l _ _ (a.l _ _ z), fun c xs z => b.t _ _ (a.t _ _ z)⟩
theorem TL.same {H H' : Hp} (e : Same H H') : TL H H' := ⟨fun a xs z => e _ _ z, fun a xs z => e _ _ z⟩
structure Xc (P : Program) (w : World) (K : PySem.W.Frag) (mg : Str → Option Value) (base : Heap) (k : Nat) (x : Str) (C : Addr) (sp : Sp) : Prop where
  T : OexC K C
  mgC : mg x = some (.ref C)
  ex : ∃ (f : Addr) (fd : FuncData) (ps : List Str), PySem.W.findIn K (.ref C) "__init__" = some (some (.ref f)) ∧ PySem.W.typeIn K (.ref f) = some (.type "function") ∧ FnOk P w K mg base CX0 k f fd ps sp ∧ Binds K fd ps []
section
variable {X : Cx} {k j : Nat} {x : Str} {C : Addr} {sp : Sp} {e : Expr} {es : List Expr} {t : TA} {p pos : Pos}
theorem pmk_x (c : Xc X.prog X.w X.K X.mg X.base k x C sp) (hr : Room j X.A) (ha : PA X (e :: es) t) (hk : k + 1 ≤ j := by decide) (hg : Gl X x := by rfl) (hdb : (x == ("__debug__" : Str)) = false := by decide)
    (he : starEach (e :: es) X.env = (false, eval e X.env) :: starEach es X.env := by rfl) (hpl : (backTo pos (starEach es X.env)).any (·.1) = false := by rfl) : PMk X (.Call (.Name x p) (e :: es) [] pos) (tMkO C sp [] t) := by
  obtain ⟨f, fd, ps, i1, i2, F, b⟩ := c.ex
  exact pmk_oex c.T i1 i2 F (hr.mono hk) b .nil pass0 hg c.mgC ha hdb he hpl
end
/-- an exception class, caught -/
structure Ct (K : PySem.W.Frag) (mg : Str → Option Value) (x : Str) (C : Addr) : Prop where
  g : mg x = some (.ref C)
  T : XfC K C
  me : PySem.W.exmOne K (.ref C) (.ref C) = some true
section
variable {X : Cx}
def rSmD (K : PySem.W.Frag) : R2 := fun x y H Q => ∃ d, Dp K H x d ∧ Dp K H y d ∧ SeqAt.shaped d = true ∧ Q (.bl false) H
theorem op_neSmD (hu : X.A.units + 64 < cLine) : OpR X (compareOp .NotEq) (rSmD X.K) := by
  intro pins s σ H x y v u Q I rx ry h
  obtain ⟨d, d1, d2, sh, q⟩ := h
  refine op_neD hu pins s σ H _ _ v u Q I rx ry ⟨d, d, d1, d2, sh, sh, ?_⟩
  rw [SeqAt.eqv_refl _ (Bool.and_eq_true_iff.mp sh).1]
  exact q
def rSmE (K : PySem.W.Frag) : R2 := fun x y H Q => ∃ d, Dp K H x d ∧ Dp K H y d ∧ SeqAt.shaped d = true ∧ Q (.bl true) H
theorem op_eqSmD (hu : X.A.units + 64 < cLine) : OpR X (compareOp .Eq) (rSmE X.K) := by
  intro pins s σ H x y v u Q I rx ry ⟨d, d1, d2, sh, q⟩
  refine op_eqD hu pins s σ H _ _ v u Q I rx ry ⟨d, d, d1, d2, sh, sh, ?_⟩
  rw [SeqAt.eqv_refl _ (Bool.and_eq_true_iff.mp sh).1]
  exact q
end
section
variable {X : Cx} {k j : Nat} {x : Str} {C : Addr} {sp : Sp} {p pos : Pos}
theorem pmk_x0 (c : Xc X.prog X.w X.K X.mg X.base k x C sp) (hr : Room j X.A) (hk : k + 1 ≤ j := by decide) (hg : Gl X x := by rfl) (hdb : (x == ("__debug__" : Str)) = false := by decide) : PMk X (.Call (.Name x p) [] [] pos) (tMkO0 C sp) := by
  obtain ⟨f, fd, ps, i1, i2, F, b⟩ := c.ex
  exact pmk_oex0 c.T i1 i2 F (hr.mono hk) b pass0 hg c.mgC hdb
end
/-- all but dicts and tables stay -/
def Ks (H H' : Hp) : Prop := ∀ b o, H b = some o → (∀ ps, o ≠ .tbl ps) → (∀ kvs, o ≠ .dK kvs) → H' b = some o
theorem Ks.of {H H' : Hp} (e : Same H H') : Ks H H' := fun b o h _ _ => e b o h
theorem Ks.trans {H H1 H2 : Hp} (a : Ks H H1) (b : Ks H1 H2) : Ks H H2 := fun c o h n m => b c o (a c o h n m) n m
theorem Ks.refl (H : Hp) : Ks H H := fun _ _ h _ _ => h
theorem Ks.ext {H H' : Hp} (e : LamX.ExtN H H') : Ks H H' := fun b o h n _ => e b o h n
theorem Ks.pen {H H' : Hp} {pn cl : Addr} {b : Nat} (pen : Pen H pn cl b) (e : But pn H H') : Ks H H' := fun c o h _ m => e c o (pen.ne h m) h
theorem Ks.tl {H H' : Hp} (e : Ks H H') : TL H H' := ⟨fun a xs z => e _ _ z (fun _ y => nomatch y) (fun _ y => nomatch y), fun a xs z => e _ _ z (fun _ y => nomatch y) (fun _ y => nomatch y)⟩
theorem Ks.ins {H H' : Hp} {a C dx : Addr} {fs : List (Str × V)} (e : Ks H H') (h : H a = some (.ins C dx fs)) : H' a = some (.ins C dx fs) := e _ _ h (fun _ y => nomatch y) fun _ y => nomatch y
theorem Kn.tl {H H2 : Hp} {v : V} (k : Kn H v) (s : TL H H2) : Kn H2 v := by
  cases k with
  | non => exact .non
  | bl b => exact .bl b
  | int i => exact .int i
  | str x => exact .str x
  | lst e => exact .lst (s.l _ _ e)
  | tup e => exact .tup (s.t _ _ e)
theorem tabs_at {Tb : List (Addr × Str)} {H H' : Hp} {p : Addr} {o : HO} (t : LamX.Tabs Tb H) (hp : H p = some o) (n1 : ∀ ps, o ≠ .tbl ps) (n2 : ∀ f, o ≠ .ext f) (e : ButI p H H') : LamX.Tabs Tb H' := fun pt hpt => by
  obtain ⟨ps, a1, a2, a3⟩ := t pt hpt
  refine ⟨ps, e _ _ (ne_of a1 hp fun z => n1 _ z.symm) a1, a2, fun pos cv hc => ?_⟩
  obtain ⟨c0, e1, e2⟩ := a3 pos cv hc
  exact ⟨c0, e1, e _ _ (ne_of e2 hp fun z => n2 _ (by unfold LamX.CodeO at z; exact z.symm)) e2⟩
theorem tabs_but {Tb : List (Addr × Str)} {H H' : Hp} {pn cl : Addr} {b : Nat} (tabs : LamX.Tabs Tb H) (pen : Pen H pn cl b) (bt : But pn H H') : LamX.Tabs Tb H' := by
  obtain ⟨k, l, cs, p1, _⟩ := pen
  exact tabs_at tabs p1 (fun _ z => nomatch z) (fun _ z => nomatch z) bt
theorem Pen.ext {H H' : Hp} {pn cl : Addr} {b : Nat} (h : Pen H pn cl b) (e : LamX.ExtN H H') : Pen H' pn cl b := let ⟨k, l, cs, h1, h2, h3, h4⟩ := h; ⟨k, l, cs, e _ _ h1 (fun _ z => nomatch z), e _ _ h2 (fun _ z => nomatch z), h3, h4⟩
/-- the pen and the tables -/
structure PT (Tb : List (Addr × Str)) (H : Hp) (pn cl : Addr) (b : Nat) : Prop where
  pen : Pen H pn cl b
  tabs : LamX.Tabs Tb H
section
variable {Tb : List (Addr × Str)} {H H' : Hp} {pn cl : Addr} {b c : Nat}
theorem PT.same (h : PT Tb H pn cl b) (e : Same H H') : PT Tb H' pn cl b := ⟨h.pen.same e, h.tabs.ext e⟩
theorem PT.but (h : PT Tb H pn cl b) (e : But pn H H') (p : Pen H' pn cl c) : PT Tb H' pn cl c := ⟨p, tabs_but h.tabs h.pen e⟩
theorem PT.ext (h : PT Tb H pn cl b) (e : LamX.ExtN H H') (t : LamX.Tabs Tb H') : PT Tb H' pn cl b := ⟨h.pen.ext e, t⟩
end
theorem same_ins {H : Hp} {p dx C : Addr} {fs : List (Str × V)} (np : H p = none) (nd : H dx = none) : Same H (upd (upd H dx (.own p)) p (.ins C dx fs)) := fun b o z => by
  rw [upd_ne (ne_of_none z np), upd_ne (ne_of_none z nd)]
  exact z
theorem butI_same {H H1 H' : Hp} {p : Addr} (e : Same H H1) (np : H p = none) (b : ButI p H1 H') : Same H H' := fun c o z => b c o (ne_of_none z np) (e _ _ z)
theorem rSmD_of {K : PySem.W.Frag} {H : Hp} {t t2 : Addr} {us : List V} {Q : VK} (nt : H t = none) (nt2 : upd H t (.tup us) t2 = none) (fl : ∀ v ∈ us, Flat v) (q : ∀ H', Same H H' → Q (.bl false) H') : rSmD K (.ref t) (.ref t2) (upd (upd H t (.tup us)) t2 (.tup us)) Q :=
  ⟨.tuple (us.map dOf), .tup (SqT.of ((upd_ne (ne_of_none (show upd H t (.tup us) t = some (.tup us) from upd_same) nt2)).trans upd_same)) (dpAll_flat fl), .tup (SqT.of upd_same) (dpAll_flat fl), shT_flat fl, q _ ((same_new nt).trans (same_new nt2))⟩
theorem rSmE_of {K : PySem.W.Frag} {H : Hp} {t t2 : Addr} {us : List V} {Q : VK} (nt : H t = none) (nt2 : upd H t (.tup us) t2 = none) (fl : ∀ v ∈ us, Flat v) (q : ∀ H', Same H H' → Q (.bl true) H') : rSmE K (.ref t) (.ref t2) (upd (upd H t (.tup us)) t2 (.tup us)) Q :=
  ⟨.tuple (us.map dOf), .tup (SqT.of ((upd_ne (ne_of_none (show upd H t (.tup us) t = some (.tup us) from upd_same) nt2)).trans upd_same)) (dpAll_flat fl), .tup (SqT.of upd_same) (dpAll_flat fl), shT_flat fl, q _ ((same_new nt).trans (same_new nt2))⟩
theorem cutSeq {D : Ends} {t u : TS} {σ : St} {H : Hp} (R : St → Hp → Prop) (h1 : ∀ nx : St → Hp → Prop, (∀ σ' H', R σ' H' → nx σ' H') → t { D with nx := nx } σ H) (h2 : ∀ σ' H', R σ' H' → u D σ' H') : tSeq t u D σ H := h1 _ h2
end K66
set_option Elab.async false
set_option linter.all false
set_option maxRecDepth 100001
set_option maxHeartbeats 3999999
namespace K66
open PySem L2
/-- what is handed in of any kind, as data -/
inductive Odd (H : Hp) : V → PyData → Prop
  | flat {v : V} (h : Flat v) : Odd H v (dOf v)
  | tup {a : Addr} {x : V} (e : H a = some (.tup [x])) (f : Flat x) : Odd H (.ref a) (.tuple [dOf x])
  | lst {a : Addr} {xs : List V} (e : H a = some (.lst xs)) (f : ∀ v ∈ xs, Flat v) (l : xs.length ≤ 1000) : Odd H (.ref a) (.list (xs.map dOf))
theorem Odd.kn {H : Hp} {v : V} {d : PyData} (o : Odd H v d) : Kn H v := by
  cases o with
  | flat h => exact kn_flat h
  | tup e f => exact .tup e
  | lst e f l => exact .lst e
theorem Odd.same {H H' : Hp} {v : V} {d : PyData} (o : Odd H v d) (s : Same H H') : Odd H' v d := by
  cases o with
  | flat h => exact .flat h
  | tup e f => exact .tup (s _ _ e) f
  | lst e f l => exact .lst (s _ _ e) f l
theorem Odd.dp {K : PySem.W.Frag} {H : Hp} {v : V} {d : PyData} (o : Odd H v d) : Dp K H v d := by
  cases o with
  | flat h => exact dp_flat h
  | tup e f => exact .tup (SqT.of e) (.cons (dp_flat f) .nil)
  | lst e f l => exact .lst (SqL.of e) (dpAll_flat f)
def spCopy2 : Sp := fun vs H Q _ => ∃ v d, vs = [v] ∧ Odd H v d ∧ ∀ v' H', Same H H' → Odd H' v' d → Q v' H'
section
variable {P : Program} {w : World} {K : PySem.W.Frag} {mg : Str → Option Value} {base : Heap}
theorem ok_copy2 {f : Addr} {fd : FuncData} (F : Fun K "copied" "copied" sCopied f fd) (B : Bi mg) (c1 : Cal CX0 P w K mg base 1 "copied" spCopied) : FnOk P w K mg base CX0 2 f fd ["value"] spCopy2 := by
  refine F.ok scCopied (fun vs H Q E h => ?_) (fun cdv A outer s H vs Q E hr h => ?_)
  · obtain ⟨v, d, rfl, _⟩ := h
    rfl
  · obtain ⟨v, d, rfl, od, q⟩ := h
    refine ⟨_, pss_cons (ps_if (pt_val (pe_isi B.isi (pa_cons (pv 0) (pa_cons (pe_ty "list" B.list) pa_nil)))) (pss_one (ps_ret (pe_lc (own := [("part", 1)]) rfl scCopied.nd (pi_sqA (pv 0)) (blkOk_by (N := ["value", "part", "key"]) (sc := defScope sCopied) (by decide +kernel))
          (fun _ _ _ _ _ => pg_name (i := 1) scCopied.nd rfl (Or.inl rfl)) (fun _ _ _ _ _ => pts_nil) (fun _ _ _ _ _ => pe_c c1 hr pass0 (pa_cons (pv 1) pa_nil))))) pss_nil)
      (pss_cons (ps_if (pt_val (pe_isi B.isi (pa_cons (pv 0) (pa_cons (pe_ty "tuple" B.tuple) pa_nil)))) (pss_one (ps_ret (pe_tupleOf rfl B.tuple (pe_lc (own := [("part", 1)]) rfl scCopied.nd (pi_sqA (pv 0)) (blkOk_by (N := ["value", "part", "key"]) (sc := defScope sCopied) (by decide +kernel))
          (fun _ _ _ _ _ => pg_name (i := 1) scCopied.nd rfl (Or.inl rfl)) (fun _ _ _ _ _ => pts_nil) (fun _ _ _ _ _ => pe_c c1 hr pass0 (pa_cons (pv 1) pa_nil)))))) pss_nil)
      (pss_cons (ps_if (pt_val (pe_isi B.isi (pa_cons (pv 0) (pa_cons (pe_ty "dict" B.dict) pa_nil)))) pss_never pss_nil) (pss_one (ps_ret (pv 0))))), ?_⟩
    obtain ⟨t, ty, _, _, k3, k4, k5⟩ := od.kn.kinds K
    cases od with
    | flat fl =>
      have f3 : isT H v = false := by cases v <;> first | rfl | exact fl.elim
      have f4 : isL H v = false := by cases v <;> first | rfl | exact fl.elim
      rw [f3] at k3
      rw [f4] at k4
      exact ⟨v, rfl, v, _, _, _, _, rfl, .ty "list", ty, k4, _, rfl, iteF ⟨v, rfl, v, _, _, _, _, rfl, .ty "tuple", ty, k3, _, rfl, iteF ⟨v, rfl, v, _, _, _, _, rfl, .ty "dict", ty, k5, _, rfl, iteF ⟨v, rfl, q v H (Same.refl H) (.flat fl)⟩⟩⟩⟩
    | @lst a xs e fx ll =>
      rw [isL_lst e] at k4
      refine ⟨_, rfl, _, _, _, _, _, rfl, .ty "list", ty, k4, _, rfl, iteT ?_⟩
      refine ⟨_, rfl, a, _, rfl, .inl (SqL.of e), fun J G wk hG D nD => lc_it wk (fun j H' => Same H H' ∧ H' D = some (.lst (xs.take j))) ⟨same_new nD, upd_same⟩ (fun j H' _ z => hG H' fun o w => z.1 _ _ w) ?_ ?_⟩
      · rintro j y H1 H2 hj ⟨e1, hD⟩ ⟨rfl, hy⟩
        refine ⟨rfl, ?_⟩
        unfold tYes
        refine iteT ⟨_, rfl, _, rfl, fx y (List.mem_of_getElem? hy), _, hD, by rw [List.length_take]; exact small10 (by omega), fun b o z => ?_, ?_⟩
        · rw [upd_ne (ne_of_none z nD)]
          exact e1 _ _ z
        · rw [upd_same, List.take_add_one, hy]
          rfl
      · rintro H1 ⟨e1, hD⟩
        rw [List.take_length] at hD
        exact q _ H1 e1 (.lst hD fx ll)
    | @tup a x e fx =>
      rw [isL_tup e] at k4
      rw [isT_tup e] at k3
      refine ⟨_, rfl, _, _, _, _, _, rfl, .ty "list", ty, k4, _, rfl, iteF ⟨_, rfl, _, _, _, _, _, rfl, .ty "tuple", ty, k3, _, rfl, iteT ?_⟩⟩
      refine ⟨_, rfl, a, _, rfl, .inr (SqT.of e), fun J G wk hG D nD => lc_it wk (fun j H' => Same H H' ∧ H' D = some (.lst ([x].take j))) ⟨same_new nD, upd_same⟩ (fun j H' _ z => hG H' fun o w => z.1 _ _ w) ?_ ?_⟩
      · rintro j y H1 H2 hj ⟨e1, hD⟩ ⟨rfl, hy⟩
        have j0 : j = 0 := by simpa using hj
        subst j0
        cases hy
        refine ⟨rfl, ?_⟩
        unfold tYes
        refine iteT ⟨_, rfl, _, rfl, fx, _, hD, by show 0 < sizeLine; decide, fun b o z => ?_, upd_same⟩
        rw [upd_ne (ne_of_none z nD)]
        exact e1 _ _ z
      · rintro H1 ⟨e1, hD⟩
        exact .inl ⟨D, _, rfl, SqL.of hD, fun t nt => q _ _ (e1.trans (same_new nt)) (.tup upd_same fx)⟩
/-! ### the errors -/
/-- self.f = copied(v), of an exception that has no field yet -/
def spXO (K : PySem.W.Frag) (f : Str) : Sp := fun vs H Q _ => ∃ (a C : Addr) (v : V) (d : PyData), vs = [.ref a, v] ∧ OexC K C ∧ PySem.W.findIn K (.ref C) f = some none ∧ Odd H v d ∧ H a = some (exo a C none) ∧
  ∀ v' H1 dx, Same H H1 → Odd H1 v' d → H1 dx = none → dx ≠ a → Q .non (upd (upd H1 dx (exd dx [(f, v')])) a (exo a C (some dx)))
end
/-! ### what a raise leaves -/
/-- behind a raise: all that was there, and the error's field at d -/
structure RsO (H H' : Hp) (d : Addr) (f : Str) (dd : PyData) : Prop where
  new : H d = none
  same : Same H H'
  at_ : ∃ v', H' d = some (.xd [(f, v')]) ∧ Odd H' v' dd
theorem raiseO {H : Hp} {C : Addr} {f : Str} {v : V} {dd : PyData} {R : XK} {K : PySem.W.Frag} (T : OexC K C) (no : PySem.W.findIn K (.ref C) f = some none) (od : Odd H v dd) (r : ∀ d H', RsO H H' d f dd → R (.ref C) (some d) H') :
    ([v] : List V).length ≤ 1000 ∧ ∀ a, H a = none → spXO K f (.ref a :: ([v] ++ [])) (upd H a (exo a C none)) (fun u H2 => u = .non ∧ ∃ (d : Addr) (fs : List (Str × V)), H2 a = some (exo a C (some d)) ∧ H2 d = some (exd d fs) ∧ H d = none ∧ R (.ref C) (some d) (upd (del H2 a) d (.xd fs))) (fun _ _ _ => False) := by
  refine ⟨by show 1 ≤ 1000; decide, fun a na => ⟨a, C, v, dd, rfl, T, no, od.same (same_new na), upd_same, fun v' H1 dx e1 o1 nd ne => ⟨rfl, dx, [(f, v')], upd_same, by rw [upd_ne ne]; exact upd_same, ?_, r _ _ ?_⟩⟩⟩
  · cases z : H dx with
    | none => rfl
    | some o =>
      rw [e1 _ _ (same_new na _ _ z)] at nd
      cases nd
  · have hne : ∀ b o, H1 b = some o → b ≠ dx := fun b o e => ne_of_none e nd
    have h1a : H1 a = some (exo a C none) := e1 _ _ upd_same
    have keep : ∀ b o, b ≠ a → H1 b = some o → upd (del (upd (upd H1 dx (exd dx [(f, v')])) a (exo a C (some dx))) a) dx (.xd [(f, v')]) b = some o := fun b o h1 h2 => by
      rw [upd_ne (hne b o h2), del_ne h1, upd_ne h1, upd_ne (hne b o h2)]
      exact h2
    refine ⟨?_, fun b o e => ?_, v', upd_same, ?_⟩
    · cases z : H dx with
      | none => rfl
      | some o =>
        rw [e1 _ _ (same_new na _ _ z)] at nd
        cases nd
    · have ba := ne_of_none e na
      exact keep b o ba (e1 _ _ ((upd_ne ba).trans e))
    · cases o1 with
      | flat h => exact .flat h
      | tup e f => exact .tup (keep _ _ (ne_of e h1a fun z => by unfold exo at z; cases z) e) f
      | lst e f l => exact .lst (keep _ _ (ne_of e h1a fun z => by unfold exo at z; cases z) e) f l
end K66
set_option Elab.async false
set_option linter.all false
set_option maxRecDepth 100001
set_option maxHeartbeats 3999999
namespace K66
open PySem L2
/-! ### sizes, damages made -/
abbrev sBSz : Stmt := inClass (topS 8) 0
structure CmK (mg : Str → Option Value) : Prop where
  size : ∃ u, mg "MOST_SIZE" = some u ∧ RelV (.int 64) u
abbrev sChS : Stmt := topS 11
def spChS (CB : Addr) : Sp := fun vs H Q E => ∃ v dd, vs = [v] ∧ Odd H v dd ∧ (btw v 1 64 = true → Q .non H) ∧ (btw v 1 64 = false → ∀ d H', RsO H H' d "size" dd → E (.ref CB) (some d) H')
/-- the fields of a damage -/
def dmF (a : Str) (v : V) : List (Str × V) := putF "first_left" v (putF a v [])
def spDI (CB C : Addr) (a : Str) : Sp := fun vs H Q E => ∃ p dx v dd, vs = [.ref p, v] ∧ H p = some (.ins C dx []) ∧ Odd H v dd ∧ (btw v 1 64 = true → ∀ H', H' p = some (.ins C dx (dmF a v)) → (∀ b o, b ≠ p → H b = some o → H' b = some o) → Q .non H') ∧
  (btw v 1 64 = false → ∀ d H', RsO H H' d "size" dd → E (.ref CB) (some d) H')
structure TxD (K : PySem.W.Frag) (C : Addr) (a : Str) : Prop where
  cl : Cls K C
  a : NoAttr K C a
  f : NoAttr K C "first_left"
section
variable {P : Program} {w : World} {K : PySem.W.Frag} {mg : Str → Option Value} {base : Heap}
theorem scBSz : FnScope ["self", "size"] ["self", "size"] (defScope sBSz) := ⟨rfl, rfl, rfl, by decide +kernel, rfl, by decide +kernel, by decide +kernel⟩
theorem ok_BSz {f : Addr} {fd : FuncData} (F : Fun K "__init__" "BadSize.__init__" sBSz f fd) (cC : Cal CX0 P w K mg base 2 "copied" spCopy2) : FnOk P w K mg base CX0 3 f fd ["self", "size"] (spXO K "size") := by
  refine F.ok scBSz (fun vs H Q E h => ?_) (fun cdv A outer s H vs Q E hr h => ?_)
  · obtain ⟨a, C, v, d, rfl, _⟩ := h
    rfl
  · obtain ⟨a, C, v, d, rfl, T, no, od, ha, q⟩ := h
    refine ⟨_, pss_one (ps_ost (pv 0) (pe_c cC hr pass0 (pa_cons (pv 1) pa_nil))), ?_⟩
    exact ⟨_, rfl, v, d, rfl, od, fun v' H1 e1 o1 => ⟨_, rfl, a, C, rfl, T, no, .inl ⟨e1 _ _ ha, fun dx nd ne => q v' H1 dx e1 o1 nd ne⟩⟩⟩
abbrev NChS : List Str := ["size"]
theorem scChS : FnScope NChS ["size"] (defScope sChS) := ⟨rfl, rfl, rfl, by decide +kernel, rfl, by decide +kernel, by decide +kernel⟩
theorem ok_ChS {f CB : Addr} {fd : FuncData} (F : Fun K "check_size" "check_size" sChS f fd) (M : CmK mg) (cB : Cal CX0 P w K mg base 2 "is_between" spBetween) (xB : Xc P w K mg base 3 "BadSize" CB (spXO K "size")) (nB : PySem.W.findIn K (.ref CB) "size" = some none) : FnOk P w K mg base (L2.CX P w) 5 f fd ["size"] (spChS CB) := by
  refine F.okX scChS (fun vs H Q E h => ?_) (fun cdv A outer s H vs Q E hr h => ?_)
  · obtain ⟨v, dd, rfl, _⟩ := h
    rfl
  · obtain ⟨v, dd, rfl, od, k1, k2⟩ := h
    refine ⟨_, pss_one (ps_if (pt_not (pt_val (pe_c cB hr pass0 (pa_cons (pv 0) (pa_cons pe_int (pa_cons (C8.pe_gc rfl M.size) pa_nil)))))) (pss_one (ps_raise rfl (takes_of rfl rfl rfl rfl) (pmk_x xB hr (pa_cons (pv 0) pa_nil)))) pss_nil), ?_⟩
    refine ⟨_, rfl, v, 1, 64, rfl, od.kn, _, rfl, ?_⟩
    cases hb : btw v 1 64 with
    | true => exact iteF (k1 hb)
    | false => exact iteT ⟨_, rfl, raiseO xB.T nB od (k2 hb)⟩
abbrev sTI : Stmt := inClass (topS 13) 0
abbrev NTI : List Str := ["self", "most"]
theorem scTI : FnScope NTI ["self", "most"] (defScope sTI) := ⟨rfl, rfl, rfl, by decide +kernel, rfl, by decide +kernel, by decide +kernel⟩
theorem ok_TI {f CB C : Addr} {fd : FuncData} (F : Fun K "__init__" "Turned.__init__" sTI f fd) (T : TxD K C "most") (cS : Cal (L2.CX P w) P w K mg base 5 "check_size" (spChS CB)) : FnOk P w K mg base (L2.CX P w) 6 f fd ["self", "most"] (spDI CB C "most") := by
  refine F.okX scTI (fun vs H Q E h => ?_) (fun cdv A outer s H vs Q E hr h => ?_)
  · obtain ⟨p, dx, v, dd, rfl, _⟩ := h
    rfl
  · obtain ⟨p, dx, v, dd, rfl, hp, od, k1, k2⟩ := h
    refine ⟨_, pss_cons (ps_expr (pe_c cS hr (passes_call (takes_of rfl rfl rfl rfl) fun _ _ _ _ h => h) (pa_cons (pv 1) pa_nil)))
      (pss_cons (ps_fld (pv 0) (pv 1) rfl)
      (pss_one (ps_fld (pv 0) (pv 1) rfl))), ?_⟩
    refine ⟨_, rfl, v, dd, rfl, od, fun hb => ?_, k2⟩
    refine ⟨_, rfl, _, rfl, p, C, dx, _, rfl, hp, T.cl, T.a, by show 0 < 1000; decide, ?_⟩
    refine ⟨_, rfl, _, rfl, p, C, dx, _, rfl, upd_same, T.cl, T.f, by show 1 < 1000; decide, ?_⟩
    exact k1 hb _ upd_same fun b o n e => by rw [upd_ne n, upd_ne n]; exact e
abbrev sFI : Stmt := inClass (topS 14) 0
theorem scFI : FnScope NTI ["self", "most"] (defScope sFI) := ⟨rfl, rfl, rfl, by decide +kernel, rfl, by decide +kernel, by decide +kernel⟩
theorem ok_FI {f CB C : Addr} {fd : FuncData} (F : Fun K "__init__" "Faded.__init__" sFI f fd) (T : TxD K C "most") (cS : Cal (L2.CX P w) P w K mg base 5 "check_size" (spChS CB)) : FnOk P w K mg base (L2.CX P w) 6 f fd ["self", "most"] (spDI CB C "most") := by
  refine F.okX scFI (fun vs H Q E h => ?_) (fun cdv A outer s H vs Q E hr h => ?_)
  · obtain ⟨p, dx, v, dd, rfl, _⟩ := h
    rfl
  · obtain ⟨p, dx, v, dd, rfl, hp, od, k1, k2⟩ := h
    refine ⟨_, pss_cons (ps_expr (pe_c cS hr (passes_call (takes_of rfl rfl rfl rfl) fun _ _ _ _ h => h) (pa_cons (pv 1) pa_nil)))
      (pss_cons (ps_fld (pv 0) (pv 1) rfl)
      (pss_one (ps_fld (pv 0) (pv 1) rfl))), ?_⟩
    refine ⟨_, rfl, v, dd, rfl, od, fun hb => ?_, k2⟩
    refine ⟨_, rfl, _, rfl, p, C, dx, _, rfl, hp, T.cl, T.a, by show 0 < 1000; decide, ?_⟩
    refine ⟨_, rfl, _, rfl, p, C, dx, _, rfl, upd_same, T.cl, T.f, by show 1 < 1000; decide, ?_⟩
    exact k1 hb _ upd_same fun b o n e => by rw [upd_ne n, upd_ne n]; exact e
abbrev sBI : Stmt := inClass (topS 15) 0
abbrev NBI : List Str := ["self", "size"]
theorem scBI : FnScope NBI ["self", "size"] (defScope sBI) := ⟨rfl, rfl, rfl, by decide +kernel, rfl, by decide +kernel, by decide +kernel⟩
theorem ok_BI {f CB C : Addr} {fd : FuncData} (F : Fun K "__init__" "Burst.__init__" sBI f fd) (T : TxD K C "size") (cS : Cal (L2.CX P w) P w K mg base 5 "check_size" (spChS CB)) : FnOk P w K mg base (L2.CX P w) 6 f fd ["self", "size"] (spDI CB C "size") := by
  refine F.okX scBI (fun vs H Q E h => ?_) (fun cdv A outer s H vs Q E hr h => ?_)
  · obtain ⟨p, dx, v, dd, rfl, _⟩ := h
    rfl
  · obtain ⟨p, dx, v, dd, rfl, hp, od, k1, k2⟩ := h
    refine ⟨_, pss_cons (ps_expr (pe_c cS hr (passes_call (takes_of rfl rfl rfl rfl) fun _ _ _ _ h => h) (pa_cons (pv 1) pa_nil)))
      (pss_cons (ps_fld (pv 0) (pv 1) rfl)
      (pss_one (ps_fld (pv 0) (pv 1) rfl))), ?_⟩
    refine ⟨_, rfl, v, dd, rfl, od, fun hb => ?_, k2⟩
    refine ⟨_, rfl, _, rfl, p, C, dx, _, rfl, hp, T.cl, T.a, by show 0 < 1000; decide, ?_⟩
    refine ⟨_, rfl, _, rfl, p, C, dx, _, rfl, upd_same, T.cl, T.f, by show 1 < 1000; decide, ?_⟩
    exact k1 hb _ upd_same fun b o n e => by rw [upd_ne n, upd_ne n]; exact e
end
end K66
set_option Elab.async false
set_option linter.all false
set_option maxRecDepth 100001
set_option maxHeartbeats 3999999
namespace K66
open PySem L2
open Builtin Builtin.Str Builtin.Int
/-- a number, in twos -/
def binT (n : Nat) : Str := ⟨((Nat.toDigits 2 n).map Char.toNat).toArray⟩
theorem name_int {a : Int} {t : Tok} {n : Nat} {k : String → Sem Fin} {m : Made} (g : Gives (k "int") m) : Gives (do let z ← typeNameOfCut n (.int a t); k z) m :=
  fun prog w A R s hq => wpAny_bind (PyProof.Rows.wpAny_typeNameOfCut_int (g prog w A R s hq))
theorem gives_ret {x y : Str} (h : x = y) : Gives (retStr x) (.str y) := by
  subst h
  exact .of_eq rfl
theorem dig2 (n : Nat) : ((Nat.toDigits 2 n).map fun c => (if (98 == 88) = true then c.toUpper else c).toNat) = (Nat.toDigits 2 n).map Char.toNat := rfl
theorem gives_bin (n : Nat) (t u : Tok) : Gives («int.__format__» ⟨[.int (n : Nat) t, .str "b" u], []⟩) (.str (binT n)) := by
  unfold «int.__format__»
  simp only [selfAndOne, noKeywords, Int.intOfSelf, asInt?, asStr?, List.isEmpty_nil, if_true, pure_bind, bind_pure, bind_assoc]
  rw [if_neg (fun z => nomatch z)]
  refine gives_after_typeNameOf (T := "str") (fun s => typeIs_str s _ _) (by decide) fun _ => ?_
  rw [if_neg (by decide +kernel), if_neg (by decide +kernel)]
  refine name_int ?_
  have hp : Float.parseFormatSpec (Str.ofString "b").cps.toList "int" 62 = .ok { fill := 32, align := 62, type := some 98 } := by rfl
  rw [hp]
  dsimp only
  rw [if_pos (by decide +kernel)]
  rw [show (some 98).getD (if ((Str.ofString "b").cps.back? == some 0) = true then 0 else 100) = 98 from rfl]
  clear hp
  generalize hf : ({ align := 62, type := some 98 } : Float.FormatSpec) = f
  have f1 : f.precision = none := by rw [← hf]
  have f2 : f.noNeg0 = false := by rw [← hf]
  have f3 : f.width = none := by rw [← hf]
  have f4 : f.alt = false := by rw [← hf]
  have f5 : f.sign = none := by rw [← hf]
  have f6 : f.grouping = none := by rw [← hf]
  have f7 : f.align = 62 := by rw [← hf]
  have f8 : f.fill = 32 := by rw [← hf]
  clear hf
  show Gives (if _ then _ else _) _
  rw [if_neg (by simp [f1])]
  show Gives (if _ then _ else _) _
  rw [if_neg (by simp [f2])]
  show Gives (if _ then _ else _) _
  rw [if_neg (by decide)]
  show Gives (if _ then _ else _) _
  rw [if_neg (by simp [f3])]
  show Gives (if _ then _ else _) _
  rw [if_neg (by simp [f3])]
  refine gives_ret ?_
  simp only [f4, Bool.false_eq_true, if_false]
  rw [decide_eq_false (show ¬ ((n : Nat) : Int) < 0 by omega), dig2, Int.natAbs_natCast, if_neg (by decide)]
  have ne : ((Nat.toDigits 2 n).map Char.toNat).isEmpty = false := by
    have := PyProof.Rows.tDigits_len_ge 2 n
    cases h : Nat.toDigits 2 n with
    | nil => rw [h] at this; simp at this
    | cons _ _ => rfl
  unfold binT
  generalize (Nat.toDigits 2 n).map Char.toNat = ds at ne ⊢
  obtain ⟨fl, al, sg, nz, at_, wd, gr, pr, ty⟩ := f
  dsimp only at f1 f2 f3 f4 f5 f6 f7 f8
  subst f1 f2 f3 f4 f5 f6 f7 f8
  conv => lhs; whnf
  simp [ne]
section
variable {X : Cx} {e : Expr} {te : TE} {p1 p2 p3 p4 p5 : Pos} {k : Option Str}
/-- a number, in twos -/
def tBin (te : TE) : TE := fun σ H Q => te σ H fun x H1 => ∃ n : Nat, x = .int (n : Nat) ∧ (binT n).length ≤ sizeLine ∧ Q (.str (binT n)) H1
open PyProof.Rows in
theorem pe_bin (he : PE X e te) : PE X (.JoinedStr [.FormattedValue e (-1) (some (.JoinedStr [.Constant (.str "b") 0 p1] p2)) p3] p4) (tBin te) := by
  refine pe_joined1 ⟨fun pins s σ H Q I h => ?_⟩
  refine wpAny_FormattedValue_spec (thn (he.run pins s σ H _ I h) fun v s1 hv => ?_)
  obtain ⟨x, H1, I1, r1, n, rfl, hz, q⟩ := hv
  obtain ⟨t, rfl⟩ := r1
  refine wpAny_JoinedStr_one (wpAny_Constant_str ⟨Str.ofString "b", _, rfl, ?_⟩)
  refine wpAny_formatField_spec (T := "int") (x := binT n) (by decide +kernel) (fun s' => typeIs_int s' _ _) PySem.F.slot_int_format PySem.F.entry_int_format PySem.F.args_int_format_2 (fun u => gives_bin n t u) ?_ (by decide +kernel) hz
  exact ⟨.str (binT n), H1, (I1.tok _).tok _, ⟨_, rfl⟩, q⟩
end
end K66
set_option linter.all false
set_option maxRecDepth 100001
set_option maxHeartbeats 3999999
namespace K66
/-! ### words of bits -/
abbrev W := List Bool
/-- no word begins another one -/
def PF (ws : List W) : Prop := ws.Pairwise fun a b => ¬ a <+: b ∧ ¬ b <+: a
def kr (L : Nat) (ws : List W) : Nat := (ws.map fun w => 2 ^ (L - w.length)).sum
inductive Full : List W → Prop
  | one : Full [[]]
  | two {zs os : List W} (a : Full zs) (b : Full os) : Full (zs.map (false :: ·) ++ os.map (true :: ·))
theorem Full.pos {ws : List W} (h : Full ws) : 1 ≤ ws.length := by
  induction h with
  | one => simp
  | two a b ia ib => rw [List.length_append, List.length_map]; omega
theorem Full.parts {ws : List W} (h : Full ws) (l : 2 ≤ ws.length) : ∃ zs os, Full zs ∧ Full os ∧ ws = zs.map (false :: ·) ++ os.map (true :: ·) := by
  cases h with
  | one => simp at l
  | two a b => exact ⟨_, _, a, b, rfl⟩
def tl (b : Bool) (ws : List W) : List W := ws.filterMap fun w => match w with
  | h :: t => if h = b then some t else none
  | [] => none
theorem kr_cons (L : Nat) (w : W) (ws : List W) : kr L (w :: ws) = 2 ^ (L - w.length) + kr L ws := by simp [kr]
theorem kr_split (L : Nat) : ∀ (ws : List W), (∀ w ∈ ws, w ≠ []) → kr (L + 1) ws = kr L (tl false ws) + kr L (tl true ws)
  | [], _ => rfl
  | [] :: r, h => absurd rfl (h _ List.mem_cons_self)
  | (x :: t) :: r, h => by
    have ih := kr_split L r fun w hw => h w (List.mem_cons_of_mem _ hw)
    have e : L + 1 - (x :: t).length = L - t.length := by rw [List.length_cons]; omega
    rw [kr_cons, e, ih]
    cases x with
    | false =>
      have e1 : tl false ((false :: t) :: r) = t :: tl false r := by simp [tl]
      have e2 : tl true ((false :: t) :: r) = tl true r := by simp [tl]
      rw [e1, e2, kr_cons]
      omega
    | true =>
      have e1 : tl true ((true :: t) :: r) = t :: tl true r := by simp [tl]
      have e2 : tl false ((true :: t) :: r) = tl false r := by simp [tl]
      rw [e1, e2, kr_cons]
      omega
theorem mem_tl {b : Bool} {ws : List W} {t : W} (h : t ∈ tl b ws) : b :: t ∈ ws := by
  unfold tl at h
  rw [List.mem_filterMap] at h
  obtain ⟨w, hw, e⟩ := h
  cases w with
  | nil => cases e
  | cons x r =>
    dsimp only at e
    by_cases c : x = b
    · rw [if_pos c] at e
      cases e
      rw [← c]
      exact hw
    · rw [if_neg c] at e
      cases e
theorem pf_tl {b : Bool} {ws : List W} (h : PF ws) : PF (tl b ws) := by
  unfold PF tl
  refine List.Pairwise.filterMap _ ?_ h
  intro a a' r t ht t' ht'
  cases a with
  | nil => cases ht
  | cons x s =>
    cases a' with
    | nil => cases ht'
    | cons x' s' =>
      dsimp only at ht ht'
      by_cases c : x = b
      · by_cases c' : x' = b
        · rw [if_pos c] at ht
          rw [if_pos c'] at ht'
          cases ht
          cases ht'
          subst c c'
          exact ⟨fun z => r.1 (List.cons_prefix_cons.mpr ⟨rfl, z⟩), fun z => r.2 (List.cons_prefix_cons.mpr ⟨rfl, z⟩)⟩
        · rw [if_neg c'] at ht'
          cases ht'
      · rw [if_neg c] at ht
        cases ht
theorem pf_nil {ws : List W} (h : PF ws) (m : [] ∈ ws) : ws = [[]] := by
  cases ws with
  | nil => cases m
  | cons w r =>
    obtain ⟨h1, h2⟩ := List.pairwise_cons.mp h
    rcases List.mem_cons.mp m with e | m
    · subst e
      cases r with
      | nil => rfl
      | cons v s => exact absurd (List.nil_prefix) (h1 v List.mem_cons_self).1
    · exact absurd (List.nil_prefix) (h1 [] m).2
theorem kraft : ∀ (L : Nat) (ws : List W), PF ws → (∀ w ∈ ws, w.length ≤ L) → kr L ws ≤ 2 ^ L
  | L, ws, h, hl => by
    by_cases m : [] ∈ ws
    · rw [pf_nil h m]
      simp [kr]
    · match L with
      | 0 =>
        cases ws with
        | nil => simp [kr]
        | cons w r =>
          have := hl w List.mem_cons_self
          have : w = [] := List.length_eq_zero_iff.mp (by omega)
          exact absurd (this ▸ List.mem_cons_self) m
      | L + 1 =>
        have nn : ∀ w ∈ ws, w ≠ [] := fun w hw z => m (z ▸ hw)
        rw [kr_split L ws nn]
        have a := kraft L (tl false ws) (pf_tl h) fun t ht => by have := hl _ (mem_tl ht); rw [List.length_cons] at this; omega
        have b := kraft L (tl true ws) (pf_tl h) fun t ht => by have := hl _ (mem_tl ht); rw [List.length_cons] at this; omega
        rw [Nat.pow_succ]
        omega
/-- in order -/
def cd (b : Bool) : Nat := if b then 49 else 48
def Asc (ws : List W) : Prop := ws.Pairwise fun a b => ¬ b.map cd < a.map cd
theorem asc_tl {b : Bool} {ws : List W} (h : Asc ws) : Asc (tl b ws) := by
  unfold Asc tl
  refine List.Pairwise.filterMap _ ?_ h
  intro a a' r t ht t' ht'
  cases a with
  | nil => cases ht
  | cons x s =>
    cases a' with
    | nil => cases ht'
    | cons x' s' =>
      dsimp only at ht ht'
      by_cases c : x = b
      · by_cases c' : x' = b
        · rw [if_pos c] at ht
          rw [if_pos c'] at ht'
          cases ht
          cases ht'
          subst c c'
          intro z
          exact r (by rw [List.map_cons, List.map_cons]; exact List.cons_lt_cons_self.mpr z)
        · rw [if_neg c'] at ht'
          cases ht'
      · rw [if_neg c] at ht
        cases ht
theorem asc_split : ∀ {ws : List W}, Asc ws → (∀ w ∈ ws, w ≠ []) → ws = (tl false ws).map (false :: ·) ++ (tl true ws).map (true :: ·)
  | [], _, _ => rfl
  | [] :: r, _, h => absurd rfl (h _ List.mem_cons_self)
  | (false :: t) :: r, a, h => by
    have ih := asc_split (List.pairwise_cons.mp a).2 fun w hw => h w (List.mem_cons_of_mem _ hw)
    have e1 : tl false ((false :: t) :: r) = t :: tl false r := by simp [tl]
    have e2 : tl true ((false :: t) :: r) = tl true r := by simp [tl]
    rw [e1, e2, List.map_cons, List.cons_append, ← ih]
  | (true :: t) :: r, a, h => by
    have ih := asc_split (List.pairwise_cons.mp a).2 fun w hw => h w (List.mem_cons_of_mem _ hw)
    have e1 : tl true ((true :: t) :: r) = t :: tl true r := by simp [tl]
    have e2 : tl false ((true :: t) :: r) = tl false r := by simp [tl]
    have z : tl false r = [] := by
      cases q : tl false r with
      | nil => rfl
      | cons s ss =>
        have m : s ∈ tl false r := by rw [q]; exact List.mem_cons_self
        have lt := (List.pairwise_cons.mp a).1 _ (mem_tl m)
        refine absurd ?_ lt
        rw [List.map_cons, List.map_cons]
        exact List.Lex.rel (by decide)
    rw [e1, e2, z]
    rw [z] at ih
    simp only [List.map_nil, List.nil_append, List.map_cons] at ih ⊢
    rw [← ih]
theorem full_of : ∀ (L : Nat) (ws : List W), PF ws → Asc ws → (∀ w ∈ ws, w.length ≤ L) → kr L ws = 2 ^ L → Full ws
  | L, ws, h, a, hl, e => by
    by_cases m : [] ∈ ws
    · rw [pf_nil h m]
      exact .one
    · match L with
      | 0 =>
        cases ws with
        | nil => simp [kr] at e
        | cons w r =>
          have := hl w List.mem_cons_self
          have : w = [] := List.length_eq_zero_iff.mp (by omega)
          exact absurd (this ▸ List.mem_cons_self) m
      | L + 1 =>
        have nn : ∀ w ∈ ws, w ≠ [] := fun w hw z => m (z ▸ hw)
        have l1 : ∀ b, ∀ t ∈ tl b ws, t.length ≤ L := fun b t ht => by have := hl _ (mem_tl ht); rw [List.length_cons] at this; omega
        rw [kr_split L ws nn, Nat.pow_succ] at e
        have k1 := kraft L (tl false ws) (pf_tl h) (l1 _)
        have k2 := kraft L (tl true ws) (pf_tl h) (l1 _)
        rw [asc_split a nn]
        exact .two (full_of L _ (pf_tl h) (asc_tl a) (l1 _) (by omega)) (full_of L _ (pf_tl h) (asc_tl a) (l1 _) (by omega))
end K66
set_option linter.all false
set_option maxRecDepth 100001
set_option maxHeartbeats 3999999
namespace K66
/-- so many bits of a number, the greatest first -/
def bits : Nat → Nat → W
  | 0, _ => []
  | l + 1, n => bits l (n / 2) ++ [decide (n % 2 = 1)]
theorem bits_len : ∀ (l n : Nat), (bits l n).length = l
  | 0, _ => rfl
  | l + 1, n => by rw [bits, List.length_append, bits_len l, List.length_singleton]
theorem bits_take : ∀ (d l n : Nat), (bits (l + d) n).take l = bits l (n / 2 ^ d)
  | 0, l, n => by
    rw [Nat.add_zero, Nat.pow_zero, Nat.div_one, List.take_of_length_le (by rw [bits_len]; exact Nat.le_refl _)]
  | d + 1, l, n => by
    rw [← Nat.add_assoc, bits, List.take_append_of_le_length (by rw [bits_len]; omega), bits_take d l, Nat.div_div_eq_div_mul, Nat.pow_succ, Nat.mul_comm]
theorem bits_inj : ∀ (l : Nat) {n m : Nat}, n < 2 ^ l → m < 2 ^ l → bits l n = bits l m → n = m
  | 0, n, m, hn, hm, _ => by
    rw [Nat.pow_zero] at hn hm
    omega
  | l + 1, n, m, hn, hm, e => by
    rw [bits, bits] at e
    obtain ⟨e1, e2⟩ := List.append_inj e (by rw [bits_len, bits_len])
    rw [Nat.pow_succ] at hn hm
    have := bits_inj l (n := n / 2) (m := m / 2) (by omega) (by omega) e1
    have e3 : decide (n % 2 = 1) = decide (m % 2 = 1) := List.singleton_inj.mp e2
    have : (n % 2 = 1 ↔ m % 2 = 1) := by
      rw [decide_eq_decide] at e3
      exact e3
    omega
/-- the words of a code told by its lengths alone; nx: the next number, of sz bits -/
def canoW : Nat → Nat → List Nat → List W
  | _, _, [] => []
  | nx, sz, l :: r => bits l (nx * 2 ^ (l - sz)) :: canoW (nx * 2 ^ (l - sz) + 1) l r
theorem canoW_lens : ∀ (nx sz : Nat) (ls : List Nat), (canoW nx sz ls).map List.length = ls
  | _, _, [] => rfl
  | nx, sz, l :: r => by rw [canoW, List.map_cons, bits_len, canoW_lens]
def kl (L : Nat) (ls : List Nat) : Nat := (ls.map fun l => 2 ^ (L - l)).sum
theorem kl_cons (L l : Nat) (ls : List Nat) : kl L (l :: ls) = 2 ^ (L - l) + kl L ls := by simp [kl]
theorem kr_kl (L : Nat) (ws : List W) : kr L ws = kl L (ws.map List.length) := by
  unfold kr kl
  rw [List.map_map]
  rfl
/-- the numbers stand in their room -/
structure Room_ (L nx sz : Nat) (ls : List Nat) : Prop where
  asc : ls.Pairwise (· ≤ ·)
  lo : ∀ l ∈ ls, sz ≤ l
  hi : ∀ l ∈ ls, l ≤ L
  szL : sz ≤ L
  fit : nx * 2 ^ (L - sz) + kl L ls ≤ 2 ^ L
theorem pow_cut {a b c : Nat} (h1 : a ≤ b) (h2 : b ≤ c) : 2 ^ (b - a) * 2 ^ (c - b) = 2 ^ (c - a) := by
  rw [← Nat.pow_add]
  congr 1
  omega
theorem Room_.next {L nx sz l : Nat} {r : List Nat} (h : Room_ L nx sz (l :: r)) : Room_ L (nx * 2 ^ (l - sz) + 1) l r := by
  obtain ⟨a1, a2⟩ := List.pairwise_cons.mp h.asc
  have l1 := h.lo l List.mem_cons_self
  have l2 := h.hi l List.mem_cons_self
  refine ⟨a2, a1, fun x hx => h.hi x (List.mem_cons_of_mem _ hx), l2, ?_⟩
  have f := h.fit
  rw [kl_cons] at f
  rw [Nat.add_mul, Nat.one_mul, Nat.mul_assoc, pow_cut l1 l2]
  omega
theorem canoW_mem : ∀ {L : Nat} {ls : List Nat} {nx sz : Nat}, Room_ L nx sz ls → ∀ w ∈ canoW nx sz ls, ∃ l n, w = bits l n ∧ l ∈ ls ∧ n < 2 ^ l ∧ nx * 2 ^ (L - sz) ≤ n * 2 ^ (L - l)
  | _, [], _, _, _, w, h => nomatch h
  | L, l :: r, nx, sz, R, w, h => by
    have l1 := R.lo l List.mem_cons_self
    have l2 := R.hi l List.mem_cons_self
    have R2 := R.next
    rw [canoW] at h
    rcases List.mem_cons.mp h with rfl | h
    · refine ⟨l, _, rfl, List.mem_cons_self, ?_, ?_⟩
      · have f := R2.fit
        have p : 0 < 2 ^ (L - l) := Nat.two_pow_pos _
        have : (nx * 2 ^ (l - sz) + 1) * 2 ^ (L - l) ≤ 2 ^ l * 2 ^ (L - l) := by
          rw [← Nat.pow_add, show l + (L - l) = L by omega]
          omega
        have := Nat.le_of_mul_le_mul_right this p
        omega
      · rw [Nat.mul_assoc, pow_cut l1 l2]
        exact Nat.le_refl _
    · obtain ⟨l', n, e, m, lt, le⟩ := canoW_mem R2 w h
      refine ⟨l', n, e, List.mem_cons_of_mem _ m, lt, Nat.le_trans ?_ le⟩
      rw [Nat.add_mul, Nat.mul_assoc, pow_cut l1 l2]
      omega
theorem bits_pre {l d n m : Nat} (hn : n < 2 ^ l) (hm : m < 2 ^ (l + d)) (h : bits l n <+: bits (l + d) m) : m < (n + 1) * 2 ^ d := by
  have e : bits l n = bits l (m / 2 ^ d) := by
    have := List.prefix_iff_eq_take.mp h
    rw [bits_len] at this
    rw [← bits_take]
    exact this
  have p : 0 < 2 ^ d := Nat.two_pow_pos _
  have lt : m / 2 ^ d < 2 ^ l := (Nat.div_lt_iff_lt_mul p).mpr (by rw [← Nat.pow_add]; exact hm)
  have := bits_inj l hn lt e
  rw [this, Nat.mul_comm]
  exact Nat.lt_mul_div_succ m p
theorem canoW_pf : ∀ {L : Nat} {ls : List Nat} {nx sz : Nat}, Room_ L nx sz ls → PF (canoW nx sz ls)
  | _, [], _, _, _ => .nil
  | L, l :: r, nx, sz, R => by
    have l2 := R.hi l List.mem_cons_self
    have R2 := R.next
    have n0 : nx * 2 ^ (l - sz) < 2 ^ l := by
      have f := R2.fit
      have p : 0 < 2 ^ (L - l) := Nat.two_pow_pos _
      have : (nx * 2 ^ (l - sz) + 1) * 2 ^ (L - l) ≤ 2 ^ l * 2 ^ (L - l) := by
        rw [← Nat.pow_add, show l + (L - l) = L by omega]
        omega
      have := Nat.le_of_mul_le_mul_right this p
      omega
    rw [canoW]
    refine List.Pairwise.cons (fun w hw => ?_) (canoW_pf R2)
    obtain ⟨l', n, rfl, m, lt, le⟩ := canoW_mem R2 w hw
    have ll : l ≤ l' := R2.lo l' m
    have lL : l' ≤ L := R2.hi l' m
    generalize nx * 2 ^ (l - sz) = k at n0 le ⊢
    have key : ¬ bits l k <+: bits l' n := fun h => by
      obtain ⟨d, rfl⟩ := Nat.exists_eq_add_of_le ll
      have b := bits_pre n0 lt h
      have c : n * 2 ^ (L - (l + d)) < (k + 1) * 2 ^ (L - l) := by
        have e : 2 ^ (L - l) = 2 ^ d * 2 ^ (L - (l + d)) := by
          rw [← Nat.pow_add]
          congr 1
          omega
        rw [e, ← Nat.mul_assoc]
        exact Nat.mul_lt_mul_of_pos_right b (Nat.two_pow_pos _)
      omega
    refine ⟨key, fun h => key ?_⟩
    have le2 := h.length_le
    rw [bits_len, bits_len] at le2
    have : bits l' n = bits l k := h.eq_of_length (by rw [bits_len, bits_len]; omega)
    rw [this]
    exact List.prefix_refl _
theorem room_start {L : Nat} {ls : List Nat} (a : ls.Pairwise (· ≤ ·)) (h : ∀ l ∈ ls, l ≤ L) (f : kl L ls ≤ 2 ^ L) : Room_ L 0 0 ls := ⟨a, fun _ _ => Nat.zero_le _, h, Nat.zero_le _, by rw [Nat.zero_mul, Nat.zero_add]; exact f⟩
end K66
set_option Elab.async false
set_option linter.all false
set_option maxRecDepth 100001
set_option maxHeartbeats 3999999
namespace K66
open PySem L2
/-! ### texts -/
def S (l : List Nat) : Str := ⟨l.toArray⟩
theorem S_list (l : List Nat) : (S l).cps.toList = l := rfl
theorem S_size (l : List Nat) : (S l).cps.size = l.length := by simp [S]
theorem S_len (l : List Nat) : (S l).length = l.length := S_size l
theorem S_get (l : List Nat) (i : Nat) : (S l).cps[i]? = l[i]? := by simp [S]
theorem S_inj {l m : List Nat} (h : S l = S m) : l = m := congrArg (fun z : Str => z.cps.toList) h
theorem S_of (z : Str) : z = S z.cps.toList := rfl
def isS : V → Bool
  | .str _ => true
  | _ => false
theorem ks_of {K : PySem.W.Frag} {t : String} {b : Bool} (h : kitB t "str" = some b) : PySem.W.kitOne K (.type t) (.type "str") = some b := h
theorem Kn.isStr (K : PySem.W.Frag) {H : Hp} {v : V} (k : Kn H v) : ∃ t : String, TyX K H v (.type t) ∧ PySem.W.kitOne K (.type t) (.type "str") = some (isS v) := by
  cases k with
  | non => exact ⟨_, .base .non, ks_of (show kitB "NoneType" "str" = some false by decide +kernel)⟩
  | bl b => exact ⟨_, .base (.bl b), ks_of (show kitB "bool" "str" = some false by decide +kernel)⟩
  | int i => exact ⟨_, .base (.int i), ks_of (show kitB "int" "str" = some false by decide +kernel)⟩
  | str x => exact ⟨_, .base (.str x), ks_of (show kitB "str" "str" = some true by decide +kernel)⟩
  | lst e => exact ⟨_, .base (.lst e), ks_of (show kitB "list" "str" = some false by decide +kernel)⟩
  | tup e => exact ⟨_, .base (.tup e), ks_of (show kitB "tuple" "str" = some false by decide +kernel)⟩
theorem yesT {te : TE} {σ : St} {H : Hp} {Q : VK} {N : Hp → Prop} (h : te σ H Q) : tYes σ H fun b H3 => if b = true then te σ H3 Q else N H3 := by
  unfold tYes
  exact iteT h
/-- a comprehension whose elements change nothing -/
theorem lcP {J : It} {n : Nat} {G : Hp → Prop} {Y : Nat → Hp → V → Hp → Prop} (wk : Walk J n G Y) {g : TG} {tt : L2.TT} {te : TE} {vs : List Nat} {σ : St} {H1 : Hp} {D : Addr} {Qd : Hp → Prop} (us fs : List V) (hn : us.length = n) (hf : fs.length = n) (hb : n ≤ 10000)
    (hY : ∀ (i : Nat) (x : V) (H H' : Hp), Y i H x H' → H' = H ∧ us[i]? = some x) (hG : ∀ H', Same H1 H' → G H') (nD : H1 D = none)
    (hs : ∀ (i : Nat) (x y : V) (H : Hp) (Q : VK) (N : Hp → Prop), us[i]? = some x → fs[i]? = some y → Same H1 H → Q y H → g x (wipe σ vs) H fun σ2 H2 => wipe σ2 vs = wipe σ vs ∧ tt σ2 H2 fun b H3 => if b = true then te σ2 H3 Q else N H3)
    (hd : ∀ H, Same H1 H → H D = some (.lst fs) → Qd H) :
    ∃ W : Nat → Nat → Hp → Prop, (∃ m, W 0 m (upd H1 D (.lst []))) ∧ ∀ i m H, W i m H →
      (J.stop i H ∧ Qd H) ∨ (J.go i H ∧ ∃ Nx : Hp → Prop, (∀ H', Nx H' → ∃ m', m' < m ∧ W (i + 1) m' H') ∧ ∀ x H', J.yld i H x H' → g x (wipe σ vs) H' fun σ2 H2 => wipe σ2 vs = wipe σ vs ∧ tt σ2 H2 fun b H3 =>
        if b = true then te σ2 H3 fun y H4 => ∃ acc, H4 D = some (.lst acc) ∧ acc.length < sizeLine ∧ Nx (upd H4 D (.lst (acc ++ [y]))) else Nx H3) := by
  refine lc_it wk (fun i H' => Same H1 H' ∧ H' D = some (.lst (fs.take i))) ⟨same_new nD, upd_same⟩ (fun i H' _ z => hG H' z.1) ?_ ?_
  · rintro i x H H' hi ⟨e1, hD⟩ y
    obtain ⟨rfl, hx⟩ := hY i x H H' y
    have hi2 : i < fs.length := by omega
    refine hs i x fs[i] H' _ _ hx (List.getElem?_eq_getElem hi2) e1 ⟨_, hD, ?_, fun b o z => ?_, ?_⟩
    · rw [List.length_take]
      exact small10 (by omega)
    · rw [upd_ne (ne_of_none z nD)]
      exact e1 _ _ z
    · rw [List.take_add_one, List.getElem?_eq_getElem hi2]
      exact upd_same
  · rintro H ⟨e1, hD⟩
    refine hd H e1 ?_
    rw [hD, List.take_of_length_le (by omega)]
/-- a comprehension over a text -/
theorem lcS {z : Str} {g : TG} {tt : L2.TT} {te : TE} {vs : List Nat} {σ : St} {H1 : Hp} {D : Addr} {Qd : Hp → Prop} (f : Nat → V) (hb : z.cps.size ≤ 10000) (nD : H1 D = none)
    (hs : ∀ c H (Q : VK) (N : Hp → Prop), c ∈ z.cps.toList → Same H1 H → Q (f c) H → g (.str ⟨#[c]⟩) (wipe σ vs) H fun σ2 H2 => wipe σ2 vs = wipe σ vs ∧ tt σ2 H2 fun b H3 => if b = true then te σ2 H3 Q else N H3)
    (hd : ∀ H, Same H1 H → H D = some (.lst (z.cps.toList.map f)) → Qd H) :
    ∃ W : Nat → Nat → Hp → Prop, (∃ m, W 0 m (upd H1 D (.lst []))) ∧ ∀ i m H, W i m H →
      ((Its z).stop i H ∧ Qd H) ∨ ((Its z).go i H ∧ ∃ Nx : Hp → Prop, (∀ H', Nx H' → ∃ m', m' < m ∧ W (i + 1) m' H') ∧ ∀ x H', (Its z).yld i H x H' → g x (wipe σ vs) H' fun σ2 H2 => wipe σ2 vs = wipe σ vs ∧ tt σ2 H2 fun b H3 =>
        if b = true then te σ2 H3 fun y H4 => ∃ acc, H4 D = some (.lst acc) ∧ acc.length < sizeLine ∧ Nx (upd H4 D (.lst (acc ++ [y]))) else Nx H3) := by
  refine lcP walk_str (sgns z) (z.cps.toList.map f) (by simp [sgns]) (by simp) hb ?_ (fun _ _ => True.intro) nD ?_ hd
  · rintro i x H H' ⟨rfl, c, hc, rfl⟩
    refine ⟨rfl, ?_⟩
    unfold sgns
    rw [List.getElem?_map, Array.getElem?_toList, hc]
    rfl
  · intro i x y H Q N hx hy e q
    unfold sgns at hx
    rw [List.getElem?_map] at hx hy
    cases hc : z.cps.toList[i]? with
    | none =>
      rw [hc] at hx
      cases hx
    | some c =>
      rw [hc] at hx hy
      cases hx
      cases hy
      exact hs c H Q N (List.mem_of_getElem? hc) e q
section
variable {X : Cx}
theorem pe_isStr {a : Expr} {es : List Expr} {t : TA} {p pos : Pos} (hm : X.mg "isinstance" = none) (ha : PA X (a :: es) t) (hg : Gl X "isinstance" := by rfl)
    (he : starEach (a :: es) X.env = (false, eval a X.env) :: starEach es X.env := by rfl) (hpl : (backTo pos (starEach es X.env)).any (·.1) = false := by rfl) :
    PE X (.Call (.Name "isinstance" p) (a :: es) [] pos) (tCB (rIsi X.K) t) := pe_isi hm ha hg he hpl
theorem pe_lenS {a : Expr} {es : List Expr} {t : TA} {p pos : Pos} (hm : X.mg "len" = none) (ha : PA X (a :: es) t) (hg : Gl X "len" := by rfl) (he : starEach (a :: es) X.env = (false, eval a X.env) :: starEach es X.env := by rfl)
    (hpl : (backTo pos (starEach es X.env)).any (·.1) = false := by rfl) :
    PE X (.Call (.Name "len" p) (a :: es) [] pos) (tCB (fun xs H Q => ∃ z, xs = [.str z] ∧ z.length ≤ sizeLine ∧ Q (.int z.length) H) t) := pe_callB call_len_str hg hm PySem.boot_len ha (he := he) (hpl := hpl)
theorem pe_all {a : Expr} {es : List Expr} {t : TA} {p pos : Pos} (hc : X.calm = true) (hm : X.mg "all" = none) (ha : PA X (a :: es) t) (hg : Gl X "all" := by rfl) (he : starEach (a :: es) X.env = (false, eval a X.env) :: starEach es X.env := by rfl)
    (hpl : (backTo pos (starEach es X.env)).any (·.1) = false := by rfl) :
    PE X (.Call (.Name "all" p) (a :: es) [] pos) (tCB (rAll X.K) t) := pe_callB (cr_all hc) hg hm (by decide +kernel) ha (he := he) (hpl := hpl)
end
/-! ### texts of bits -/
def bS (w : W) : Str := S (w.map cd)
theorem bS_len (w : W) : (bS w).length = w.length := by rw [bS, S_len, List.length_map]
def isBit (c : Nat) : Bool := c == 48 || c == 49
/-- a text of bits -/
def isBs : V → Bool
  | .str x => x.cps.toList.all isBit
  | _ => false
theorem cd_bit (b : Bool) : isBit (cd b) = true := by cases b <;> rfl
theorem bits_of : ∀ (l : List Nat), l.all isBit = true → ∃ w : W, l = w.map cd
  | [], _ => ⟨[], rfl⟩
  | c :: r, h => by
    rw [List.all_cons, Bool.and_eq_true] at h
    obtain ⟨w, e⟩ := bits_of r h.2
    have h1 := h.1
    unfold isBit at h1
    simp only [Bool.or_eq_true, beq_iff_eq] at h1
    rcases h1 with rfl | rfl
    · exact ⟨false :: w, by rw [e]; rfl⟩
    · exact ⟨true :: w, by rw [e]; rfl⟩
theorem isBs_of {v : V} (h : isBs v = true) : ∃ w : W, v = .str (bS w) := by
  cases v with
  | str x =>
    obtain ⟨w, e⟩ := bits_of _ h
    exact ⟨w, by rw [bS, ← e]; rfl⟩
  | _ => cases h
theorem isBs_bS (w : W) : isBs (.str (bS w)) = true := by
  show (w.map cd).all isBit = true
  rw [List.all_map, List.all_eq_true]
  intro b _
  exact cd_bit b
theorem cd_inj {a b : Bool} (h : cd a = cd b) : a = b := by cases a <;> cases b <;> first | rfl | cases h
theorem map_cd_inj : ∀ {a b : W}, a.map cd = b.map cd → a = b
  | [], [], _ => rfl
  | [], _ :: _, h => nomatch h
  | _ :: _, [], h => nomatch h
  | x :: a, y :: b, h => by
    rw [List.map_cons, List.map_cons] at h
    injection h with h1 h2
    rw [cd_inj h1, map_cd_inj h2]
theorem bS_inj {a b : W} (h : bS a = bS b) : a = b := map_cd_inj (S_inj h)
/-- what is left of a text whose ends are cut -/
theorem strip_some {g : Nat → Bool} {x : Str} (h : ¬ x.cps.toList.all g = true) : 0 < (Txt.stripBy g true true x).length := by
  unfold Txt.stripBy
  have key : stripLo g true x < stripHi g true x (stripLo g true x) ∧ stripHi g true x (stripLo g true x) ≤ x.length := by
    unfold stripLo stripHi
    rw [if_pos rfl, if_pos rfl]
    have hx : x.length = x.cps.toList.length := by rw [Array.length_toList]; rfl
    rw [hx]
    generalize x.cps.toList = l at h ⊢
    have e := List.takeWhile_append_dropWhile (p := g) (l := l)
    cases q : l.dropWhile g with
    | nil =>
      rw [q, List.append_nil] at e
      refine absurd ?_ h
      rw [List.all_eq_true]
      intro c hc
      rw [← e] at hc
      have := List.all_takeWhile (p := g) (l := l)
      exact List.all_eq_true.mp this c hc
    | cons c r =>
      have gc : g c = false := by
        have := List.head?_dropWhile_not g l
        rw [q] at this
        simpa using this
      have dl : l.drop (l.takeWhile g).length = c :: r := by
        have e2 : l = l.takeWhile g ++ (c :: r) := by rw [← q]; exact e.symm
        exact (congrArg (fun z => z.drop (l.takeWhile g).length) e2).trans List.drop_left
      rw [dl, List.reverse_cons]
      have tw : ((r.reverse ++ [c]).takeWhile g).length ≤ r.length := by
        have hh := (List.takeWhile_prefix (p := g) (l := r.reverse ++ [c])).length_le
        rw [List.length_append, List.length_reverse, List.length_singleton] at hh
        rcases Nat.lt_or_ge r.length ((r.reverse ++ [c]).takeWhile g).length with lt | ge
        · have full : (r.reverse ++ [c]).takeWhile g = r.reverse ++ [c] := (List.takeWhile_prefix (p := g) (l := r.reverse ++ [c])).eq_of_length (by rw [List.length_append, List.length_reverse, List.length_singleton]; omega)
          have ga := List.all_takeWhile (p := g) (l := r.reverse ++ [c])
          rw [full, List.all_eq_true] at ga
          rw [ga c (by simp)] at gc
          cases gc
        · exact ge
      have ll : l.length = (l.takeWhile g).length + (r.length + 1) := by
        have := congrArg List.length e
        rw [List.length_append, q, List.length_cons] at this
        omega
      omega
  cases z : stripSame g true true x with
  | true =>
    rw [if_pos rfl]
    omega
  | false =>
    rw [if_neg (by decide)]
    unfold stripped
    have : (Builtin.Str.strSub x (stripLo g true x) (stripHi g true x (stripLo g true x))).length = stripHi g true x (stripLo g true x) - stripLo g true x := by
      show (x.cps.extract _ _).size = _
      rw [Array.size_extract]
      have : x.cps.size = x.length := rfl
      omega
    omega
end K66
set_option Elab.async false
set_option linter.all false
set_option maxRecDepth 100001
set_option maxHeartbeats 3999999
namespace K66
open PySem L2
theorem gN {i : Nat} {v : V} {σ : St} {H : Hp} {Q : St → Hp → Prop} (h : Q (σ.set i (some v)) H) : gName i v σ H Q := h
/-! ### what is damage of a kind -/
inductive Kd | tu | fa | bu
def Kd.nm : Kd → Str | .tu => "turned" | .fa => "faded" | .bu => "burst"
def Kd.fl : Kd → Str | .tu => "most" | .fa => "most" | .bu => "size"
def Kd.cl (CT CF CB : Addr) : Kd → Addr | .tu => CT | .fa => CF | .bu => CB
def iN (ps : List Nat) : List V := ps.map fun p => V.int ((p : Nat) : Int)
theorem iN_len {ps : List Nat} : (iN ps).length = ps.length := List.length_map _
theorem iN_get {ps : List Nat} {i : Nat} {x : V} (h : (iN ps)[i]? = some x) : ∃ p, ps[i]? = some p ∧ x = .int ((p : Nat) : Int) := by
  unfold iN at h
  rw [List.getElem?_map] at h
  cases e : ps[i]? with
  | none =>
    rw [e] at h
    cases h
  | some p =>
    rw [e] at h
    exact ⟨p, rfl, (Option.some.inj h).symm⟩
theorem iN_at {ps : List Nat} {i : Nat} (h : i < ps.length) : (iN ps)[i]? = some (.int ((ps.getD i 0 : Nat) : Int)) := by
  unfold iN
  rw [List.getElem?_map, List.getElem?_eq_getElem h, List.getD_eq_getElem?_getD, List.getElem?_eq_getElem h]
  rfl
def few (n : Int) (ps : List Nat) : Bool := decide ((1 : Int) ≤ (ps.length : Nat)) && decide (((ps.length : Nat) : Int) ≤ n)
def isof (k : Kd) (n : Int) (u : W) (ps : List Nat) : Bool := match k with
  | .tu => few n ps
  | .fa => few n ps && ps.all fun p => u.getD p false
  | .bu => decide (((ps.length : Nat) : Int) > 0) && decide (((ps.getD (ps.length - 1) 0 : Nat) : Int) - ((ps.getD 0 0 : Nat) : Int) < n)
/-- a damage of the kind k and the size n -/
structure IsDm (CT CF CB : Addr) (H : Hp) (d : Addr) (k : Kd) (n : Int) : Prop where
  ob : ∃ dx, H d = some (.ins (k.cl CT CF CB) dx (dmF k.fl (.int n)))
theorem IsDm.same {CT CF CB : Addr} {H H' : Hp} {d : Addr} {k : Kd} {n : Int} (h : IsDm CT CF CB H d k n) (e : Same H H') : IsDm CT CF CB H' d k n := by
  obtain ⟨dx, h⟩ := h.ob
  exact ⟨dx, e _ _ h⟩
theorem dm_a {a : Str} {v : V} (h : a ≠ ("first_left" : Str)) : (dmF a v).lookup a = some v := by
  unfold dmF
  rw [lookup_putF, if_neg (by simpa using h), lookup_putF, if_pos (by simp)]
theorem dm_f {a : Str} {v : V} : (dmF a v).lookup ("first_left" : Str) = some v := by
  unfold dmF
  rw [lookup_putF, if_pos (by simp)]
theorem dm_is (k : Kd) (v : V) : (dmF k.fl v).lookup ("is_of" : Str) = none := by
  cases k <;> (unfold dmF; rw [lookup_putF, if_neg (by decide +kernel), lookup_putF, if_neg (by decide +kernel)]; rfl)
end K66
set_option Elab.async false
set_option linter.all false
set_option maxRecDepth 100001
set_option maxHeartbeats 3999999
namespace K66
open PySem L2
/-! ### is_of -/
theorem atI_neg1 {α : Type} {xs : List α} {v : α} (h : xs[xs.length - 1]? = some v) : atI xs (-1) = some v := by
  have lt := (List.getElem?_eq_some_iff.mp h).1
  have hx := List.dropLast_concat_getLast (l := xs) (by intro z; rw [z] at lt; simp at lt)
  have e : xs.getLast (by intro z; rw [z] at lt; simp at lt) = v := by
    rw [List.getLast_eq_getElem]
    exact (List.getElem?_eq_some_iff.mp h).2
  rw [e] at hx
  rw [← hx]
  exact atI_last _ _
theorem getD_w {u : W} {p : Nat} (h : p < u.length) : u[p]? = some (u.getD p false) := by
  rw [List.getElem?_eq_getElem h, List.getD_eq_getElem?_getD, List.getElem?_eq_getElem h]
  rfl
theorem cut_1 {u : W} {p : Nat} (h : p < u.length) : cutS (bS u) (some ((p : Nat) : Int)) (some (((p : Nat) : Int) + 1)) = bS [u.getD p false] := by
  have e : ((p : Nat) : Int) + 1 = ((p + 1 : Nat) : Int) := rfl
  rw [e]
  unfold cutS
  rw [bS_len, HT.sIx_nat, HT.sIx_nat, Nat.min_eq_left (by omega), Nat.min_eq_left (by omega), show p + 1 - p = 1 by omega]
  have e2 : ((u.map cd).drop p).take 1 = [cd (u.getD p false)] := by
    rw [← List.map_drop, List.drop_eq_getElem_cons h, List.map_cons, List.take_succ_cons, List.take_zero]
    rw [List.getD_eq_getElem?_getD, List.getElem?_eq_getElem h]
    rfl
  show (⟨(((u.map cd).drop p).take 1).toArray⟩ : Str) = _
  rw [e2]
  rfl
theorem bit1 (b : Bool) : decide (V.str (bS [b]) = V.str "1") = b := by
  cases b with
  | true => exact decide_eq_true rfl
  | false =>
    refine decide_eq_false fun z => ?_
    have z : V.str (bS [false]) = V.str (bS [true]) := z
    injection z with z
    cases bS_inj z
theorem bit1c (b : Bool) : decide (V.str (⟨#[cd b]⟩ : Str) = V.str "1") = b := bit1 b
theorem lcM {J : It} {n : Nat} {G : Hp → Prop} {Y : Nat → Hp → V → Hp → Prop} (wk : Walk J n G Y) {g : TG} {te : TE} {vs : List Nat} {σ : St} {H1 : Hp} {D : Addr} {Qd : Hp → Prop} (f : Nat → V) (hb : n ≤ 10000) (nD : H1 D = none) (hG : ∀ H', Same H1 H' → G H')
    (hs : ∀ (i : Nat) (x : V) (H2 H3 : Hp) (N : VK), i < n → Same H1 H2 → Y i H2 x H3 → (∀ H4, Same H2 H4 → N (f i) H4) → g x (wipe σ vs) H3 fun σ2 H4 => wipe σ2 vs = wipe σ vs ∧ te σ2 H4 N)
    (hd : ∀ H', Same H1 H' → H' D = some (.lst ((List.range n).map f)) → Qd H') :
    ∃ W : Nat → Nat → Hp → Prop, (∃ m, W 0 m (upd H1 D (.lst []))) ∧ ∀ i m H, W i m H →
      (J.stop i H ∧ Qd H) ∨ (J.go i H ∧ ∃ Nx : Hp → Prop, (∀ H', Nx H' → ∃ m', m' < m ∧ W (i + 1) m' H') ∧ ∀ x H', J.yld i H x H' → g x (wipe σ vs) H' fun σ2 H2 => wipe σ2 vs = wipe σ vs ∧ tYes σ2 H2 fun b H3 =>
        if b = true then te σ2 H3 fun y H4 => ∃ acc, H4 D = some (.lst acc) ∧ acc.length < sizeLine ∧ Nx (upd H4 D (.lst (acc ++ [y]))) else Nx H3) := by
  refine lc_it wk (fun i H' => Same H1 H' ∧ H' D = some (.lst ((List.range i).map f))) ⟨same_new nD, upd_same⟩ (fun i H' _ z => hG H' z.1) ?_ (fun H' z => hd H' z.1 z.2)
  rintro i x H H' hi ⟨e1, hD⟩ y
  refine hs i x H H' _ hi e1 y fun H4 e4 => ⟨_, e4 _ _ hD, ?_, fun b o z => ?_, ?_⟩
  · rw [List.length_map, List.length_range]
    exact small10 (by omega)
  · rw [upd_ne (ne_of_none z nD)]
    exact e4 _ _ (e1 _ _ z)
  · rw [upd_same, List.range_succ, List.map_append]
    rfl
abbrev sTO : Stmt := inClass (topS 13) 1
abbrev NTO : List Str := ["self", "bits", "places"]
/-- is_of, of a damage of the kind k -/
def spIo (CT CF CB : Addr) (k : Kd) : Sp := fun vs H Q _ => ∃ (d a : Addr) (n : Int) (u : W) (ps : List Nat), vs = [.ref d, .str (bS u), .ref a] ∧ IsDm CT CF CB H d k n ∧ LT H a (iN ps) ∧ (∀ p ∈ ps, p < u.length) ∧ u.length ≤ 1000 ∧ ps.length ≤ 1000 ∧ ∀ H', Same H H' → Q (.bl (isof k n u ps)) H'
section
variable {P : Program} {w : World} {K : PySem.W.Frag} {mg : Str → Option Value} {base : Heap}
theorem scTO : FnScope NTO ["self", "bits", "places"] (defScope sTO) := ⟨rfl, rfl, rfl, by decide +kernel, rfl, by decide +kernel, by decide +kernel⟩
theorem ok_TO {f CT CF CB : Addr} {fd : FuncData} (F : Fun K "is_of" "Turned.is_of" sTO f fd) (B : Bi mg) (T : TxD K CT "most") : FnOk P w K mg base CX0 1 f fd ["self", "bits", "places"] (spIo CT CF CB .tu) := by
  refine F.ok scTO (fun vs H Q E h => ?_) (fun cdv A outer s H vs Q E hr h => ?_)
  · obtain ⟨d, a, n, u, ps, rfl, _⟩ := h
    rfl
  · obtain ⟨d, a, n, u, ps, rfl, ⟨dx, hd⟩, ha, hp, hu, hl, q⟩ := h
    refine ⟨_, pss_one (ps_ret (pe_chain op_le op_le pe_int (pe_len B.len (pa_cons (pv 2) pa_nil)) (pe_fld (pv 0) rfl))), ?_⟩
    refine ⟨_, rfl, a, iN ps, rfl, ha.sq, _, _, rfl, rfl, _, rfl, ?_⟩
    rw [iN_len]
    have q := q H (Same.refl H)
    unfold isof few at q
    by_cases c : (1 : Int) ≤ ((ps.length : Nat) : Int)
    · rw [decide_eq_true c] at q ⊢
      exact iteT ⟨_, rfl, d, CT, dx, _, _, rfl, hd, T.cl, T.a, dm_a (by decide), _, _, rfl, rfl, q⟩
    · rw [decide_eq_false c] at q ⊢
      exact iteF q
abbrev sFO : Stmt := inClass (topS 14) 1
abbrev NFO : List Str := ["self", "bits", "places", "place"]
theorem scFO : FnScope NFO ["self", "bits", "places"] (defScope sFO) := ⟨rfl, rfl, rfl, by decide +kernel, rfl, by decide +kernel, by decide +kernel⟩
theorem all_of {ps : List Nat} {g : Nat → Bool} : ((List.range ps.length).map fun i => g (ps.getD i 0)).all id = ps.all g := by
  have : ((List.range ps.length).map fun i => g (ps.getD i 0)) = ps.map g := by
    refine List.ext_getElem (by simp) fun i h1 h2 => ?_
    have hi : i < ps.length := by simpa using h2
    rw [List.getElem_map, List.getElem_map, List.getElem_range, List.getD_eq_getElem?_getD, List.getElem?_eq_getElem hi]
    rfl
  rw [this, List.all_map]
  rfl
theorem ok_FO {f CT CF CB : Addr} {fd : FuncData} (F : Fun K "is_of" "Faded.is_of" sFO f fd) (B : Bi mg) (hall : mg "all" = none) (T : TxD K CF "most") : FnOk P w K mg base CX0 1 f fd ["self", "bits", "places"] (spIo CT CF CB .fa) := by
  refine F.ok scFO (fun vs H Q E h => ?_) (fun cdv A outer s H vs Q E hr h => ?_)
  · obtain ⟨d, a, n, u, ps, rfl, _⟩ := h
    rfl
  · obtain ⟨d, a, n, u, ps, rfl, ⟨dx, hd⟩, ha, hp, hu, hl, q⟩ := h
    refine ⟨_, pss_one (ps_ret (pe_and (pe_chain op_le op_le pe_int (pe_len B.len (pa_cons (pv 2) pa_nil)) (pe_fld (pv 0) rfl)) (pe_one (pe_all rfl hall (pa_cons (pe_lc (own := [("place", 3)]) rfl scFO.nd (pi_sqA (pv 2)) (blkOk_by (N := NFO) (sc := defScope sFO) (by decide +kernel)) (fun _ _ _ _ _ => (pg_name (i := 3) scFO.nd rfl (Or.inl rfl))) (fun _ _ _ _ _ => pts_nil) (fun _ _ _ _ _ => (pe_cmpR op_eq (pe_slice sl_str (pv 1) (po_some (pv 3)) (po_some (pe_op op_add (pv 3) pe_int))) pe_str (nomark _)))) pa_nil))))), ?_⟩
    refine ⟨_, rfl, a, iN ps, rfl, ha.sq, _, _, rfl, rfl, _, rfl, ?_⟩
    rw [iN_len]
    by_cases c : (1 : Int) ≤ ((ps.length : Nat) : Int)
    · rw [decide_eq_true c]
      refine iteT ⟨_, rfl, d, CF, dx, _, _, rfl, hd, T.cl, T.a, dm_a (by decide), _, _, rfl, rfl, _, rfl, ?_⟩
      by_cases c2 : ((ps.length : Nat) : Int) ≤ n
      · rw [decide_eq_true c2]
        refine iteT ⟨_, rfl, a, iN ps, rfl, ha.sq, fun J G wk hG D nD => lcM wk (fun i => .bl (u.getD (ps.getD i 0) false)) (by rw [iN_len]; omega) nD (fun H' e => hG H' fun o z => e _ _ z) ?_ ?_⟩
        · rintro i x H2 H3 N hi e2 ⟨rfl, hx⟩ fin
          rw [iN_len] at hi
          rw [iN_at hi] at hx
          cases hx
          have hq := hp (ps.getD i 0) (by rw [List.getD_eq_getElem?_getD, List.getElem?_eq_getElem hi]; exact List.getElem_mem hi)
          have f := fin _ (Same.refl _)
          refine ⟨rfl, _, rfl, _, rfl, _, rfl, _, rfl, _, _, rfl, rfl, _, rfl, _, rfl, by rw [bS_len]; exact Nat.le_of_lt (small10 (n := u.length) (by omega)), ?_⟩
          rw [cut_1 hq]
          refine ⟨rfl, ?_⟩
          show N (V.bl (decide (V.str (bS [u.getD (ps.getD i 0) false]) = V.str "1"))) H3
          rw [bit1]
          exact f
        · intro H3 e3 hD
          have q := q H3 e3
          unfold isof few at q
          rw [decide_eq_true c, decide_eq_true c2, Bool.true_and, Bool.true_and, ← all_of (g := fun p => u.getD p false)] at q
          exact ⟨D, (List.range ps.length).map (fun i => u.getD (ps.getD i 0) false), rfl, SqL.of (by rw [hD, iN_len, List.map_map]; rfl), q⟩
      · rw [decide_eq_false c2]
        have q := q H (Same.refl H)
        unfold isof few at q
        rw [decide_eq_true c, decide_eq_false c2] at q
        exact iteF q
    · rw [decide_eq_false c]
      have q := q H (Same.refl H)
      unfold isof few at q
      rw [decide_eq_false c] at q
      exact iteF ⟨_, rfl, iteF q⟩
abbrev sBO : Stmt := inClass (topS 15) 1
abbrev NBO : List Str := ["self", "bits", "places"]
theorem scBO : FnScope NBO ["self", "bits", "places"] (defScope sBO) := ⟨rfl, rfl, rfl, by decide +kernel, rfl, by decide +kernel, by decide +kernel⟩
theorem ok_BO {f CT CF CB : Addr} {fd : FuncData} (F : Fun K "is_of" "Burst.is_of" sBO f fd) (B : Bi mg) (T : TxD K CB "size") : FnOk P w K mg base CX0 1 f fd ["self", "bits", "places"] (spIo CT CF CB .bu) := by
  refine F.ok scBO (fun vs H Q E h => ?_) (fun cdv A outer s H vs Q E hr h => ?_)
  · obtain ⟨d, a, n, u, ps, rfl, _⟩ := h
    rfl
  · obtain ⟨d, a, n, u, ps, rfl, ⟨dx, hd⟩, ha, hp, hu, hl, q⟩ := h
    refine ⟨_, pss_one (ps_ret (pe_and (pe_cmpR op_gt (pe_len B.len (pa_cons (pv 2) pa_nil)) pe_int (nomark _)) (pe_one (pe_cmpR op_lt (pe_op op_sub (pe_ix ix_seq (pv 2) (pe_un un_neg pe_int) (fun _ _ => rfl)) (pe_ix ix_seq (pv 2) pe_int (fun _ _ => rfl))) (pe_fld (pv 0) rfl) (nomark _))))), ?_⟩
    have q := q H (Same.refl H)
    unfold isof at q
    refine ⟨_, rfl, a, iN ps, rfl, ha.sq, _, _, rfl, rfl, _, rfl, ?_⟩
    rw [iN_len]
    by_cases c : ((ps.length : Nat) : Int) > 0
    · rw [decide_eq_true c] at q
      rw [decide_eq_true (show (0 : Int) < ((ps.length : Nat) : Int) from c)]
      have l0 : (iN ps)[0]? = some (.int ((ps.getD 0 0 : Nat) : Int)) := iN_at (by omega)
      have l1 : (iN ps)[(iN ps).length - 1]? = some (.int ((ps.getD (ps.length - 1) 0 : Nat) : Int)) := by
        rw [iN_len]
        exact iN_at (by omega)
      have ix : ∀ {i : Int} {v : V} {Q : VK}, atI (iN ps) i = some v → Q v H → rIx K (.ref a) (.int i) H Q := fun h q => by
        rcases ha with z | z
        · exact .inl ⟨a, _, _, _, rfl, rfl, SqL.of z, h, q⟩
        · exact .inr (.inl ⟨a, _, _, _, rfl, rfl, SqT.of z, h, q⟩)
      refine iteT ⟨_, rfl, _, rfl, ix (i := -1) (atI_neg1 l1) ⟨_, rfl, ix (i := 0) (atI_nat (j := 0) l0) ⟨_, _, rfl, rfl, _, rfl, d, CB, dx, _, _, rfl, hd, T.cl, T.a, dm_a (by decide), _, _, rfl, rfl, q⟩⟩⟩
    · rw [decide_eq_false c] at q
      rw [decide_eq_false (show ¬ (0 : Int) < ((ps.length : Nat) : Int) from c)]
      exact iteF q
end
end K66
set_option Elab.async false
set_option linter.all false
set_option maxRecDepth 100001
set_option maxHeartbeats 3999999
namespace K66
open PySem L2
/-! ### the law's own kinds -/
abbrev sLIk : Stmt := topS 23
abbrev NLIk : List Str := ["_law_kind", "_law_bits", "_law_places", "_law_place"]
def spLIk : Sp := fun vs H Q _ => ∃ (kt a : Addr) (k : Kd) (n : Int) (u : W) (ps : List Nat), vs = [.ref kt, .str (bS u), .ref a] ∧ H kt = some (.tup [.str k.nm, .int n]) ∧ H a = some (.lst (iN ps)) ∧ (∀ p ∈ ps, p < u.length) ∧ u.length ≤ 1000 ∧ ps.length ≤ 1000 ∧ ∀ H', Same H H' → Q (.bl (isof k n u ps)) H'
def Kd.isT : Kd → Bool | .tu => true | .fa => true | .bu => false
def Kd.isF : Kd → Bool | .tu => false | .fa => true | .bu => false
def Kd.isB : Kd → Bool | .tu => false | .fa => false | .bu => true
/-- what a class of damages says -/
structure ObD (K : PySem.W.Frag) (C : Addr) : Prop where
  cl : Cls K C
  cc : PySem.W.findIn K (.ref C) "__class__" = some (some (.builtin "object.__class__"))
  mr : PySem.W.mroIn K C (.type "object") = some true
structure ObU (K : PySem.W.Frag) (mg : Str → Option Value) (CD CT CF CB : Addr) : Prop where
  gg : PySem.W.specialIn K (.builtin "object.__class__") "__get__" = some (some (.builtin "getset_descriptor.__get__"))
  tk : PySem.W.takesIn K (.builtin "object.__class__") = some true
  o : ∀ k : Kd, ObD K (k.cl CT CF CB)
  gD : mg "Damage" = some (.ref CD)
  gT : mg "Turned" = some (.ref CT)
  gF : mg "Faded" = some (.ref CF)
  gB : mg "Burst" = some (.ref CB)
  kD : ∀ k : Kd, PySem.W.kitOne K (.ref (k.cl CT CF CB)) (.ref CD) = some true
  kT : ∀ k : Kd, PySem.W.kitOne K (.ref (k.cl CT CF CB)) (.ref CT) = some k.isT
  kF : ∀ k : Kd, PySem.W.kitOne K (.ref (k.cl CT CF CB)) (.ref CF) = some k.isF
  kB : ∀ k : Kd, PySem.W.kitOne K (.ref (k.cl CT CF CB)) (.ref CB) = some k.isB
def blw (k : Kd) : List V := [.bl true, .bl k.isT, .bl k.isF, .bl k.isB]
abbrev sLBe : Stmt := topS 26
abbrev NLBe : List Str := ["_law_damage_here", "_law_near"]
def spLBe (CT CF CB : Addr) : Sp := fun vs H Q _ => ∃ (d : Addr) (k : Kd) (n : Int), vs = [.ref d] ∧ IsDm CT CF CB H d k n ∧ ∀ t H', Same H H' → H' t = some (.tup (blw k)) → Q (.ref t) H'
section
variable {P : Program} {w : World} {K : PySem.W.Frag} {mg : Str → Option Value} {base : Heap}
theorem scLIk : FnScope NLIk ["_law_kind", "_law_bits", "_law_places"] (defScope sLIk) := ⟨rfl, rfl, rfl, by decide +kernel, rfl, by decide +kernel, by decide +kernel⟩
theorem ok_LIk {f : Addr} {fd : FuncData} (F : Fun K "_law_is_kind" "_law_is_kind" sLIk f fd) (B : Bi mg) (hall : mg "all" = none) : FnOk P w K mg base CX0 1 f fd ["_law_kind", "_law_bits", "_law_places"] spLIk := by
  refine F.ok scLIk (fun vs H Q E h => ?_) (fun cdv A outer s H vs Q E hr h => ?_)
  · obtain ⟨kt, a, k, n, u, ps, rfl, _⟩ := h
    rfl
  · obtain ⟨kt, a, k, n, u, ps, rfl, hk, ha, hp, hu, hl, q⟩ := h
    refine ⟨_, pss_cons (ps_if (pt_cmpR op_eq (pe_len B.len (pa_cons (pv 2) pa_nil)) pe_int (nomark _)) (pss_one (ps_ret pe_bl)) pss_nil)
      (pss_cons (ps_if (pt_cmpR op_eq (pe_ix ix_tup (pv 0) pe_int (fun _ _ => rfl)) pe_str (nomark _)) (pss_one (ps_ret (pe_cmpR op_lt (pe_op op_sub (pe_ix ix_list (pv 2) (pe_un un_neg pe_int) (fun _ _ => rfl)) (pe_ix ix_list (pv 2) pe_int (fun _ _ => rfl))) (pe_ix ix_tup (pv 0) pe_int (fun _ _ => rfl)) (nomark _)))) pss_nil)
      (pss_one (ps_ret (pe_and (pe_cmpR op_le (pe_len B.len (pa_cons (pv 2) pa_nil)) (pe_ix ix_tup (pv 0) pe_int (fun _ _ => rfl)) (nomark _)) (pe_one (pe_or (pe_cmpR op_eq (pe_ix ix_tup (pv 0) pe_int (fun _ _ => rfl)) pe_str (nomark _)) (pe_one (pe_all rfl hall (pa_cons (pe_lc (own := [("_law_place", 3)]) rfl scLIk.nd (pi_sqA (pv 2)) (blkOk_by (N := NLIk) (sc := defScope sLIk) (by decide +kernel)) (fun _ _ _ _ _ => (pg_name (i := 3) scLIk.nd rfl (Or.inl rfl))) (fun _ _ _ _ _ => pts_nil) (fun _ _ _ _ _ => (pe_cmpR op_eq (pe_ix ix_str (pv 1) (pv 3) (fun _ _ => rfl)) pe_str (nomark _)))) pa_nil))))))))), ?_⟩
    refine ⟨_, rfl, a, iN ps, rfl, .inl (SqL.of ha), rfl, ?_⟩
    rw [iN_len]
    by_cases c : ps.length = 0
    · rw [decide_eq_true (show V.int ((ps.length : Nat) : Int) = .int 0 by rw [c]; rfl)]
      have q := q H (Same.refl H)
      have e : isof k n u ps = false := by
        cases k <;> unfold isof few <;> rw [c] <;> rfl
      rw [e] at q
      exact ⟨_, rfl, iteT q⟩
    · rw [decide_eq_false (show ¬ V.int ((ps.length : Nat) : Int) = .int 0 from fun z => c (by injection z with z; omega))]
      refine ⟨_, rfl, iteF ?_⟩
      have h0 : SqT K H kt [.str k.nm, .int n] := SqT.of hk
      have l0 : (iN ps)[0]? = some (.int ((ps.getD 0 0 : Nat) : Int)) := iN_at (by omega)
      have l1 : (iN ps)[(iN ps).length - 1]? = some (.int ((ps.getD (ps.length - 1) 0 : Nat) : Int)) := by
        rw [iN_len]
        exact iN_at (by omega)
      refine ⟨_, rfl, kt, _, _, _, rfl, rfl, h0, atI_nat (j := 0) rfl, rfl, ?_⟩
      have few_ : few n ps = decide (((ps.length : Nat) : Int) ≤ n) := by
        unfold few
        rw [decide_eq_true (show (1 : Int) ≤ ((ps.length : Nat) : Int) by omega), Bool.true_and]
      cases k with
      | bu =>
        have q := q H (Same.refl H)
        unfold isof at q
        rw [decide_eq_true (show ((ps.length : Nat) : Int) > 0 by omega), Bool.true_and] at q
        refine ⟨_, rfl, iteT ?_⟩
        refine ⟨_, rfl, _, rfl, ⟨a, _, _, _, rfl, rfl, SqL.of ha, atI_neg1 l1, ⟨_, rfl, ⟨a, _, _, _, rfl, rfl, SqL.of ha, atI_nat (j := 0) l0, ?_⟩⟩⟩⟩
        exact ⟨_, _, rfl, rfl, _, rfl, kt, _, _, _, rfl, rfl, h0, atI_nat (j := 1) rfl, _, _, rfl, rfl, q⟩
      | tu =>
        have q := q H (Same.refl H)
        unfold isof at q
        rw [few_] at q
        refine ⟨_, rfl, iteF ?_⟩
        refine ⟨_, rfl, a, iN ps, rfl, .inl (SqL.of ha), ?_⟩
        rw [iN_len]
        refine ⟨_, rfl, kt, _, _, _, rfl, rfl, h0, atI_nat (j := 1) rfl, _, _, rfl, rfl, _, rfl, ?_⟩
        by_cases c2 : ((ps.length : Nat) : Int) ≤ n
        · rw [decide_eq_true c2] at q ⊢
          exact iteT ⟨_, rfl, kt, _, _, _, rfl, rfl, h0, atI_nat (j := 0) rfl, rfl, _, rfl, iteT q⟩
        · rw [decide_eq_false c2] at q ⊢
          exact iteF q
      | fa =>
        refine ⟨_, rfl, iteF ?_⟩
        refine ⟨_, rfl, a, iN ps, rfl, .inl (SqL.of ha), ?_⟩
        rw [iN_len]
        refine ⟨_, rfl, kt, _, _, _, rfl, rfl, h0, atI_nat (j := 1) rfl, _, _, rfl, rfl, _, rfl, ?_⟩
        by_cases c2 : ((ps.length : Nat) : Int) ≤ n
        · rw [decide_eq_true c2]
          refine iteT ⟨_, rfl, kt, _, _, _, rfl, rfl, h0, atI_nat (j := 0) rfl, rfl, _, rfl, iteF ?_⟩
          refine ⟨_, rfl, a, iN ps, rfl, .inl (SqL.of ha), fun J G wk hG D nD => lcM wk (fun i => .bl (u.getD (ps.getD i 0) false)) (by rw [iN_len]; omega) nD (fun H' e => hG H' fun o z => e _ _ z) ?_ ?_⟩
          · rintro i x H2 H3 N hi e2 ⟨rfl, hx⟩ fin
            rw [iN_len] at hi
            rw [iN_at hi] at hx
            cases hx
            have hq := hp (ps.getD i 0) (by rw [List.getD_eq_getElem?_getD, List.getElem?_eq_getElem hi]; exact List.getElem_mem hi)
            have f := fin _ (Same.refl _)
            refine ⟨rfl, _, rfl, _, rfl, bS u, _, cd (u.getD (ps.getD i 0) false), rfl, rfl, by rw [bS_len]; exact Nat.le_of_lt (small10 (n := u.length) (by omega)), atI_nat (j := ps.getD i 0) (by unfold bS; rw [S_list, List.getElem?_map, getD_w hq]; rfl), ?_⟩
            refine ⟨rfl, ?_⟩
            show N (V.bl (decide (V.str (⟨#[cd (u.getD (ps.getD i 0) false)]⟩ : Str) = V.str "1"))) H3
            rw [bit1c]
            exact f
          · intro H3 e3 hD
            have q := q H3 e3
            unfold isof at q
            rw [few_, decide_eq_true c2, Bool.true_and, ← all_of (g := fun p => u.getD p false)] at q
            exact ⟨D, (List.range ps.length).map (fun i => u.getD (ps.getD i 0) false), rfl, SqL.of (by rw [hD, iN_len, List.map_map]; rfl), q⟩
        · rw [decide_eq_false c2]
          have q := q H (Same.refl H)
          unfold isof at q
          rw [few_, decide_eq_false c2] at q
          exact iteF q
theorem scLBe : FnScope NLBe ["_law_damage_here"] (defScope sLBe) := ⟨rfl, rfl, rfl, by decide +kernel, rfl, by decide +kernel, by decide +kernel⟩
theorem ok_LBe {f CD CT CF CB : Addr} {fd : FuncData} (F : Fun K "_law_below" "_law_below" sLBe f fd) (B : Bi mg) (U : ObU K mg CD CT CF CB) : FnOk P w K mg base CX0 1 f fd ["_law_damage_here"] (spLBe CT CF CB) := by
  refine F.ok scLBe (fun vs H Q E h => ?_) (fun cdv A outer s H vs Q E hr h => ?_)
  · obtain ⟨d, k, n, rfl, _⟩ := h
    rfl
  · obtain ⟨d, k, n, rfl, ⟨dx, hd⟩, q⟩ := h
    refine ⟨_, pss_cons (ps_set (i := 1) scLBe.nd rfl (Or.inl rfl) (pe_tup (pa_cons (pe_isi B.isi (pa_cons (pv 0) (pa_cons (pe_glob (v := .ref CD) rfl U.gD rfl) pa_nil))) (pa_cons (pe_isi B.isi (pa_cons (pv 0) (pa_cons (pe_glob (v := .ref CT) rfl U.gT rfl) pa_nil))) pa_nil))))
      (pss_one (ps_ret (pe_op op_catA (pv 1) (pe_tup (pa_cons (pe_isi B.isi (pa_cons (pv 0) (pa_cons (pe_glob (v := .ref CF) rfl U.gF rfl) pa_nil))) (pa_cons (pe_isi B.isi (pa_cons (pv 0) (pa_cons (pe_glob (v := .ref CB) rfl U.gB rfl) pa_nil))) pa_nil)))))), ?_⟩
    have O := U.o k
    have ty : ∀ {H' : Hp}, H' d = some (.ins (k.cl CT CF CB) dx (dmF k.fl (.int n))) → TyX K H' (.ref d) (.ref (k.cl CT CF CB)) := fun h => .base (.ins h O.cl O.cc U.gg U.tk O.mr)
    refine ⟨_, rfl, .ref d, .ref CD, .ref (k.cl CT CF CB), .ref CD, _, rfl, ClsV.own CD, ty hd, U.kD k, _, rfl, .ref d, .ref CT, .ref (k.cl CT CF CB), .ref CT, _, rfl, ClsV.own CT, ty hd, U.kT k, by show 2 ≤ sizeLine; decide, fun t0 nt0 => ?_⟩
    have e0 := same_new (o := .tup [.bl true, .bl k.isT]) nt0
    have h0 : upd H t0 (.tup [.bl true, .bl k.isT]) t0 = some (.tup [.bl true, .bl k.isT]) := upd_same
    generalize upd H t0 (.tup [.bl true, .bl k.isT]) = H0 at e0 h0 ⊢
    refine gN ?_
    dsimp only
    refine ⟨_, rfl, _, rfl, .ref d, .ref CF, .ref (k.cl CT CF CB), .ref CF, _, rfl, ClsV.own CF, ty (e0 _ _ hd), U.kF k, _, rfl, .ref d, .ref CB, .ref (k.cl CT CF CB), .ref CB, _, rfl, ClsV.own CB, ty (e0 _ _ hd), U.kB k, by show 2 ≤ sizeLine; decide, fun t1 nt1 => ?_⟩
    have e1 := same_new (o := .tup [.bl k.isF, .bl k.isB]) nt1
    exact ⟨t0, t1, _, _, rfl, rfl, SqT.of (e1 _ _ h0), SqT.of upd_same, by show 4 ≤ sizeLine; decide, (fun z => nomatch z), (fun _ z => nomatch z), fun _ _ p np => q p _ ((e0.trans e1).trans (same_new np)) upd_same⟩
end
end K66
set_option Elab.async false
set_option linter.all false
set_option maxRecDepth 100001
set_option maxHeartbeats 3999999
/-! set(xs) of a list of ints -/
namespace L2
open PySem.Spec PySem PyProof.Rows
/-- a set without items -/
abbrev eSet (w : World) : Obj := { cls := .type "set", dict := none, data := .set #[] 0 (.fresh 0 0 (!w.params.followText "set-order")) }
abbrev lIt (l : Addr) : Obj := { cls := .type "list_iterator", data := .fields #[.ref l, .int 0 0] }
section
variable {P : Program} {w : World} {A : Around} {E : Value → Shared → Prop} {s : Shared}
theorem set_of_list {l : Addr} {xs : Array Value} (ns : List Int) {Q : Value → Shared → Prop} (hA : A.handled = none) (hx : s.heap.IsList l xs) (hn : IntsAre xs.toList ns) (few : ns.length + 1 < scanBound)
    (k : ∀ (h2 : Heap) (tk c : Nat), SetR w h2 s.heap.objs.size (fun j => decide (j ∈ ns)) c → c ≤ ns.length → (∀ b o, s.heap.get? b = some o → h2.get? b = some o) → Q (.ref s.heap.objs.size) { s with heap := h2, toks := tk }) :
    wpAny (model P w) A (call (.type "set") [.ref l]) Q E s := by
  have sz : xs.size = ns.length := (Array.length_toList (xs := xs)).symm.trans (IntsAre.length hn)
  obtain ⟨c0, tl0, m0⟩ := F.called_set.mro
  have m1 := F.called_set.made
  have m2 := F.called_set.sub
  refine wpAny_call (codeAny_of_tree ?_)
  show wpAny _ _ (callAny (.type "set") _) _ _ _
  refine wpAny_pure ⟨Code.quiet_builtin _ (by decide +kernel),
    codeAny_builtin F.entry_type_call ?_⟩
  rw [Around.under_plain (weight_type_call_type "set" [.ref l] [])
    rfl]
  have m3 := F.called_set.notType
  have m4 := F.called_set.canCreate
  have m5 := F.typeCall_set_1 (.ref l)
  repeat (any_goals (first | assumption | wp_step))
  refine codeAny_mono (code_set_led1 (.ref l) (E := E) (Q₁ := fun v z => v = .ref s.heap.objs.size ∧ z = { s with heap := s.heap.push (eSet w) }) ⟨rfl, rfl⟩) fun r z hz => ?_
  cases r with
  | error e => exact hz
  | ok fl =>
    cases fl with
    | ret v =>
      obtain ⟨rfl, rfl⟩ := hz
      have at0 : (s.heap.push (eSet w)).get? s.heap.objs.size = some (eSet w) := Heap.get?_push_size _ rfl
      have ty0 : Shared.TypeIs { s with heap := s.heap.push (eSet w) } (.ref s.heap.objs.size) "set" := ⟨_, at0, rfl⟩
      have m6 := F.called_set.init.lookup
      have m7 := F.called_set.init.bind (.ref s.heap.objs.size)
      repeat (any_goals (first | assumption | wp_step))
      refine codeAny_mono (codeAny_call_builtin (R := wants (fun u z => u = .none ∧ ∃ h2 tk c, z = { s with heap := h2, toks := tk } ∧ SetR w h2 s.heap.objs.size (fun j => decide (j ∈ ns)) c ∧ c ≤ ns.length ∧
        ∀ b o, s.heap.get? b = some o → h2.get? b = some o) E) F.called_set.init.plain F.entry_set_init (check_set_init_1 ty0 ?_)) fun u z hz => ?_
      · obtain ⟨⟨ocl, odt, oda, osl⟩, ho, hcl, n0, hda⟩ := hx
        simp only at hcl hda
        subst hcl hda
        have ho1 : (s.heap.push (eSet w)).get? l = some { cls := .type "list", dict := odt, data := .seq xs n0, slots := osl } := Heap.get?_push_of_some _ ho
        have m8 := F.sub_list_set
        have m9 := F.sub_list_frozenset
        have m10 : (Value.type "list" == Value.type "dict") = false := by decide
        have hx1 : (s.heap.push (eSet w)).IsList l xs := ⟨_, ho1, rfl, n0, rfl⟩
        unfold Builtin.«set.__init__» noKeywords
        unfold Builtin.Frozenset.updateFrom
        generalize hIt : pyIter = It
        wp_walk
        subst hIt
        refine wpAny_pyIter_list hx1 (wpAny_bind (wpAny_runValue ?_))
        have lt0 : l < s.heap.objs.size := Heap.lt_size ho
        have sz1 : (s.heap.push (eSet w)).objs.size = s.heap.objs.size + 1 := Heap.size_push ..
        have ne1 : l ≠ (s.heap.push (eSet w)).objs.size := by
          rw [sz1]
          exact Nat.ne_of_lt (Nat.lt_succ_of_lt lt0)
        have off1 : s.heap.objs.size ∉ [(s.heap.push (eSet w)).objs.size, l] := fun hm => by
          rcases List.mem_cons.mp hm with e | hm
          · rw [sz1] at e
            exact Nat.ne_of_lt (Nat.lt_succ_self _) e
          · exact Nat.ne_of_gt lt0 (List.mem_singleton.mp hm)
        have val : ∀ (i : Nat) (v : Value), xs[i]? = some v → ∃ k t, ns[i]? = some k ∧ v = .int k t := fun i v hv => by
          have hi : i < ns.length := by
            have := (Array.getElem?_eq_some_iff.mp hv).1
            omega
          obtain ⟨t, e⟩ := IntsAre.int_at hn i v (by rw [Array.getElem?_toList]; exact hv)
          exact ⟨ns[i], t, List.getElem?_eq_getElem hi, by rw [e, List.getD_eq_getElem?_getD, List.getElem?_eq_getElem hi]; rfl⟩
        refine set_update_ints ((Walks.list (show A.in1.in1.in1.handled = none by simp [hA]) _ l ne1 xs).toS) s.heap.objs.size off1 ns sz few val (xs.size - 0) 0 _ (by omega) (Nat.zero_le _) ⟨⟨_, Heap.get?_push_size _ rfl, rfl, rfl⟩, hx1.push _⟩ ⟨0, Nat.le_refl 0, setR_new_at (show ((s.heap.push (eSet w)).push (lIt l)).get? s.heap.objs.size = some (eSet w) from Heap.get?_push_of_some _ at0)⟩ ?_
        intro z c hm hc hS
        obtain ⟨h2, g2, d2, tk, os2⟩ := z
        cases (show g2 = s.gens from hm.gens)
        cases (show d2 = s.drawn from hm.drawn)
        cases (show os2 = s.os from hm.os)
        show wpAny _ _ _ _ _ _
        refine wpAny_pure ?_
        show wpAny _ _ (ret Value.none) _ _ _
        refine wpAny_pure ⟨rfl, h2, tk, c, rfl, hS, by omega, fun b o e => hm.heap b o (fun hb => ?_) (Heap.get?_push_of_some _ (Heap.get?_push_of_some _ e))⟩
        have := Heap.lt_size e
        rcases List.mem_cons.mp hb with e1 | hb
        · exact Nat.ne_of_lt this e1
        · have e2 := List.mem_singleton.mp hb
          rw [sz1] at e2
          exact Nat.ne_of_lt (Nat.lt_succ_of_lt this) e2
      · cases u with
        | error e => exact hz
        | ok fl2 =>
          cases fl2 with
          | ret u =>
            obtain ⟨rfl, h2, tk, c, rfl, hS, hc, hk⟩ := hz
            repeat (any_goals (first | assumption | wp_step))
            exact k _ _ _ hS hc hk
          | _ => exact hz.elim
    | _ => exact hz.elim
end
section
variable {X : Cx}
/-- set(xs), fewer than 64 items -/
def rSetLI (K : PySem.W.Frag) (w : World) : List V → Hp → VK → Prop := fun vs H Q => ∃ (a : Addr) (ns : List Int), vs = [.ref a] ∧ SqL K H a (ns.map V.int) ∧ ns.length < 64 ∧ ∀ p n, H p = none → n ≤ ns.length → Q (.ref p) (upd H p (SetO w p (fun j => decide (j ∈ ns)) n))
theorem cr_setLI (hc : X.calm = true) : CallR X (.type "set") (rSetLI X.K X.w) := by
  intro pins s σ H vs us Q I r h
  obtain ⟨a, ns, rfl, hs, h64, q⟩ := h
  obtain ⟨its, rv, hl, _⟩ := I.list hs
  rw [Vals.ref1 r]
  refine set_of_list ns (I.ok.hd hc) hl.isList (by simpa using rv.ints) (Nat.lt_trans (Nat.succ_lt_succ h64) (by decide)) fun h2 tk c hS hc2 hk => ?_
  exact ⟨.ref s.heap.objs.size, upd H s.heap.objs.size (SetO X.w s.heap.objs.size (fun j => decide (j ∈ ns)) c), I.laid (t' := tk) hk (Nat.le_refl _) (setO_new hS), rfl, q _ c (I.hok.fresh (Nat.le_refl _)) hc2⟩
end
end L2
set_option Elab.async false
set_option linter.all false
set_option maxRecDepth 100001
set_option maxHeartbeats 3999999
namespace K66
open PySem L2
theorem lcO {J : It} {n : Nat} {G : Hp → Prop} {Y : Nat → Hp → V → Hp → Prop} (wk : Walk J n G Y) {g : TG} {te : TE} {vs : List Nat} {σ : St} {H1 : Hp} {D : Addr} {Qd : Hp → Prop} (R : Nat → V → Hp → Prop) (st : ∀ i v H H' xs, H D = some (.lst xs) → (∀ b o, b ≠ D → H b = some o → H' b = some o) → R i v H → R i v H') (hb : n ≤ 10000) (nD : H1 D = none) (hG : ∀ H', Same H1 H' → G H')
    (hs : ∀ (i : Nat) (x : V) (H2 H3 : Hp) (N : VK), i < n → Same H1 H2 → (∃ xs, H2 D = some (.lst xs)) → Y i H2 x H3 → (∀ v H4, Same H2 H4 → R i v H4 → N v H4) → g x (wipe σ vs) H3 fun σ2 H4 => wipe σ2 vs = wipe σ vs ∧ te σ2 H4 N)
    (hd : ∀ acc H', Same H1 H' → acc.length = n → (∀ i v, acc[i]? = some v → R i v H') → H' D = some (.lst acc) → Qd H') :
    ∃ W : Nat → Nat → Hp → Prop, (∃ m, W 0 m (upd H1 D (.lst []))) ∧ ∀ i m H, W i m H →
      (J.stop i H ∧ Qd H) ∨ (J.go i H ∧ ∃ Nx : Hp → Prop, (∀ H', Nx H' → ∃ m', m' < m ∧ W (i + 1) m' H') ∧ ∀ x H', J.yld i H x H' → g x (wipe σ vs) H' fun σ2 H2 => wipe σ2 vs = wipe σ vs ∧ tYes σ2 H2 fun b H3 =>
        if b = true then te σ2 H3 fun y H4 => ∃ acc, H4 D = some (.lst acc) ∧ acc.length < sizeLine ∧ Nx (upd H4 D (.lst (acc ++ [y]))) else Nx H3) := by
  refine lc_it wk (fun i H' => Same H1 H' ∧ ∃ acc, H' D = some (.lst acc) ∧ acc.length = i ∧ ∀ j v, acc[j]? = some v → R j v H') ⟨same_new nD, [], upd_same, rfl, fun j v e => by simp at e⟩ (fun i H' _ z => hG H' z.1) ?_ (fun H' ⟨e, acc, h1, h2, h3⟩ => hd acc H' e h2 h3 h1)
  rintro i x H H' hi ⟨e1, acc, hD, la, ra⟩ y
  refine hs i x H H' _ hi e1 ⟨acc, hD⟩ y fun v H4 e4 r => ⟨acc, e4 _ _ hD, by rw [la]; exact small10 (by omega), fun b o z => ?_, acc ++ [v], upd_same, by rw [List.length_append, la]; rfl, fun j u ju => ?_⟩
  · rw [upd_ne (ne_of_none z nD)]
    exact e4 _ _ (e1 _ _ z)
  · have k4 : ∀ b o, b ≠ D → H4 b = some o → upd H4 D (.lst (acc ++ [v])) b = some o := fun b o n z => (upd_ne n).trans z
    by_cases c : j < acc.length
    · rw [List.getElem?_append_left c] at ju
      exact st j u _ _ acc (e4 _ _ hD) k4 (st j u H H4 acc hD (fun b o _ z => e4 b o z) (ra j u ju))
    · have : j = acc.length := by
        have := (List.getElem?_eq_some_iff.mp ju).1
        rw [List.length_append] at this
        have : j < acc.length + 1 := this
        omega
      subst this
      rw [List.getElem?_append_right (Nat.le_refl _), Nat.sub_self] at ju
      have : v = u := Option.some.inj ju
      subst this
      rw [la]
      exact st i v _ _ acc (e4 _ _ hD) k4 r
theorem lcP1 {J : It} {n : Nat} {G : Hp → Prop} {Y : Nat → Hp → V → Hp → Prop} (wk : Walk J n G Y) {g : TG} {tt : L2.TT} {te : TE} {vs : List Nat} {σ : St} {H1 : Hp} {D : Addr} {Qd : Hp → Prop} {pn cl : Addr} {b s : Nat} (I : Nat → List V → Prop) (i0 : I 0 []) (hl : ∀ i acc, I i acc → acc.length ≤ i) (hb : n ≤ 10000) (nD : H1 D = none) (pen : Pen H1 pn cl b)
    (hG : ∀ H', But pn H1 H' → G H')
    (hs : ∀ (i : Nat) (x : V) (acc : List V) (H2 H3 : Hp) (Q : VK) (N : Hp → Prop), i < n → I i acc → But pn H1 H2 → Pen H2 pn cl (b + s * i) → Y i H2 x H3 → (∀ v H4, I (i + 1) (acc ++ [v]) → But pn H2 H4 → Pen H4 pn cl (b + s * i + s) → Q v H4) → (∀ H4, I (i + 1) acc → But pn H2 H4 → Pen H4 pn cl (b + s * i + s) → N H4) → g x (wipe σ vs) H3 fun σ2 H4 => wipe σ2 vs = wipe σ vs ∧ tt σ2 H4 fun b H5 => if b = true then te σ2 H5 Q else N H5)
    (hd : ∀ (acc : List V) H', I n acc → But pn H1 H' → Pen H' pn cl (b + s * n) → H' D = some (.lst acc) → Qd H') :
    ∃ W : Nat → Nat → Hp → Prop, (∃ m, W 0 m (upd H1 D (.lst []))) ∧ ∀ i m H, W i m H →
      (J.stop i H ∧ Qd H) ∨ (J.go i H ∧ ∃ Nx : Hp → Prop, (∀ H', Nx H' → ∃ m', m' < m ∧ W (i + 1) m' H') ∧ ∀ x H', J.yld i H x H' → g x (wipe σ vs) H' fun σ2 H2 => wipe σ2 vs = wipe σ vs ∧ tt σ2 H2 fun b H3 =>
        if b = true then te σ2 H3 fun y H4 => ∃ acc, H4 D = some (.lst acc) ∧ acc.length < sizeLine ∧ Nx (upd H4 D (.lst (acc ++ [y]))) else Nx H3) := by
  have cD : cl ≠ D := by
    obtain ⟨_, _, _, _, p2, _⟩ := pen
    exact ne_of_none p2 nD
  have pD : pn ≠ D := by
    obtain ⟨_, _, _, p1, _⟩ := pen
    exact ne_of_none p1 nD
  refine lc_it wk (fun i H' => But pn H1 H' ∧ Pen H' pn cl (b + s * i) ∧ ∃ acc, H' D = some (.lst acc) ∧ I i acc) ⟨fun c o n z => (upd_ne (ne_of_none z nD)).trans z, by rw [Nat.mul_zero]; exact pen.upd pD cD, [], upd_same, i0⟩ (fun i H' _ z => hG H' z.1) ?_ (fun H' ⟨z1, z2, acc, z3, z4⟩ => hd acc H' z4 z1 z2 z3)
  rintro i x H H' hi ⟨b1, p1, acc, hD, ia⟩ y
  have off : ∀ {H4 : Hp}, But pn H H4 → H4 D = some (.lst acc) := fun e => e _ _ (Ne.symm pD) hD
  refine hs i x acc H H' _ _ hi ia b1 p1 y (fun v H4 iv b4 p4 => ⟨acc, off b4, ?_, fun c o n z => ?_, ?_, _, upd_same, iv⟩) fun H4 iv b4 p4 => ⟨fun c o n z => b4 _ _ n (b1 _ _ n z), ?_, acc, off b4, iv⟩
  · have := hl i acc ia
    exact small10 (by omega)
  · rw [upd_ne (ne_of_none z nD)]
    exact b4 _ _ n (b1 _ _ n z)
  · rw [Nat.mul_add, Nat.mul_one, ← Nat.add_assoc]
    exact p4.upd pD cD
  · rw [Nat.mul_add, Nat.mul_one, ← Nat.add_assoc]
    exact p4
theorem joinL_nil : ∀ ps : List (List Nat), TL.joinL [] ps = ps.flatten
  | [] => rfl
  | [p] => by simp [TL.joinL]
  | p :: q :: r => by
    show p ++ ([] ++ TL.joinL [] (q :: r)) = _
    rw [joinL_nil (q :: r)]
    rfl
theorem tl_inj {a b : Str} (h : TL.tl a = TL.tl b) : a = b := by
  obtain ⟨⟨a⟩⟩ := a
  obtain ⟨⟨b⟩⟩ := b
  have h : a = b := h
  rw [h]
theorem sum_ones : ∀ u : W, (u.map ((fun x : Str => x.length) ∘ fun b => (⟨#[cd b]⟩ : Str))).sum = u.length
  | [] => rfl
  | b :: u => by
    rw [List.map_cons, List.sum_cons, sum_ones u, List.length_cons]
    show 1 + u.length = _
    omega
theorem join_bits (u : W) : Txt.join "" (u.map fun b => (⟨#[cd b]⟩ : Str)) = bS u := by
  rw [TL.join_eq]
  refine tl_inj ?_
  rw [TL.tl_join, show TL.tl ("" : Str) = [] from rfl, joinL_nil, List.map_map]
  have e : TL.tl (bS u) = u.map cd := by
    unfold bS
    exact S_list _
  rw [e]
  induction u with
  | nil => rfl
  | cons b u ih =>
    rw [List.map_cons, List.flatten_cons, List.map_cons, ih (by unfold bS; exact S_list _)]
    rfl

/-! ### the law's draws -/
abbrev sLBo : Stmt := topS 20
abbrev NLBo : List Str := ["_law_pen", "_law_many", "_law_k"]
def spLBo : L2.Sp := fun vs H Q _ => ∃ (pn cl : Addr) (n b : Nat), vs = [.ref pn, .int (n : Nat)] ∧ Pen H pn cl b ∧ b ≤ 900000 ∧ n ≤ 100 ∧ ∀ (u : W) H', u.length = n → But pn H H' → Pen H' pn cl (b + 100) → Q (.str (bS u)) H'
abbrev sSPl : Stmt := topS 21
abbrev NSPl : List Str := ["_law_pen", "_law_size", "_law_many", "_law_k"]
def spSPl : L2.Sp := fun vs H Q _ => ∃ (pn cl : Addr) (m n b : Nat), vs = [.ref pn, .int (m : Nat), .int (n : Nat)] ∧ Pen H pn cl b ∧ b ≤ 900000 ∧ 0 < m ∧ m ≤ 1000 ∧ n ≤ 50 ∧ ∀ (a : Addr) (ps : List Nat) H', (∀ p ∈ ps, p < m) → ps.length ≤ 1000 → But pn H H' → Pen H' pn cl (b + 100) → H' a = some (.lst (iN ps)) → Q (.ref a) H'
section
variable {P : Program} {w : World} {K : PySem.W.Frag} {mg : Str → Option Value} {base : Heap}
theorem scLBo : FnScope NLBo ["_law_pen", "_law_many"] (defScope sLBo) := ⟨rfl, rfl, rfl, by decide +kernel, rfl, by decide +kernel, by decide +kernel⟩
theorem ok_LBo {f : Addr} {fd : FuncData} (F : Fun K "_law_bits_of" "_law_bits_of" sLBo f fd) (B : Bi mg) (hst : mg "str" = none) (cD : Cal CX0 P w K mg base 1 "_law_draw" spDraw) : FnOk P w K mg base CX0 2 f fd ["_law_pen", "_law_many"] spLBo := by
  refine F.ok scLBo (fun vs H Q E h => ?_) (fun cdv A outer s H vs Q E hr h => ?_)
  · obtain ⟨pn, cl, n, b, rfl, _⟩ := h
    rfl
  · obtain ⟨pn, cl, n, b, rfl, pen, hb, hn, q⟩ := h
    refine ⟨_, pss_one (ps_ret (pe_m1 PySem.F.slot_str_join PySem.F.type_str_join mt_join pe_str (pe_lc (own := [("_law_k", 2)]) rfl scLBo.nd (pi_range1 rfl B.range (pa_cons (pv 1) pa_nil)) (blkOk_by (N := NLBo) (sc := defScope sLBo) (by decide +kernel)) (fun _ _ _ _ _ => (pg_name (i := 2) scLBo.nd rfl (Or.inl rfl))) (fun _ _ _ _ _ => pts_nil) (fun _ _ _ _ _ => (pe_callTy call_str_int rfl hst (by decide +kernel) (pa_cons (pe_c cD hr pass0 (pa_cons (pv 0) (pa_cons pe_int pa_nil))) pa_nil)))))), ?_⟩
    refine ⟨⟨_, rfl⟩, _, rfl, _, rfl, by omega, by omega, fun D nD => lcP1 (s := 1) (walk_range (lo := 0)) (fun j acc => ∃ u : W, acc = u.map (fun b => V.str ⟨#[cd b]⟩) ∧ u.length = j) ⟨[], rfl, rfl⟩ (fun j acc ⟨xs, e, l⟩ => by rw [e, List.length_map, l]; exact Nat.le_refl _) (by omega) nD pen (fun _ _ => True.intro) ?_ ?_⟩
    · rintro j x acc H3 H4 Q' N hj ⟨u, rfl, lu⟩ b3 p3 ⟨rfl, rfl⟩ fin _
      refine ⟨rfl, ?_⟩
      unfold tYes
      refine iteT ⟨_, rfl, pn, cl, 2, _, rfl, p3, by omega, by decide, by decide, fun r H5 r0 r1 b5 p5 => ?_⟩
      have h01 : r = 0 ∨ r = 1 := by omega
      refine ⟨r, rfl, ?_, ?_⟩
      · rcases h01 with rfl | rfl <;> decide
      · have e : V.str (toString r) = V.str ⟨#[cd (decide (r = 1))]⟩ := by
          rcases h01 with rfl | rfl
          · rfl
          · rfl
        rw [e]
        exact fin _ _ ⟨u ++ [decide (r = 1)], by rw [List.map_append]; rfl, by rw [List.length_append, lu]; rfl⟩ b5 p5
    · rintro acc H3 ⟨u, rfl, lu⟩ b3 p3 hD
      have lu : u.length = n := by omega
      refine ⟨"", D, u.map fun b => (⟨#[cd b]⟩ : Str), rfl, rfl, .inl (SqL.of (by rw [hD, List.map_map]; rfl)), ?_, ?_⟩
      · rw [List.map_map, List.length_map]
        have := sum_ones u
        rw [this]
        show u.length + u.length * 0 ≤ _
        omega
      · rw [join_bits]
        exact q u H3 lu b3 (p3.mono (by omega))
theorem scSPl : FnScope NSPl ["_law_pen", "_law_size", "_law_many"] (defScope sSPl) := ⟨rfl, rfl, rfl, by decide +kernel, rfl, by decide +kernel, by decide +kernel⟩
theorem ok_SPl {f : Addr} {fd : FuncData} (F : Fun K "_law_some_places" "_law_some_places" sSPl f fd) (B : Bi mg) (ms : mg "sorted" = none) (mset : mg "set" = none) (cD : Cal CX0 P w K mg base 1 "_law_draw" spDraw) : FnOk P w K mg base CX0 2 f fd ["_law_pen", "_law_size", "_law_many"] spSPl := by
  refine F.ok scSPl (fun vs H Q E h => ?_) (fun cdv A outer s H vs Q E hr h => ?_)
  · obtain ⟨pn, cl, m, n, b, rfl, _⟩ := h
    rfl
  · obtain ⟨pn, cl, m, n, b, rfl, pen, hb, m0, m1, hn, q⟩ := h
    refine ⟨_, pss_one (ps_ret (pe_callB (cr_sortedSet rfl) rfl ms (by decide +kernel) (pa_cons (pe_callTy (cr_setLI rfl) rfl mset (by decide +kernel) (pa_cons (pe_lc (own := [("_law_k", 3)]) rfl scSPl.nd (pi_range1 rfl B.range (pa_cons (pe_ifExp (pt_cmpR op_gt (pv 1) pe_int (nomark _)) (pv 2) pe_int) pa_nil)) (blkOk_by (N := NSPl) (sc := defScope sSPl) (by decide +kernel)) (fun _ _ _ _ _ => (pg_name (i := 3) scSPl.nd rfl (Or.inl rfl))) (fun _ _ _ _ _ => pts_nil) (fun _ _ _ _ _ => (pe_c cD hr pass0 (pa_cons (pv 0) (pa_cons (pv 1) pa_nil))))) pa_nil)) pa_nil))), ?_⟩
    have e0 : decide ((0 : Int) < ((m : Nat) : Int)) = true := decide_eq_true (by omega)
    refine ⟨_, rfl, _, _, rfl, rfl, _, rfl, ?_⟩
    rw [e0]
    refine iteT ⟨_, rfl, _, rfl, by omega, by omega, fun D nD => lcP1 (s := 1) (walk_range (lo := 0)) (fun j acc => ∃ ns : List Nat, acc = iN ns ∧ ns.length = j ∧ ∀ p ∈ ns, p < m) ⟨[], rfl, rfl, fun p hp => nomatch hp⟩ (fun j acc ⟨xs, e, l, _⟩ => by rw [e, iN_len, l]; exact Nat.le_refl _) (by omega) nD pen (fun _ _ => trivial) ?_ ?_⟩
    · rintro j x acc H3 H4 Q' N hj ⟨ns, rfl, ln, lm⟩ b3 p3 ⟨rfl, rfl⟩ fin _
      refine ⟨rfl, ?_⟩
      unfold tYes
      refine iteT ⟨_, rfl, _, rfl, pn, cl, m, _, rfl, p3, by omega, by omega, by omega, fun r H5 r0 r1 b5 p5 => ?_⟩
      obtain ⟨r, rfl⟩ := Int.eq_ofNat_of_zero_le r0
      refine fin _ _ ⟨ns ++ [r], by unfold iN; rw [List.map_append]; rfl, by rw [List.length_append, ln]; rfl, fun p hp => ?_⟩ b5 p5
      rcases List.mem_append.mp hp with z | z
      · exact lm p z
      · rw [List.mem_singleton.mp z]
        omega
    · rintro acc H3 ⟨ns, rfl, ln, lm⟩ b3 p3 hD
      have ln : ns.length = n := by omega
      have e1 : iN ns = (ns.map fun p => ((p : Nat) : Int)).map V.int := by
        unfold iN
        rw [List.map_map]
        rfl
      refine ⟨D, _, rfl, SqL.of (by rw [hD, e1]), by rw [List.length_map]; omega, fun p k np hk => ?_⟩
      rw [List.length_map] at hk
      refine ⟨p, _, k, rfl, upd_same, by omega, fun ns2 p2 pw mem l2 np2 => ?_⟩
      have pos : ∀ x ∈ ns2, 0 ≤ x ∧ x < (m : Nat) := fun x hx => by
        obtain ⟨y, hy, rfl⟩ := List.mem_map.mp (of_decide_eq_true ((mem x).mp hx))
        have := lm y hy
        omega
      have e2 : ns2.map V.int = iN (ns2.map Int.toNat) := by
        unfold iN
        rw [List.map_map]
        refine List.map_congr_left fun x hx => ?_
        show V.int x = V.int ((x.toNat : Nat) : Int)
        rw [Int.toNat_of_nonneg (pos x hx).1]
      have pd : p ≠ pn := by
        obtain ⟨_, _, _, h1, _⟩ := p3
        exact Ne.symm (ne_of_none h1 np)
      have s1 : Same H3 (upd H3 p (SetO w p (fun j => decide (j ∈ ns.map fun p => ((p : Nat) : Int))) k)) := same_new np
      have s2 := s1.trans (same_new (o := .lst (ns2.map V.int)) np2)
      refine q p2 (ns2.map Int.toNat) _ (fun x hx => ?_) (by rw [List.length_map]; omega) (fun c o nc z => s2 _ _ (b3 _ _ nc z)) ((p3.same s2).mono (by omega)) (by rw [upd_same, e2])
      obtain ⟨y, hy, rfl⟩ := List.mem_map.mp hx
      have := pos y hy
      omega
end
end K66
set_option Elab.async false
set_option linter.all false
set_option maxRecDepth 100001
set_option maxHeartbeats 3999999
/-! isinstance of a caught error that has fields -/
namespace ExF
open PySem PySem.W PySem.Spec PySem.Calls PyProof.Rows
section
variable {prog : Program} {w : World} {A : Around} {E : Value → Shared → Prop} {s : Shared} {K : Frag} {x D : Addr} {ox : Obj} {od : Option Obj}
/-- what the class must say -/
structure Says (K : Frag) (D : Addr) : Prop where
  hg : findIn K (.ref D) "__getattribute__" = some (some (.builtin "BaseException.__getattribute__"))
  hk : findIn K (.ref D) "__getattr__" = some none
  hs : subIn K (.ref D) (.type "BaseException") = some true
  hd : hasDictIn K D = true
  ha : findIn K (.ref D) "__class__" = some (some (.builtin "object.__class__"))
  hn : specialIn K (.builtin "object.__class__") "__get__" = some (some (.builtin "getset_descriptor.__get__"))
  ht : takesIn K (.builtin "object.__class__") = some true
  hm : mroIn K D (.type "object") = some true
theorem Says.isCls (S : Says K D) : (clsIn K D).isSome = true := by
  obtain ⟨cd, hc, _⟩ := any_some S.hd
  rw [hc]
  rfl
/-- __class__ is found by its descriptor, whatever the instance's dict holds -/
theorem Says.found (S : Says K D) : findObj K D od "__class__" = some (.bind (.builtin "getset_descriptor.__get__") (.builtin "object.__class__")) := by
  obtain ⟨cd, hc⟩ := Option.isSome_iff_exists.mp S.isCls
  simp [findObj, hc, S.ha, S.hn, S.ht]
/-- the slot itself -/
theorem slot_class {R : Result → Shared → Prop} {t : Nat} (S : Says K D) (X : K.In s.heap) (I : InstAt s.heap x ox D od) (h : R (.ok (.ret (.ref D))) s) :
    codeAny (model prog w) A (.call (.builtin "BaseException.__getattribute__") ⟨[.ref x, .str "__class__" t], []⟩) R s := by
  have T := I.type (M := model prog w)
  have B : Looks (model prog w) s.heap (isInstance (.ref x) (.type "BaseException")) true := T.andThen (looks_subIn X S.hs)
  have W := looks_find (M := model prog w) X I S.found
  refine codeAny_call_builtin PySem.F.excAttr_ValueError.ga.plain PySem.F.entry_bexc_ga ?_
  refine check_slot (M := model prog w) (i := "BaseException.__getattribute__") (owner := "BaseException") (n := "__getattribute__") (self := .ref x) (rest := [.str "__class__" t]) (kw := []) (by decide +kernel) (by decide +kernel) B (PySem.F.args_bexc_ga (.ref x) (.str "__class__" t)) ?_
  unfold Builtin.«object.__getattribute__»
  refine wpAny_bind (wpAny_of_eq (a := ((Value.ref x : Value), [Value.str "__class__" t])) (by first | rfl | (simp only [slotArgs]; rfl)) ?_)
  refine wpAny_bind (wpAny_pure (wpAny_bind (T.at (wpAny_bind (W.at ?_)))))
  show wpAny _ _ (Builtin.ObjectAttr.bindTo (.builtin "getset_descriptor.__get__") (.builtin "object.__class__") (.ref x) (.ref D)) _ _ _
  show wpAny _ _ (holding [Value.builtin "object.__class__"] (call (.builtin "getset_descriptor.__get__") [.builtin "object.__class__", .ref x, .ref D]) >>= ret) _ _ _
  refine wpAny_bind (wpAny_holding (wpAny_call (class_get (ox := ox) (od := od) X I S.hm ?_)))
  exact wpAny_pure h
/-- e.__class__ -/
theorem class_of {Q : Option Value → Shared → Prop} (S : Says K D) (X : K.In s.heap) (I : InstAt s.heap x ox D od) (h : Q (some (.ref D)) { s with toks := s.toks + 1 }) : wpAny (model prog w) A (getAttr? (.ref x) "__class__") Q E s := by
  have T := I.type (M := model prog w)
  have L1 := looks_findIn (M := model prog w) X S.hg
  have L2 := looks_findIn (M := model prog w) X S.hk
  have n2 : (Value.builtin "BaseException.__getattribute__" == Value.builtin "object.__getattribute__") = false := by decide +kernel
  unfold getAttr? getAttrBy? getAttrBy
  refine wpAny_bind (wpAny_mkText (wpAny_bind (wpAny_attempt (wpAny_holding (wpAny_bind (T.at (wpAny_bind (L1.at ?_))))))))
  show wpAny _ _ (if (onTheHeap (Value.ref D) && Value.builtin "BaseException.__getattribute__" == Value.builtin "object.__getattribute__") = true then _ else _) _ _ _
  rw [n2, Bool.and_false, if_neg Bool.false_ne_true]
  unfold getAttrByItsOwn hookBefore
  refine wpAny_bind ?_
  rw [if_pos (show onTheHeap (Value.ref D) = true from rfl)]
  refine L2.at (wpAny_bind (wpAny_attempt (wpAny_holding ?_)))
  unfold callGetattribute
  rw [if_neg (by decide)]
  unfold boundAndCalled
  rw [PySem.F.excAttr_ValueError.ga.bind (.ref x)]
  refine wpAny_bind (wpAny_pure ?_)
  refine wpAny_call (slot_class S X I ?_)
  show wpAny _ _ (handedOut (.ref D)) _ _ _
  rw [handedOut_of (v := .ref D) rfl]
  exact wpAny_pure (wpAny_pure h)
end
/-- what isinstance asks of an instance with a dict -/
theorem kit {K : Frag} {x D : Addr} {ox : Obj} {od : Option Obj} (S : Says K D) : KitX K (.ref x) (.ref D) (fun h => InstAt h x ox D od) where
  ty := fun _ _ _ I => I.type
  it := fun _ _ X _ => by
    have z := S.isCls
    unfold clsIn at z
    split at z
    · rename_i ho
      intro A' Q' E' s' k q
      unfold isType loadHead
      exact wpAny_bind (wpAny_loadPart (k _ _ (X _ _ ho)) (wpAny_pure q))
    · cases z
  ne := fun h tp dd its n sl X htp => by
    have z := S.isCls
    refine Bool.eq_false_iff.mpr fun q => ?_
    have e : D = tp := Value.ref.inj (beq_iff_eq.mp q)
    subst e
    unfold clsIn at z
    split at z
    · rename_i ho
      cases (X _ _ ho).symm.trans htp
    · cases z
  ca := fun X I k => class_of S X I k
end ExF
namespace ExF
open PySem PySem.Spec PyProof.Rows L2
/-- isinstance(e, c), e the caught error, with its fields in a dict -/
def rIsF (K : PySem.W.Frag) (D a : Addr) (cls : Value) (d : Option Addr) : List V → Hp → VK → Prop := fun xs H Q => ∃ (c : V) (cv : Value) (b : Bool), xs = [.ref a, c] ∧ cls = .ref D ∧ (∃ dd fs, d = some dd ∧ H dd = some (.xd fs)) ∧ (∀ u, RelV c u → u = cv) ∧ PySem.W.kitOne K (.ref D) cv = some b ∧ Q (.bl b) H
theorem call_isF {X : Cx} {a D : Addr} {oe : Obj} {cls : Value} {d : Option Addr} {pn : List (Addr × Obj)} (S : Says X.K D) (hz : Zc cls d oe) (hf : ∃ vs, oe.data = .fields vs) : CallR (X.suite a ((a, oe) :: pn)) (.builtin "isinstance") (rIsF X.K D a cls d) := by
  intro pins s σ H xs us Q I r h
  obtain ⟨c, cv, b, rfl, rfl, ⟨dd, fs, rfl, hdd⟩, hcv, e, q⟩ := h
  cases r with
  | cons rx rr =>
    cases rr with
    | cons rt rr =>
      cases rr
      cases rx
      have ec := hcv _ rt
      subst ec
      obtain ⟨ha, _⟩ := I.pin (a, oe) (List.mem_append_left _ List.mem_cons_self)
      obtain ⟨vs, hd⟩ := hf
      have hx : ObjOk X.prog X.w H s.heap dd (.xd fs) := I.hok dd _ hdd
      obtain ⟨mA, hns, _⟩ := hx
      obtain ⟨od, ho, _⟩ := lookIn_ns hns
      have J : PySem.W.InstAt s.heap a oe D (some od) := ⟨ha, hz.1, by unfold PySem.W.notCls; rw [hd] <;> rfl, by rw [hz.2]; exact ho⟩
      exact PySem.W.kia_one (kit S) I.kIn J e (fun z => nomatch z) fun tk => ⟨.bl b, H, I.kept (t' := tk) fun _ _ z => z, rfl, q⟩
end ExF
set_option Elab.async false
set_option linter.all false
set_option maxRecDepth 100001
set_option maxHeartbeats 3999999
/-! Functions that may ask repr of nested data: no guard stands on the stack when they are called. -/
namespace GFn
open PySem PySem.Spec PyProof.Rows L2 LamX
/-- as FnOk, from a stack without guards -/
structure FnOkG (P : Program) (w : World) (K : PySem.W.Frag) (mg : Str → Option Value) (base : Heap) (CX : CXT) (k : Nat) (f : Addr) (fd : FuncData) (ps : List Str) (sp : Sp) : Prop where
  many : ∀ vs H Q E, sp vs H Q E → vs.length = ps.length
  goes : ∀ (A : Around) (fr : List Env) (s : Shared) (H : Hp) (args : Args) (us : List Value) (vs : List V) (Q : VK) (E : XK), A.guards = some [] → Room k A → Env0 P w K mg base A fr s H → BindsTo s fd args (ps.zip us) → Vals vs us → sp vs H Q E →
    codeAny (model P w) A (.call (.ref f) args) (CR CX fr P w H s Q E) s
section
variable {P : Program} {w : World} {K : PySem.W.Frag} {mg : Str → Option Value} {base : Heap} {CX : CXT} {k : Nat} {f : Addr} {fd : FuncData} {ps : List Str} {sp : Sp}
theorem FnOkG.of (F : FnOk P w K mg base CX k f fd ps sp) : FnOkG P w K mg base CX k f fd ps sp :=
  ⟨F.len, fun A fr s H args us vs Q E _ => F.run A fr s H args us vs Q E⟩
theorem guards_deeper {A : Around} {env : Env} (h : A.guards = some []) : (A.deeper env).guards = some [] := by
  first | exact h | (simp [Around.deeper, h])
end
section
variable {X : Cx} {CX : CXT} {k : Nat} {f : Addr} {fd : FuncData} {ps : List Str} {sp : Sp} {E : XK} {x : Str} {p pos : Pos} {e : Expr} {es : List Expr} {t : TA}
theorem goG {pins : List (Addr × Obj)} {σ : L2.St} {H : Hp} {s : Shared} {Q : VK} {us : List Value} {vs : List V} (F : FnOkG X.prog X.w X.K X.mg X.base CX k f fd ps sp) (g : X.A.guards = some []) (room : Room k X.A) (b : Binds X.K fd ps []) (px : Passes CX X E)
    (I : Inv X pins σ H s) (r : Vals vs us) (h : sp vs H Q E) : wpAny (model X.prog X.w) X.A (call (.ref f) us) (EP X pins σ Q) X.xe s := by
  have n1 := F.many _ _ _ _ h
  have n2 : us.length = vs.length := r.length.symm
  have bt : BindsTo s fd ⟨us, []⟩ (ps.zip us) := by
    have z := b s us I.kIn (by rw [List.append_nil, n2, n1])
    rw [List.append_nil] at z
    exact z
  have c := F.goes X.A X.stack s H ⟨us, []⟩ us vs Q E g room I.env0 bt r h
  refine wpAny_call (codeAny_mono c fun res s2 z => ?_)
  match res, z with
  | .error er, z => exact px pins σ H s er s2 I z
  | .ok (.ret v), z => exact I.after z
  | .ok .next, z => exact z.elim
  | .ok .brk, z => exact z.elim
  | .ok .cont, z => exact z.elim
theorem pe_callG (F : FnOkG X.prog X.w X.K X.mg X.base CX k f fd ps sp) (g : X.A.guards = some []) (room : Room k X.A) (hg : Gl X x) (hm : X.mg x = some (.ref f)) (kp : PySem.W.keepIn X.K (.ref f) = true) (b : Binds X.K fd ps []) (px : Passes CX X E)
    (args : PA X (e :: es) t) (db : (x == ("__debug__" : Str)) = false := by decide) (he : starEach (e :: es) X.env = (false, eval e X.env) :: starEach es X.env := by rfl) (hpl : (backTo pos (starEach es X.env)).any (·.1) = false := by rfl) :
    PE X (.Call (.Name x p) (e :: es) [] pos) (tCall sp [] E t) := ⟨fun pins s σ H Q I h => by
  refine wpAny_Call_Name_kw (ld_glob I hg hm ?_ db)
  refine PySem.W.callWith_K (h₀ := X.base) I.ok.mod.kin kp ?_ he hpl
  refine thn (args.run pos pins s σ H _ I h) fun us s1 y => ?_
  obtain ⟨vs, H1, J, r, q⟩ := y
  rw [List.append_nil] at q
  exact ⟨J.kIn, goG F g room b px J r q⟩⟩
end
section
variable {P : Program} {w : World} {K : PySem.W.Frag} {mg : Str → Option Value} {base : Heap}
/-- a def by its body, which knows that no guard stands there -/
theorem fn_ofG {CX : CXT} {k : Nat} {f : Addr} {name qual : Str} {params : Arguments} {body : List Stmt} {scope : Scope} {dV kV doc pm cdv ct oc : Value} {an od : Option Addr} {osl : Array (Option Value)} {N ps : List Str} {sp : Sp}
    (lk : K.lookup f = some ⟨oc, od, .func (PySem.W.fnOf name qual params body scope dV kV doc pm an cdv ct), osl⟩) (hcd : PySem.W.codeIn K cdv qual = true) (S : FnScope N ps scope) (many : ∀ vs H Q E, sp vs H Q E → vs.length = ps.length)
    (hbody : ∀ (A : Around) (fr : List Env) (s : Shared) (H : Hp) (vs : List V) (Q : VK) (E : XK), A.guards = some [] → Room k (A.deeper (envOfC qual scope s.heap.objs.size f cdv)) → sp vs H Q E →
      ∃ t, PSs (cxOf CX P w K mg base N qual scope f cdv A fr s H E) body t ∧ t { nx := fun _ H' => Q .non H', rt := Q } (L2.start N vs) H) :
    FnOkG P w K mg base CX (k + 1) f (PySem.W.fnOf name qual params body scope dV kV doc pm an cdv ct) ps sp :=
  ⟨many, fun A fr s H args us vs Q E g room e0 hb r h => run_ofS lk hcd S room e0 hb r (many _ _ _ _ h) fun room' => hbody A fr s H vs Q E g room' h⟩
end
/-! ### the top -/
section
variable {P : Program} {w : World} {K : PySem.W.Frag} {mg mb : Str → Option Value} {a : Addr} {cs : List (Addr × Addr)} {s₁ : Shared} {vs : List Value} {ns : List Int}
abbrev tabO : Obj := { cls := .none, data := .fields #[] }
abbrev scrO (vs : List Value) : Obj := { cls := .type "list", data := .seq vs.toArray }
/-- what holds where the law is called -/
structure TopS (K : PySem.W.Frag) (mg mb : Str → Option Value) (a : Addr) (cs : List (Addr × Addr)) (s₁ : Shared) (vs : List Value) (ns : List Int) : Prop where
  kin : K.In s₁.heap
  nm : s₁.heap.Ns mainGlobals mg
  nb : s₁.heap.Ns builtinsNs mb
  bb : ∀ x : Str, x ≠ "__name__" → mb x = bootBuiltins x
  lim : s₁.heap.NoLimit
  gens : s₁.gens = #[]
  tb : ∀ p ∈ cs, s₁.heap.get? p.2 = some tabO
  tk : ∀ p ∈ cs, K.lookup p.2 = none
  cd : ∀ p ∈ cs, PySem.W.CodeHd s₁.heap p.1 p.2
  bm : ∃ (bm : Addr) (ob : Obj), mg "__builtins__" = some (.ref bm) ∧ bm ≠ builtinsNs ∧ s₁.heap.get? bm = some ob ∧ ob.cls = .type "module" ∧ ob.dict = some builtinsNs ∧ ob.data = .plain
  sc : s₁.heap.get? a = some (scrO vs)
  iv : IntsAre vs ns
  sz : ns.length ≤ sizeLine
/-- what is tracked there: the tables, and the script where the fragment does not tell it -/
noncomputable def topH (K : PySem.W.Frag) (a : Addr) (cs : List (Addr × Addr)) (vs : List Value) (ns : List Int) : Hp := fun b =>
  if b ∈ cs.map (·.2) then some (.tbl #[]) else if b = a ∧ (K.lookup a).isNone = true then some (.frz (scrO vs) (.lst (ns.map V.int))) else none
theorem topH_tab {b : Addr} (h : b ∈ cs.map (·.2)) : topH K a cs vs ns b = some (.tbl #[]) := if_pos h
theorem topH_cases (b : Addr) : (b ∈ cs.map (·.2) ∧ topH K a cs vs ns b = some (.tbl #[])) ∨ (b ∉ cs.map (·.2) ∧ b = a ∧ (K.lookup a).isNone = true ∧ topH K a cs vs ns b = some (.frz (scrO vs) (.lst (ns.map V.int)))) ∨ (b ∉ cs.map (·.2) ∧ topH K a cs vs ns b = none) := by
  by_cases c : b ∈ cs.map (·.2)
  · exact .inl ⟨c, if_pos c⟩
  · by_cases d : b = a ∧ (K.lookup a).isNone = true
    · exact .inr (.inl ⟨c, d.1, d.2, (if_neg c).trans (if_pos d)⟩)
    · exact .inr (.inr ⟨c, (if_neg c).trans (if_neg d)⟩)
theorem TopS.isTab (T : TopS K mg mb a cs s₁ vs ns) {b : Addr} (h : b ∈ cs.map (·.2)) : s₁.heap.get? b = some tabO := by
  obtain ⟨p, m, rfl⟩ := List.mem_map.mp h
  exact T.tb p m
theorem TopS.notTab (T : TopS K mg mb a cs s₁ vs ns) : a ∉ cs.map (·.2) := fun h => by
  have z := T.isTab h
  rw [T.sc] at z
  have z : (scrO vs).data = tabO.data := congrArg Obj.data (Option.some.inj z)
  cases z
/-- an object that is neither a list nor a table is not tracked -/
theorem TopS.off (T : TopS K mg mb a cs s₁ vs ns) {b : Addr} {o : Obj} (e : s₁.heap.get? b = some o) (n1 : o ≠ tabO) (n2 : b = a → (K.lookup a).isNone = false) : topH K a cs vs ns b = none := by
  rcases topH_cases (K := K) (a := a) (cs := cs) (vs := vs) (ns := ns) b with ⟨m, _⟩ | ⟨_, h, l, _⟩ | ⟨_, h⟩
  · rw [T.isTab m] at e
    exact absurd (Option.some.inj e).symm n1
  · rw [n2 h] at l
    cases l
  · exact h
theorem TopS.off' (T : TopS K mg mb a cs s₁ vs ns) {b : Addr} {o : Obj} (e : s₁.heap.get? b = some o) (n1 : o.data ≠ .fields #[]) (n2 : ∀ xs n, o.data ≠ .seq xs n) : topH K a cs vs ns b = none := T.off e (fun z => n1 (by rw [z])) fun h => by
  rw [h, T.sc] at e
  exact absurd rfl (by rw [← Option.some.inj e] at n2; exact n2 _ _)
theorem TopS.ints (T : TopS K mg mb a cs s₁ vs ns) : SqL K (topH K a cs vs ns) a (ns.map V.int) := by
  cases l : K.lookup a with
  | some o =>
    have e := (T.kin a o l).symm.trans T.sc
    cases e
    exact .inr ⟨_, vs.toArray, _, l, rfl, rfl, rfl, by rw [List.size_toArray, T.iv.length]; exact T.sz, by simpa using vals_ints T.iv⟩
  | none => exact .inl (.inr ⟨scrO vs, (if_neg T.notTab).trans (if_pos ⟨rfl, by rw [l]; rfl⟩)⟩)
theorem TopS.hok (T : TopS K mg mb a cs s₁ vs ns) : HOk P w (topH K a cs vs ns) s₁.heap := fun b u e => by
  rcases topH_cases (K := K) (a := a) (cs := cs) (vs := vs) (ns := ns) b with ⟨m, h⟩ | ⟨_, rfl, _, h⟩ | ⟨_, h⟩
  · rw [h] at e
    cases e
    exact T.isTab m
  · rw [h] at e
    cases e
    exact ⟨T.sc, by rw [List.length_map]; exact T.sz, vs, _, vals_ints T.iv, T.sc⟩
  · rw [h] at e
    cases e
theorem TopS.hid (T : TopS K mg mb a cs s₁ vs ns) {b : Addr} {o : Obj} (e : s₁.heap.get? b = some o) (n1 : o.data ≠ .fields #[]) (n2 : ∀ xs n, o.data ≠ .seq xs n) : (hidT s₁.heap (topH K a cs vs ns)).get? b = some o := hidT_get e (T.off' e n1 n2)
theorem TopS.hidNs (T : TopS K mg mb a cs s₁ vs ns) {b : Addr} {m : Str → Option Value} (h : s₁.heap.Ns b m) : (hidT s₁.heap (topH K a cs vs ns)).Ns b m := by
  obtain ⟨o, es, ep, e, d, r⟩ := h
  exact ⟨o, es, ep, T.hid e (by rw [d]; exact fun z => nomatch z) (by rw [d]; exact fun _ _ z => nomatch z), d, r⟩
theorem TopS.hidK (T : TopS K mg mb a cs s₁ vs ns) : K.In (hidT s₁.heap (topH K a cs vs ns)) := fun b o l => by
  refine hidT_get (T.kin b o l) ?_
  rcases topH_cases (K := K) (a := a) (cs := cs) (vs := vs) (ns := ns) b with ⟨m, _⟩ | ⟨_, rfl, h, _⟩ | ⟨_, h⟩
  · obtain ⟨p, mp, rfl⟩ := List.mem_map.mp m
    rw [T.tk p mp] at l
    cases l
  · rw [l] at h
    cases h
  · exact h
theorem TopS.hidT_tab (T : TopS K mg mb a cs s₁ vs ns) : ∀ p ∈ cs, TabB (hidT s₁.heap (topH K a cs vs ns)) mg p.1 p.2 := fun p mp => by
  refine ⟨?_, ?_, fun z => ?_⟩
  · obtain ⟨o, us, fi, tf, fl, tg, inF, tx, tt, e, r1, r2, r⟩ := T.cd p mp
    obtain ⟨r3, r4⟩ := id r
    refine ⟨o, us, fi, tf, fl, tg, inF, tx, tt, T.hid e (fun z => ?_) (fun _ _ z => ?_), r1, r2, r⟩
    · rw [r2] at z
      cases z
      simp at r3
    · rw [r2] at z
      cases z
  · obtain ⟨bm, ob, b1, b2, b3, b4, b5, b6⟩ := T.bm
    have nG : bm ≠ mainGlobals := fun z => by
      obtain ⟨o, es, ep, e, d, _⟩ := T.nm
      rw [← z, b3] at e
      cases e
      rw [b6] at d
      cases d
    have nT : bm ≠ p.2 := fun z => by
      rw [z, T.tb p mp] at b3
      cases b3
      cases b6
    exact ⟨bm, ob, b1, b2, nG, nT, T.hid b3 (by rw [b6]; exact fun z => nomatch z) (by rw [b6]; exact fun _ _ z => nomatch z), b4, b5, b6⟩
  · obtain ⟨o, es, ep, e, d, _⟩ := T.nm
    rw [z, T.tb p mp] at e
    cases e
    cases d
theorem TopS.env (T : TopS K mg mb a cs s₁ vs ns) : Env0 P w K mg (hidT s₁.heap (topH K a cs vs ns)) callerA [] s₁ (topH K a cs vs ns) where
  frames := rfl
  mod := ⟨T.hidK, T.hidNs T.nm, ⟨mb, T.hidNs T.nb, T.bb⟩, let ⟨mc, h1, h2⟩ := T.lim; ⟨mc, T.hidNs h1, h2⟩⟩
  bs := fun b o e => of_hidT e
  bsz := Nat.le_of_eq (hidT_size _ _)
  funs := trivial
  frf := fun b h => nomatch (show b ∈ ([] : List Addr) from h)
  hok := T.hok
  bare := .of_eq T.gens
/-- what was there stays, tables grow -/
theorem TopS.old (T : TopS K mg mb a cs s₁ vs ns) {H' : Hp} {s' : Shared} (un : Un (frs []) [] (topH K a cs vs ns) H' s₁.heap s'.heap) (hok : HOk P w H' s'.heap) : OldK s₁.heap s'.heap := by
  have no : ∀ b : Addr, b ∉ ([] : List Addr) := fun b h => nomatch h
  have stay : ∀ b o, b ∉ cs.map (·.2) → s₁.heap.get? b = some o → s'.heap.get? b = some o := fun b o nb e => by
    rcases topH_cases (K := K) (a := a) (cs := cs) (vs := vs) (ns := ns) b with ⟨m, _⟩ | ⟨_, rfl, _, h⟩ | ⟨_, h⟩
    · exact absurd m nb
    · rw [T.sc] at e
      cases e
      exact (hok _ _ (un.frzs _ _ _ h)).1
    · exact un.keep b o e h (no b) (no b)
  have grow : ∀ b, b ∈ cs.map (·.2) → ∃ more : Array Value, s'.heap.get? b = some { cls := .none, data := .fields more } := fun b m => by
    obtain ⟨more, h⟩ := un.tbls b _ (topH_tab m)
    exact ⟨_, hok b _ h⟩
  refine ⟨fun b o e => ?_, fun b o e => ?_⟩
  · by_cases m : b ∈ cs.map (·.2)
    · obtain ⟨more, g⟩ := grow b m
      obtain ⟨p, mp, rfl⟩ := List.mem_map.mp m
      rw [T.tb p mp] at e
      cases e
      exact .inr (.inl ⟨((T.cd p mp).tab (T.tb p mp)).isCodeTable, rfl, #[], more, rfl, by rw [Array.empty_append]; exact g⟩)
    · exact .inl (stay b o m e)
  · by_cases m : b ∈ cs.map (·.2)
    · obtain ⟨more, g⟩ := grow b m
      exact ⟨_, g⟩
    · exact ⟨o, stay b o m e⟩
theorem top_call {CX : CXT} {k : Nat} {fa : Addr} {fd : FuncData} {x : Str} {sp : Sp} (T : TopS K mg mb a cs s₁ vs ns) (room : Room k callerA)
    (F : ∀ base : Heap, K.In base → base.Ns mainGlobals mg → (∀ p ∈ cs, TabB base mg p.1 p.2) → FnOkG P w K mg base CX k fa fd [x] sp) (bt : ∀ (s : Shared) (u : Value), BindsTo s fd ⟨[u], []⟩ [(x, u)])
    (hsp : ∀ H : Hp, (∀ p ∈ cs, H p.2 = some (.tbl #[])) → SqL K H a (ns.map V.int) → sp [.ref a] H (fun v _ => v = .bl true) fun _ _ _ => False) (noX : ∀ H e s', CX [] H s₁ (fun _ _ _ => False) e s' → False) :
    codeAny (model P w) callerA (.call (.ref fa) ⟨[.ref a], []⟩) (fun r s' => r = .ok (.ret (.bool true)) ∧ OldK s₁.heap s'.heap ∧ s'.os = s₁.os ∧ AllBare s'.gens) s₁ := by
  have c := (F _ T.hidK (T.hidNs T.nm) T.hidT_tab).goes callerA [] s₁ _ ⟨[.ref a], []⟩ [.ref a] [.ref a] _ _ rfl room T.env (bt s₁ (.ref a)) (.cons rfl .nil) (hsp _ (fun p mp => topH_tab (List.mem_map.mpr ⟨p, mp, rfl⟩)) T.ints)
  refine codeAny_mono c fun r s' z => ?_
  match r, z with
  | .error e, z => exact (noX _ e s' z).elim
  | .ok (.ret u), z =>
    obtain ⟨v, H', os, bare, un, hok, rv, q⟩ := z
    have q : v = .bl true := q
    subst q
    obtain rfl : u = Value.bool true := rv
    exact ⟨rfl, T.old un hok, os, bare⟩
  | .ok .next, z => exact z.elim
  | .ok .brk, z => exact z.elim
  | .ok .cont, z => exact z.elim
end
/-- the law's promise at the head's heap h, from a stack without guards -/
def LawAtG (l : PySem.W.OpenLaw) (w : World) (K : PySem.W.Frag) (CX : CXT) (k n : Nat) (x : Str) (mg : Str → Option Value) (fa : Addr) (h : Heap) : Prop :=
  ∃ (fd : FuncData) (cs : List (Addr × Addr)) (sp : Sp), (∀ p ∈ cs, h.get? p.2 = some tabO) ∧ (∀ p ∈ cs, K.lookup p.2 = none) ∧ (∀ p ∈ cs, PySem.W.CodeHd h p.1 p.2) ∧ (∀ (s : Shared) (u : Value), BindsTo s fd ⟨[u], []⟩ [(x, u)]) ∧
    (∀ (H : Hp) (a : Addr) (ns : List Int), ns.length ≤ n → (∀ z ∈ ns, Builtin.Int.intBits z ≤ 1048576) → (∀ p ∈ cs, H p.2 = some (.tbl #[])) → SqL K H a (ns.map V.int) → sp [.ref a] H (fun v _ => v = .bl true) fun _ _ _ => False) ∧
    ∀ base : Heap, K.In base → base.Ns mainGlobals mg → (∀ p ∈ cs, TabB base mg p.1 p.2) → FnOkG l.prog w K mg base CX k fa fd [x] sp
theorem walk_ofG {l : PySem.W.OpenLaw} {n k : Nat} {q : Program} {loose : List Str} {XP : (Str → Option Value) → Heap → Prop} {YP : World → Heap → Prop} {d : DefRec} {K : Params → PySem.W.Frag} {CX : World → CXT} {x : Str}
    (hn : l.most = some n) (hn2 : n ≤ sizeLine) (hdf : d.params.defaults = []) (room : Room k callerA) (hY : ∀ (w : World) (h : Heap), YP w h → (K w.params).In h)
    (F : ∀ (w : World) (mg : Str → Option Value) (fa : Addr) (h : Heap), YP w h → (K w.params).In h → h.Ns mainGlobals mg → mg d.name = some (.ref fa) → LawAtG l w (K w.params) (CX w) k n x mg fa h)
    (noX : ∀ (w : World) (H : Hp) (s : Shared) (e : Value) (s' : Shared), CX w [] H s (fun _ _ _ => False) e s' → False) :
    PySem.W.WalkO q loose XP YP l.row.toRowW d [] (fun f vs => PySem.call f vs) := by
  refine Att.attach_callB hn hdf fun w s₀ s₁ mg mb fa o pm cd doc a vs ns G Y _ _ _ hmg hobj hints hlen hbits hg => ?_
  have kx := hY w _ Y
  obtain ⟨fd, cs, sp, h1, h2, h3, h4, h5, h6⟩ := F w mg fa _ Y kx G.T.g hmg
  exact top_call ⟨kx, G.T.g, G.T.b, G.T.builtins, G.T.nolimit, hg, h1, h2, h3, G.T.bmain, hobj, hints, Nat.le_trans hlen hn2⟩ room h6 h4 (fun H e1 e2 => h5 H a ns hlen hbits e1 e2) fun H e s' => noX w H s₁ e s'
end GFn
set_option Elab.async false
set_option linter.all false
set_option maxRecDepth 100001
set_option maxHeartbeats 3999999
/-! lambdas in a list, with a default or without, and a for over them -/
namespace LamX
open PySem PySem.Spec PyProof.Rows L2
/-- the function object of a lambda -/
abbrev lamO (q : Str) (params : Arguments) (body : Expr) (scope : Scope) (cl : List (Str × Addr)) (dV doc pm : Value) (c' : Addr) (ctv : Value) : Obj := PySem.W.kdv_obj "<lambda>" q params (.expr body) scope cl dV doc pm c' ctv
section
variable {X : Cx} {pins : List (Addr × Obj)} {σ : L2.St} {H : Hp} {s : Shared}
/-- the tail of the making: the default's tuple, if any, is there already -/
theorem lam_tail {T : List (Addr × Str)} {c P : Addr} {params : Arguments} {body : Expr} {scope : Scope} {pos : Pos} {dV : Value} {E : Value → Shared → Prop} {Q : Value → Shared → Prop} (I : Inv X pins σ H s) (TB : TabB X.base X.mg c P) (hcode : X.env.code = .ref c)
    (hm : (P, X.env.qual ++ "<lambda>") ∈ T) (hu : ∀ p ∈ T, p.1 = P → p.2 = X.env.qual ++ "<lambda>") (hT : Tabs T H) (hfree : ∀ y ∈ scope.names, y.2 = .free → ∃ c, X.env.cells.lookup y.1 = some c)
    (h : ∀ (f c' : Addr) (doc pm ctv : Value) (H1 : Hp) (s' : Shared), Inv X pins σ H1 s' → ExtN H H1 → Tabs T H1 →
      s'.heap.get? f = some (lamO (X.env.qual ++ "<lambda>") params body scope (cloFrom X.env.cells scope.names []) dV doc pm c' ctv) → H1 f = none → s.heap.objs.size ≤ f → H1 c' = some (CodeO c' (X.env.qual ++ "<lambda>")) → Q (.ref f) s') :
    wpAny (model X.prog X.w) X.A (makeTail "<lambda>" (X.env.qual ++ "<lambda>") params (.expr body) scope X.env dV .none none pos pos.line) Q E s := by
  obtain ⟨ps, hP, ht, ha⟩ := hT _ hm
  have bP : s.heap.BuiltinsAt X.mg P := TB.bm.keeps I.bk
  have hP' : s.heap.get? P = some { cls := .none, data := .fields ps } := I.hok P _ hP
  cases hc : codeAmong pos ps.toList with
  | none =>
    refine PySem.W.kdv_makeTail (mg := X.mg) (c := c) (P := P) (ps := ps) (closure_ok hfree) I.ok.glob (I.mod.glob.keeps I.bk) hcode (TB.code.keeps I.bk) hP' ht hc TB.gP bP fun c' ctv doc h' tk hx hge hlt hrec htb => ?_
    obtain ⟨c2, oc, vs, t, e2, hoc, hd, hv⟩ := hrec
    cases e2
    have hsz : s.heap.objs.size ≤ h'.objs.size := Nat.le_trans hge (Nat.le_of_lt hlt)
    have nC : H c' = none := I.hok.fresh hge
    have I1 := inv_table (t' := tk) (more := #[rawInt pos.line, rawInt pos.col, .ref c']) (h' := h'.push (lamO (X.env.qual ++ "<lambda>") params body scope (cloFrom X.env.cells scope.names []) dV doc ((X.mg "__name__").getD .none) c' ctv)) I hP
      (fun b o hb e => Heap.get?_push_of_some _ (hx b o hb e)) (Heap.get?_push_of_some _ htb) hge ⟨oc, vs, t, Heap.get?_push_of_some _ hoc, hd, hv⟩
    have hE : ExtN H (upd (upd H P (.tbl (ps ++ #[rawInt pos.line, rawInt pos.col, .ref c']))) c' (CodeO c' (X.env.qual ++ "<lambda>"))) := fun b o e n => by
      rw [upd_ne (ne_of_none e nC), upd_ne (fun z => n ps (Option.some.inj (e.symm.trans (by rw [z]; exact hP))))]
      exact e
    have eL : (ps ++ #[rawInt pos.line, rawInt pos.col, .ref c']).toList = ps.toList ++ [rawInt pos.line, rawInt pos.col, .ref c'] := by simp
    refine h h'.objs.size c' doc ((X.mg "__name__").getD .none) ctv _ _ I1 hE (fun p hp => ?_) (Heap.get?_push_size _ rfl) ?_ hsz upd_same
    · by_cases hb : p.1 = P
      · rw [hu p hp hb, hb]
        refine ⟨_, by rw [upd_ne (ne_of_none hP nC), upd_same], by rw [eL]; exact PySem.TriplesOk_snoc _ _ _ _ ht, fun p' cv hcv => ?_⟩
        rw [eL] at hcv
        rcases among_app _ ht hcv with z | z
        · obtain ⟨c0, e1, e2⟩ := ha p' cv z
          exact ⟨c0, e1, hE _ _ e2 codeO_ne⟩
        · exact ⟨c', z, upd_same⟩
      · obtain ⟨ps', a1, a2, a3⟩ := hT p hp
        refine ⟨ps', by rw [upd_ne (ne_of_none a1 nC), upd_ne hb]; exact a1, a2, fun p' cv hcv => ?_⟩
        obtain ⟨c0, e1, e2⟩ := a3 p' cv hcv
        exact ⟨c0, e1, hE _ _ e2 codeO_ne⟩
    · have n1 : h'.objs.size ≠ c' := Nat.ne_of_gt hlt
      have n2 : h'.objs.size ≠ P := Nat.ne_of_gt (Nat.lt_of_lt_of_le (Heap.lt_size hP') hsz)
      rw [upd_ne n1, upd_ne n2]
      exact I.hok.fresh hsz
  | some cv =>
    obtain ⟨c', e, hco⟩ := ha pos cv hc
    subst e
    refine PySem.W.kdv_makeTailHit (mg := X.mg) (c := c) (P := P) (ps := ps) (closure_ok hfree) I.ok.glob (I.mod.glob.keeps I.bk) hcode (TB.code.keeps I.bk) hP' ht hc bP fun ctv doc h' tk hx hsz => ?_
    have I1 : Inv X pins σ H { s with heap := h'.push (lamO (X.env.qual ++ "<lambda>") params body scope (cloFrom X.env.cells scope.names []) dV doc ((X.mg "__name__").getD .none) c' ctv), toks := tk } := I.kept fun b o e => Heap.get?_push_of_some _ (hx b o e)
    exact h h'.objs.size c' doc ((X.mg "__name__").getD .none) ctv H _ I1 (ExtN.refl H) hT (Heap.get?_push_size _ rfl) (I.hok.fresh hsz) hsz hco
end
/-- a lambda of the list: x, its one parameter with a default, if it has one -/
structure LSp where
  params : Arguments
  body : Expr
  scope : Scope
  pos : Pos
  x : Option Str
  t : XK → TE
/-- its function object is pinned -/
def LSp.At (L : LSp) (X : Cx) (pn : List (Addr × Obj)) (f c' : Addr) : Prop := ∃ dV doc pm ctv, (f, lamO (X.env.qual ++ "<lambda>") L.params L.body L.scope (cloFrom X.env.cells L.scope.names []) dV doc pm c' ctv) ∈ pn ∧
  match L.x with
  | none => dV = .none
  | some _ => ∃ (T : Addr) (u : Value), dV = .ref T ∧ (T, PySem.W.kdv_tup [u]) ∈ pn
theorem LSp.At.mono {L : LSp} {X : Cx} {pn pn' : List (Addr × Obj)} {f c' : Addr} (h : L.At X pn f c') (e : ∀ p ∈ pn, p ∈ pn') : L.At X pn' f c' := by
  obtain ⟨dV, doc, pm, ctv, h1, h2⟩ := h
  refine ⟨dV, doc, pm, ctv, e _ h1, ?_⟩
  split at h2
  · exact h2
  · obtain ⟨T, u, e1, e2⟩ := h2
    exact ⟨T, u, e1, e _ e2⟩
/-- no name of its own but the parameter, which the maker doesn't know -/
structure LamD (N : List Str) (sc scope : Scope) (x : Option Str) : Prop where
  kind : scope.kind = .function
  co : scope.isCoroutine = false
  gen : scope.isGenerator = false
  cell : ∀ y ∈ scope.names, y.2 ≠ .cell
  own : ∀ y ∈ scope.names, y.2 = .local → y.1 ∉ N
  free : ∀ y ∈ scope.names, y.2 = .free → sc.names.lookup y.1 = some .cell ∨ sc.names.lookup y.1 = some .free
  par : ∀ y, x = some y → scope.names.lookup y = some .local
def lamDB (N : List Str) (sc scope : Scope) (x : Option Str) : Bool :=
  decide (scope.kind = .function) && !scope.isCoroutine && !scope.isGenerator && (scope.names.all fun y => !decide (y.2 = .cell) && (!decide (y.2 = .local) || decide (y.1 ∉ N)) && (!decide (y.2 = .free) || decide (sc.names.lookup y.1 = some .cell) || decide (sc.names.lookup y.1 = some .free))) &&
    (match x with | none => true | some y => decide (scope.names.lookup y = some .local))
theorem lamD_by {N : List Str} {sc scope : Scope} {x : Option Str} (h : lamDB N sc scope x = true) : LamD N sc scope x := by
  unfold lamDB at h
  simp only [Bool.and_eq_true, Bool.or_eq_true, Bool.not_eq_true', decide_eq_true_eq, decide_eq_false_iff_not, List.all_eq_true] at h
  obtain ⟨⟨⟨⟨h1, h2⟩, h3⟩, h4⟩, h5⟩ := h
  refine ⟨h1, h2, h3, fun y hy => (h4 y hy).1.1, fun y hy e => ?_, fun y hy e => ?_, fun y e => ?_⟩
  · rcases (h4 y hy).1.2 with z | z
    · exact absurd e z
    · exact z
  · rcases (h4 y hy).2 with (z | z) | z
    · exact absurd e z
    · exact .inl z
    · exact .inr z
  · subst e
    exact of_decide_eq_true h5
theorem LamD.has {X : Cx} {N : List Str} {scope : Scope} {x : Option Str} (L : LamD N X.env.scope scope x) (ok : X.Ok) : ∀ y ∈ scope.names, y.2 = .free → ∃ c, X.env.cells.lookup y.1 = some c := fun y hy e => by
  rcases L.free y hy e with k | k
  · exact ok.has _ (.inl k)
  · exact ok.has _ (.inr k)
/-- the expression -/
abbrev LSp.e (L : LSp) : Expr := .Lambda L.params L.body L.scope L.pos
/-- what is asked of its text -/
structure LOk (N : List Str) (sc : Scope) (L : LSp) : Prop where
  d : LamD N sc L.scope L.x
  kw : L.params.kw_defaults = []
  df : match L.x with
    | none => L.params.defaults = []
    | some _ => ∃ n j p, L.params.defaults = [.Constant (.int n) j p]
  bd : match L.x with
    | none => ∀ (q : Str) (cl : List (Str × Addr)) (doc pm cv ctv : Value), bindArgs (PySem.W.kdv_fn "<lambda>" q L.params (.expr L.body) L.scope cl .none doc pm cv ctv) ⟨[], []⟩ = pure []
    | some y => ∀ (s : Shared) (q : Str) (cl : List (Str × Addr)) (T : Addr) (u doc pm cv ctv : Value), s.heap.get? T = some (PySem.W.kdv_tup [u]) → BindsTo s (PySem.W.kdv_fn "<lambda>" q L.params (.expr L.body) L.scope cl (.ref T) doc pm cv ctv) ⟨[], []⟩ [(y, u)]
section
variable {X : Cx} {pins : List (Addr × Obj)} {σ : L2.St} {H : Hp} {s : Shared}
theorem addPin {s0 : Shared} {σ0 : L2.St} {H0 : Hp} {pins0 : List (Addr × Obj)} {a : Addr} {o : Obj} (I : Inv X pins σ H s) (I0 : Inv X pins0 σ0 H0 s0) (hs : s0.heap.objs.size ≤ a) (ho : s.heap.get? a = some o) (hn : H a = none) (hd : ∀ v, o.data ≠ .cell v) : Inv X (pins ++ [(a, o)]) σ H s :=
  I.pins_of fun p hp => by
    rcases List.mem_append.mp hp with z | z
    · exact I.pin p (List.mem_append_right _ z)
    · rw [List.mem_singleton.mp z]
      exact ⟨ho, hn, Nat.ne_of_gt (Nat.lt_of_lt_of_le I0.lt hs), I0.nofs hs, hd⟩
/-- a lambda is made and pinned -/
theorem lam_makeL {T : List (Addr × Str)} {c P : Addr} {L : LSp} {Q : Value → Shared → Prop} (O : LOk X.N X.env.scope L) (I : Inv X pins σ H s) (TB : TabB X.base X.mg c P) (hcode : X.env.code = .ref c)
    (hm : (P, X.env.qual ++ "<lambda>") ∈ T) (hu : ∀ p ∈ T, p.1 = P → p.2 = X.env.qual ++ "<lambda>") (hT : Tabs T H)
    (h : ∀ (f c' : Addr) (H1 : Hp) (s' : Shared) (pl : List (Addr × Obj)), Inv X (pins ++ pl) σ H1 s' → ExtN H H1 → Tabs T H1 → L.At X pl f c' → H1 c' = some (CodeO c' (X.env.qual ++ "<lambda>")) → Q (.ref f) s') :
    wpAny (model X.prog X.w) X.A (eval L.e X.env) Q X.xe s := by
  have hf := O.d.has I.ok
  cases ex : L.x with
  | none =>
    have df := O.df
    rw [ex] at df
    refine PySem.W.kla_eval ?_ ?_
    · show defaultsOf L.params X.env = ([], [])
      rw [defaultsOf_eq, O.kw, df]
      rfl
    · rw [makeFunction_eq]
      simp only [List.zip_nil_right, List.filterMap_nil, List.isEmpty_nil, if_true, pure_bind]
      refine lam_tail I TB hcode hm hu hT hf fun f c' doc pm ctv H1 s' I1 eN T1 ho hn hs hco => ?_
      refine h f c' H1 s' [_] (addPin I1 I hs ho hn fun v z => nomatch z) eN T1 ⟨_, doc, pm, ctv, List.mem_cons_self, ?_⟩ hco
      rw [ex]
  | some y =>
    have df := O.df
    rw [ex] at df
    obtain ⟨n, j, p, df⟩ := df
    refine PySem.W.kdv_lam (by rw [df]; rfl) O.kw ?_
    rw [df]
    refine PySem.W.kdv_all1 (thn ((pe_int (i := n) (j := j) (pos := p)).run pins s σ H (fun v H1 => H1 = H) I rfl) fun u s1 ⟨v, H1, I1, r, q⟩ => ?_)
    subst q
    refine PySem.W.kdv_all0 ?_
    rw [makeFunction_eq]
    simp only [List.zip_nil_right, List.filterMap_nil, List.isEmpty_nil, List.isEmpty_cons, Bool.false_eq_true, if_false, if_true, pure_bind]
    refine wpAny_bind (wpAny_newTextTuple ?_)
    have I2 : Inv X pins σ H1 { s1 with heap := s1.heap.push { cls := .type "tuple", data := .seq [u].toArray } } := I1.kept fun b o e => Heap.get?_push_of_some _ e
    have I2 := addPin I2 I1 (Nat.le_refl _) (Heap.get?_push_size s1.heap rfl) (I1.hok.fresh (Nat.le_refl _)) fun v z => nomatch z
    refine lam_tail I2 TB hcode hm hu hT hf fun f c' doc pm ctv H3 s' I3 eN T1 ho hn hs hco => ?_
    have I4 := addPin I3 I2 hs ho hn fun v z => nomatch z
    rw [List.append_assoc] at I4
    refine h f c' H3 s' _ I4 eN T1 ⟨_, doc, pm, ctv, List.mem_append_right _ List.mem_cons_self, ?_⟩ hco
    rw [ex]
    exact ⟨_, u, rfl, List.mem_append_left _ List.mem_cons_self⟩
theorem backTo_false {α : Type} (pos : Pos) (l : List α) (f : α → Sem Value) : backTo pos (l.map fun x => (false, f x)) = l.map fun x => (false, f x) := by
  unfold backTo
  rw [List.map_map]
  rfl
/-- several -/
theorem lams_make {T : List (Addr × Str)} {c P : Addr} (TB : TabB X.base X.mg c P) (hcode : X.env.code = .ref c) (hm : (P, X.env.qual ++ "<lambda>") ∈ T) (hu : ∀ p ∈ T, p.1 = P → p.2 = X.env.qual ++ "<lambda>") : ∀ (ls : List LSp) {pins : List (Addr × Obj)} {σ : L2.St} {H : Hp} {s : Shared} {Q : List Value → Shared → Prop},
    (∀ L ∈ ls, LOk X.N X.env.scope L) → Inv X pins σ H s → Tabs T H →
    (∀ (fcs : List (Addr × Addr)) (H1 : Hp) (s' : Shared) (pl : List (Addr × Obj)), Inv X (pins ++ pl) σ H1 s' → ExtN H H1 → Tabs T H1 → Paired (fun L fc => L.At X pl fc.1 fc.2 ∧ H1 fc.2 = some (CodeO fc.2 (X.env.qual ++ "<lambda>"))) ls fcs → Q (fcs.map fun fc => .ref fc.1) s') →
    wpAny (model X.prog X.w) X.A (spliced (ls.map fun L => (false, eval L.e X.env))) Q X.xe s
  | [], pins, σ, H, s, Q, hO, I, hT, h => by
    have I' : Inv X (pins ++ []) σ H s := by
      rw [List.append_nil]
      exact I
    exact Calls.spliced_nil (h [] H s [] I' (ExtN.refl H) hT .nil)
  | L :: ls, pins, σ, H, s, Q, hO, I, hT, h => by
    rw [List.map_cons]
    refine Calls.spliced_cons (lam_makeL (hO L List.mem_cons_self) I TB hcode hm hu hT fun f c' H1 s1 pl I1 e1 T1 A1 hc1 => ?_)
    refine lams_make TB hcode hm hu ls (fun M hM => hO M (List.mem_cons_of_mem _ hM)) I1 T1 fun fcs H2 s2 pl2 I2 e2 T2 P2 => ?_
    rw [List.append_assoc] at I2
    refine h ((f, c') :: fcs) H2 s2 _ I2 (e1.trans e2) T2 (.cons ⟨A1.mono fun p hp => List.mem_append_left _ hp, e2 _ _ hc1 codeO_ne⟩ ?_)
    exact P2.mono fun M fc ⟨a, b⟩ => ⟨a.mono fun p hp => List.mem_append_right _ hp, b⟩
theorem lam_startL {HZ : Hp} {s1 : Shared} {A : Around} {outer : List Env} {E : XK} {scope : Scope} {f c' : Addr} {h₁ : Heap} {tk : Nat} {x : Option Str} {m : Str → Option Value} (I : Inv X pins σ H s) (L : LamD X.N X.env.scope scope x) (e0 : Env0 X.prog X.w X.K X.mg X.base A outer s1 HZ) (hd : A.handled = none)
    (un : Un (frs X.stack) [] H HZ s.heap s1.heap) (hns : h₁.Ns s1.heap.objs.size m) (kp : ∀ b o, s1.heap.get? b = some o → h₁.get? b = some o) :
    Inv (lamCx X A outer s1 HZ E scope f c') [] σ HZ { s1 with heap := h₁, toks := tk } := by
  have hfree := L.has I.ok
  have cm : ∀ {y c}, (cloFrom X.env.cells scope.names []).lookup y = some c → X.env.cells.lookup y = some c := fun {y c} e => by
    rcases cloFrom_mem (PySem.mem_of_lookup e) with hm | ⟨h1, h2⟩
    · cases hm
    · obtain ⟨c1, hc⟩ := hfree _ h1 rfl
      have hc : X.env.cells.lookup y = some c1 := hc
      have e2 : c = c1 := by
        rw [h2, hc] <;> rfl
      rw [e2]
      exact hc
  have look : ∀ {y}, scope.names.lookup y = some .free → ∃ c, (cloFrom X.env.cells scope.names []).lookup y = some c := fun {y} hl => by
    have hy : (y, NameKind.free) ∈ scope.names := PySem.mem_of_lookup hl
    exact mem_lookup (cloFrom_has (cells := X.env.cells) (acc := []) hy)
  have cellK : ∀ {c : Addr} {v : Option Value}, H c = none → s.heap.IsCell c v → h₁.IsCell c v := fun {c v} n ⟨o, ho, hd⟩ => by
    obtain ⟨sl, q⟩ := un.any ho n (by simp)
    exact ⟨_, kp _ _ q, hd⟩
  have noA : ∀ b : Addr, b ∉ (lamCx X A outer s1 HZ E scope f c').ex := fun b z => absurd (show b ∈ ([] : List Addr) from z) (by simp)
  refine ⟨⟨e0.mod, L.kind, rfl, rfl, Nat.le_refl _, fun y z c e1 e2 => I.ok.inj y z c (cm e1) (cm e2), fun y hy => ?_, fun y c z _ => ?_, fun _ => hd, Around.frames_deeper e0.frames, .inr ⟨rfl, rfl⟩, fun b z => absurd z (noA b), e0.bs, e0.bsz, fun b _ _ => noA b,
      fun b z => absurd z (noA b), e0.funs, e0.frf⟩,
    rfl, e0.bare, Un.kept kp, ⟨_, hns, fun i y v e1 e2 e3 => ?_⟩, fun y c e => ?_, e0.hok.fresh (Nat.le_refl _), fun y c e => ?_, fun q hq => absurd (show q ∈ ([] : List (Addr × Obj)) ++ [] from hq) (by simp), e0.hok.kept kp, I.len⟩
  · have hy : scope.names.lookup y = some .cell ∨ scope.names.lookup y = some .free := hy
    rcases hy with hy | hy
    · exact absurd rfl (L.cell _ (PySem.mem_of_lookup hy))
    · exact look hy
  · have z : false = true := z
    cases z
  · have e3 : Vis scope y := e3
    have yN : y ∈ X.N := List.mem_of_getElem? e1
    rcases e3 with k | k | k
    · exact absurd yN (L.own _ (PySem.mem_of_lookup k) rfl)
    · exact absurd rfl (L.cell _ (PySem.mem_of_lookup k))
    · obtain ⟨m, hn, hl⟩ := I.loc
      have hvis : Vis X.env.scope y := (L.free _ (PySem.mem_of_lookup k) rfl).elim (fun k => .inr (.inl k)) (fun k => .inr (.inr k))
      obtain ⟨w', r, q⟩ := hl i y v e1 e2 hvis
      obtain ⟨c2, h2⟩ := look k
      refine ⟨w', r, .inr ⟨.inr k, c2, h2, ?_⟩⟩
      have c1 := cm h2
      rcases q with ⟨k', _⟩ | ⟨_, c3, e', z⟩
      · have k' : X.env.scope.names.lookup y = some .local := k'
        rcases L.free _ (PySem.mem_of_lookup k) rfl with k2 | k2 <;> rw [show X.env.scope.names.lookup y = _ from k2] at k' <;> cases k'
      · rw [c1] at e'
        cases e'
        exact cellK (I.freeC y _ c1) z
  · obtain ⟨w', z⟩ := I.cell y c (cm e)
    exact ⟨w', cellK (I.freeC y c (cm e)) z⟩
  · obtain ⟨v, o, ho, hd⟩ := I.cell y c (cm e)
    exact un.free c o ho (I.freeC y c (cm e)) (by simp)
/-- a pinned lambda is called, in the def that got it -/
theorem pe_actL {CXg : CXT} {Eg : XK} {Ng : List Str} {qg : Str} {sg : Scope} {g f c' : Addr} {cdg : Value} {L : LSp} {k i : Nat} {a : Str} {pn : List (Addr × Obj)} {xe : Value → Shared → Prop} {W : WX} {E : XK} {tb : TE} {p1 p2 : Pos}
    (I : Inv X pins σ H s) (O : LOk X.N X.env.scope L) (hA : L.At X (X.pn ++ pins) f c')
    (tk : Takes ((cxOf CXg X.prog X.w X.K X.mg X.base Ng qg sg g cdg X.A X.stack s H Eg).tr pn xe) W) (hW : ∀ cls d σ' H', E cls d H' → W cls d σ' H') (hr : Room (k + 1) (X.A.deeper (envOfC qg sg s.heap.objs.size g cdg)))
    (hbody : ∀ (A : Around) (outer : List Env) (s : Shared) (H : Hp), Room k (A.deeper (lamEnv X L.scope s.heap.objs.size f c')) → PE (lamCx X A outer s H E L.scope f c') L.body tb)
    (hN : Ng[i]? = some a) (hv : Vis sg a) (hd : (a == ("__debug__" : Str)) = false := by decide) (hcd : (a == ("__classdict__" : Str)) = false := by decide) :
    PE ((cxOf CXg X.prog X.w X.K X.mg X.base Ng qg sg g cdg X.A X.stack s H Eg).tr pn xe) (.Call (.Name a p1) [] [] p2)
      (fun σZ HZ Q => σZ[i]? = some (some (.ref f)) ∧ HZ c' = some (CodeO c' (X.env.qual ++ "<lambda>")) ∧ tb σ HZ Q) := by
  obtain ⟨dV, doc, pm, ctv, hpf, hx⟩ := hA
  have stk : ∀ p ∈ X.pn ++ pins, s.heap.get? p.1 = some p.2 ∧ H p.1 = none ∧ p.1 ∉ frs X.stack := fun p hp => by
    obtain ⟨h1, h2, h3, h4, _⟩ := I.pin p hp
    exact ⟨h1, h2, fun z => (List.mem_cons.mp (I.stkSub _ z)).elim h3 h4⟩
  refine ⟨fun pinsZ sZ σZ HZ Q IZ h => ?_⟩
  obtain ⟨hs, hc, ht⟩ := h
  refine wpAny_Call_Name_kw (thn ((pe_var (pos := p1) (i := i) hN hv hd hcd).run pinsZ sZ σZ HZ (fun v H1 => v = .ref f ∧ H1 = HZ) IZ ⟨.ref f, hs, rfl, rfl⟩) fun u s1 ⟨v, H1, I1, r1, q1⟩ => ?_)
  obtain ⟨ev, eH⟩ := q1
  subst ev
  rw [eH] at I1
  obtain rfl : u = Value.ref f := r1
  have st1 : ∀ p ∈ X.pn ++ pins, s1.heap.get? p.1 = some p.2 := fun p hp => by
    obtain ⟨h1, h2, h3⟩ := stk p hp
    exact I1.base.keep p.1 _ h1 h2 h3 (fun z => nomatch (show p.1 ∈ ([] : List Addr) from z))
  have of1 := st1 _ hpf
  refine PySem.W.callWith_F0 ⟨_, _, _, _, of1⟩ ?_
  have un : Un (frs X.stack) [] H HZ s.heap s1.heap := I1.base
  obtain ⟨⟨oc, vs, t, hoc, hdc, hvc⟩, _, _⟩ := I1.hok c' _ hc
  have hbd : ∃ binds, BindsTo s1 (PySem.W.kdv_fn "<lambda>" (X.env.qual ++ "<lambda>") L.params (.expr L.body) L.scope (cloFrom X.env.cells L.scope.names []) dV doc pm (.ref c') ctv) ⟨[], []⟩ binds ∧ ∀ y ∈ binds, L.scope.names.lookup y.1 = some .local := by
    have bd := O.bd
    have pr := O.d.par
    cases ex : L.x with
    | none =>
      rw [ex] at hx bd
      have hx : dV = .none := hx
      subst hx
      exact ⟨[], BindsTo.of_eq (bd _ _ _ _ _ _), fun y hy => nomatch hy⟩
    | some y =>
      rw [ex] at hx bd
      obtain ⟨T, u, rfl, hT⟩ := hx
      refine ⟨[(y, u)], bd _ _ _ _ _ _ _ _ _ (st1 _ hT), fun z hz => ?_⟩
      rw [List.mem_singleton.mp hz]
      exact pr y ex
  obtain ⟨binds, hB, hl⟩ := hbd
  have rc : codeAny (model X.prog X.w) (X.A.deeper (envOfC qg sg s.heap.objs.size g cdg)) (.call (.ref f) ⟨[], []⟩) (CR (L2.CX X.prog X.w) (envOfC qg sg s.heap.objs.size g cdg :: X.stack) X.prog X.w HZ s1 Q E) s1 := by
    refine PySem.W.kla_callFunE hr.depth of1 rfl O.d.co O.d.gen rfl ⟨c', oc, vs, t, rfl, hoc, hdc, hvc⟩ (hB _ _ _ _ ?_)
    refine wpAny_newFunctionEnv O.d.cell hl (fun h₁ hns hsb => ⟨I1.nolimit.fresh _ hsb, ?_⟩) O.d.kind
    show codeAny _ _ (.expr L.body (lamEnv X L.scope s1.heap.objs.size f c')) _ _
    have kp : ∀ b o, s1.heap.get? b = some o → h₁.get? b = some o := fun b o e => hsb.extBut b o (Nat.ne_of_lt (Heap.lt_size e)) (Heap.get?_push_of_some _ e)
    have J : Inv (lamCx X (X.A.deeper (envOfC qg sg s.heap.objs.size g cdg)) (envOfC qg sg s.heap.objs.size g cdg :: X.stack) s1 HZ E L.scope f c') [] σ HZ { s1 with heap := h₁, toks := s1.toks + binds.length } :=
      lam_startL I O.d I1.env0 hr.hd un hns kp
    refine PySem.W.kla_codeExpr (wpAny_mono ((hbody _ _ s1 HZ (hr.deeper _)).run [] _ _ HZ Q J ht) (fun v s' hq => ?_) fun e s' hq => hq)
    obtain ⟨w', H', J', rv, q⟩ := hq
    exact ⟨w', H', J'.os, J'.bare, J'.base, J'.hok, rv, q⟩
  have hxp : Passes (L2.CX X.prog X.w) ((cxOf CXg X.prog X.w X.K X.mg X.base Ng qg sg g cdg X.A X.stack s H Eg).tr pn xe) E := passes_call tk hW
  refine wpAny_call (codeAny_mono rc fun r s' hq => ?_)
  cases r with
  | error e => exact hxp pinsZ σZ HZ s1 e s' I1 hq
  | ok fl =>
    cases fl with
    | ret u => exact I1.after hq
    | next => exact False.elim hq
    | brk => exact False.elim hq
    | cont => exact False.elim hq
end
end LamX
set_option Elab.async false
set_option linter.all false
set_option maxRecDepth 100001
set_option maxHeartbeats 3999999
/-! a pinned lambda handed to a def; a for over a list of lambdas -/
namespace LamX
open PySem PySem.Spec PyProof.Rows L2
section
variable {X : Cx}
/-- x(v), v a name of a pinned lambda -/
theorem pe_lamvar {TT : (XK → Hp → VK → Prop) → Hp → VK → Prop} {x a v : Str} {g : Addr} {k i : Nat} {pg : Arguments} {bg : List Stmt} {sg : Scope} {dV kV doc pm cdv ct oc : Value} {an od : Option Addr} {osl : Array (Option Value)} {Ng : List Str}
    {ls : List LSp} {Rf : LSp → Addr → Addr → Prop} {p vpos pos : Pos} (hg : Gl X x) (hm : X.mg x = some (.ref g)) (hk : PySem.W.keepIn X.K (.ref g) = true)
    (lk : X.K.lookup g = some ⟨oc, od, .func (PySem.W.fnOf x x pg bg sg dV kV doc pm an cdv ct), osl⟩) (hcg : PySem.W.codeIn X.K cdv x = true) (hb : L2.Binds X.K (PySem.W.fnOf x x pg bg sg dV kV doc pm an cdv ct) [a] []) (Sg : FnScope Ng [a] sg) (hNg : Ng[0]? = some a) (hva : Vis sg a)
    (hG : GivesTo X Ng x sg g cdv bg a (X.env.qual ++ "<lambda>") TT) (hr : Room (k + 2) X.A) (hO : ∀ L ∈ ls, LOk X.N X.env.scope L) (hR : ∀ L f c', Rf L f c' → L.At X X.pn f c')
    (hbody : ∀ L ∈ ls, ∀ (A : Around) (outer : List Env) (s : Shared) (H : Hp) (E : XK) (f c' : Addr), Room k (A.deeper (lamEnv X L.scope s.heap.objs.size f c')) → PE (lamCx X A outer s H E L.scope f c') L.body (L.t E))
    (hN : X.N[i]? = some v) (hv : Vis X.env.scope v) (hvd : (v == ("__debug__" : Str)) = false := by decide) (hvc : (v == ("__classdict__" : Str)) = false := by decide)
    (hdb : (x == ("__debug__" : Str)) = false := by decide) (hd : (a == ("__debug__" : Str)) = false := by decide) (hcd : (a == ("__classdict__" : Str)) = false := by decide) :
    PE X (.Call (.Name x p) [.Name v vpos] [] pos) (fun σ H Q => ∃ L ∈ ls, ∃ f c', σ[i]? = some (some (.ref f)) ∧ Rf L f c' ∧ H c' = some (CodeO c' (X.env.qual ++ "<lambda>")) ∧ TT (fun E H' Q' => L.t E σ H' Q') H Q) := by
  refine ⟨fun pins s σ H Q I h => ?_⟩
  obtain ⟨L, hL, f, c', hs, rf, hco, h⟩ := h
  refine wpAny_Call_Name_kw (ld_glob I hg hm ?_ hdb)
  refine PySem.W.callWith_K (h₀ := X.base) I.ok.mod.kin hk ?_ (by rfl) (by rfl)
  show wpAny _ _ (spliced ((false, eval (.Name v vpos) X.env) :: backTo pos (starEach [] X.env))) _ _ s
  refine Calls.spliced_cons (thn ((pe_var (pos := vpos) (i := i) hN hv hvd hvc).run pins s σ H (fun w H1 => w = .ref f ∧ H1 = H) I ⟨.ref f, hs, rfl, rfl⟩) fun u s1 ⟨w, H1, I1, r1, q1⟩ => ?_)
  obtain ⟨ew, eH⟩ := q1
  subst ew
  rw [eH] at I1
  obtain rfl : u = Value.ref f := r1
  refine Calls.spliced_nil ⟨I1.kIn, ?_⟩
  have rc : codeAny (model X.prog X.w) X.A (.call (.ref g) ⟨[.ref f], []⟩) (CR C8.CX0 X.stack X.prog X.w H s1 Q C8.E0) s1 := by
    refine run_ofS (N := Ng) (ps := [a]) (us := [.ref f]) (vs := [.ref f]) lk hcg Sg hr I1.env0 (hb s1 [.ref f] I1.kIn rfl) (.cons rfl .nil) rfl fun hr' => ?_
    obtain ⟨t', ht', hq'⟩ := hG f c' s1 H Q (fun E H' Q' => L.t E σ H' Q') (fun W pn xe E p1 p2 tk hW => pe_actL (i := 0) I1 (hO L hL) ((hR L f c' rf).mono fun p hp => List.mem_append_left _ hp) tk hW hr' (fun A outer s H hr2 => hbody L hL A outer s H E f c' hr2) hNg hva hd hcd) hco h
    exact ⟨t', ht'.nox, hq'⟩
  refine wpAny_call (codeAny_mono rc fun r s2 hq => ?_)
  cases r with
  | error e => exact (show False from hq).elim
  | ok fl =>
    cases fl with
    | ret u => exact I1.after hq
    | next => exact False.elim hq
    | brk => exact False.elim hq
    | cont => exact False.elim hq
/-- for tg in [lambda: .., ..]: body -/
def tForL (K : PySem.W.Frag) (T : List (Addr × Str)) (q : Str) (ls : List LSp) (g : TG) (tb : (LSp → Addr → Addr → Prop) → TS) : TS := fun D σ H => Tabs T H ∧ ls.length ≤ sizeLine ∧ ∀ (Rf : LSp → Addr → Addr → Prop) (H1 : Hp) (fcs : List (Addr × Addr)), ExtN H H1 → Tabs T H1 →
  Paired (fun L fc => Rf L fc.1 fc.2 ∧ H1 fc.2 = some (CodeO fc.2 q)) ls fcs → ∀ lp, H1 lp = none → ∃ W : Nat → Nat → L2.St → Hp → Prop, (∃ m, W 0 m σ (upd H1 lp (.lst (fcs.map fun fc => V.ref fc.1)))) ∧ ∀ i m σ H, W i m σ H →
    ((Itl K lp).stop i H ∧ D.nx σ H) ∨ ((Itl K lp).go i H ∧ ∃ N : L2.St → Hp → Prop, (∀ σ' H', N σ' H' → ∃ m', m' < m ∧ W (i + 1) m' σ' H') ∧ ∀ x H', (Itl K lp).yld i H x H' → g x σ H' fun σ2 H2 => tb Rf { D with nx := N, ct := N, bk := D.nx } σ2 H2)
theorem starEach_lams {env : Env} : ∀ ls : List LSp, starEach (ls.map LSp.e) env = ls.map fun L => (false, eval L.e env)
  | [] => rfl
  | L :: ls => by
    rw [List.map_cons, List.map_cons, ← starEach_lams ls]
    rfl
theorem paired_len {α β : Type} {F : α → β → Prop} : ∀ {l : List α} {m : List β}, Paired F l m → m.length = l.length
  | _, _, .nil => rfl
  | _, _, .cons _ h => congrArg (· + 1) (paired_len h)
theorem vals_refs : ∀ fcs : List (Addr × Addr), Vals (fcs.map fun fc => V.ref fc.1) (fcs.map fun fc => Value.ref fc.1)
  | [] => .nil
  | _ :: l => .cons rfl (vals_refs l)
theorem ps_forLam {T : List (Addr × Str)} {c P : Addr} {ls : List LSp} {tg : Expr} {body : List Stmt} {g : TG} {tb : (LSp → Addr → Addr → Prop) → TS} {lpos pos : Pos} (hp : PassesOwn (model X.prog X.w) X.A X.env X.xe) (hc : X.calm = true) (TB : TabB X.base X.mg c P) (hcode : X.env.code = .ref c)
    (hm : (P, X.env.qual ++ "<lambda>") ∈ T) (hu : ∀ p ∈ T, p.1 = P → p.2 = X.env.qual ++ "<lambda>") (hO : ∀ L ∈ ls, LOk X.N X.env.scope L) (hg : ∀ pn, PG (X.tr pn X.xe) tg g)
    (hb : ∀ (Rf : LSp → Addr → Addr → Prop) (pn : List (Addr × Obj)), (∀ L f c', Rf L f c' → L.At X pn f c') → PSs (X.tr pn X.xe) body (tb Rf)) : PS X (.For tg (.List (ls.map LSp.e) lpos) body [] pos) (tForL X.K T (X.env.qual ++ "<lambda>") ls g tb) := by
  refine ⟨fun pins s σ H D I h => ?_⟩
  obtain ⟨hT, hz, h⟩ := h
  refine wpAny_For (wpAny_List_spliced ?_) (fun x => rfl)
  rw [starEach_lams, backTo_false]
  refine lams_make TB hcode hm hu ls hO I hT fun fcs H1 s1 pl I1 e1 T1 Pr => ?_
  have lenf := paired_len Pr
  refine ⟨by rw [List.length_map, lenf]; exact hz, ?_⟩
  have hf : H1 s1.heap.objs.size = none := I1.hok.fresh (Nat.le_refl _)
  have I2 : Inv X (pins ++ pl) σ (upd H1 s1.heap.objs.size (.lst (fcs.map fun fc => V.ref fc.1))) { s1 with heap := s1.heap.push { cls := .type "list", data := .seq (fcs.map fun fc => Value.ref fc.1).toArray } } :=
    I1.laid (t' := s1.toks) (fun b u e => Heap.get?_push_of_some _ e) (Nat.le_refl _) ⟨by rw [List.length_map, lenf]; exact hz, _, 0, vals_refs fcs, Heap.get?_push_size _ rfl⟩
  obtain ⟨W, ⟨m0, w0⟩, turn⟩ := h (fun L f c' => L.At X (X.pn ++ (pins ++ pl)) f c') H1 fcs e1 T1 (Pr.mono fun L fc ⟨a, b⟩ => ⟨a.mono fun p hp => List.mem_append_right _ (List.mem_append_right _ hp), b⟩) _ hf
  generalize hH2 : upd H1 s1.heap.objs.size (.lst (fcs.map fun fc => V.ref fc.1)) = H2 at I2 w0
  have hq : SqL X.K H2 s1.heap.objs.size (fcs.map fun fc => V.ref fc.1) := SqL.of (by rw [← hH2]; exact upd_same)
  have hb' := hb _ (X.pn ++ (pins ++ pl)) fun L f c' z => z
  have hg' := hg (X.pn ++ (pins ++ pl))
  generalize hs2 : ({ s1 with heap := s1.heap.push { cls := .type "list", data := .seq (fcs.map fun fc => Value.ref fc.1).toArray } } : Shared) = s2 at I2 ⊢
  have J2 := I2.toTry X.xe
  have okX := I.ok
  obtain ⟨its, rv, pl', hz'⟩ := J2.list hq
  refine wpAny_pyIter_list pl'.isList ?_
  have T := turn_list (P := X.prog) (w := X.w) (K := X.K) (tg := tg) s1.heap.objs.size s2.heap.objs.size
  have fin : ∀ {pn' : List (Addr × Obj)} {σ7 : L2.St} {H7 : Hp} {s7 : Shared}, Inv (X.tr (X.pn ++ (pins ++ pl)) X.xe) pn' σ7 H7 s7 → Inv X pins σ7 H7 s7 := fun I7 => (I7.ofTry okX).unpinned
  have f2 : ∀ b ∈ [s2.heap.objs.size], FpOk (X.tr (X.pn ++ (pins ++ pl)) X.xe) [] H2 b := fun b hb => by
    rw [List.mem_singleton.mp hb]
    exact J2.fpOk (Nat.le_refl _) (J2.hok.fresh (Nat.le_refl _))
  have stat : ∀ {H' : Hp}, (∀ b ∈ [s2.heap.objs.size], H' b = none) → ∀ b ∈ [s2.heap.objs.size], FpOk (X.tr (X.pn ++ (pins ++ pl)) X.xe) [] H' b := fun hn b hb => ⟨hn b hb, (f2 b hb).2⟩
  refine codeAny_forLoop_any (fun n s' => ∃ i σ' H', Inv (X.tr (X.pn ++ (pins ++ pl)) X.xe) [] σ' H' s' ∧ s'.heap.IsListIter s2.heap.objs.size s1.heap.objs.size i ∧ (∀ b ∈ [s2.heap.objs.size], H' b = none) ∧ W i n σ' H') ?_ m0 ⟨0, σ, H2, J2.kept (t' := s2.toks) fun b o e => Heap.get?_push_of_some _ e, ⟨_, Heap.get?_push_size _ rfl, rfl, rfl⟩, fun b hb => (f2 b hb).1, w0⟩
  rintro n s3 ⟨i, σ3, H3, I3, st3, fr3, w3⟩
  rcases turn i n σ3 H3 w3 with ⟨stop, qn⟩ | ⟨go, N, hN, step⟩
  · refine wpAny_passesOwn hp (thn (T.done (X.tr (X.pn ++ (pins ++ pl)) X.xe) rfl rfl rfl hc i [] s3 σ3 H3 X.xe I3 (stat fr3) st3 stop) fun r s4 ⟨hr, I4⟩ => ?_)
    subst hr
    exact wpAny_execs_nil ⟨σ3, H3, fin I4, qn⟩
  · refine wpAny_passesOwn hp (thn (T.item (X.tr (X.pn ++ (pins ++ pl)) X.xe) rfl rfl rfl hc i [] s3 σ3 H3 X.xe I3 (stat fr3) st3 go) fun r s4 ⟨u, hr, h4⟩ => ?_)
    subst hr
    refine wpAny_passesOwn hp (thn h4 fun _ s5 ⟨x, H5, I5, r5, y5, st5, fr5⟩ => ?_)
    have I5' := I5.pinned (stat fr5) (T.obj _ _ st5)
    refine wpAny_passesOwn hp (thn (hg'.run _ s5 σ3 H5 x u _ I5' r5 (step x H5 y5)) fun _ s6 ⟨σ6, H6, I6, q6⟩ => ?_)
    refine wpAny_passesOwn hp (thn (hb'.run _ s6 σ6 H6 _ I6 q6) fun f s7 q7 => ?_)
    have again : ∀ {σ7 : L2.St} {H7 : Hp}, Inv (X.tr (X.pn ++ (pins ++ pl)) X.xe) ([] ++ pinsAt [s2.heap.objs.size] s5.heap) σ7 H7 s7 → N σ7 H7 → ∃ m, m < n ∧ ∃ i σ' H', Inv (X.tr (X.pn ++ (pins ++ pl)) X.xe) [] σ' H' s7 ∧ s7.heap.IsListIter s2.heap.objs.size s1.heap.objs.size i ∧ (∀ b ∈ [s2.heap.objs.size], H' b = none) ∧ W i m σ' H' := fun {σ7 H7} I7 n7 => by
      obtain ⟨m', hm, w7⟩ := hN σ7 H7 n7
      refine ⟨m', hm, i + 1, σ7, H7, I7.unpinned, T.keep _ _ _ st5 fun b hb o e => (I7.pin (b, o) (List.mem_append_right _ (List.mem_append_right _ (mem_pinsAt hb e)))).1, fun b hb => ?_, w7⟩
      obtain ⟨o, e, d⟩ := T.obj _ _ st5 b hb
      exact (I7.pin (b, o) (List.mem_append_right _ (List.mem_append_right _ (mem_pinsAt hb e)))).2.1
    cases f with
    | next => obtain ⟨σ7, H7, I7, n7⟩ := q7; exact again I7 n7
    | cont => obtain ⟨σ7, H7, I7, n7⟩ := q7; exact again I7 n7
    | brk => obtain ⟨σ7, H7, I7, q7⟩ := q7; exact ⟨σ7, H7, fin I7, q7⟩
    | ret v => obtain ⟨x7, σ7, H7, I7, r7, q7⟩ := q7; exact ⟨x7, σ7, H7, fin I7, r7, q7⟩
/-- the turns, one lambda after the other: A stays true -/
theorem for_lams {K : PySem.W.Frag} {ls : List LSp} {Rf : LSp → Addr → Addr → Prop} {q : Str} {fcs : List (Addr × Addr)} {H1 : Hp} {lp : Addr} {g : TG} {tb : TS} {D : Ends} {σ : L2.St} {H : Hp} (Pr : Paired (fun L fc => Rf L fc.1 fc.2 ∧ H1 fc.2 = some (CodeO fc.2 q)) ls fcs)
    (Pv : Nat → L2.St → Hp → Prop) (h0 : Pv 0 σ H) (hl : ∀ i σ H, i ≤ ls.length → Pv i σ H → SqL K H lp (fcs.map fun fc => V.ref fc.1))
    (hs : ∀ i L f c' σ H, ls[i]? = some L → Rf L f c' → H1 c' = some (CodeO c' q) → Pv i σ H → g (.ref f) σ H fun σ2 H2 => tb { D with nx := Pv (i + 1), ct := Pv (i + 1), bk := D.nx } σ2 H2) (hd : ∀ σ H, Pv ls.length σ H → D.nx σ H) :
    ∃ W : Nat → Nat → L2.St → Hp → Prop, (∃ m, W 0 m σ H) ∧ ∀ i m σ H, W i m σ H →
      ((Itl K lp).stop i H ∧ D.nx σ H) ∨ ((Itl K lp).go i H ∧ ∃ N : L2.St → Hp → Prop, (∀ σ' H', N σ' H' → ∃ m', m' < m ∧ W (i + 1) m' σ' H') ∧ ∀ x H', (Itl K lp).yld i H x H' → g x σ H' fun σ2 H2 => tb { D with nx := N, ct := N, bk := D.nx } σ2 H2) := by
  have lf : (fcs.map fun fc => V.ref fc.1).length = ls.length := by rw [List.length_map, paired_len Pr]
  refine for_list Pv h0 (fun i σ H hi => hl i σ H (by omega)) (fun i x σ H hx p => ?_) (fun σ H p => hd σ H (by rw [← lf]; exact p))
  rw [List.getElem?_map] at hx
  cases hf : fcs[i]? with
  | none =>
    rw [hf] at hx
    cases hx
  | some fc =>
    rw [hf] at hx
    cases hx
    have : ∀ {ls : List LSp} {fcs : List (Addr × Addr)} {i : Nat} {fc : Addr × Addr}, Paired (fun L fc => Rf L fc.1 fc.2 ∧ H1 fc.2 = some (CodeO fc.2 q)) ls fcs → fcs[i]? = some fc → ∃ L, ls[i]? = some L ∧ Rf L fc.1 fc.2 ∧ H1 fc.2 = some (CodeO fc.2 q) := by
      intro ls fcs i fc P e
      induction P generalizing i with
      | nil => simp at e
      | cons h t ih =>
        cases i with
        | zero =>
          cases e
          exact ⟨_, rfl, h⟩
        | succ i => exact ih (by simpa using e)
    obtain ⟨L, e1, e2, e3⟩ := this Pr hf
    exact hs i L fc.1 fc.2 σ H e1 e2 e3 p
end
end LamX
set_option Elab.async false
set_option linter.all false
set_option maxRecDepth 100001
set_option maxHeartbeats 3999999
namespace K66
open PySem L2 GFn
/-! ### a damage made -/
abbrev sLDm : Stmt := topS 22
abbrev NLDm : List Str := ["_law_kind"]
def spLDm (CT CF CB : Addr) : L2.Sp := fun vs H Q _ => ∃ (kt : Addr) (k : Kd) (n : Int), vs = [.ref kt] ∧ H kt = some (.tup [.str k.nm, .int n]) ∧ 1 ≤ n ∧ n ≤ 64 ∧ ∀ d H', Same H H' → IsDm CT CF CB H' d k n → Q (.ref d) H'
theorem dm_made {CS CT CF CB : Addr} {H : Hp} {k : Kd} {n : Int} {R : Addr → Hp → Prop} {E : XK} (n1 : 1 ≤ n) (n2 : n ≤ 64) (q : ∀ x H', Same H H' → IsDm CT CF CB H' x k n → R x H') :
    ∀ x dx, H x = none → H dx = none → dx ≠ x → spDI CS (k.cl CT CF CB) k.fl [.ref x, .int n] (upd (upd H dx (.own x)) x (.ins (k.cl CT CF CB) dx [])) (fun v H2 => v = .non ∧ R x H2) E := by
  intro x dx nx ndx ne
  have e : Same H (upd (upd H dx (.own x)) x (.ins (k.cl CT CF CB) dx [])) := same_ins nx ndx
  have b : btw (.int n) 1 64 = true := decide_eq_true ⟨n1, n2⟩
  exact ⟨x, dx, .int n, _, rfl, upd_same, .flat True.intro, fun _ H' hp kp => ⟨rfl, q x H' (fun b o z => kp b o (ne_of_none z nx) (e _ _ z)) ⟨dx, hp⟩⟩, fun z => absurd (b.symm.trans z) (by decide)⟩
/-! ### all rows of places -/
abbrev sLAp : Stmt := topS 25
abbrev NLAp : List Str := ["_law_size", "_law_found", "_law_place", "_law_row"]
def RwP (H : Hp) (m : Nat) (v : V) : Prop := ∃ q ps, v = .ref q ∧ H q = some (.lst (iN ps)) ∧ ps.length ≤ m ∧ ∀ p ∈ ps, p < m
theorem RwP.same {H H' : Hp} {m : Nat} {v : V} (h : RwP H m v) (e : Same H H') : RwP H' m v := by
  obtain ⟨q, ps, rfl, h1, h2, h3⟩ := h
  exact ⟨q, ps, rfl, e _ _ h1, h2, h3⟩
theorem RwP.mono {H : Hp} {m m' : Nat} {v : V} (h : RwP H m v) (e : m ≤ m') : RwP H m' v := by
  obtain ⟨q, ps, rfl, h1, h2, h3⟩ := h
  exact ⟨q, ps, rfl, h1, by omega, fun p hp => Nat.lt_of_lt_of_le (h3 p hp) e⟩
def spLAp : L2.Sp := fun vs H Q _ => ∃ m : Nat, vs = [.int (m : Nat)] ∧ m ≤ 8 ∧ ∀ (a : Addr) (rs : List V) H', Same H H' → H' a = some (.lst rs) → rs.length ≤ 256 → (∀ v ∈ rs, RwP H' m v) → Q (.ref a) H'
section
variable {P : Program} {w : World} {K : PySem.W.Frag} {mg : Str → Option Value} {base : Heap}
theorem scLDm : FnScope NLDm ["_law_kind"] (defScope sLDm) := ⟨rfl, rfl, rfl, by decide +kernel, rfl, by decide +kernel, by decide +kernel⟩
theorem ok_LDm {f CS CT CF CB : Addr} {fd : FuncData} (F : Fun K "_law_damage" "_law_damage" sLDm f fd) (mT : Mak (L2.CX P w) P w K mg base 6 "Turned" CT (spDI CS CT "most")) (mF : Mak (L2.CX P w) P w K mg base 6 "Faded" CF (spDI CS CF "most")) (mB : Mak (L2.CX P w) P w K mg base 6 "Burst" CB (spDI CS CB "size")) : FnOk P w K mg base CX0 8 f fd ["_law_kind"] (spLDm CT CF CB) := by
  refine F.ok scLDm (fun vs H Q E h => ?_) (fun cdv A outer s H vs Q E hr h => ?_)
  · obtain ⟨kt, k, n, rfl, _⟩ := h
    rfl
  · obtain ⟨kt, k, n, rfl, hk, n1, n2, q⟩ := h
    refine ⟨_, pss_cons (ps_if (pt_cmpR op_eq (pe_ix ix_tup (pv 0) pe_int (fun _ _ => rfl)) pe_str (nomark _)) (pss_one (ps_ret (pe_mk mT hr passL (pa_cons (pe_ix ix_tup (pv 0) pe_int (fun _ _ => rfl)) pa_nil)))) pss_nil)
      (pss_one (ps_ret (pe_ifExp (pt_cmpR op_eq (pe_ix ix_tup (pv 0) pe_int (fun _ _ => rfl)) pe_str (nomark _)) (pe_mk mF hr passL (pa_cons (pe_ix ix_tup (pv 0) pe_int (fun _ _ => rfl)) pa_nil)) (pe_mk mB hr passL (pa_cons (pe_ix ix_tup (pv 0) pe_int (fun _ _ => rfl)) pa_nil))))), ?_⟩
    have h0 : SqT K H kt [.str k.nm, .int n] := SqT.of hk
    refine ⟨_, rfl, kt, _, _, _, rfl, rfl, h0, atI_nat (j := 0) rfl, rfl, ?_⟩
    have md := fun R q => dm_made (CS := CS) (CT := CT) (CF := CF) (CB := CB) (H := H) (k := k) (n := n) (R := R) (E := fun _ _ _ => False) n1 n2 q
    cases k with
    | tu => exact ⟨_, rfl, iteT ⟨_, rfl, kt, _, _, _, rfl, rfl, h0, atI_nat (j := 1) rfl, md (fun x H2 => Q (.ref x) H2) fun x H' e d => q x H' e d⟩⟩
    | fa => exact ⟨_, rfl, iteF ⟨_, rfl, kt, _, _, _, rfl, rfl, h0, atI_nat (j := 0) rfl, rfl, _, rfl, iteT ⟨_, rfl, kt, _, _, _, rfl, rfl, h0, atI_nat (j := 1) rfl, md (fun x H2 => Q (.ref x) H2) fun x H' e d => q x H' e d⟩⟩⟩
    | bu => exact ⟨_, rfl, iteF ⟨_, rfl, kt, _, _, _, rfl, rfl, h0, atI_nat (j := 0) rfl, rfl, _, rfl, iteF ⟨_, rfl, kt, _, _, _, rfl, rfl, h0, atI_nat (j := 1) rfl, md (fun x H2 => Q (.ref x) H2) fun x H' e d => q x H' e d⟩⟩⟩
theorem scLAp : FnScope NLAp ["_law_size"] (defScope sLAp) := ⟨rfl, rfl, rfl, by decide +kernel, rfl, by decide +kernel, by decide +kernel⟩
theorem ok_LAp {f : Addr} {fd : FuncData} (F : Fun K "_law_all_places" "_law_all_places" sLAp f fd) (B : Bi mg) : FnOk P w K mg base CX0 1 f fd ["_law_size"] spLAp := by
  refine F.ok scLAp (fun vs H Q E h => ?_) (fun cdv A outer s H vs Q E hr h => ?_)
  · obtain ⟨m, rfl, _⟩ := h
    rfl
  · obtain ⟨m, rfl, m8, q⟩ := h
    refine ⟨_, pss_cons (ps_set (i := 1) scLAp.nd rfl (Or.inl rfl) (pe_lst (pa_cons (pe_lst pa_nil) pa_nil)))
      (pss_cons (ps_for PassesOwn.never rfl (pi_range1 rfl B.range (pa_cons (pv 0) pa_nil)) (pg_name (i := 2) scLAp.nd rfl (Or.inr rfl))
        (pss_one (ps_set (i := 1) scLAp.nd rfl (Or.inl rfl) (pe_op op_cat (pv 1) (pe_lc (own := [("_law_row", 3)]) rfl scLAp.nd (pi_sqA (pv 1)) (blkOk_by (N := NLAp) (sc := defScope sLAp) (by decide +kernel)) (fun _ _ _ _ _ => (pg_name (i := 3) scLAp.nd rfl (Or.inl rfl))) (fun _ _ _ _ _ => pts_nil) (fun _ _ _ _ _ => (pe_op op_cat (pv 3) (pe_lst (pa_cons (pv 2) pa_nil)))))))))
      (pss_one (ps_ret (pv 1)))), ?_⟩
    refine ⟨by show 0 ≤ sizeLine; decide, fun r0 nr0 => ⟨by show 1 ≤ sizeLine; decide, fun t0 nt0 => ?_⟩⟩
    have e0 := (same_new (o := .lst []) nr0).trans (same_new (o := .lst [.ref r0]) nt0)
    have hr0 := (same_new (o := .lst [.ref r0]) nt0) _ _ (upd_same (H := H) (a := r0) (o := .lst []))
    have ht0 : upd (upd H r0 (.lst [])) t0 (.lst [.ref r0]) t0 = some (.lst [.ref r0]) := upd_same
    generalize upd (upd H r0 (.lst [])) t0 (.lst [.ref r0]) = H0 at e0 hr0 ht0 ⊢
    refine gN ?_
    dsimp only
    refine ⟨_, rfl, _, rfl, by omega, by omega, for_it (D := { nx := _, rt := Q, bk := fun _ _ => False, ct := fun _ _ => False }) (walk_range (lo := 0)) (fun i σ H' => ∃ (o2 : Option V) (a : Addr) (rs : List V), σ = [some (.int (m : Nat)), some (.ref a), o2, none] ∧ Same H H' ∧ H' a = some (.lst rs) ∧ rs.length ≤ 2 ^ i ∧ ∀ v ∈ rs, RwP H' i v)
      ⟨none, t0, _, rfl, e0, ht0, Nat.le_refl _, fun v hv => by rw [List.mem_singleton.mp hv]; exact ⟨r0, [], rfl, hr0, Nat.le_refl _, fun p hp => nomatch hp⟩⟩ (fun _ _ _ _ _ => True.intro) ?_ ?_⟩
    · rintro i x σ H2 H3 hi ⟨o2, a, rs, rfl, e2, ha, lr, kr⟩ ⟨rfl, rfl⟩
      refine gN ?_
      dsimp only
      have hi8 : i < 8 := Nat.lt_of_lt_of_le hi m8
      have p8 : 2 ^ i ≤ 128 := by
        have := Nat.pow_le_pow_right (show 1 ≤ 2 by decide) (show i ≤ 7 by omega)
        omega
      refine ⟨_, rfl, _, rfl, a, rs, rfl, .inl (SqL.of ha), fun J G wk hG D nD => lcO wk (fun j v H' => ∃ q ps, v = .ref q ∧ q ≠ D ∧ H' q = some (.lst (iN ps)) ∧ ps.length ≤ i + 1 ∧ ∀ p ∈ ps, p < i + 1) ?_ (by omega) nD (fun H' e => hG H' fun o z => e _ _ z) ?_ ?_⟩
      · rintro j v Ha Hb xs hD kp ⟨q', ps, rfl, ne, h1, h2, h3⟩
        exact ⟨q', ps, rfl, ne, kp _ _ ne h1, h2, h3⟩
      · rintro j x H4 H5 N hj e4 ⟨xs, hD⟩ ⟨rfl, hx⟩ fin
        obtain ⟨q', ps, rfl, h1, h2, h3⟩ := kr x (List.mem_of_getElem? hx)
        refine ⟨rfl, _, rfl, _, rfl, by show 1 ≤ sizeLine; decide, fun t1 nt1 => ?_⟩
        have e5 := same_new (o := .lst [V.int (0 + ((i : Nat) : Int))]) nt1
        refine ⟨q', t1, iN ps, _, rfl, rfl, e5 _ _ (e4 _ _ h1), upd_same, ?_, fun p np => ?_⟩
        · rw [iN_len]
          exact Nat.le_of_lt (small10 (n := ps.length + 1) (by omega))
        · have e6 := e5.trans (same_new (o := .lst (iN ps ++ [V.int (0 + ((i : Nat) : Int))])) np)
          refine fin _ _ e6 ⟨p, ps ++ [i], rfl, ?_, ?_, by rw [List.length_append]; exact Nat.add_le_add_right h2 1, fun y hy => ?_⟩
          · exact ne_of_none (e5 _ _ hD) np |>.symm
          · rw [upd_same, Int.zero_add]
            unfold iN
            rw [List.map_append]
            rfl
          · rcases List.mem_append.mp hy with z | z
            · have := h3 y z
              omega
            · rw [List.mem_singleton.mp z]
              exact Nat.lt_succ_self i
      · intro acc H4 e4 la ra hD
        refine ⟨a, D, rs, acc, rfl, rfl, e4 _ _ ha, hD, ?_, fun p np => ?_⟩
        · exact Nat.le_of_lt (small10 (by omega))
        · have e5 := same_new (o := .lst (rs ++ acc)) np
          refine gN ?_
          dsimp only
          refine ⟨_, p, rs ++ acc, rfl, (e2.trans e4).trans e5, upd_same, ?_, fun v hv => ?_⟩
          · rw [List.length_append, la, Nat.pow_succ]
            omega
          · rcases List.mem_append.mp hv with z | z
            · exact ((kr v z).same (e4.trans e5)).mono (by omega)
            · obtain ⟨j, hj, ej⟩ := List.mem_iff_getElem.mp z
              obtain ⟨q', ps, rfl, ne, h1, h2, h3⟩ := ra j v (by rw [List.getElem?_eq_getElem hj, ej])
              exact ⟨q', ps, rfl, e5 _ _ h1, h2, h3⟩
    · rintro σ H2 ⟨o2, a, rs, rfl, e2, ha, lr, kr⟩
      dsimp only
      refine ⟨_, rfl, q a rs H2 e2 ha ?_ kr⟩
      have : 2 ^ m ≤ 2 ^ 8 := Nat.pow_le_pow_right (by decide) m8
      exact Nat.le_trans lr this
end
end K66
set_option Elab.async false
set_option linter.all false
set_option maxRecDepth 100001
set_option maxHeartbeats 3999999
/-! repr of data, from a stack without guards -/
namespace GFn
open PySem L2
/-- small enough to be told -/
structure Tells (d : PyData) : Prop where
  can : d.showable = true
  nod : d.hasDict = false
  dep : d.depth ≤ 40
  len : d.shown.length ≤ sizeLine
section
variable {X : Cx}
theorem call_reprD (g : X.A.guards = some []) (hu : X.A.units + 64 < cLine) : CallR X (.builtin "repr") (fun xs H Q => ∃ v d, xs = [v] ∧ Dp X.K H v d ∧ Tells d ∧ Q (.str d.shown) H) := by
  intro pins s σ H xs us Q I r h
  obtain ⟨v, d, rfl, dp, t, q⟩ := h
  obtain ⟨u, rfl, ru⟩ := vals1 r
  have dep := t.dep
  have ref : ∀ a, v = .ref a → wpAny (model X.prog X.w) X.A (call (.builtin "repr") [u]) (EP X pins σ Q) X.xe s := fun a e => by
    subst e
    obtain rfl : u = Value.ref a := ru
    obtain ⟨as, rd⟩ := Dp.reads I d _ _ dp rfl
    exact repr_of_reads' rd t.can (fun z => by rw [t.nod] at z; cases z) g (by omega) (fun _ _ e => e) (fun h' u tk hk => ⟨.str _, H, I.kept hk, ⟨_, rfl⟩, q⟩) t.len
  cases dp with
  | non =>
    cases ru
    exact PySem.P.repr_of_none ⟨.str _, H, I.tok _, ⟨_, rfl⟩, q⟩
  | bl b =>
    cases ru
    exact PySem.P.repr_of_bool ⟨.str _, H, I.tok _, ⟨_, rfl⟩, q⟩
  | int i =>
    obtain ⟨k, rfl⟩ := ru
    exact PySem.P.repr_of_int (of_decide_eq_true t.can) ⟨.str _, H, I.tok _, ⟨_, rfl⟩, q⟩
  | str x =>
    obtain ⟨k, rfl⟩ := ru
    exact PySem.P.repr_of_str ⟨.str _, H, I.tok _, ⟨_, rfl⟩, q⟩ t.len
  | lst _ _ => exact ref _ rfl
  | tup _ _ => exact ref _ rfl
end
theorem piled_le {b : Nat} : ∀ {ts : List Str}, (∀ t ∈ ts, t.length ≤ b) → piled ts ≤ ts.length * (b + 2)
  | [], _ => by simp [piled]
  | t :: ts, h => by
    have h1 := h t List.mem_cons_self
    have h2 := piled_le fun t ht => h t (List.mem_cons_of_mem _ ht)
    rw [piled_cons, List.length_cons, Nat.succ_mul]
    omega
theorem tupleText_le {b : Nat} {ts : List Str} (h : ∀ t ∈ ts, t.length ≤ b) : (tupleText ts).length ≤ 3 + ts.length * (b + 2) := by
  unfold tupleText
  rw [strLen_append, strLen_append]
  have e1 : ((("(" : String) : Str)).length = 1 := rfl
  have e2 : ((if ts.length == 1 then ",)" else ")" : String) : Str).length ≤ 2 := by split <;> decide
  have p := piled_le h
  by_cases c : ts = []
  · subst c
    have e3 : (Str.join ", " ([] : List Str)).length = 0 := rfl
    omega
  · have j := join_length_add ts c
    omega
theorem shownAll_eq : ∀ xs : List PyData, PyData.shownAll xs = xs.map PyData.shown
  | [] => rfl
  | x :: xs => by rw [PyData.shownAll, shownAll_eq xs]; rfl
theorem showableAll_of {xs : List PyData} (h : ∀ x ∈ xs, x.showable = true) : PyData.showableAll xs = true := by
  induction xs with
  | nil => rfl
  | cons x xs ih => rw [PyData.showableAll, h x List.mem_cons_self, ih fun y hy => h y (List.mem_cons_of_mem _ hy)]; rfl
theorem hasDictAll_of {xs : List PyData} (h : ∀ x ∈ xs, x.hasDict = false) : PyData.hasDictAll xs = false := by
  induction xs with
  | nil => rfl
  | cons x xs ih => rw [PyData.hasDictAll, h x List.mem_cons_self, ih fun y hy => h y (List.mem_cons_of_mem _ hy)]; rfl
theorem depthAll_of {n : Nat} {xs : List PyData} (h : ∀ x ∈ xs, x.depth ≤ n) : PyData.depthAll xs ≤ n := by
  induction xs with
  | nil => exact Nat.zero_le _
  | cons x xs ih =>
    have h1 := h x List.mem_cons_self
    have h2 := ih fun y hy => h y (List.mem_cons_of_mem _ hy)
    simp only [PyData.depthAll]
    omega
/-- told in so many signs, so deep -/
structure TellsB (n b : Nat) (d : PyData) : Prop where
  can : d.showable = true
  nod : d.hasDict = false
  dep : d.depth ≤ n
  len : d.shown.length ≤ b
theorem TellsB.tells {n b : Nat} {d : PyData} (h : TellsB n b d) (hn : n ≤ 40) (hb : b ≤ sizeLine) : Tells d := ⟨h.can, h.nod, Nat.le_trans h.dep hn, Nat.le_trans h.len hb⟩
theorem TellsB.tuple {n b : Nat} {xs : List PyData} (h : ∀ x ∈ xs, TellsB n b x) : TellsB (n + 1) (3 + xs.length * (b + 2)) (.tuple xs) := by
  refine ⟨?_, ?_, ?_, ?_⟩
  · rw [PyData.showable]
    exact showableAll_of fun x hx => (h x hx).can
  · rw [PyData.hasDict]
    exact hasDictAll_of fun x hx => (h x hx).nod
  · have := depthAll_of fun x hx => (h x hx).dep
    simp only [PyData.depth]
    omega
  · rw [PyData.shown, shownAll_eq]
    have := tupleText_le (ts := xs.map PyData.shown) (b := b) fun t ht => by
      obtain ⟨x, hx, rfl⟩ := List.mem_map.mp ht
      exact (h x hx).len
    rw [List.length_map] at this
    exact this
theorem TellsB.int {i : Int} (h : i.natAbs.log2 < 1920) : TellsB 0 1921 (.int i) := ⟨decide_eq_true h, rfl, by simp [PyData.depth], PyProof.Rows.int_text_len_1921 h⟩
end GFn
set_option Elab.async false
set_option linter.all false
set_option maxRecDepth 100001
set_option maxHeartbeats 3999999
namespace K66
open PySem L2 GFn
/-! ### a call that is refused -/
abbrev sRf : Stmt := topS 24
abbrev NRf : List Str := ["_law_call", "_law_told", "e"]
def rRp (K : PySem.W.Frag) : List V → Hp → VK → Prop := fun xs H Q => ∃ v d, xs = [v] ∧ Dp K H v d ∧ Tells d ∧ Q (.str d.shown) H
def tRf (K : PySem.W.Frag) (CV C : Addr) (n : Str) : Addr → Value → Option Addr → TS := fun a cls d => tAsg (tTup (tCons (tCB (rRp K) (tCons (tXf a cls d C n (tVar 2)) tNil)) (tCons (tCB (ExF.rIsF K C a cls d) (tCons (tVar 2) (tCons (tC (.ref CV)) tNil))) tNil))) (gName 1)
theorem takes_len {X : Cx} {W : WX} {n : Nat} (e : X.N.length = n) (tk : Takes X W) : Takes X (fun cls d σ H => σ.length = n → W cls d σ H) := fun u s' ⟨a, B, sI, pins, σ, H, cls, d, e1, I, nb, up, sky, na, os, ag, w⟩ =>
  tk u s' ⟨a, B, sI, pins, σ, H, cls, d, e1, I, nb, up, sky, na, os, ag, w (I.len.trans e)⟩
theorem pe_mono {X : Cx} {e : Expr} {te : TE} (h : PE X e te) : PE X e fun σ H Q => ∃ Q' : VK, (∀ x H1, Q' x H1 → Q x H1) ∧ te σ H Q' :=
  ⟨fun pins s σ H Q I ⟨Q', m, k⟩ => wpAny_mono (h.run pins s σ H Q' I k) (fun u s1 ⟨v, H1, I1, r, q⟩ => ⟨v, H1, I1, r, m _ _ q⟩) fun _ _ z => z⟩
/-- what comes of a call that is refused -/
def rRf (C : Addr) (Q : VK) : XK := fun cls d H' => cls = .ref C ∧ ∃ dd v da, d = some dd ∧ H' dd = some (.xd [("size", v)]) ∧ Odd H' v da ∧ Tells da ∧ ∀ t, H' t = none → Q (.ref t) (upd H' t (.tup [.str da.shown, .bl true]))
def TTr (C : Addr) : (XK → Hp → VK → Prop) → Hp → VK → Prop := fun tl H Q => ∀ H1, Same H H1 → tl (rRf C Q) H1 fun _ _ => False
structure Ctr (K : PySem.W.Frag) (mg : Str → Option Value) (CV C : Addr) : Prop where
  xS : Ct K mg "BadSize" C
  nS : PySem.W.findIn K (.ref C) "size" = some none
  gV : mg "VaultError" = some (.ref CV)
  sS : ExF.Says K C
  kS : PySem.W.kitOne K (.ref C) (.ref CV) = some true
  rp : mg "repr" = none
  isi : mg "isinstance" = none
theorem scRf : FnScope NRf ["_law_call"] (defScope sRf) := ⟨rfl, rfl, rfl, by decide +kernel, rfl, by decide +kernel, by decide +kernel⟩
theorem rf_gives {X : Cx} {g CV C : Addr} {cdg : Value} {q : Str} (T : Ctr X.K X.mg CV C) (gd : X.A.guards = some []) (hr : Room 1 X.A) : LamX.GivesTo X NRf "_law_refusal" (defScope sRf) g cdg (defBody sRf) "_law_call" q (TTr C) := by
  intro f c' s H Q tl act hc h
  have g2 : (X.A.deeper (PyProof.Rows.envOfC "_law_refusal" (defScope sRf) s.heap.objs.size g cdg)).guards = some [] := guards_deeper gd
  have u2 : (X.A.deeper (PyProof.Rows.envOfC "_law_refusal" (defScope sRf) s.heap.objs.size g cdg)).units + 64 < cLine := (hr.deeper _).units
  refine ⟨_, pss_cons (ps_set (i := 1) scRf.nd rfl (Or.inl rfl) (pe_tup pa_nil)) (pss_cons (ps_try_clauses
      (tb := fun W D σ H => ∃ Ech : XK, (∀ cls d σ' H', Ech cls d H' → σ'.length = 3 → W cls d σ' H') ∧ σ[0]? = some (some (.ref f)) ∧ H c' = some (LamX.CodeO c' q) ∧ ∃ Q' : VK, (∀ x H1, Q' x H1 → D.nx σ H1) ∧ tl Ech H Q') (Wout := fun _ _ _ _ => False)
        (l := [(.ref C, some 2, tRf X.K CV C "size")]) rfl rfl scRf.nd LamX.takes0
        (fun W pn xe tk _ => ?_)
        (.named ⟨rfl, by decide, .inl T.xS.g⟩ rfl rfl (fun a oe cls d pn hz hf => pss_one (ps_set (i := 1) scRf.nd rfl (Or.inl rfl) (pe_tup (pa_cons (pe_callB (call_reprD g2 u2) rfl T.rp (by decide +kernel) (pa_cons (pe_xf T.xS.T T.nS hz hf (pv 2)) pa_nil)) (pa_cons (pe_callB (ExF.call_isF T.sS hz hf) rfl T.isi PyProof.Rows.boot_isinstance (pa_cons (pv 2) (pa_cons (pe_glob (v := .ref CV) rfl T.gV rfl) pa_nil))) pa_nil)))))
        .nil))
      (pss_one (ps_ret (pv 1)))), ?_⟩
  · refine ⟨fun pins s' σ H' D I h' => ?_⟩
    obtain ⟨Eq, hW, h1, h2, Q', h4, h3⟩ := h'
    have hp := fun p1 p2 => pe_mono (act _ pn xe Eq p1 p2 (takes_len (n := 3) rfl tk) fun cls d σ' H' e => hW cls d σ' H' e)
    refine (pss_one (ps_expr (hp _ _))).run pins s' σ H' D I ?_
    exact ⟨Q', h4, h1, h2, h3⟩
  · refine ⟨by show 0 ≤ sizeLine; decide, fun t0 nt0 => ?_⟩
    have e0 := same_new (o := .tup []) nt0
    have h0 := h _ e0
    have hc0 := e0 _ _ hc
    generalize upd H t0 (.tup []) = H0 at e0 h0 hc0 ⊢
    refine gN ?_
    refine ⟨rRf C Q, fun cls d σ' H' e hl => ?_, rfl, hc0, _, ?_, h0⟩
    · match σ', hl with
      | [u0, u1, u2], _ =>
        obtain ⟨rfl, dd, v, da, rfl, hd, od, te, k⟩ := e
        refine ⟨true, T.xS.me, fun _ a na => ?_, fun z => nomatch z⟩
        refine ⟨_, rfl, rfl, rfl, dd, _, _, rfl, hd, rfl, v, da, rfl, od.dp, te, _, rfl, .ref CV, .ref CV, true, rfl, rfl, ⟨dd, _, rfl, hd⟩, fun u ru => ru, T.kS, by show 2 ≤ sizeLine; decide, fun t nt => ?_⟩
        exact ⟨_, rfl, k t nt⟩
    · intro x H1 k
      exact k.elim
section
variable {X : Cx}
/-- _law_refusal(f), f a name of a pinned lambda -/
theorem pe_rfv {ls : List LamX.LSp} {Rf : LamX.LSp → Addr → Addr → Prop} {g CV C : Addr} {fd : FuncData} {k j i : Nat} {v : Str} {p vpos pos : Pos} (FA : Fun X.K "_law_refusal" "_law_refusal" sRf g fd) (bA : Binds X.K fd ["_law_call"] [])
    (gA : X.mg "_law_refusal" = some (.ref g)) (T : Ctr X.K X.mg CV C) (gd : X.A.guards = some []) (hr : Room j X.A) (hk : k + 2 ≤ j) (hO : ∀ L ∈ ls, LamX.LOk X.N X.env.scope L) (hR : ∀ L f c', Rf L f c' → L.At X X.pn f c')
    (hbody : ∀ L ∈ ls, ∀ (A : Around) (outer : List Env) (s : Shared) (H : Hp) (E : XK) (f c' : Addr), Room k (A.deeper (LamX.lamEnv X L.scope s.heap.objs.size f c')) → PE (LamX.lamCx X A outer s H E L.scope f c') L.body (L.t E))
    (hN : X.N[i]? = some v) (hv : Vis X.env.scope v) (hvd : (v == ("__debug__" : Str)) = false := by decide) (hvc : (v == ("__classdict__" : Str)) = false := by decide) (hg : Gl X "_law_refusal" := by rfl) :
    PE X (.Call (.Name "_law_refusal" p) [.Name v vpos] [] pos) (fun σ H Q => ∃ L ∈ ls, ∃ f c', σ[i]? = some (some (.ref f)) ∧ Rf L f c' ∧ H c' = some (LamX.CodeO c' (X.env.qual ++ "<lambda>")) ∧ TTr C (fun E H' Q' => L.t E σ H' Q') H Q) := by
  obtain ⟨oc, od, kV, doc, pm, an, cdv, ct, osl, rfl, lk, hcd⟩ := FA.ex
  exact LamX.pe_lamvar (k := k) hg gA FA.kp lk hcd bA scRf rfl (.inl rfl) (rf_gives T gd (hr.mono (by omega))) (hr.mono hk) hO hR hbody hN hv hvd hvc
end
end K66
set_option Elab.async false
set_option linter.all false
set_option maxRecDepth 100001
set_option maxHeartbeats 3999999
namespace K66
open PySem L2 GFn
structure FunL (K : PySem.W.Frag) (base : Heap) (mg : Str → Option Value) (x q : Str) (st : Stmt) (f c T : Addr) (fd : FuncData) : Prop where
  ex : ∃ (oc : Value) (od : Option Addr) (kV doc pm : Value) (an : Option Addr) (ct : Value) (osl : Array (Option Value)),
    fd = PySem.W.fnOf x q (defArgs st) (defBody st) (defScope st) .none kV doc pm an (.ref c) ct ∧ K.lookup f = some ⟨oc, od, .func fd, osl⟩ ∧ PySem.W.codeIn K (.ref c) q = true
  tab : LamX.TabB base mg c T
section
variable {P : Program} {w : World} {K : PySem.W.Frag} {mg : Str → Option Value} {base : Heap}
theorem FunL.okG {x q : Str} {st : Stmt} {f c T : Addr} {fd : FuncData} {N ps : List Str} {k : Nat} {sp : L2.Sp} (F : FunL K base mg x q st f c T fd) (S : FnScope N ps (defScope st)) (len : ∀ vs H Q E, sp vs H Q E → vs.length = ps.length)
    (hbody : ∀ (A : Around) (outer : List Env) (s : Shared) (H : Hp) (vs : List V) (Q : VK) (E : XK), (A.deeper (PyProof.Rows.envOfC q (defScope st) s.heap.objs.size f (.ref c))).guards = some [] → Room k (A.deeper (PyProof.Rows.envOfC q (defScope st) s.heap.objs.size f (.ref c))) → sp vs H Q E →
      ∃ t, PSs (cxOf CX0 P w K mg base N q (defScope st) f (.ref c) A outer s H E).nox (defBody st) t ∧ t { nx := fun _ H' => Q .non H', rt := Q } (L2.start N vs) H) : FnOkG P w K mg base CX0 (k + 1) f fd ps sp := by
  obtain ⟨oc, od, kV, doc, pm, an, ct, osl, rfl, lk, hcd⟩ := F.ex
  refine fn_ofG lk hcd S len fun A outer s H vs Q E g hr hsp => ?_
  obtain ⟨t, h, q⟩ := hbody A outer s H vs Q E (guards_deeper g) hr hsp
  exact ⟨t, h.nox, q⟩
end
theorem Odd.ext {H H' : Hp} {v : V} {d : PyData} (o : Odd H v d) (e : LamX.ExtN H H') : Odd H' v d := by
  cases o with
  | flat h => exact .flat h
  | tup e1 f => exact .tup (e _ _ e1 fun _ z => nomatch z) f
  | lst e1 f l => exact .lst (e _ _ e1 fun _ z => nomatch z) f l
/-- odd, and told -/
structure OdT (H : Hp) (v : V) (d : PyData) : Prop where
  od : Odd H v d
  te : Tells d
  so : PyData.strOk d.shown = true
theorem OdT.ext {H H' : Hp} {v : V} {d : PyData} (o : OdT H v d) (e : LamX.ExtN H H') : OdT H' v d := ⟨o.od.ext e, o.te, o.so⟩
theorem OdT.same {H H' : Hp} {v : V} {d : PyData} (o : OdT H v d) (e : Same H H') : OdT H' v d := ⟨o.od.same e, o.te, o.so⟩
theorem te_int (i : Int) (h1 : (PyData.int i).showable = true) (h2 : (PyData.int i).shown.length ≤ 1000) : Tells (.int i) := ⟨h1, rfl, by simp [PyData.depth], Nat.le_trans h2 (by decide)⟩
theorem odt_int {H : Hp} (i : Int) (h1 : (PyData.int i).showable = true) (h2 : (PyData.int i).shown.length ≤ 1000) (h3 : PyData.strOk (PyData.int i).shown = true) : OdT H (.int i) (.int i) := ⟨.flat (v := .int i) True.intro, te_int i h1 h2, h3⟩
theorem odt_non {H : Hp} : OdT H .non .none := ⟨.flat (v := .non) True.intro, ⟨rfl, rfl, by simp [PyData.depth], by decide +kernel⟩, by decide +kernel⟩
theorem odt_bl {H : Hp} (b : Bool) : OdT H (.bl b) (.bool b) := ⟨.flat (v := .bl b) True.intro, ⟨rfl, rfl, by simp [PyData.depth], by cases b <;> decide +kernel⟩, by cases b <;> decide +kernel⟩
theorem odt_two {H : Hp} : OdT H (.str "2") (.str "2") := ⟨.flat (v := .str "2") (show PyData.strOk _ = true by decide +kernel), ⟨by decide +kernel, rfl, by simp [PyData.depth], by decide +kernel⟩, by decide +kernel⟩
theorem odt_one {H : Hp} : OdT H (.str "1") (.str "1") := ⟨.flat (v := .str "1") (show PyData.strOk _ = true by decide +kernel), ⟨by decide +kernel, rfl, by simp [PyData.depth], by decide +kernel⟩, by decide +kernel⟩
theorem odt_tup {H : Hp} {t : Addr} (h : H t = some (.tup [.int 3])) : OdT H (.ref t) (.tuple [.int 3]) := ⟨.tup (x := .int 3) h True.intro, ⟨by decide +kernel, rfl, by decide +kernel, by decide +kernel⟩, by decide +kernel⟩
theorem OdT.but {pn cl : Addr} {b : Nat} {H H' : Hp} {v : V} {d : PyData} (o : OdT H v d) (pen : Pen H pn cl b) (e : But pn H H') : OdT H' v d := by
  refine ⟨?_, o.te, o.so⟩
  cases o.od with
  | flat h => exact .flat h
  | tup e1 f => exact .tup (e _ _ (pen.ne e1 fun _ z => nomatch z) e1) f
  | lst e1 f l => exact .lst (e _ _ (pen.ne e1 fun _ z => nomatch z) e1) f l
def rMul0 : R2 := fun x y H Q => ∃ (z : Str) (k : Nat), x = .str z ∧ y = .int (k : Nat) ∧ k ≤ 1000 ∧ 1 ≤ z.length ∧ z.length ≤ 1000 ∧ Q (.str (repS z k)) H
theorem op_mul0 {X : Cx} : OpR X (binaryOp .Mult) rMul0 := by
  intro pins s σ H x y v u Q I rx ry h
  obtain ⟨z, k, rfl, rfl, k1, z1, z2, q⟩ := h
  by_cases k2 : 2 ≤ k
  · exact op_mulS pins s σ H _ _ v u Q I rx ry ⟨z, k, rfl, rfl, k2, k1, z1, z2, q⟩
  obtain ⟨t, rfl⟩ := rx
  obtain ⟨t', rfl⟩ := ry
  refine P.mul_str (by simp; omega) (fun a b => ?_) (fun a b => ?_) ?_
  · exfalso
    have : k = 1 := by omega
    subst this
    simp at b
  · exfalso
    have : k = 1 := by omega
    subst this
    simp at b
  · by_cases k0 : k = 0
    · subst k0
      rw [if_pos (by decide)]
      exact ⟨by show 0 ≤ sizeLine; decide, .str (repS z 0), H, I.tok _, ⟨_, rfl⟩, q⟩
    · have : k = 1 := by omega
      subst this
      rw [if_neg (by decide), if_pos (by simp)]
      have e : repS z 1 = z := by
        show (⟨((List.replicate 1 z.cps.toList).flatten).toArray⟩ : Str) = z
        simp
      rw [e] at q
      exact ⟨.str z, H, I, ⟨t, rfl⟩, q⟩

theorem rep_w (u : W) (k : Nat) : repS (bS u) k = bS ((List.replicate k u).flatten) := by
  show (⟨((List.replicate k (u.map cd)).flatten).toArray⟩ : Str) = ⟨(((List.replicate k u).flatten).map cd).toArray⟩
  rw [List.map_flatten, List.map_replicate]
theorem rep_len (u : W) (k : Nat) : ((List.replicate k u).flatten).length = k * u.length := by
  induction k with
  | zero => simp
  | succ k ih =>
    rw [List.replicate_succ, List.flatten_cons, List.length_append, ih, Nat.succ_mul]
    omega
/-- no size -/
structure NoS (H : Hp) (v : V) (d : PyData) : Prop where
  o : OdT H v d
  b : btw v 1 64 = false
theorem te_bl (b : Bool) : Tells (.bool b) := ⟨rfl, rfl, by simp [PyData.depth], by cases b <;> decide +kernel⟩
theorem te_two {n m : Int} (h1 : n.natAbs < 1000) (h2 : m.natAbs < 1000) : Tells (.tuple [.int n, .int m]) := by
  have g : ∀ {i : Int}, i.natAbs < 1000 → TellsB 0 1921 (.int i) := fun {i} h => TellsB.int (by
    by_cases z : i.natAbs = 0
    · rw [z]
      decide
    · exact Nat.lt_trans ((Nat.log2_lt z).mpr (by omega : i.natAbs < 2 ^ 10)) (by decide))
  exact (TellsB.tuple (xs := [.int n, .int m]) fun x hx => by
    rcases List.mem_cons.mp hx with rfl | hx
    · exact g h1
    · rw [List.mem_singleton.mp hx]
      exact g h2).tells (by decide) (by show 3 + 2 * 1923 ≤ sizeLine; decide)
theorem pe_or3 {X : Cx} {e : Expr} {t1 t2 t3 : TE} (h1 : PE X e t1) (h2 : PE X e t2) (h3 : PE X e t3) : PE X e fun σ H Q => t1 σ H Q ∨ t2 σ H Q ∨ t3 σ H Q :=
  ⟨fun pins s σ H Q I h => by
    rcases h with h | h | h
    · exact h1.run pins s σ H Q I h
    · exact h2.run pins s σ H Q I h
    · exact h3.run pins s σ H Q I h⟩
end K66
set_option Elab.async false
set_option linter.all false
set_option maxRecDepth 100001
set_option maxHeartbeats 3999999
namespace K66
open PySem L2 GFn
/-! ### the law -/
abbrev sLaw : Stmt := topS 27
abbrev NLaw : List Str := ["_law_script", "_law_pen", "_law_below_here", "_law_turn", "_law_name", "_law_number", "_law_kind", "_law_damage_here", "_law_told", "_law_bits", "_law_places", "_law_long", "_law_lap", "_law_odd", "_law_call"]
def spLaw (K : PySem.W.Frag) (Tb : List (Addr × Str)) : L2.Sp := fun vs H Q _ => ∃ (a : Addr) (is : List Int), vs = [.ref a] ∧ SqL K H a (is.map V.int) ∧ LamX.Tabs Tb H ∧ ∀ H', Q (.bl true) H'
/-- what the law calls -/
structure LwC (P : Program) (w : World) (K : PySem.W.Frag) (mg : Str → Option Value) (base : Heap) (f c T g CV CS CD CT CF CB : Addr) (fd fdA : FuncData) (Tb : List (Addr × Str)) : Prop where
  F : FunL K base mg "law" "law" sLaw f c T fd
  B : Bi mg
  XT : TxD K CT "most"
  XF : TxD K CF "most"
  XB : TxD K CB "size"
  rp : mg "repr" = none
  cPe : Cal CX0 P w K mg base 1 "_law_pen_of" (spPen K)
  cD : Cal CX0 P w K mg base 1 "_law_draw" spDraw
  cPk : Cal CX0 P w K mg base 2 "_law_pick" spPick
  cDm : Cal CX0 P w K mg base 8 "_law_damage" (spLDm CT CF CB)
  cBe : Cal CX0 P w K mg base 1 "_law_below" (spLBe CT CF CB)
  cBo : Cal CX0 P w K mg base 2 "_law_bits_of" spLBo
  cAp : Cal CX0 P w K mg base 1 "_law_all_places" spLAp
  cIk : Cal CX0 P w K mg base 1 "_law_is_kind" spLIk
  cSp : Cal CX0 P w K mg base 2 "_law_some_places" spSPl
  mT : Met CX0 P w K mg base 1 CT "is_of" (spIo CT CF CB .tu)
  mF : Met CX0 P w K mg base 1 CF "is_of" (spIo CT CF CB .fa)
  mB : Met CX0 P w K mg base 1 CB "is_of" (spIo CT CF CB .bu)
  kT : Mak (L2.CX P w) P w K mg base 6 "Turned" CT (spDI CS CT "most")
  kF : Mak (L2.CX P w) P w K mg base 6 "Faded" CF (spDI CS CF "most")
  kB : Mak (L2.CX P w) P w K mg base 6 "Burst" CB (spDI CS CB "size")
  FA : Fun K "_law_refusal" "_law_refusal" sRf g fdA
  bA : Binds K fdA ["_law_call"] []
  gA : mg "_law_refusal" = some (.ref g)
  Ts : Ctr K mg CV CS
  hmT : (T, (("law.<locals>.<lambda>" : String) : Str)) ∈ Tb
  hu : ∀ p ∈ Tb, p.1 = T → p.2 = (("law.<locals>.<lambda>" : String) : Str)
theorem ps_forLam2 {X : Cx} {T : List (Addr × Str)} {c P : Addr} {ls : List LamX.LSp} {tg : Expr} {body : List Stmt} {g : TG} {tb : (LamX.LSp → Addr → Addr → Prop) → TS} {lpos pos : Pos} (hp : PassesOwn (model X.prog X.w) X.A X.env X.xe) (hc : X.calm = true) (TB : LamX.TabB X.base X.mg c P) (hcode : X.env.code = .ref c)
    (hm : (P, X.env.qual ++ "<lambda>") ∈ T) (hu : ∀ p ∈ T, p.1 = P → p.2 = X.env.qual ++ "<lambda>") (hO : ∀ L ∈ ls, LamX.LOk X.N X.env.scope L) (hg : ∀ pn, PG (X.tr pn X.xe) tg g)
    (hb : ∀ (Rf : LamX.LSp → Addr → Addr → Prop) (pn : List (Addr × Obj)), (∀ L ∈ ls, LamX.LOk X.N X.env.scope L) → (∀ L f c', Rf L f c' → L.At (X.tr pn X.xe) pn f c') → PSs (X.tr pn X.xe) body (tb Rf)) : PS X (.For tg (.List (ls.map LamX.LSp.e) lpos) body [] pos) (LamX.tForL X.K T (X.env.qual ++ "<lambda>") ls g tb) :=
  LamX.ps_forLam hp hc TB hcode hm hu hO hg fun Rf pn hR => hb Rf pn hO hR
theorem neK {X : Cx} (K : PySem.W.Frag) (hK : X.K = K) (hu : X.A.units + 64 < cLine) : OpR X (compareOp .NotEq) (rSmD K) := by
  rw [← hK]
  exact op_neSmD hu
theorem reprK {X : Cx} (K : PySem.W.Frag) (hK : X.K = K) (g : X.A.guards = some []) (hu : X.A.units + 64 < cLine) : CallR X (.builtin "repr") (rRp K) := by
  rw [← hK]
  exact call_reprD g hu
theorem pe_rfq {X : Cx} {ls : List LamX.LSp} {Rf : LamX.LSp → Addr → Addr → Prop} {g CV C : Addr} {fd : FuncData} {k j i : Nat} {v q : Str} {p vpos pos : Pos} (hq : X.env.qual ++ "<lambda>" = q) (FA : Fun X.K "_law_refusal" "_law_refusal" sRf g fd) (bA : Binds X.K fd ["_law_call"] [])
    (gA : X.mg "_law_refusal" = some (.ref g)) (T : Ctr X.K X.mg CV C) (gd : X.A.guards = some []) (hr : Room j X.A) (hk : k + 2 ≤ j) (hO : ∀ L ∈ ls, LamX.LOk X.N X.env.scope L) (hR : ∀ L f c', Rf L f c' → L.At X X.pn f c')
    (hbody : ∀ L ∈ ls, ∀ (A : Around) (outer : List Env) (s : Shared) (H : Hp) (E : XK) (f c' : Addr), Room k (A.deeper (LamX.lamEnv X L.scope s.heap.objs.size f c')) → PE (LamX.lamCx X A outer s H E L.scope f c') L.body (L.t E))
    (hN : X.N[i]? = some v) (hv : Vis X.env.scope v) (hvd : (v == ("__debug__" : Str)) = false := by decide) (hvc : (v == ("__classdict__" : Str)) = false := by decide) (hg : Gl X "_law_refusal" := by rfl) :
    PE X (.Call (.Name "_law_refusal" p) [.Name v vpos] [] pos) (fun σ H Q => ∃ L ∈ ls, ∃ f c', σ[i]? = some (some (.ref f)) ∧ Rf L f c' ∧ H c' = some (LamX.CodeO c' q) ∧ TTr C (fun E H' Q' => L.t E σ H' Q') H Q) := by
  rw [← hq]
  exact pe_rfv FA bA gA T gd hr hk hO hR hbody hN hv hvd hvc hg
/-- what stays through the law -/
structure St0 (Tb : List (Addr × Str)) (H : Hp) (pn cl : Addr) (b : Nat) (d t1 t2 t3 : Addr) : Prop where
  pt : PT Tb H pn cl b
  nd : d ≠ pn
  hd : H d = some (.dK [(.inr "turned", .ref t1), (.inr "faded", .ref t2), (.inr "burst", .ref t3)])
  h1 : H t1 = some (.tup (blw .tu))
  h2 : H t2 = some (.tup (blw .fa))
  h3 : H t3 = some (.tup (blw .bu))
section
variable {Tb : List (Addr × Str)} {H H' : Hp} {pn cl d t1 t2 t3 : Addr} {b b' : Nat}
theorem pen_tup {a : Addr} {xs : List V} (p : Pen H pn cl b) (h : H a = some (.tup xs)) : a ≠ pn := p.ne h fun _ z => nomatch z
theorem St0.but (S : St0 Tb H pn cl b d t1 t2 t3) (e : But pn H H') (p : Pen H' pn cl b') : St0 Tb H' pn cl b' d t1 t2 t3 :=
  ⟨S.pt.but e p, S.nd, e _ _ S.nd S.hd, e _ _ (pen_tup S.pt.pen S.h1) S.h1, e _ _ (pen_tup S.pt.pen S.h2) S.h2, e _ _ (pen_tup S.pt.pen S.h3) S.h3⟩
theorem St0.same (S : St0 Tb H pn cl b d t1 t2 t3) (e : Same H H') : St0 Tb H' pn cl b d t1 t2 t3 := ⟨S.pt.same e, S.nd, e _ _ S.hd, e _ _ S.h1, e _ _ S.h2, e _ _ S.h3⟩
theorem St0.ext (S : St0 Tb H pn cl b d t1 t2 t3) (e : LamX.ExtN H H') (t : LamX.Tabs Tb H') : St0 Tb H' pn cl b d t1 t2 t3 :=
  ⟨S.pt.ext e t, S.nd, e _ _ S.hd (fun _ z => nomatch z), e _ _ S.h1 (fun _ z => nomatch z), e _ _ S.h2 (fun _ z => nomatch z), e _ _ S.h3 (fun _ z => nomatch z)⟩
theorem St0.mono (S : St0 Tb H pn cl b d t1 t2 t3) (e : b ≤ b') : St0 Tb H pn cl b' d t1 t2 t3 := ⟨⟨S.pt.pen.mono e, S.pt.tabs⟩, S.nd, S.hd, S.h1, S.h2, S.h3⟩
theorem St0.get (S : St0 Tb H pn cl b d t1 t2 t3) (k : Kd) : ∃ t, DGet H d (.str k.nm) (some (.ref t)) ∧ H t = some (.tup (blw k)) := by
  cases k with
  | tu => exact ⟨t1, .inl ⟨_, .inr "turned", .inl S.hd, rfl, (valV_eq).symm⟩, S.h1⟩
  | fa => exact ⟨t2, .inl ⟨_, .inr "faded", .inl S.hd, rfl, ((valV_ne (by decide)).trans valV_eq).symm⟩, S.h2⟩
  | bu => exact ⟨t3, .inl ⟨_, .inr "burst", .inl S.hd, rfl, ((valV_ne (by decide)).trans ((valV_ne (by decide)).trans valV_eq)).symm⟩, S.h3⟩
end
theorem nextOf {D : Ends} {σ : St} {H : Hp} (h : D.nx σ H) : tNext D σ H := h
theorem blw_flat (k : Kd) : ∀ v ∈ blw k, Flat v := fun v hv => by
  unfold blw at hv
  rcases List.mem_cons.mp hv with rfl | hv
  · exact True.intro
  · rcases List.mem_cons.mp hv with rfl | hv
    · exact True.intro
    · rcases List.mem_cons.mp hv with rfl | hv
      · exact True.intro
      · rw [List.mem_singleton.mp hv]
        exact True.intro
/-- the turn's own damage -/
structure Tn (CT CF CB : Addr) (H : Hp) (kt dm : Addr) (k : Kd) (n : Int) : Prop where
  ht : H kt = some (.tup [.str k.nm, .int n])
  dm : IsDm CT CF CB H dm k n
theorem Tn.same {CT CF CB : Addr} {H H' : Hp} {kt dm : Addr} {k : Kd} {n : Int} (h : Tn CT CF CB H kt dm k n) (e : Same H H') : Tn CT CF CB H' kt dm k n := ⟨e _ _ h.ht, h.dm.same e⟩
theorem Tn.but {CT CF CB : Addr} {H H' : Hp} {kt dm pn cl : Addr} {b : Nat} {k : Kd} {n : Int} (h : Tn CT CF CB H kt dm k n) (p : Pen H pn cl b) (e : But pn H H') : Tn CT CF CB H' kt dm k n :=
  ⟨e _ _ (pen_tup p h.ht) h.ht, by
    obtain ⟨dx, hd⟩ := h.dm.ob
    exact ⟨dx, e _ _ (p.ne hd fun _ z => nomatch z) hd⟩⟩
def tMk1 (CS C : Addr) (a : Str) : XK → TE := fun E => tMake C (spDI CS C a) [] E (tCons (tVar 13) tNil)
section
variable {P : Program} {w : World} {K : PySem.W.Frag} {mg : Str → Option Value} {base : Heap}
theorem scLaw : FnScope NLaw ["_law_script"] (defScope sLaw) := ⟨rfl, rfl, rfl, by decide +kernel, rfl, by decide +kernel, by decide +kernel⟩
theorem mk_ref {CS C : Addr} {a : Str} {H : Hp} {v : V} {dd : PyData} {E : XK} {σ : St} (h13 : σ[13]? = some (some v)) (no : NoS H v dd) (q : ∀ d H', Same H H' → (∃ v', H' d = some (.xd [("size", v')]) ∧ Odd H' v' dd) → E (.ref CS) (some d) H') : tMk1 CS C a E σ H fun _ _ => False :=
  ⟨v, h13, fun x dx nx ndx ne => ⟨x, dx, v, dd, rfl, upd_same, no.o.od.same (same_ins nx ndx), fun z => absurd (no.b.symm.trans z) (by decide), fun _ d H' rs => q d H' ((same_ins nx ndx).trans rs.same) rs.at_⟩⟩
theorem sh_told (s : Str) (h : PyData.strOk s = true) : SeqAt.shaped (.tuple [.str s, .bool true]) = true := by
  first
    | rfl
    | (unfold SeqAt.shaped; simp [PyData.canLay0, PyData.canLayAll0, PyData.depth, PyData.depthAll, h])
theorem ok_law {f c T g0 CV CS CD CT CF CB : Addr} {fd fdA : FuncData} {Tb : List (Addr × Str)} (R : LwC P w K mg base f c T g0 CV CS CD CT CF CB fd fdA Tb) : FnOkG P w K mg base CX0 11 f fd ["_law_script"] (spLaw K Tb) := by
  have B := R.B
  refine R.F.okG scLaw (fun vs H Q E h => ?_) (fun A outer s H vs Q E g hr h => ?_)
  · obtain ⟨a, is, rfl, _⟩ := h
    rfl
  · obtain ⟨a, is, rfl, ha, tabs, q⟩ := h
    refine ⟨_, pss_cons (ps_set (i := 1) scLaw.nd rfl (Or.inl rfl) (pe_c R.cPe hr pass0 (pa_cons (pv 0) pa_nil)))
      (pss_cons (ps_set (i := 2) scLaw.nd rfl (Or.inl rfl) (pe_disp (pps_cons pe_str (pe_tup (pa_cons pe_bl (pa_cons pe_bl (pa_cons pe_bl (pa_cons pe_bl pa_nil))))) (pps_cons pe_str (pe_tup (pa_cons pe_bl (pa_cons pe_bl (pa_cons pe_bl (pa_cons pe_bl pa_nil))))) pps_nil)) rfl rfl (by simp) (by decide)))
      (pss_cons (ps_dput (hu_of hr) (pv 2) pe_str (pe_tup (pa_cons pe_bl (pa_cons pe_bl (pa_cons pe_bl (pa_cons pe_bl pa_nil))))) rfl)
      (pss_cons (ps_for PassesOwn.never rfl (pi_range1 rfl B.range (pa_cons pe_int pa_nil)) (pg_name (i := 3) scLaw.nd rfl (Or.inl rfl))
        (pss_cons (ps_set (i := 4) scLaw.nd rfl (Or.inl rfl) (pe_c R.cPk hr pass0 (pa_cons (pv 1) (pa_cons (pe_lst (pa_cons pe_str (pa_cons pe_str (pa_cons pe_str pa_nil)))) pa_nil))))
        (pss_cons (ps_set (i := 5) scLaw.nd rfl (Or.inl rfl) (pe_op op_add pe_int (pe_c R.cD hr pass0 (pa_cons (pv 1) (pa_cons (pe_c R.cPk hr pass0 (pa_cons (pv 1) (pa_cons (pe_lst (pa_cons pe_int (pa_cons pe_int (pa_cons pe_int (pa_cons pe_int pa_nil))))) pa_nil))) pa_nil)))))
        (pss_cons (ps_par (i := 6) (j := 7) rfl scLaw.nd rfl rfl (by decide) rfl rfl (pa_cons (pe_tup (pa_cons (pv 4) (pa_cons (pv 5) pa_nil))) (pa_cons (pe_c R.cDm hr pass0 (pa_cons (pe_tup (pa_cons (pv 4) (pa_cons (pv 5) pa_nil))) pa_nil)) pa_nil)) rfl)
        (pss_cons (ps_set (i := 8) scLaw.nd rfl (Or.inl rfl) (pe_ifExp (pt_cmpR op_eq (pv 4) pe_str (nomark _)) (pe_fld (pv 7) rfl) (pe_fld (pv 7) rfl)))
        (pss_cons (ps_if (PW.pt (pw_or (pt_cmpR op_ne (pe_callB (call_reprD g hr.units) rfl R.rp (by decide +kernel) (pa_cons (pe_tup (pa_cons (pv 8) (pa_cons (pe_fld (pv 7) rfl) pa_nil))) pa_nil)) (pe_callB (call_reprD g hr.units) rfl R.rp (by decide +kernel) (pa_cons (pe_tup (pa_cons (pv 5) (pa_cons (pv 5) pa_nil))) pa_nil)) (nomark _)) (pw_or1 (pt_cmpR (op_neSmD (hu64 hr)) (pe_c R.cBe hr pass0 (pa_cons (pv 7) pa_nil)) (pe_dget (hu_of hr) (pv 2) (pv 4) (fun _ _ => rfl)) (nomark _))))) (pss_one (ps_ret pe_bl)) pss_nil)
        (pss_cons (ps_set (i := 9) scLaw.nd rfl (Or.inl rfl) (pe_c R.cBo hr pass0 (pa_cons (pv 1) (pa_cons (pe_c R.cD hr pass0 (pa_cons (pv 1) (pa_cons (pe_ifExp (pt_cmpR op_gt (pv 3) pe_int (nomark _)) pe_int pe_int) pa_nil))) pa_nil))))
        (pss_cons (ps_for PassesOwn.never rfl (pi_sqA (pe_c R.cAp hr pass0 (pa_cons (pe_lenS B.len (pa_cons (pv 9) pa_nil)) pa_nil))) (pg_name (i := 10) scLaw.nd rfl (Or.inl rfl))
          (pss_one (ps_if (pt_cmpR op_ne (pe_callB (call_reprD g hr.units) rfl R.rp (by decide +kernel) (pa_cons (pe_or3 (pe_mt R.mT hr pass0 (pv 7) (pa_cons (pv 9) (pa_cons (pv 10) pa_nil))) (pe_mt R.mF hr pass0 (pv 7) (pa_cons (pv 9) (pa_cons (pv 10) pa_nil))) (pe_mt R.mB hr pass0 (pv 7) (pa_cons (pv 9) (pa_cons (pv 10) pa_nil)))) pa_nil)) (pe_callB (call_reprD g hr.units) rfl R.rp (by decide +kernel) (pa_cons (pe_c R.cIk hr pass0 (pa_cons (pv 6) (pa_cons (pv 9) (pa_cons (pv 10) pa_nil)))) pa_nil)) (nomark _)) (pss_one (ps_ret pe_bl)) pss_nil)))
        (pss_cons (ps_set (i := 11) scLaw.nd rfl (Or.inl rfl) (pe_op op_mul0 (pe_c R.cBo hr pass0 (pa_cons (pv 1) (pa_cons pe_int pa_nil))) pe_int))
        (pss_cons (ps_for PassesOwn.never rfl (pi_range1 rfl B.range (pa_cons pe_int pa_nil)) (pg_name (i := 12) scLaw.nd rfl (Or.inl rfl))
          (pss_cons (ps_set (i := 10) scLaw.nd rfl (Or.inl rfl) (pe_c R.cSp hr pass0 (pa_cons (pv 1) (pa_cons (pe_lenS B.len (pa_cons (pv 11) pa_nil)) (pa_cons (pe_op op_add pe_int (pe_c R.cD hr pass0 (pa_cons (pv 1) (pa_cons pe_int pa_nil)))) pa_nil)))))
          (pss_cons (ps_if (pt_cmpR op_eq (pv 12) pe_int (nomark _)) (pss_one (ps_set (i := 10) scLaw.nd rfl (Or.inl rfl) (pe_listRg rfl rfl B.list (prg_2 rfl B.range (pe_c R.cD hr pass0 (pa_cons (pv 1) (pa_cons pe_int pa_nil))) (pe_op op_add pe_int (pe_c R.cD hr pass0 (pa_cons (pv 1) (pa_cons pe_int pa_nil)))))))) pss_nil)
          (pss_one (ps_if (pt_cmpR op_ne (pe_callB (call_reprD g hr.units) rfl R.rp (by decide +kernel) (pa_cons (pe_or3 (pe_mt R.mT hr pass0 (pv 7) (pa_cons (pv 11) (pa_cons (pe_tupleOf rfl B.tuple (pv 10)) pa_nil))) (pe_mt R.mF hr pass0 (pv 7) (pa_cons (pv 11) (pa_cons (pe_tupleOf rfl B.tuple (pv 10)) pa_nil))) (pe_mt R.mB hr pass0 (pv 7) (pa_cons (pv 11) (pa_cons (pe_tupleOf rfl B.tuple (pv 10)) pa_nil)))) pa_nil)) (pe_callB (call_reprD g hr.units) rfl R.rp (by decide +kernel) (pa_cons (pe_c R.cIk hr pass0 (pa_cons (pv 6) (pa_cons (pv 11) (pa_cons (pv 10) pa_nil)))) pa_nil)) (nomark _)) (pss_one (ps_ret pe_bl)) pss_nil)))))
        (pss_cons (ps_set (i := 13) scLaw.nd rfl (Or.inr rfl) (pe_c R.cPk hr pass0 (pa_cons (pv 1) (pa_cons (pe_lst (pa_cons pe_int (pa_cons pe_int (pa_cons (pe_un un_neg pe_int) (pa_cons pe_non (pa_cons pe_bl (pa_cons pe_bl (pa_cons pe_str (pa_cons (pe_tup (pa_cons pe_int pa_nil)) (pa_cons (pe_op op_pow pe_int pe_int) pa_nil)))))))))) pa_nil))))
        (pss_one (by
          refine' ps_forLam2 (T := Tb) (ls := [⟨_, _, _, _, none, tMk1 CS CT "most"⟩, ⟨_, _, _, _, some "_law_x", tMk1 CS CF "most"⟩, ⟨_, _, _, _, some "_law_y", tMk1 CS CB "size"⟩]) PassesOwn.never rfl R.F.tab rfl R.hmT R.hu ?hO (fun pn => pg_name (i := 14) scLaw.nd rfl (Or.inl rfl)) ?hb
          case hO =>
            intro L hL
            rcases List.mem_cons.mp hL with e | hL
            · rw [e]
              exact ⟨LamX.lamD_by (N := NLaw) (sc := defScope sLaw) (by kernel_rfl), rfl, rfl, fun _ _ _ _ _ _ => rfl⟩
            · rcases List.mem_cons.mp hL with e | hL
              · rw [e]
                exact ⟨LamX.lamD_by (N := NLaw) (sc := defScope sLaw) (by kernel_rfl), rfl, ⟨_, _, _, rfl⟩, fun s q cl T u doc pm cv ctv h => BindsTo.of_defaults rfl h rfl rfl rfl⟩
              · rw [List.mem_singleton.mp hL]
                exact ⟨LamX.lamD_by (N := NLaw) (sc := defScope sLaw) (by kernel_rfl), rfl, ⟨_, _, _, rfl⟩, fun s q cl T u doc pm cv ctv h => BindsTo.of_defaults rfl h rfl rfl rfl⟩
          case hb =>
            intro Rf pn hO hR
            exact pss_one (ps_if (pt_cmpR (neK K rfl (hu64 hr)) (pe_rfq (q := "law.<locals>.<lambda>") (X := (cxOf CX0 P w K mg base NLaw "law" (defScope sLaw) f (.ref c) A outer s H E).nox.tr pn (cxOf CX0 P w K mg base NLaw "law" (defScope sLaw) f (.ref c) A outer s H E).nox.xe) (Rf := Rf) (v := "_law_call") (k := 7) (j := 10) (i := 14) rfl R.FA R.bA R.gA R.Ts g hr (by decide) hO hR (fun L hL => by
              rcases List.mem_cons.mp hL with e | hL
              · rw [e]
                intro A' outer' s' H' E' f' c' hr'
                exact pe_mk R.kT hr' (passes_call (takes_of rfl rfl rfl rfl) fun _ _ _ _ h => h) (pa_cons (pv 13) pa_nil)
              · rcases List.mem_cons.mp hL with e | hL
                · rw [e]
                  intro A' outer' s' H' E' f' c' hr'
                  exact pe_mk R.kF hr' (passes_call (takes_of rfl rfl rfl rfl) fun _ _ _ _ h => h) (pa_cons (pv 13) pa_nil)
                · rw [List.mem_singleton.mp hL]
                  intro A' outer' s' H' E' f' c' hr'
                  exact pe_mk R.kB hr' (passes_call (takes_of rfl rfl rfl rfl) fun _ _ _ _ h => h) (pa_cons (pv 13) pa_nil)) rfl (.inl rfl)) (pe_tup (pa_cons (pe_callB (id := "repr") (reprK K rfl g hr.units) rfl R.rp (by decide +kernel) (pa_cons (pv 13) pa_nil)) (pa_cons pe_bl pa_nil))) (nomark _)) (pss_one (ps_ret pe_bl)) pss_nil))))))))))))))
      (pss_one (ps_ret pe_bl))))), ?_⟩
    refine ⟨_, rfl, a, is, rfl, ha, fun pn cl H0 npn ncl e0 pen0 => ?_⟩
    have pt0 : PT Tb H0 pn cl 0 := ⟨pen0, tabs.ext e0⟩
    refine gN ?_
    dsimp only
    intro d nd
    refine ⟨by show 4 ≤ sizeLine; decide, fun t1 nt1 => ⟨by show 4 ≤ sizeLine; decide, fun t2 nt2 => ?_⟩⟩
    have e1 := same_new (o := .dK []) nd
    have hd1 : upd H0 d (.dK []) d = some (.dK []) := upd_same
    generalize upd H0 d (.dK []) = H1 at nt1 nt2 e1 hd1 ⊢
    have e2 := same_new (o := .tup [.bl true, .bl true, .bl false, .bl false]) nt1
    have ht1 : upd H1 t1 (.tup [.bl true, .bl true, .bl false, .bl false]) t1 = some (.tup (blw .tu)) := upd_same
    generalize upd H1 t1 (.tup [.bl true, .bl true, .bl false, .bl false]) = H2 at nt2 e2 ht1 ⊢
    have e3 := same_new (o := .tup [.bl true, .bl true, .bl true, .bl false]) nt2
    have ht2 : upd H2 t2 (.tup [.bl true, .bl true, .bl true, .bl false]) t2 = some (.tup (blw .fa)) := upd_same
    generalize upd H2 t2 (.tup [.bl true, .bl true, .bl true, .bl false]) = H3 at e3 ht2 ⊢
    refine ⟨e3 _ _ (e2 _ _ hd1), [(.inr "turned", .ref t1), (.inr "faded", .ref t2)], rfl, by show 2 ≤ 15; decide, ?_⟩
    rw [show mergeK ([] : List (Key × V)) [(.inr "turned", .ref t1), (.inr "faded", .ref t2)] = [(.inr "turned", .ref t1), (.inr "faded", .ref t2)] from by first | rfl | decide | kernel_rfl]
    have dp : d ≠ pn := by
      obtain ⟨_, _, _, hp, _⟩ := pen0
      exact Ne.symm (ne_of_none hp nd)
    have e13 : Same H0 H3 := (e1.trans e2).trans e3
    have pt3 : PT Tb H3 pn cl 0 := pt0.same e13
    have dcl : cl ≠ d := by
      obtain ⟨_, _, _, _, hc, _⟩ := pen0
      exact ne_of_none hc nd
    have k4 : ∀ b o, b ≠ d → H3 b = some o → upd H3 d (.dK [(.inr "turned", .ref t1), (.inr "faded", .ref t2)]) b = some o := fun b o n z => (upd_ne n).trans z
    have hd4 : upd H3 d (.dK [(.inr "turned", .ref t1), (.inr "faded", .ref t2)]) d = some (.dK [(.inr "turned", .ref t1), (.inr "faded", .ref t2)]) := upd_same
    have p4 : Pen (upd H3 d (.dK [(.inr "turned", .ref t1), (.inr "faded", .ref t2)])) pn cl 0 := pt3.pen.upd (Ne.symm dp) dcl
    generalize upd H3 d (.dK [(.inr "turned", .ref t1), (.inr "faded", .ref t2)]) = H4 at k4 hd4 p4 ⊢
    refine gN ?_
    dsimp only
    refine ⟨by show 4 ≤ sizeLine; decide, fun t3 nt3 => ⟨_, rfl, d, _, rfl, DPut.k (k := .inr "burst") (same_new nt3 _ _ hd4) (by show 2 < sizeLine; decide), ?_⟩⟩
    have e5 := same_new (o := .tup [.bl true, .bl false, .bl false, .bl true]) nt3
    have ht3 : upd H4 t3 (.tup [.bl true, .bl false, .bl false, .bl true]) t3 = some (.tup (blw .bu)) := upd_same
    generalize upd H4 t3 (.tup [.bl true, .bl false, .bl false, .bl true]) = H5 at e5 ht3 ⊢
    have ne1 : t1 ≠ d := ne_of (e3 _ _ ht1) (e3 _ _ (e2 _ _ hd1)) fun z => nomatch z
    have ne2 : t2 ≠ d := ne_of ht2 (e3 _ _ (e2 _ _ hd1)) fun z => nomatch z
    have ne3 : t3 ≠ d := ne_of ht3 (e5 _ _ hd4) fun z => nomatch z
    have S6 : St0 Tb (upd H5 d (.dK (putK [(.inr "turned", .ref t1), (.inr "faded", .ref t2)] (.inr "burst") (.ref t3)))) pn cl 0 d t1 t2 t3 := by
      refine ⟨⟨(p4.same e5).upd (Ne.symm dp) dcl, ?_⟩, dp, upd_same, ?_, ?_, (upd_ne ne3).trans ht3⟩
      · intro p hp
        obtain ⟨ps, h1, h2, h3⟩ := pt3.tabs p hp
        have up : ∀ {b : Addr} {o : HO}, b ≠ d → H3 b = some o → upd H5 d (.dK (putK [(.inr "turned", .ref t1), (.inr "faded", .ref t2)] (.inr "burst") (.ref t3))) b = some o := fun n z => (upd_ne n).trans (e5 _ _ (k4 _ _ n z))
        have hdd := e3 _ _ (e2 _ _ hd1)
        refine ⟨ps, up (ne_of h1 hdd fun z => nomatch z) h1, h2, fun pos cv hc => ?_⟩
        obtain ⟨c, e1, e2'⟩ := h3 pos cv hc
        exact ⟨c, e1, up (ne_of e2' hdd fun z => by unfold LamX.CodeO at z; cases z) e2'⟩
      · exact (upd_ne ne1).trans (e5 _ _ (k4 _ _ ne1 (e3 _ _ ht1)))
      · exact (upd_ne ne2).trans (e5 _ _ (k4 _ _ ne2 ht2))
    generalize upd H5 d (.dK (putK [(.inr "turned", .ref t1), (.inr "faded", .ref t2)] (.inr "burst") (.ref t3))) = H6 at S6 ⊢
    clear e5 ht3 nt3 k4 hd4 p4 e13 pt3 e3 ht2 e2 ht1 e1 hd1 pt0 pen0 e0
    refine ⟨_, rfl, by omega, by omega, ?_⟩
    rw [show (6 : Int).toNat = 6 from rfl]
    refine for_range (D := { nx := _, rt := Q, bk := fun _ _ => False, ct := fun _ _ => False }) (n := 6) (fun i σ H' => ∃ (o3 o4 o5 o6 o7 o8 o9 o10 o11 o12 o13 o14 : Option V), σ = [some (.ref a), some (.ref pn), some (.ref d), o3, o4, o5, o6, o7, o8, o9, o10, o11, o12, o13, o14] ∧ St0 Tb H' pn cl (1000 * i) d t1 t2 t3) ⟨none, none, none, none, none, none, none, none, none, none, none, none, rfl, S6⟩ ?_ ?_
    · clear S6
      rintro i σ H1 hi ⟨o3, o4, o5, o6, o7, o8, o9, o10, o11, o12, o13, o14, rfl, S1⟩
      refine gN ?_
      dsimp only
      obtain ⟨b, hb⟩ : ∃ b, b = 1000 * i := ⟨_, rfl⟩
      rw [← hb] at S1
      have b9 : b ≤ 6000 := by omega
      refine ⟨_, rfl, by show 3 ≤ sizeLine; decide, fun l1 nl1 => ⟨pn, cl, l1, _, b, rfl, (S1.same (same_new nl1)).pt.pen, by omega, upd_same, by show 0 < 3; decide, by show 3 ≤ 1000; decide, fun x H2 hx bt2 p2 => ?_⟩⟩
      have S2 := (S1.same (same_new (o := .lst [.str "turned", .str "faded", .str "burst"]) nl1)).but bt2 p2
      clear S1 bt2 p2
      obtain ⟨k, rfl⟩ : ∃ k : Kd, x = .str k.nm := by
        rcases List.mem_cons.mp hx with rfl | hx
        · exact ⟨.tu, rfl⟩
        · rcases List.mem_cons.mp hx with rfl | hx
          · exact ⟨.fa, rfl⟩
          · rw [List.mem_singleton.mp hx]
            exact ⟨.bu, rfl⟩
      refine gN ?_
      dsimp only
      refine ⟨_, rfl, _, rfl, by show 4 ≤ sizeLine; decide, fun l2 nl2 => ⟨pn, cl, l2, _, _, rfl, (S2.same (same_new nl2)).pt.pen, by omega, upd_same, by show 0 < 4; decide, by show 4 ≤ 1000; decide, fun y H3 hy bt3 p3 => ?_⟩⟩
      have S3 := (S2.same (same_new (o := .lst [.int 3, .int 3, .int 8, .int 64]) nl2)).but bt3 p3
      clear S2 bt3 p3
      obtain ⟨m, rfl, m1, m2⟩ : ∃ m : Int, y = .int m ∧ 1 ≤ m ∧ m ≤ 64 := by
        rcases List.mem_cons.mp hy with rfl | hy
        · exact ⟨3, rfl, by decide, by decide⟩
        · rcases List.mem_cons.mp hy with rfl | hy
          · exact ⟨3, rfl, by decide, by decide⟩
          · rcases List.mem_cons.mp hy with rfl | hy
            · exact ⟨8, rfl, by decide, by decide⟩
            · rw [List.mem_singleton.mp hy]
              exact ⟨64, rfl, by decide, by decide⟩
      refine ⟨pn, cl, m, _, rfl, S3.pt.pen, by omega, by omega, by omega, fun r H4 r0 r1 bt4 p4 => ⟨_, _, rfl, rfl, ?_⟩⟩
      have S4 := S3.but bt4 p4
      clear S3 bt4 p4 hy hx
      obtain ⟨n, hn⟩ : ∃ n, n = 1 + r := ⟨_, rfl⟩
      have n1 : 1 ≤ n := by omega
      have n2 : n ≤ 64 := by omega
      refine gN ?_
      dsimp only
      rw [← hn]
      clear hn r0 r1 m1 m2
      refine ⟨_, rfl, _, rfl, by show 2 ≤ sizeLine; decide, fun kt nkt => ⟨_, rfl, _, rfl, by show 2 ≤ sizeLine; decide, fun kt2 nkt2 => ?_⟩⟩
      have e5 := same_new (o := .tup [.str k.nm, .int n]) nkt
      have hkt : upd H4 kt (.tup [.str k.nm, .int n]) kt = some (.tup [.str k.nm, .int n]) := upd_same
      generalize upd H4 kt (.tup [.str k.nm, .int n]) = H5 at e5 hkt nkt2 ⊢
      have e6 := same_new (o := .tup [.str k.nm, .int n]) nkt2
      have hkt2 : upd H5 kt2 (.tup [.str k.nm, .int n]) kt2 = some (.tup [.str k.nm, .int n]) := upd_same
      generalize upd H5 kt2 (.tup [.str k.nm, .int n]) = H6' at e6 hkt2 ⊢
      refine ⟨kt2, k, n, rfl, hkt2, n1, n2, fun dm H7 e7 hdm => ?_⟩
      have S7 := ((S4.same e5).same e6).same e7
      have W7 : Tn CT CF CB H7 kt dm k n := ⟨e7 _ _ (e6 _ _ hkt), hdm⟩
      clear S4 e5 e6 e7 hkt hkt2 nkt nkt2 hdm
      obtain ⟨dx, hob⟩ := W7.dm.ob
      refine ⟨_, _, rfl, ?_⟩
      dsimp only
      refine cutSeq (R := fun σ' H' => H' = H7 ∧ σ' = [some (.ref a), some (.ref pn), some (.ref d), some (.int (0 + ((i : Nat) : Int))), some (.str k.nm), some (.int n), some (.ref kt), some (.ref dm), some (.int n), o9, o10, o11, o12, o13, o14]) (fun nx hnx => ?_) ?_
      · have X : TxD K (k.cl CT CF CB) k.fl := by
          cases k
          · exact R.XT
          · exact R.XF
          · exact R.XB
        refine ⟨_, rfl, rfl, _, rfl, ?_⟩
        cases k with
        | tu => exact iteF ⟨_, rfl, dm, _, dx, _, _, rfl, hob, X.cl, X.a, dm_a (by decide), gN (hnx _ _ ⟨rfl, rfl⟩)⟩
        | fa => exact iteF ⟨_, rfl, dm, _, dx, _, _, rfl, hob, X.cl, X.a, dm_a (by decide), gN (hnx _ _ ⟨rfl, rfl⟩)⟩
        | bu => exact iteT ⟨_, rfl, dm, _, dx, _, _, rfl, hob, X.cl, X.a, dm_a (by decide), gN (hnx _ _ ⟨rfl, rfl⟩)⟩
      · rintro σ' H' ⟨rfl, rfl⟩
        have X : TxD K (k.cl CT CF CB) k.fl := by
          cases k
          · exact R.XT
          · exact R.XF
          · exact R.XB
        refine ⟨_, rfl, _, rfl, dm, _, dx, _, _, rfl, hob, X.cl, X.f, dm_f, by show 2 ≤ sizeLine; decide, fun u1 nu1 => ?_⟩
        have e8 := same_new (o := .tup [.int n, .int n]) nu1
        have hu1 : upd H' u1 (.tup [.int n, .int n]) u1 = some (.tup [.int n, .int n]) := upd_same
        generalize upd H' u1 (.tup [.int n, .int n]) = H8 at e8 hu1 ⊢
        have ten : Tells (.tuple [.int n, .int n]) := te_two (by omega) (by omega)
        have dpn : ∀ {Hx : Hp} {u : Addr}, Hx u = some (.tup [.int n, .int n]) → Dp K Hx (.ref u) (.tuple [.int n, .int n]) := fun h => .tup (SqT.of h) (.cons (.int n) (.cons (.int n) .nil))
        refine ⟨_, _, rfl, dpn hu1, ten, _, rfl, _, rfl, by show 2 ≤ sizeLine; decide, fun u2 nu2 => ?_⟩
        have e9 := e8.trans (same_new (o := .tup [.int n, .int n]) nu2)
        refine ⟨_, _, rfl, dpn upd_same, ten, rfl, ?_⟩
        rw [decide_eq_true (show V.str (PyData.tuple [.int n, .int n]).shown = V.str (PyData.tuple [.int n, .int n]).shown from rfl)]
        generalize upd H8 u2 (.tup [.int n, .int n]) = H9 at e9 ⊢
        clear e8 hu1 nu1 nu2 dpn ten
        have S9 := S7.same e9
        have W9 := W7.same e9
        refine ⟨_, rfl, iteF ?_⟩
        refine ⟨_, rfl, dm, k, n, rfl, W9.dm, fun t10 H10 e10 h10 => ?_⟩
        have S10 := S9.same e10
        have W10 := W9.same e10
        obtain ⟨t11, g11, h11⟩ := S10.get k
        refine ⟨_, rfl, _, rfl, d, _, rfl, g11, .tuple ((blw k).map dOf), .tup (SqT.of h10) (dpAll_flat (blw_flat k)), .tup (SqT.of h11) (dpAll_flat (blw_flat k)), by cases k <;> decide +kernel, ?_⟩
        clear g11 h11 h10 e10 S9 W9 e9
        refine ⟨_, rfl, iteF (nextOf ?_)⟩
        dsimp only
        refine cutSeq (R := fun σ' H' => ∃ u : W, u.length ≤ 8 ∧ σ' = [some (.ref a), some (.ref pn), some (.ref d), some (.int (0 + ((i : Nat) : Int))), some (.str k.nm), some (.int n), some (.ref kt), some (.ref dm), some (.int n), some (.str (bS u)), o10, o11, o12, o13, o14] ∧ St0 Tb H' pn cl (b + 110) d t1 t2 t3 ∧ Tn CT CF CB H' kt dm k n) (fun nx hnx => ?_) ?_
        · refine ⟨_, rfl, _, rfl, _, rfl, _, _, rfl, rfl, _, rfl, ?_⟩
          by_cases i0 : (0 : Int) < 0 + ((i : Nat) : Int)
          · rw [decide_eq_true i0]
            refine iteT ⟨pn, cl, _, _, rfl, S10.pt.pen, by omega, by decide, by decide, fun r H5 r0 r1 bt5 p5 => ?_⟩
            have S5 := S10.but bt5 p5
            have W5 := W10.but S10.pt.pen bt5
            obtain ⟨r, rfl⟩ := Int.eq_ofNat_of_zero_le r0
            refine ⟨pn, cl, r, _, rfl, p5, by omega, by omega, fun u H6' ul bt6 p6 => ?_⟩
            exact gN (hnx _ _ ⟨u, by omega, rfl, (S5.but bt6 p6).mono (by omega), W5.but p5 bt6⟩)
          · rw [decide_eq_false i0]
            refine iteF ⟨pn, cl, _, _, rfl, S10.pt.pen, by omega, by decide, by decide, fun r H5 r0 r1 bt5 p5 => ?_⟩
            have S5 := S10.but bt5 p5
            have W5 := W10.but S10.pt.pen bt5
            obtain ⟨r, rfl⟩ := Int.eq_ofNat_of_zero_le r0
            refine ⟨pn, cl, r, _, rfl, p5, by omega, by omega, fun u H6' ul bt6 p6 => ?_⟩
            exact gN (hnx _ _ ⟨u, by omega, rfl, (S5.but bt6 p6).mono (by omega), W5.but p5 bt6⟩)
        · rintro σ' H11 ⟨u, ul, rfl, S11, W11⟩
          clear S7 W7 S10 W10 hob
          refine cutSeq (R := fun σ' H' => ∃ o10 : Option V, σ' = [some (.ref a), some (.ref pn), some (.ref d), some (.int (0 + ((i : Nat) : Int))), some (.str k.nm), some (.int n), some (.ref kt), some (.ref dm), some (.int n), some (.str (bS u)), o10, o11, o12, o13, o14] ∧ St0 Tb H' pn cl (b + 110) d t1 t2 t3 ∧ Tn CT CF CB H' kt dm k n) (fun nx hnx => ?_) ?_
          · refine ⟨_, rfl, _, rfl, by rw [bS_len]; exact Nat.le_of_lt (small10 (n := u.length) (by omega)), (bS u).length, rfl, by rw [bS_len]; exact ul, fun ar rs H12 e12 har lr kr => ?_⟩
            rw [bS_len] at kr
            have S12 := S11.same e12
            have W12 := W11.same e12
            refine ⟨ar, rs, rfl, .inl (SqL.of har), fun J G wk hG => for_it (D := { nx := nx, rt := _, bk := _, ct := _ }) wk (fun i' σ H' => ∃ o10 : Option V, σ = [some (.ref a), some (.ref pn), some (.ref d), some (.int (0 + ((i : Nat) : Int))), some (.str k.nm), some (.int n), some (.ref kt), some (.ref dm), some (.int n), some (.str (bS u)), o10, o11, o12, o13, o14] ∧ Same H12 H') ⟨_, rfl, Same.refl _⟩ (fun i' σ H' _ z => hG H' fun o zz => by
              obtain ⟨_, _, e⟩ := z
              exact e _ _ zz) ?_ ?_⟩
            · rintro i' x σ H13 H14 hi' ⟨o10, rfl, e13⟩ ⟨rfl, hx⟩
              obtain ⟨q', ps, rfl, h1, h2, h3⟩ := kr x (List.mem_of_getElem? hx)
              refine gN ?_
              dsimp only
              have W13 := W12.same e13
              obtain ⟨dx, hob⟩ := W13.dm.ob
              have nis := dm_is k (.int n)
              have io : spIo CT CF CB k [.ref dm, .str (bS u), .ref q'] H14 (fun v H' => v = .bl (isof k n u ps) ∧ Same H14 H') (fun _ _ _ => False) := ⟨dm, q', n, u, ps, rfl, W13.dm, .inl (e13 _ _ h1), h3, by omega, by omega, fun H' e => ⟨rfl, e⟩⟩
              clear io
              cases k with
              | tu =>
                refine .inl ⟨_, rfl, dm, dx, _, rfl, hob, nis, _, rfl, _, rfl, dm, q', n, u, ps, rfl, W13.dm, .inl (e13 _ _ h1), h3, by omega, by omega, fun H15 e15 => ⟨_, .bool (isof .tu n u ps), rfl, .bl _, te_bl _, _, rfl, _, rfl, _, rfl, kt, q', .tu, n, u, ps, rfl, e15 _ _ W13.ht, e15 _ _ (e13 _ _ h1), h3, by omega, by omega, fun H16 e16 => ⟨_, .bool (isof .tu n u ps), rfl, .bl _, te_bl _, rfl, ?_⟩⟩⟩
                rw [decide_eq_true (show V.str (PyData.bool (isof .tu n u ps)).shown = V.str (PyData.bool (isof .tu n u ps)).shown from rfl)]
                exact ⟨_, rfl, iteF (nextOf ⟨_, rfl, (e13.trans e15).trans e16⟩)⟩
              | fa =>
                refine .inr <| .inl ⟨_, rfl, dm, dx, _, rfl, hob, nis, _, rfl, _, rfl, dm, q', n, u, ps, rfl, W13.dm, .inl (e13 _ _ h1), h3, by omega, by omega, fun H15 e15 => ⟨_, .bool (isof .fa n u ps), rfl, .bl _, te_bl _, _, rfl, _, rfl, _, rfl, kt, q', .fa, n, u, ps, rfl, e15 _ _ W13.ht, e15 _ _ (e13 _ _ h1), h3, by omega, by omega, fun H16 e16 => ⟨_, .bool (isof .fa n u ps), rfl, .bl _, te_bl _, rfl, ?_⟩⟩⟩
                rw [decide_eq_true (show V.str (PyData.bool (isof .fa n u ps)).shown = V.str (PyData.bool (isof .fa n u ps)).shown from rfl)]
                exact ⟨_, rfl, iteF (nextOf ⟨_, rfl, (e13.trans e15).trans e16⟩)⟩
              | bu =>
                refine .inr <| .inr ⟨_, rfl, dm, dx, _, rfl, hob, nis, _, rfl, _, rfl, dm, q', n, u, ps, rfl, W13.dm, .inl (e13 _ _ h1), h3, by omega, by omega, fun H15 e15 => ⟨_, .bool (isof .bu n u ps), rfl, .bl _, te_bl _, _, rfl, _, rfl, _, rfl, kt, q', .bu, n, u, ps, rfl, e15 _ _ W13.ht, e15 _ _ (e13 _ _ h1), h3, by omega, by omega, fun H16 e16 => ⟨_, .bool (isof .bu n u ps), rfl, .bl _, te_bl _, rfl, ?_⟩⟩⟩
                rw [decide_eq_true (show V.str (PyData.bool (isof .bu n u ps)).shown = V.str (PyData.bool (isof .bu n u ps)).shown from rfl)]
                exact ⟨_, rfl, iteF (nextOf ⟨_, rfl, (e13.trans e15).trans e16⟩)⟩
            · rintro σ H13 ⟨o10, rfl, e13⟩
              exact hnx _ _ ⟨o10, rfl, S12.same e13, W12.same e13⟩
          · rintro σ' H12 ⟨o10, rfl, S12, W12⟩
            clear S11 W11
            refine ⟨_, rfl, pn, cl, 8, _, rfl, S12.pt.pen, by omega, by decide, fun u2 H13 ul2 bt13 p13 => ⟨bS u2, 9, rfl, rfl, by decide, by rw [bS_len]; omega, by rw [bS_len]; omega, ?_⟩⟩
            have S13 := S12.but bt13 p13
            have W13 := W12.but S12.pt.pen bt13
            clear S12 W12 bt13 p13
            rw [rep_w]
            have lenL : ((List.replicate 9 u2).flatten).length = 72 := by rw [rep_len, ul2]
            generalize (List.replicate 9 u2).flatten = L at lenL ⊢
            refine gN ?_
            dsimp only
            refine cutSeq (R := fun σ' H' => ∃ o10 o12 : Option V, σ' = [some (.ref a), some (.ref pn), some (.ref d), some (.int (0 + ((i : Nat) : Int))), some (.str k.nm), some (.int n), some (.ref kt), some (.ref dm), some (.int n), some (.str (bS u)), o10, some (.str (bS L)), o12, o13, o14] ∧ St0 Tb H' pn cl (b + 700) d t1 t2 t3) (fun nx hnx => ?_) ?_
            · refine ⟨_, rfl, by omega, by omega, ?_⟩
              rw [show (3 : Int).toNat = 3 from rfl]
              refine for_range (D := { nx := nx, rt := _, bk := _, ct := _ }) (n := 3) (fun i' σ H' => ∃ o10 o12 : Option V, σ = [some (.ref a), some (.ref pn), some (.ref d), some (.int (0 + ((i : Nat) : Int))), some (.str k.nm), some (.int n), some (.ref kt), some (.ref dm), some (.int n), some (.str (bS u)), o10, some (.str (bS L)), o12, o13, o14] ∧ St0 Tb H' pn cl (b + 210 + 110 * i') d t1 t2 t3 ∧ Tn CT CF CB H' kt dm k n) ⟨_, _, rfl, S13.mono (by omega), W13⟩ ?_ ?_
              · rintro i' σ H14 hi' ⟨o10, o12, rfl, S14, W14⟩
                refine gN ?_
                dsimp only
                have lb : (bS L).length = 72 := by rw [bS_len, lenL]
                refine ⟨_, rfl, _, rfl, _, rfl, by rw [lb]; decide, _, rfl, pn, cl, 3, _, rfl, S14.pt.pen, by omega, by decide, by decide, fun r H15 r0 r1 bt15 p15 => ?_⟩
                have S15 := S14.but bt15 p15
                have W15 := W14.but S14.pt.pen bt15
                obtain ⟨r, rfl⟩ := Int.eq_ofNat_of_zero_le r0
                refine ⟨_, _, rfl, rfl, pn, cl, (bS L).length, 1 + r, _, rfl, p15, by omega, by omega, by omega, by omega, fun a10 ps H16 hps lps bt16 p16 h10 => ?_⟩
                rw [lb] at hps
                have S16 := S15.but bt16 p16
                have W16 := W15.but p15 bt16
                clear S14 W14 S15 W15 bt15 p15 bt16 p16
                refine gN ?_
                dsimp only
                refine cutSeq (R := fun σ' H' => ∃ (a10 : Addr) (ps : List Nat), σ' = [some (.ref a), some (.ref pn), some (.ref d), some (.int (0 + ((i : Nat) : Int))), some (.str k.nm), some (.int n), some (.ref kt), some (.ref dm), some (.int n), some (.str (bS u)), some (.ref a10), some (.str (bS L)), some (.int (0 + ((i' : Nat) : Int))), o13, o14] ∧ (∀ p ∈ ps, p < 72) ∧ ps.length ≤ 1000 ∧ H' a10 = some (.lst (iN ps)) ∧ St0 Tb H' pn cl (b + 210 + 110 * i' + 105) d t1 t2 t3 ∧ Tn CT CF CB H' kt dm k n) (fun nx2 hnx2 => ?_) ?_
                · refine ⟨_, rfl, rfl, _, rfl, ?_⟩
                  by_cases cc : V.int (0 + ((i' : Nat) : Int)) = .int 2
                  · rw [decide_eq_true cc]
                    refine iteT ⟨_, rfl, pn, cl, 8, _, rfl, S16.pt.pen, by omega, by decide, by decide, fun r H17 r0 r1 bt17 p17 => ⟨_, rfl, pn, cl, 62, _, rfl, p17, by omega, by decide, by decide, fun r2 H18 s0 s1 bt18 p18 => ⟨_, _, rfl, rfl, _, _, rfl, rfl, RgOk.of_le r0 (by omega) (by omega) (by omega), fun a11 na11 => ?_⟩⟩⟩
                    have S18 := ((S16.but bt17 p17).but bt18 p18).same (same_new (o := .lst (rgV r (8 + r2))) na11)
                    have W18 := ((W16.but S16.pt.pen bt17).but p17 bt18).same (same_new (o := .lst (rgV r (8 + r2))) na11)
                    obtain ⟨r, rfl⟩ := Int.eq_ofNat_of_zero_le r0
                    refine gN (hnx2 _ _ ⟨a11, (List.range (8 + r2 - ((r : Nat) : Int)).toNat).map fun i => r + i, rfl, fun p hp => ?_, by rw [List.length_map, List.length_range]; omega, ?_, S18.mono (by omega), W18⟩)
                    · obtain ⟨y, hy, rfl⟩ := List.mem_map.mp hp
                      have := List.mem_range.mp hy
                      omega
                    · rw [upd_same]
                      unfold rgV iN
                      rw [List.map_map]
                      rfl
                  · rw [decide_eq_false cc]
                    exact iteF (nextOf (hnx2 _ _ ⟨a10, ps, rfl, hps, lps, h10, S16.mono (by omega), W16⟩))
                · rintro σ' H16 ⟨a10, ps, rfl, hps, lps, h10, S16, W16⟩
                  obtain ⟨dx, hob⟩ := W16.dm.ob
                  have nis := dm_is k (.int n)
                  cases k with
                  | tu =>
                    refine .inl ⟨_, rfl, dm, dx, _, rfl, hob, nis, _, rfl, _, rfl, .inl ⟨a10, iN ps, rfl, SqL.of h10, fun tt ntt => ?_⟩⟩
                    have et := same_new (o := .tup (iN ps)) ntt
                    refine ⟨dm, tt, n, L, ps, rfl, W16.dm.same et, .inr upd_same, by rw [lenL]; exact hps, by rw [lenL]; decide, lps, fun H15 e15 => ⟨_, .bool (isof .tu n L ps), rfl, .bl _, te_bl _, _, rfl, _, rfl, _, rfl, kt, a10, .tu, n, L, ps, rfl, e15 _ _ (et _ _ W16.ht), e15 _ _ (et _ _ h10), by rw [lenL]; exact hps, by rw [lenL]; decide, lps, fun H17 e17 => ⟨_, .bool (isof .tu n L ps), rfl, .bl _, te_bl _, rfl, ?_⟩⟩⟩
                    rw [decide_eq_true (show V.str (PyData.bool (isof .tu n L ps)).shown = V.str (PyData.bool (isof .tu n L ps)).shown from rfl)]
                    exact ⟨_, rfl, iteF (nextOf ⟨_, _, rfl, ((S16.same ((et.trans e15).trans e17)).mono (by omega)), W16.same ((et.trans e15).trans e17)⟩)⟩
                  | fa =>
                    refine .inr <| .inl ⟨_, rfl, dm, dx, _, rfl, hob, nis, _, rfl, _, rfl, .inl ⟨a10, iN ps, rfl, SqL.of h10, fun tt ntt => ?_⟩⟩
                    have et := same_new (o := .tup (iN ps)) ntt
                    refine ⟨dm, tt, n, L, ps, rfl, W16.dm.same et, .inr upd_same, by rw [lenL]; exact hps, by rw [lenL]; decide, lps, fun H15 e15 => ⟨_, .bool (isof .fa n L ps), rfl, .bl _, te_bl _, _, rfl, _, rfl, _, rfl, kt, a10, .fa, n, L, ps, rfl, e15 _ _ (et _ _ W16.ht), e15 _ _ (et _ _ h10), by rw [lenL]; exact hps, by rw [lenL]; decide, lps, fun H17 e17 => ⟨_, .bool (isof .fa n L ps), rfl, .bl _, te_bl _, rfl, ?_⟩⟩⟩
                    rw [decide_eq_true (show V.str (PyData.bool (isof .fa n L ps)).shown = V.str (PyData.bool (isof .fa n L ps)).shown from rfl)]
                    exact ⟨_, rfl, iteF (nextOf ⟨_, _, rfl, ((S16.same ((et.trans e15).trans e17)).mono (by omega)), W16.same ((et.trans e15).trans e17)⟩)⟩
                  | bu =>
                    refine .inr <| .inr ⟨_, rfl, dm, dx, _, rfl, hob, nis, _, rfl, _, rfl, .inl ⟨a10, iN ps, rfl, SqL.of h10, fun tt ntt => ?_⟩⟩
                    have et := same_new (o := .tup (iN ps)) ntt
                    refine ⟨dm, tt, n, L, ps, rfl, W16.dm.same et, .inr upd_same, by rw [lenL]; exact hps, by rw [lenL]; decide, lps, fun H15 e15 => ⟨_, .bool (isof .bu n L ps), rfl, .bl _, te_bl _, _, rfl, _, rfl, _, rfl, kt, a10, .bu, n, L, ps, rfl, e15 _ _ (et _ _ W16.ht), e15 _ _ (et _ _ h10), by rw [lenL]; exact hps, by rw [lenL]; decide, lps, fun H17 e17 => ⟨_, .bool (isof .bu n L ps), rfl, .bl _, te_bl _, rfl, ?_⟩⟩⟩
                    rw [decide_eq_true (show V.str (PyData.bool (isof .bu n L ps)).shown = V.str (PyData.bool (isof .bu n L ps)).shown from rfl)]
                    exact ⟨_, rfl, iteF (nextOf ⟨_, _, rfl, ((S16.same ((et.trans e15).trans e17)).mono (by omega)), W16.same ((et.trans e15).trans e17)⟩)⟩
              · rintro σ H14 ⟨o10, o12, rfl, S14, W14⟩
                exact hnx _ _ ⟨_, _, rfl, S14.mono (by omega)⟩
            · rintro σ' H14 ⟨o10, o12, rfl, S14⟩
              clear S13 W13
              refine ⟨_, rfl, _, rfl, by show 1 ≤ sizeLine; decide, fun tt ntt => ⟨_, _, rfl, rfl, ⟨by decide, by decide, by decide⟩, by show 9 ≤ sizeLine; decide, fun lo nlo => ?_⟩⟩
              have e15 := same_new (o := .tup [.int 3]) ntt
              have htt : upd H14 tt (.tup [.int 3]) tt = some (.tup [.int 3]) := upd_same
              generalize upd H14 tt (.tup [.int 3]) = H15 at e15 htt nlo ⊢
              have S15 := S14.same e15
              clear S14 e15 ntt
              refine ⟨pn, cl, lo, _, _, rfl, (S15.same (same_new nlo)).pt.pen, by omega, upd_same, by show 0 < 9; decide, by show 9 ≤ 1000; decide, fun x H16 hx bt16 p16 => ?_⟩
              have htt16 := bt16 _ _ (pen_tup S15.pt.pen htt) (same_new nlo _ _ htt)
              have S16 := (S15.same (same_new nlo)).but bt16 p16
              clear S15 bt16 p16 htt
              obtain ⟨dd, no⟩ : ∃ dd, NoS H16 x dd := by
                rcases List.mem_cons.mp hx with rfl | hx
                · exact ⟨_, odt_int 0 (by decide +kernel) (by decide +kernel) (by decide +kernel), rfl⟩
                rcases List.mem_cons.mp hx with rfl | hx
                · exact ⟨_, odt_int 65 (by decide +kernel) (by decide +kernel) (by decide +kernel), rfl⟩
                rcases List.mem_cons.mp hx with rfl | hx
                · exact ⟨_, odt_int (-1) (by decide +kernel) (by decide +kernel) (by decide +kernel), rfl⟩
                rcases List.mem_cons.mp hx with rfl | hx
                · exact ⟨_, odt_non, rfl⟩
                rcases List.mem_cons.mp hx with rfl | hx
                · exact ⟨_, odt_bl true, rfl⟩
                rcases List.mem_cons.mp hx with rfl | hx
                · exact ⟨_, odt_bl false, rfl⟩
                rcases List.mem_cons.mp hx with rfl | hx
                · exact ⟨_, odt_two, rfl⟩
                rcases List.mem_cons.mp hx with rfl | hx
                · exact ⟨_, odt_tup htt16, rfl⟩
                rw [List.mem_singleton.mp hx]
                exact ⟨_, odt_int (10 ^ (30 : Int).toNat) (by decide +kernel) (by decide +kernel) (by decide +kernel), by decide +kernel⟩
              clear hx htt16 nlo
              refine gN ?_
              dsimp only
              refine ⟨S16.pt.tabs, by show 3 ≤ sizeLine; decide, fun Rf H17 fcs eN T1 Pr lp nlp => ?_⟩
              have S18 := (S16.ext eN T1).same (same_new (o := .lst (fcs.map fun fc => V.ref fc.1)) nlp)
              have e18 := same_new (o := .lst (fcs.map fun fc => V.ref fc.1)) nlp
              have no18 : NoS (upd H17 lp (.lst (fcs.map fun fc => V.ref fc.1))) x dd := ⟨(no.o.ext eN).same e18, no.b⟩
              have hlp : upd H17 lp (.lst (fcs.map fun fc => V.ref fc.1)) lp = some (.lst (fcs.map fun fc => V.ref fc.1)) := upd_same
              generalize upd H17 lp (.lst (fcs.map fun fc => V.ref fc.1)) = H18 at S18 e18 no18 hlp ⊢
              clear S16 no eN T1 nlp
              refine LamX.for_lams (D := { nx := _, rt := _, bk := _, ct := _ }) Pr (fun i' σ H' => ∃ o14 : Option V, σ = [some (.ref a), some (.ref pn), some (.ref d), some (.int (0 + ((i : Nat) : Int))), some (.str k.nm), some (.int n), some (.ref kt), some (.ref dm), some (.int n), some (.str (bS u)), o10, some (.str (bS L)), o12, some x, o14] ∧ Same H18 H') ⟨_, rfl, Same.refl _⟩ (fun i' σ H' _ z => by
                obtain ⟨_, _, e⟩ := z
                exact SqL.of (e _ _ hlp)) ?_ ?_
              · rintro i' Lm f' c' σ H19 hL rf hc' ⟨o14, rfl, e19⟩
                refine gN ?_
                dsimp only
                have no19 : NoS H19 x dd := ⟨no18.o.same e19, no18.b⟩
                refine ⟨Lm, List.mem_of_getElem? hL, f', c', rfl, rf, e19 _ _ (e18 _ _ hc'), fun H20 e20 => ?_⟩
                have no20 : NoS H20 x dd := ⟨no19.o.same e20, no19.b⟩
                have hLt : ∃ C aa, Lm.t = tMk1 CS C aa := by
                  have hm := List.mem_of_getElem? hL
                  rcases List.mem_cons.mp hm with e | hm
                  · exact ⟨_, _, by rw [e]⟩
                  rcases List.mem_cons.mp hm with e | hm
                  · exact ⟨_, _, by rw [e]⟩
                  rw [List.mem_singleton.mp hm]
                  exact ⟨_, _, rfl⟩
                obtain ⟨C, aa, hLt⟩ := hLt
                rw [hLt]
                refine mk_ref rfl no20 fun dE H21 e21 hE => ?_
                obtain ⟨v', hdE, ov⟩ := hE
                refine ⟨rfl, dE, v', dd, rfl, hdE, ov, no20.o.te, fun t1' nt1' => ?_⟩
                have e22 := same_new (o := .tup [.str dd.shown, .bl true]) nt1'
                have h22 : upd H21 t1' (.tup [.str dd.shown, .bl true]) t1' = some (.tup [.str dd.shown, .bl true]) := upd_same
                generalize upd H21 t1' (.tup [.str dd.shown, .bl true]) = H22 at e22 h22 ⊢
                have no22 : NoS H22 x dd := ⟨(no20.o.same e21).same e22, no20.b⟩
                refine ⟨_, rfl, x, dd, rfl, no22.o.od.dp, no22.o.te, by show 2 ≤ sizeLine; decide, fun t2' nt2' => ?_⟩
                have e23 := same_new (o := .tup [.str dd.shown, .bl true]) nt2'
                have fl : ∀ v ∈ [V.str dd.shown, V.bl true], Flat v := fun v hv => by
                  rcases List.mem_cons.mp hv with rfl | hv
                  · exact no22.o.so
                  · rw [List.mem_singleton.mp hv]
                    exact True.intro
                refine ⟨.tuple ([V.str dd.shown, V.bl true].map dOf), .tup (SqT.of (e23 _ _ h22)) (dpAll_flat fl), .tup (SqT.of upd_same) (dpAll_flat fl), sh_told _ no22.o.so, ?_⟩
                exact ⟨_, rfl, iteF (nextOf ⟨_, rfl, ((((e19.trans e20).trans e21).trans e22).trans e23)⟩)⟩
              · rintro σ H19 ⟨o14, rfl, e19⟩
                exact ⟨_, _, _, _, _, _, _, _, _, _, _, _, rfl, (S18.same e19).mono (by omega)⟩
    · rintro σ H1 ⟨o3, o4, o5, o6, o7, o8, o9, o10, o11, o12, o13, o14, rfl, S1⟩
      exact q H1
end
end K66
set_option Elab.async false
set_option linter.all false
set_option maxRecDepth 100001
set_option maxHeartbeats 3999999
namespace K66
open PySem L2
/-! ### what the top leaves -/
/-- an own exception class as the rules want it -/
def oexB (K : PySem.W.Frag) (C : Addr) : Bool := (match K.lookup C with
  | some ⟨.type "type", _, .cls cd, sl⟩ => (match sl.toList, cd.mro with
    | [_, _, _, _, some (.builtin nw), _], .ref D :: bm => decide (D = C) && (decide (nw = "ValueError.__new__") && (!cd.hasDel && (cd.hasDict && PySem.HandSPX.refsVE bm)))
    | _, _ => false)
  | _ => false) && (He.eqO (PySem.W.findIn K (.ref C) "__setattr__") (some (some (.builtin "object.__setattr__"))) && (decide (PySem.W.subIn K (.ref C) (.type "BaseException") = some true) && (decide (PySem.W.typeIn K (.ref C) = some (.type "type")) && PySem.W.keepIn K (.ref C))))
theorem oexB_ok {K : PySem.W.Frag} {C : Addr} (h : oexB K C = true) : OexC K C := by
  obtain ⟨h1, h⟩ := He.ba h
  obtain ⟨h2, h⟩ := He.ba h
  obtain ⟨h3, h⟩ := He.ba h
  obtain ⟨h4, h5⟩ := He.ba h
  refine ⟨?_, He.eqO_ok h2, of_decide_eq_true h3, of_decide_eq_true h4, h5⟩
  split at h1
  · rename_i dd cd sl ho
    split at h1
    · rename_i x0 x1 x2 x3 nw x5 D bm hs hm
      obtain ⟨g1, g⟩ := He.ba h1
      obtain ⟨g2, g⟩ := He.ba g
      obtain ⟨g3, g⟩ := He.ba g
      obtain ⟨g4, g5⟩ := He.ba g
      have e1 := of_decide_eq_true g1
      have e2 := of_decide_eq_true g2
      subst e1 e2
      obtain ⟨nm, bs, mro, ns, qn, hd, sn, sub, ab, col, del⟩ := cd
      dsimp only at hm g3 g4
      subst hm g4
      have e3 : del = false := by
        cases del with
        | false => rfl
        | true => cases g3
      subst e3
      have hsl : sl = #[x0, x1, x2, x3, some (.builtin "ValueError.__new__"), x5] := by
        obtain ⟨l⟩ := sl
        have h' : l = _ := hs
        rw [h']
      subst hsl
      exact ⟨nm, qn, ns, bs, bm, sn, sub, ab, col, dd, x0, x1, x2, x3, x5, ho, g5⟩
    · cases h1
  · cases h1
def fa0 : List He.Fa := [.glo "is_whole", .glo "is_between", .glo "copied", .glo "check_size", .glo "_law_pen_of", .glo "_law_draw", .glo "_law_pick", .glo "_law_bits_of", .glo "_law_some_places", .glo "_law_damage", .glo "_law_is_kind", .glo "_law_refusal", .glo "_law_all_places", .glo "_law_below", .glo "law", .glo "BadSize", .glo "Turned", .glo "Faded", .glo "Burst", .free "isinstance", .free "int", .free "bool", .free "tuple", .free "list", .free "dict", .free "len", .free "enumerate", .free "range", .free "abs", .free "max"]
def fa1 : List He.Fa := [.free "min", .int "MOST_SIZE" 64, .cls "Turned", .mkr "Turned", .cls "Faded", .mkr "Faded", .cls "Burst", .mkr "Burst", .noat "BadSize" "size", .noat "Turned" "most", .noat "Turned" "first_left", .noat "Faded" "most", .noat "Faded" "first_left", .noat "Burst" "size", .noat "Burst" "first_left", .meth "BadSize" "__init__", .meth "Turned" "__init__", .meth "Turned" "is_of", .meth "Faded" "__init__", .meth "Faded" "is_of", .meth "Burst" "__init__", .meth "Burst" "is_of", .exm "BadSize" "BadSize" true, .free "all", .free "repr", .free "str", .free "sorted", .free "set", .glo "VaultError", .glo "Damage"]
def faA : List He.Fa := fa0 ++ fa1
def dd0 : He.DefD := ⟨("is_whole", none), "is_whole", "is_whole", defArgs sWhole, defBody sWhole, defScope sWhole, [], []⟩
def dd1 : He.DefD := ⟨("is_between", none), "is_between", "is_between", defArgs sBetween, defBody sBetween, defScope sBetween, [], []⟩
def dd2 : He.DefD := ⟨("copied", none), "copied", "copied", defArgs sCopied, defBody sCopied, defScope sCopied, [], []⟩
def dd3 : He.DefD := ⟨("check_size", none), "check_size", "check_size", defArgs sChS, defBody sChS, defScope sChS, [], []⟩
def dd4 : He.DefD := ⟨("_law_pen_of", none), "_law_pen_of", "_law_pen_of", defArgs sPen, defBody sPen, defScope sPen, [], []⟩
def dd5 : He.DefD := ⟨("_law_draw", none), "_law_draw", "_law_draw", defArgs sDraw, defBody sDraw, defScope sDraw, [], []⟩
def dd6 : He.DefD := ⟨("_law_pick", none), "_law_pick", "_law_pick", defArgs sPick, defBody sPick, defScope sPick, [], []⟩
def dd7 : He.DefD := ⟨("_law_bits_of", none), "_law_bits_of", "_law_bits_of", defArgs sLBo, defBody sLBo, defScope sLBo, [], []⟩
def dd8 : He.DefD := ⟨("_law_some_places", none), "_law_some_places", "_law_some_places", defArgs sSPl, defBody sSPl, defScope sSPl, [], []⟩
def dd9 : He.DefD := ⟨("_law_damage", none), "_law_damage", "_law_damage", defArgs sLDm, defBody sLDm, defScope sLDm, [], []⟩
def dd10 : He.DefD := ⟨("_law_is_kind", none), "_law_is_kind", "_law_is_kind", defArgs sLIk, defBody sLIk, defScope sLIk, [], []⟩
def dd11 : He.DefD := ⟨("_law_refusal", none), "_law_refusal", "_law_refusal", defArgs sRf, defBody sRf, defScope sRf, [], []⟩
def dd12 : He.DefD := ⟨("_law_all_places", none), "_law_all_places", "_law_all_places", defArgs sLAp, defBody sLAp, defScope sLAp, [], []⟩
def dd13 : He.DefD := ⟨("_law_below", none), "_law_below", "_law_below", defArgs sLBe, defBody sLBe, defScope sLBe, [], []⟩
def dd14 : He.DefD := ⟨("law", none), "law", "law", defArgs sLaw, defBody sLaw, defScope sLaw, [], []⟩
def dd15 : He.DefD := ⟨("BadSize", some "__init__"), "__init__", "BadSize.__init__", defArgs sBSz, defBody sBSz, defScope sBSz, [], []⟩
def dd16 : He.DefD := ⟨("Turned", some "__init__"), "__init__", "Turned.__init__", defArgs sTI, defBody sTI, defScope sTI, [], []⟩
def dd17 : He.DefD := ⟨("Turned", some "is_of"), "is_of", "Turned.is_of", defArgs sTO, defBody sTO, defScope sTO, [], []⟩
def dd18 : He.DefD := ⟨("Faded", some "__init__"), "__init__", "Faded.__init__", defArgs sFI, defBody sFI, defScope sFI, [], []⟩
def dd19 : He.DefD := ⟨("Faded", some "is_of"), "is_of", "Faded.is_of", defArgs sFO, defBody sFO, defScope sFO, [], []⟩
def dd20 : He.DefD := ⟨("Burst", some "__init__"), "__init__", "Burst.__init__", defArgs sBI, defBody sBI, defScope sBI, [], []⟩
def dd21 : He.DefD := ⟨("Burst", some "is_of"), "is_of", "Burst.is_of", defArgs sBO, defBody sBO, defScope sBO, [], []⟩
def fnA : List He.DefD := [dd0, dd1, dd2, dd3, dd4, dd5, dd6, dd7, dd8, dd9, dd10, dd11, dd12, dd13, dd14, dd15, dd16, dd17, dd18, dd19, dd20, dd21]
abbrev lawD : Str × Option Str := ("law", none)
/-- what else is asked of K, and of the tables ts -/
def exA (K : PySem.W.Frag) (ts : List Addr) : Bool := ((oexB K (He.ga K "BadSize") && xfB K (He.ga K "BadSize")) && (He.eqO (PySem.W.specialIn K (.builtin "object.__class__") "__get__") (some (some (.builtin "getset_descriptor.__get__"))) && (decide (PySem.W.takesIn K (.builtin "object.__class__") = some true) && (He.eqO (PySem.W.findIn K (.ref (He.ga K "Turned")) "__class__") (some (some (.builtin "object.__class__"))) && (decide (PySem.W.mroIn K (He.ga K "Turned") (.type "object") = some true) && (He.eqO (PySem.W.findIn K (.ref (He.ga K "Faded")) "__class__") (some (some (.builtin "object.__class__"))) && (decide (PySem.W.mroIn K (He.ga K "Faded") (.type "object") = some true) && (He.eqO (PySem.W.findIn K (.ref (He.ga K "Burst")) "__class__") (some (some (.builtin "object.__class__"))) && (decide (PySem.W.mroIn K (He.ga K "Burst") (.type "object") = some true) && (decide (PySem.W.kitOne K (.ref (He.ga K "Turned")) (.ref (He.ga K "Damage")) = some true) && (decide (PySem.W.kitOne K (.ref (He.ga K "Faded")) (.ref (He.ga K "Damage")) = some true) && (decide (PySem.W.kitOne K (.ref (He.ga K "Burst")) (.ref (He.ga K "Damage")) = some true) && (decide (PySem.W.kitOne K (.ref (He.ga K "Turned")) (.ref (He.ga K "Turned")) = some true) && (decide (PySem.W.kitOne K (.ref (He.ga K "Faded")) (.ref (He.ga K "Turned")) = some true) && (decide (PySem.W.kitOne K (.ref (He.ga K "Burst")) (.ref (He.ga K "Turned")) = some false) && (decide (PySem.W.kitOne K (.ref (He.ga K "Turned")) (.ref (He.ga K "Faded")) = some false) && (decide (PySem.W.kitOne K (.ref (He.ga K "Faded")) (.ref (He.ga K "Faded")) = some true) && (decide (PySem.W.kitOne K (.ref (He.ga K "Burst")) (.ref (He.ga K "Faded")) = some false) && (decide (PySem.W.kitOne K (.ref (He.ga K "Turned")) (.ref (He.ga K "Burst")) = some false) && (decide (PySem.W.kitOne K (.ref (He.ga K "Faded")) (.ref (He.ga K "Burst")) = some false) && (decide (PySem.W.kitOne K (.ref (He.ga K "Burst")) (.ref (He.ga K "Burst")) = some true) && (He.eqO (PySem.W.findIn K (.ref (He.ga K "BadSize")) "__class__") (some (some (.builtin "object.__class__"))) && (decide (PySem.W.mroIn K (He.ga K "BadSize") (.type "object") = some true) && (decide (PySem.W.kitOne K (.ref (He.ga K "BadSize")) (.ref (He.ga K "VaultError")) = some true) && (decide ((He.cT K lawD).2 ∈ ts) && (PySem.W.codeHdIn K (He.cT K lawD).1 (He.cT K lawD).2 && (K.lookup (He.cT K lawD).2).isNone))))))))))))))))))))))))))
theorem fun_ofD {K : PySem.W.Frag} {x qual : Str} {st : Stmt} {f : Addr} {fd : FuncData} (F : FunD K x qual (defArgs st) (defBody st) (defScope st) [] [] f fd) : Fun K x qual st f fd := by
  obtain ⟨oc, od, dV, kV, doc, pm, an, cdv, ct, osl, e, lk, hcd, dv, _⟩ := F.ex
  rcases dv with ⟨_, rfl⟩ | ⟨h, _⟩
  · exact ⟨⟨oc, od, kV, doc, pm, an, cdv, ct, osl, e, lk, hcd⟩, F.kp⟩
  · exact absurd rfl h
theorem funL_of {K : PySem.W.Frag} {base : Heap} {mg : Str → Option Value} {x q : Str} {kq : Str × Option Str} {st : Stmt} {fd : FuncData} (F : Fun K x q st (He.fAd K kq) fd) (T : LamX.TabB base mg (He.cT K kq).1 (He.cT K kq).2) :
    FunL K base mg x q st (He.fAd K kq) (He.cT K kq).1 (He.cT K kq).2 fd := by
  obtain ⟨oc, od, kV, doc, pm, an, cdv, ct, osl, e, lk, hcd⟩ := F.ex
  obtain ⟨c, rfl⟩ := He.codeIn_ref hcd
  have e2 : (He.cT K kq).1 = c := by
    refine He.codeOf_eq lk ?_
    rw [e] <;> rfl
  exact ⟨⟨oc, od, kV, doc, pm, an, ct, osl, by rw [e2]; exact e, lk, by rw [e2]; exact hcd⟩, T⟩
theorem isNone_of {α : Type} {o : Option α} (h : o.isNone = true) : o = none := by
  cases o with
  | none => rfl
  | some _ => cases h
abbrev TbK (K : PySem.W.Frag) : List (Addr × Str) := [((He.cT K lawD).2, (("law.<locals>.<lambda>" : String) : Str))]
/-- the law's promise, of what the top leaves -/
theorem at_law {l : PySem.W.OpenLaw} {w : World} {K : PySem.W.Frag} {h : Heap} {mg : Str → Option Value} {fl : Addr} {ts : List Addr} (KX : K.In h) (G : h.Ns mainGlobals mg) (hfl : mg ("law" : Str) = some (.ref fl)) (c : He.SaysD faA fnA K) (ex : exA K ts = true) (hT : ∀ P ∈ ts, h.get? P = some { cls := .none, data := .fields #[] }) :
    GFn.LawAtG l w K CX0 11 63 "_law_script" mg fl h := by
  obtain ⟨x0, ex⟩ := He.ba ex
  obtain ⟨x1, ex⟩ := He.ba ex
  obtain ⟨x2, ex⟩ := He.ba ex
  obtain ⟨x3, ex⟩ := He.ba ex
  obtain ⟨x4, ex⟩ := He.ba ex
  obtain ⟨x5, ex⟩ := He.ba ex
  obtain ⟨x6, ex⟩ := He.ba ex
  obtain ⟨x7, ex⟩ := He.ba ex
  obtain ⟨x8, ex⟩ := He.ba ex
  obtain ⟨x9, ex⟩ := He.ba ex
  obtain ⟨x10, ex⟩ := He.ba ex
  obtain ⟨x11, ex⟩ := He.ba ex
  obtain ⟨x12, ex⟩ := He.ba ex
  obtain ⟨x13, ex⟩ := He.ba ex
  obtain ⟨x14, ex⟩ := He.ba ex
  obtain ⟨x15, ex⟩ := He.ba ex
  obtain ⟨x16, ex⟩ := He.ba ex
  obtain ⟨x17, ex⟩ := He.ba ex
  obtain ⟨x18, ex⟩ := He.ba ex
  obtain ⟨x19, ex⟩ := He.ba ex
  obtain ⟨x20, ex⟩ := He.ba ex
  obtain ⟨x21, ex⟩ := He.ba ex
  obtain ⟨x22, ex⟩ := He.ba ex
  obtain ⟨x23, ex⟩ := He.ba ex
  obtain ⟨x24, ex⟩ := He.ba ex
  obtain ⟨x25, ex⟩ := He.ba ex
  have x26 := ex
  obtain ⟨o0, f0⟩ := He.ba x0
  have B : Bi mg := ⟨He.free_ok KX G (c.fact 19 (f := .free "isinstance") rfl), He.free_ok KX G (c.fact 20 (f := .free "int") rfl), He.free_ok KX G (c.fact 21 (f := .free "bool") rfl), He.free_ok KX G (c.fact 22 (f := .free "tuple") rfl), He.free_ok KX G (c.fact 23 (f := .free "list") rfl), He.free_ok KX G (c.fact 24 (f := .free "dict") rfl), He.free_ok KX G (c.fact 25 (f := .free "len") rfl), He.free_ok KX G (c.fact 26 (f := .free "enumerate") rfl), He.free_ok KX G (c.fact 27 (f := .free "range") rfl), He.free_ok KX G (c.fact 28 (f := .free "abs") rfl), He.free_ok KX G (c.fact 29 (f := .free "max") rfl), He.free_ok KX G (c.fact 30 (f := .free "min") rfl)⟩
  obtain ⟨u0, g0⟩ := He.int_ok KX G (c.fact 31 (f := .int "MOST_SIZE" 64) rfl)
  obtain ⟨d0, D0⟩ := c.def_ 0 (d := dd0) rfl
  have F0 : Fun K "is_whole" "is_whole" sWhole (He.ga K "is_whole") d0 := fun_ofD D0
  have b0 : Binds K d0 ["value"] [] := F0.binds fun _ _ _ _ _ _ us hl => match us, hl with | [_], _ => rfl
  obtain ⟨d1, D1⟩ := c.def_ 1 (d := dd1) rfl
  have F1 : Fun K "is_between" "is_between" sBetween (He.ga K "is_between") d1 := fun_ofD D1
  have b1 : Binds K d1 ["value", "low", "high"] [] := F1.binds fun _ _ _ _ _ _ us hl => match us, hl with | [_, _, _], _ => rfl
  obtain ⟨d2, D2⟩ := c.def_ 2 (d := dd2) rfl
  have F2 : Fun K "copied" "copied" sCopied (He.ga K "copied") d2 := fun_ofD D2
  have b2 : Binds K d2 ["value"] [] := F2.binds fun _ _ _ _ _ _ us hl => match us, hl with | [_], _ => rfl
  obtain ⟨d3, D3⟩ := c.def_ 3 (d := dd3) rfl
  have F3 : Fun K "check_size" "check_size" sChS (He.ga K "check_size") d3 := fun_ofD D3
  have b3 : Binds K d3 ["size"] [] := F3.binds fun _ _ _ _ _ _ us hl => match us, hl with | [_], _ => rfl
  obtain ⟨d4, D4⟩ := c.def_ 4 (d := dd4) rfl
  have F4 : Fun K "_law_pen_of" "_law_pen_of" sPen (He.ga K "_law_pen_of") d4 := fun_ofD D4
  have b4 : Binds K d4 ["_law_script"] [] := F4.binds fun _ _ _ _ _ _ us hl => match us, hl with | [_], _ => rfl
  obtain ⟨d5, D5⟩ := c.def_ 5 (d := dd5) rfl
  have F5 : Fun K "_law_draw" "_law_draw" sDraw (He.ga K "_law_draw") d5 := fun_ofD D5
  have b5 : Binds K d5 ["_law_pen", "_law_many"] [] := F5.binds fun _ _ _ _ _ _ us hl => match us, hl with | [_, _], _ => rfl
  obtain ⟨d6, D6⟩ := c.def_ 6 (d := dd6) rfl
  have F6 : Fun K "_law_pick" "_law_pick" sPick (He.ga K "_law_pick") d6 := fun_ofD D6
  have b6 : Binds K d6 ["_law_pen", "_law_items"] [] := F6.binds fun _ _ _ _ _ _ us hl => match us, hl with | [_, _], _ => rfl
  obtain ⟨d7, D7⟩ := c.def_ 7 (d := dd7) rfl
  have F7 : Fun K "_law_bits_of" "_law_bits_of" sLBo (He.ga K "_law_bits_of") d7 := fun_ofD D7
  have b7 : Binds K d7 ["_law_pen", "_law_many"] [] := F7.binds fun _ _ _ _ _ _ us hl => match us, hl with | [_, _], _ => rfl
  obtain ⟨d8, D8⟩ := c.def_ 8 (d := dd8) rfl
  have F8 : Fun K "_law_some_places" "_law_some_places" sSPl (He.ga K "_law_some_places") d8 := fun_ofD D8
  have b8 : Binds K d8 ["_law_pen", "_law_size", "_law_many"] [] := F8.binds fun _ _ _ _ _ _ us hl => match us, hl with | [_, _, _], _ => rfl
  obtain ⟨d9, D9⟩ := c.def_ 9 (d := dd9) rfl
  have F9 : Fun K "_law_damage" "_law_damage" sLDm (He.ga K "_law_damage") d9 := fun_ofD D9
  have b9 : Binds K d9 ["_law_kind"] [] := F9.binds fun _ _ _ _ _ _ us hl => match us, hl with | [_], _ => rfl
  obtain ⟨d10, D10⟩ := c.def_ 10 (d := dd10) rfl
  have F10 : Fun K "_law_is_kind" "_law_is_kind" sLIk (He.ga K "_law_is_kind") d10 := fun_ofD D10
  have b10 : Binds K d10 ["_law_kind", "_law_bits", "_law_places"] [] := F10.binds fun _ _ _ _ _ _ us hl => match us, hl with | [_, _, _], _ => rfl
  obtain ⟨d11, D11⟩ := c.def_ 11 (d := dd11) rfl
  have F11 : Fun K "_law_refusal" "_law_refusal" sRf (He.ga K "_law_refusal") d11 := fun_ofD D11
  have b11 : Binds K d11 ["_law_call"] [] := F11.binds fun _ _ _ _ _ _ us hl => match us, hl with | [_], _ => rfl
  obtain ⟨d12, D12⟩ := c.def_ 12 (d := dd12) rfl
  have F12 : Fun K "_law_all_places" "_law_all_places" sLAp (He.ga K "_law_all_places") d12 := fun_ofD D12
  have b12 : Binds K d12 ["_law_size"] [] := F12.binds fun _ _ _ _ _ _ us hl => match us, hl with | [_], _ => rfl
  obtain ⟨d13, D13⟩ := c.def_ 13 (d := dd13) rfl
  have F13 : Fun K "_law_below" "_law_below" sLBe (He.ga K "_law_below") d13 := fun_ofD D13
  have b13 : Binds K d13 ["_law_damage_here"] [] := F13.binds fun _ _ _ _ _ _ us hl => match us, hl with | [_], _ => rfl
  obtain ⟨d14, D14⟩ := c.def_ 14 (d := dd14) rfl
  have F14 : Fun K "law" "law" sLaw (He.ga K "law") d14 := fun_ofD D14
  have b14 : Binds K d14 ["_law_script"] [] := F14.binds fun _ _ _ _ _ _ us hl => match us, hl with | [_], _ => rfl
  obtain ⟨d15, D15⟩ := c.def_ 15 (d := dd15) rfl
  have F15 : Fun K "__init__" "BadSize.__init__" sBSz (He.ma K (He.ga K "BadSize") "__init__") d15 := fun_ofD D15
  have b15 : Binds K d15 ["self", "size"] [] := F15.binds fun _ _ _ _ _ _ us hl => match us, hl with | [_, _], _ => rfl
  have m15 : Meth K (He.ga K "BadSize") "__init__" (He.ma K (He.ga K "BadSize") "__init__") := He.meth_ok (c.fact 45 (f := .meth "BadSize" "__init__") rfl)
  obtain ⟨d16, D16⟩ := c.def_ 16 (d := dd16) rfl
  have F16 : Fun K "__init__" "Turned.__init__" sTI (He.ma K (He.ga K "Turned") "__init__") d16 := fun_ofD D16
  have b16 : Binds K d16 ["self", "most"] [] := F16.binds fun _ _ _ _ _ _ us hl => match us, hl with | [_, _], _ => rfl
  have m16 : Meth K (He.ga K "Turned") "__init__" (He.ma K (He.ga K "Turned") "__init__") := He.meth_ok (c.fact 46 (f := .meth "Turned" "__init__") rfl)
  obtain ⟨d17, D17⟩ := c.def_ 17 (d := dd17) rfl
  have F17 : Fun K "is_of" "Turned.is_of" sTO (He.ma K (He.ga K "Turned") "is_of") d17 := fun_ofD D17
  have b17 : Binds K d17 ["self", "bits", "places"] [] := F17.binds fun _ _ _ _ _ _ us hl => match us, hl with | [_, _, _], _ => rfl
  have m17 : Meth K (He.ga K "Turned") "is_of" (He.ma K (He.ga K "Turned") "is_of") := He.meth_ok (c.fact 47 (f := .meth "Turned" "is_of") rfl)
  obtain ⟨d18, D18⟩ := c.def_ 18 (d := dd18) rfl
  have F18 : Fun K "__init__" "Faded.__init__" sFI (He.ma K (He.ga K "Faded") "__init__") d18 := fun_ofD D18
  have b18 : Binds K d18 ["self", "most"] [] := F18.binds fun _ _ _ _ _ _ us hl => match us, hl with | [_, _], _ => rfl
  have m18 : Meth K (He.ga K "Faded") "__init__" (He.ma K (He.ga K "Faded") "__init__") := He.meth_ok (c.fact 48 (f := .meth "Faded" "__init__") rfl)
  obtain ⟨d19, D19⟩ := c.def_ 19 (d := dd19) rfl
  have F19 : Fun K "is_of" "Faded.is_of" sFO (He.ma K (He.ga K "Faded") "is_of") d19 := fun_ofD D19
  have b19 : Binds K d19 ["self", "bits", "places"] [] := F19.binds fun _ _ _ _ _ _ us hl => match us, hl with | [_, _, _], _ => rfl
  have m19 : Meth K (He.ga K "Faded") "is_of" (He.ma K (He.ga K "Faded") "is_of") := He.meth_ok (c.fact 49 (f := .meth "Faded" "is_of") rfl)
  obtain ⟨d20, D20⟩ := c.def_ 20 (d := dd20) rfl
  have F20 : Fun K "__init__" "Burst.__init__" sBI (He.ma K (He.ga K "Burst") "__init__") d20 := fun_ofD D20
  have b20 : Binds K d20 ["self", "size"] [] := F20.binds fun _ _ _ _ _ _ us hl => match us, hl with | [_, _], _ => rfl
  have m20 : Meth K (He.ga K "Burst") "__init__" (He.ma K (He.ga K "Burst") "__init__") := He.meth_ok (c.fact 50 (f := .meth "Burst" "__init__") rfl)
  obtain ⟨d21, D21⟩ := c.def_ 21 (d := dd21) rfl
  have F21 : Fun K "is_of" "Burst.is_of" sBO (He.ma K (He.ga K "Burst") "is_of") d21 := fun_ofD D21
  have b21 : Binds K d21 ["self", "bits", "places"] [] := F21.binds fun _ _ _ _ _ _ us hl => match us, hl with | [_, _, _], _ => rfl
  have m21 : Meth K (He.ga K "Burst") "is_of" (He.ma K (He.ga K "Burst") "is_of") := He.meth_ok (c.fact 51 (f := .meth "Burst" "is_of") rfl)
  have q_BadSize_size : PySem.W.findIn K (.ref (He.ga K "BadSize")) "size" = some none := He.noat_ok (c.fact 38 (f := .noat "BadSize" "size") rfl)
  have q_Turned_most : PySem.W.findIn K (.ref (He.ga K "Turned")) "most" = some none := He.noat_ok (c.fact 39 (f := .noat "Turned" "most") rfl)
  have q_Turned_first_left : PySem.W.findIn K (.ref (He.ga K "Turned")) "first_left" = some none := He.noat_ok (c.fact 40 (f := .noat "Turned" "first_left") rfl)
  have q_Faded_most : PySem.W.findIn K (.ref (He.ga K "Faded")) "most" = some none := He.noat_ok (c.fact 41 (f := .noat "Faded" "most") rfl)
  have q_Faded_first_left : PySem.W.findIn K (.ref (He.ga K "Faded")) "first_left" = some none := He.noat_ok (c.fact 42 (f := .noat "Faded" "first_left") rfl)
  have q_Burst_size : PySem.W.findIn K (.ref (He.ga K "Burst")) "size" = some none := He.noat_ok (c.fact 43 (f := .noat "Burst" "size") rfl)
  have q_Burst_first_left : PySem.W.findIn K (.ref (He.ga K "Burst")) "first_left" = some none := He.noat_ok (c.fact 44 (f := .noat "Burst" "first_left") rfl)
  have MK_Turned : Mk K (He.ga K "Turned") (He.ma K (He.ga K "Turned") "__init__") := He.mkr_ok (c.fact 33 (f := .mkr "Turned") rfl)
  have MK_Faded : Mk K (He.ga K "Faded") (He.ma K (He.ga K "Faded") "__init__") := He.mkr_ok (c.fact 35 (f := .mkr "Faded") rfl)
  have MK_Burst : Mk K (He.ga K "Burst") (He.ma K (He.ga K "Burst") "__init__") := He.mkr_ok (c.fact 37 (f := .mkr "Burst") rfl)
  have ct_BadSize : Ct K mg "BadSize" (He.ga K "BadSize") := ⟨(He.glo_ok KX G (c.fact 15 (f := .glo "BadSize") rfl)), xfB_ok f0, He.exm_ok (c.fact 52 (f := .exm "BadSize" "BadSize" true) rfl)⟩
  have MM : CmK mg := ⟨⟨_, g0, ⟨_, rfl⟩⟩⟩
  have XT : TxD K (He.ga K "Turned") "most" := ⟨He.cls_ok (c.fact 32 (f := .cls "Turned") rfl), q_Turned_most, q_Turned_first_left⟩
  have XF : TxD K (He.ga K "Faded") "most" := ⟨He.cls_ok (c.fact 34 (f := .cls "Faded") rfl), q_Faded_most, q_Faded_first_left⟩
  have XB : TxD K (He.ga K "Burst") "size" := ⟨He.cls_ok (c.fact 36 (f := .cls "Burst") rfl), q_Burst_size, q_Burst_first_left⟩
  have U : ObU K mg (He.ga K "Damage") (He.ga K "Turned") (He.ga K "Faded") (He.ga K "Burst") := ⟨He.eqO_ok x1, of_decide_eq_true x2, (fun k => match k with | .tu => ⟨XT.cl, He.eqO_ok x3, of_decide_eq_true x4⟩ | .fa => ⟨XF.cl, He.eqO_ok x5, of_decide_eq_true x6⟩ | .bu => ⟨XB.cl, He.eqO_ok x7, of_decide_eq_true x8⟩), (He.glo_ok KX G (c.fact 59 (f := .glo "Damage") rfl)), (He.glo_ok KX G (c.fact 16 (f := .glo "Turned") rfl)), (He.glo_ok KX G (c.fact 17 (f := .glo "Faded") rfl)), (He.glo_ok KX G (c.fact 18 (f := .glo "Burst") rfl)), (fun k => match k with | .tu => of_decide_eq_true x9 | .fa => of_decide_eq_true x10 | .bu => of_decide_eq_true x11), (fun k => match k with | .tu => of_decide_eq_true x12 | .fa => of_decide_eq_true x13 | .bu => of_decide_eq_true x14), (fun k => match k with | .tu => of_decide_eq_true x15 | .fa => of_decide_eq_true x16 | .bu => of_decide_eq_true x17), (fun k => match k with | .tu => of_decide_eq_true x18 | .fa => of_decide_eq_true x19 | .bu => of_decide_eq_true x20)⟩
  have Ts : Ctr K mg (He.ga K "VaultError") (He.ga K "BadSize") := ⟨ct_BadSize, q_BadSize_size, (He.glo_ok KX G (c.fact 58 (f := .glo "VaultError") rfl)), ⟨ct_BadSize.T.ga, ct_BadSize.T.gg, ct_BadSize.T.exC, ct_BadSize.T.hdC, He.eqO_ok x21, U.gg, U.tk, of_decide_eq_true x22⟩, of_decide_eq_true x23, He.free_ok KX G (c.fact 54 (f := .free "repr") rfl), He.free_ok KX G (c.fact 19 (f := .free "isinstance") rfl)⟩
  have el : fl = He.ga K "law" := by
    have e := hfl.symm.trans (He.glo_ok KX G (c.fact 14 (f := .glo "law") rfl))
    cases e
    rfl
  subst el
  refine ⟨d14, [He.cT K lawD], spLaw K (TbK K), ?_, ?_, ?_, ?_, ?_, ?_⟩
  · intro p hp
    simp only [List.mem_cons, List.not_mem_nil, or_false] at hp
    rcases hp with rfl
    · exact hT _ (of_decide_eq_true x24)
  · intro p hp
    simp only [List.mem_cons, List.not_mem_nil, or_false] at hp
    rcases hp with rfl
    · exact isNone_of x26
  · intro p hp
    simp only [List.mem_cons, List.not_mem_nil, or_false] at hp
    rcases hp with rfl
    · exact PySem.W.codeHd_of_K KX x25
  · exact fun s u => FunD.bindsA (ps := ["_law_script"]) D14 (fun _ _ _ _ _ _ us hl => match us, hl with | [_], _ => rfl) s [u] rfl
  · intro H a ns hl hb hH hS
    refine ⟨a, ns, rfl, hS, fun p hp => ?_, fun _ => rfl⟩
    simp only [List.mem_cons, List.not_mem_nil, or_false] at hp
    rcases hp with rfl
    · exact LamX.TabS.nil (hH (He.cT K lawD) List.mem_cons_self)
  · intro base KB GB TB
    have hu0 : ∀ p ∈ TbK K, p.1 = (He.cT K lawD).2 → p.2 = (("law.<locals>.<lambda>" : String) : Str) := fun p hp e => by
      simp only [List.mem_cons, List.not_mem_nil, or_false] at hp
      rcases hp with rfl
      · exact rfl
    have LF0 : FunL K base mg "law" "law" sLaw (He.ga K "law") (He.cT K lawD).1 (He.cT K lawD).2 d14 := funL_of (kq := lawD) F14 (TB _ List.mem_cons_self)
    have cWh : Cal CX0 l.prog w K mg base 1 "is_whole" spWhole := ⟨_, d0, _, ok_whole F0 B, (He.glo_ok KX G (c.fact 0 (f := .glo "is_whole") rfl)), F0.kp, b0⟩
    have cB : Cal CX0 l.prog w K mg base 2 "is_between" spBetween := ⟨_, d1, _, ok_between F1 cWh, (He.glo_ok KX G (c.fact 1 (f := .glo "is_between") rfl)), F1.kp, b1⟩
    have cC1 : Cal CX0 l.prog w K mg base 1 "copied" spCopied := ⟨_, d2, _, ok_copied F2 B, (He.glo_ok KX G (c.fact 2 (f := .glo "copied") rfl)), F2.kp, b2⟩
    have cC2 : Cal CX0 l.prog w K mg base 2 "copied" spCopy2 := ⟨_, d2, _, ok_copy2 F2 B cC1, (He.glo_ok KX G (c.fact 2 (f := .glo "copied") rfl)), F2.kp, b2⟩
    have xBadSize : Xc l.prog w K mg base 3 "BadSize" (He.ga K "BadSize") (spXO K "size") := ⟨oexB_ok o0, (He.glo_ok KX G (c.fact 15 (f := .glo "BadSize") rfl)), _, d15, _, m15.at_, beq_iff_eq.mp m15.fn, ok_BSz F15 cC2, b15⟩
    have cSz : Cal (L2.CX l.prog w) l.prog w K mg base 5 "check_size" (spChS (He.ga K "BadSize")) := ⟨_, d3, _, ok_ChS F3 MM cB xBadSize q_BadSize_size, (He.glo_ok KX G (c.fact 3 (f := .glo "check_size") rfl)), F3.kp, b3⟩
    have kT : Mak (L2.CX l.prog w) l.prog w K mg base 6 "Turned" (He.ga K "Turned") (spDI (He.ga K "BadSize") (He.ga K "Turned") "most") := ⟨_, d16, _, MK_Turned, ok_TI F16 XT cSz, (He.glo_ok KX G (c.fact 16 (f := .glo "Turned") rfl)), b16⟩
    have kF : Mak (L2.CX l.prog w) l.prog w K mg base 6 "Faded" (He.ga K "Faded") (spDI (He.ga K "BadSize") (He.ga K "Faded") "most") := ⟨_, d18, _, MK_Faded, ok_FI F18 XF cSz, (He.glo_ok KX G (c.fact 17 (f := .glo "Faded") rfl)), b18⟩
    have kB : Mak (L2.CX l.prog w) l.prog w K mg base 6 "Burst" (He.ga K "Burst") (spDI (He.ga K "BadSize") (He.ga K "Burst") "size") := ⟨_, d20, _, MK_Burst, ok_BI F20 XB cSz, (He.glo_ok KX G (c.fact 18 (f := .glo "Burst") rfl)), b20⟩
    have mT : Met CX0 l.prog w K mg base 1 (He.ga K "Turned") "is_of" (spIo (He.ga K "Turned") (He.ga K "Faded") (He.ga K "Burst") .tu) := ⟨_, d17, _, XT.cl, m17, ok_TO F17 B XT, b17⟩
    have mF : Met CX0 l.prog w K mg base 1 (He.ga K "Faded") "is_of" (spIo (He.ga K "Turned") (He.ga K "Faded") (He.ga K "Burst") .fa) := ⟨_, d19, _, XF.cl, m19, ok_FO F19 B (He.free_ok KX G (c.fact 53 (f := .free "all") rfl)) XF, b19⟩
    have mB : Met CX0 l.prog w K mg base 1 (He.ga K "Burst") "is_of" (spIo (He.ga K "Turned") (He.ga K "Faded") (He.ga K "Burst") .bu) := ⟨_, d21, _, XB.cl, m21, ok_BO F21 B XB, b21⟩
    have cPe : Cal CX0 l.prog w K mg base 1 "_law_pen_of" (spPen K) := ⟨_, d4, _, ok_pen F4 B, (He.glo_ok KX G (c.fact 4 (f := .glo "_law_pen_of") rfl)), F4.kp, b4⟩
    have cD : Cal CX0 l.prog w K mg base 1 "_law_draw" spDraw := ⟨_, d5, _, ok_draw F5 B, (He.glo_ok KX G (c.fact 5 (f := .glo "_law_draw") rfl)), F5.kp, b5⟩
    have cPk : Cal CX0 l.prog w K mg base 2 "_law_pick" spPick := ⟨_, d6, _, ok_pick F6 B cD, (He.glo_ok KX G (c.fact 6 (f := .glo "_law_pick") rfl)), F6.kp, b6⟩
    have cBo : Cal CX0 l.prog w K mg base 2 "_law_bits_of" spLBo := ⟨_, d7, _, ok_LBo F7 B (He.free_ok KX G (c.fact 55 (f := .free "str") rfl)) cD, (He.glo_ok KX G (c.fact 7 (f := .glo "_law_bits_of") rfl)), F7.kp, b7⟩
    have cSp : Cal CX0 l.prog w K mg base 2 "_law_some_places" spSPl := ⟨_, d8, _, ok_SPl F8 B (He.free_ok KX G (c.fact 56 (f := .free "sorted") rfl)) (He.free_ok KX G (c.fact 57 (f := .free "set") rfl)) cD, (He.glo_ok KX G (c.fact 8 (f := .glo "_law_some_places") rfl)), F8.kp, b8⟩
    have cDm : Cal CX0 l.prog w K mg base 8 "_law_damage" (spLDm (He.ga K "Turned") (He.ga K "Faded") (He.ga K "Burst")) := ⟨_, d9, _, ok_LDm F9 kT kF kB, (He.glo_ok KX G (c.fact 9 (f := .glo "_law_damage") rfl)), F9.kp, b9⟩
    have cIk : Cal CX0 l.prog w K mg base 1 "_law_is_kind" spLIk := ⟨_, d10, _, ok_LIk F10 B (He.free_ok KX G (c.fact 53 (f := .free "all") rfl)), (He.glo_ok KX G (c.fact 10 (f := .glo "_law_is_kind") rfl)), F10.kp, b10⟩
    have cAp : Cal CX0 l.prog w K mg base 1 "_law_all_places" spLAp := ⟨_, d12, _, ok_LAp F12 B, (He.glo_ok KX G (c.fact 12 (f := .glo "_law_all_places") rfl)), F12.kp, b12⟩
    have cBe : Cal CX0 l.prog w K mg base 1 "_law_below" (spLBe (He.ga K "Turned") (He.ga K "Faded") (He.ga K "Burst")) := ⟨_, d13, _, ok_LBe F13 B U, (He.glo_ok KX G (c.fact 13 (f := .glo "_law_below") rfl)), F13.kp, b13⟩
    exact ok_law (CD := (He.ga K "Damage")) ⟨LF0, B, XT, XF, XB, He.free_ok KX G (c.fact 54 (f := .free "repr") rfl), cPe, cD, cPk, cDm, cBe, cBo, cAp, cIk, cSp, mT, mF, mB, kT, kF, kB, F11, b11, (He.glo_ok KX G (c.fact 11 (f := .glo "_law_refusal") rfl)), Ts, List.mem_cons_self, hu0⟩
end K66
set_option Elab.async false
open PySem.W PySem PyProof.Rows in
set_option maxRecDepth 100001 in
set_option maxHeartbeats 0 in
theorem PySem.Challenge.cw_wordvault_k66_kinds_of_damage_holds : PySem.Challenge.rw_wordvault_k66_kinds_of_damage.Holds := by
  w_on; o_law
  k_head
  case hw => w_witness2
  k_fill
  refine GFn.walk_ofG (l := PySem.Challenge.rw_wordvault_k66_kinds_of_damage) (n := 63) (k := 11) (x := "_law_script") (CX := fun _ => L2.CX0) rfl (by decide) rfl ⟨rfl, by decide, by decide⟩ (fun w h Y => PySem.W.km_in_of Y) ?F (fun _ _ _ _ _ z => z)
  case F =>
    intro w mg fa h Y KX G hmg
    refine K66.at_law KX G hmg ?c ?e (PySem.W.km_tabs_of Y)
    case c =>
      show He.obsD K66.faA K66.fnA _ = He.valD K66.fnA
      kernel_rfl
    case e => kernel_rfl
