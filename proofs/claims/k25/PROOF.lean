import PyProof.Rows.All
import Wide.All
import OpenK.AllK
import Wide.FinOn
import KE.GoesEnum
import HandS.ForMost
import HandS.Walk
import HandS.ForExc
import HandS.ExcInit
import HandS.TryMany
import HandS.Lambda
import HandS.SortKw
import KE.KSortKey
import PyProof.Rows.SortStr
import PyProof.Rows.SortKeyStr
import HandS.Text
import KE.LtSeq
import KE.KRevSl
import PyProof.ListStr
import PyProof.StrOps2
import PyProof.SliceStr2
import PyProof.Rows.StrJoinStr
import HandS.DictComp
import HandS.NoneIn
import HandS.IsInst
import HandS.Conv
import HandS.Flow
import HandS.Deep
import HandS.Codes
import HandS.Wide
import HandS.TupAny
import HandS.EndTab
import HandS.ExcField
import HandS.WideBits
import HandS.Strs
import HandS.Zip
import HandS.SetKeys
import HandS.SortInts
import HandS.HeadHook4
import KE.KNestM
import PySem.Challenge.RW_wordvault_k25_phrases_and_their_classes
set_option Elab.async false
set_option maxRecDepth 100001
set_option maxHeartbeats 1999999
/-! enumerate over a tuple. -/
namespace PySem
theorem enumT_new {v : Value} {o : Obj} {G : Heap → Prop} (B : Begins v o G) : Meets (Builtin.«enumerate.__new__» ⟨[.type "enumerate", v], []⟩)
    (fun _ R z => G z.heap ∧ R (.ok (.ret (.ref (z.heap.push o).objs.size)))
      { z with heap := (z.heap.push o).push { cls := .type "enumerate", data := .fields #[.none, .bool false, .ref z.heap.objs.size, rawInt 0, .none, .none] } }) :=
  .of_wp fun P W A R z hz => by
    obtain ⟨hp, gs, dr, tk, os⟩ := z
    obtain ⟨g0, r0⟩ := hz
    have su := sub_enumerate
    have it0 : ∀ {A' : Around} {E : Value → Shared → Prop} {Q : Value → Shared → Prop}, Q (.ref hp.objs.size) ⟨hp.push o, gs, dr, tk, os⟩ → wpAny (model P W) A' (pyIter v) Q E ⟨hp, gs, dr, tk, os⟩ :=
      fun q => B.iter P W _ _ ⟨hp, gs, dr, tk, os⟩ _ g0 q
    wp_walk using it0
    refine wpAny_stack_any fun sk => wpAny_pure ?_
    split
    next c _ _ _ _ _ =>
      cases (c == Value.type "enumerate") <;> (wp_walk using it0; exact ⟨_, rfl, r0⟩)
    next => wp_walk using it0; exact ⟨_, rfl, r0⟩
theorem enumT_call {P : Program} {W : World} {A : Around} {E : Value → Shared → Prop} {z : Shared} {v : Value} {o : Obj} {G : Heap → Prop} {Q : Value → Shared → Prop} (B : Begins v o G) (g0 : G z.heap)
    (k : ∀ h2, IsEnum h2 (z.heap.objs.size + 1) z.heap.objs.size 0 .none → h2.get? z.heap.objs.size = some o → (∀ b u, z.heap.get? b = some u → h2.get? b = some u) → Q (.ref (z.heap.objs.size + 1)) { z with heap := h2 }) :
    wpAny (model P W) A (call (.type "enumerate") [v]) Q E z := by
  refine callType_new F.called_enumerate (by decide) (F.typeCall_enumerate_1 _) (F.newCall_enumerate_1 _) (fun ob => F.args_object_init_2 ob _) F.entry_enumerate_new (enumT_new B) ⟨g0, ?_⟩
  have sz : (z.heap.push o).objs.size = z.heap.objs.size + 1 := Heap.size_push ..
  show _ ∧ _
  rw [sz]
  have en : IsEnum ((z.heap.push o).push { cls := .type "enumerate", data := .fields #[.none, .bool false, .ref z.heap.objs.size, rawInt 0, .none, .none] }) (z.heap.objs.size + 1) z.heap.objs.size 0 .none := by
    have q := Heap.get?_push_size (z.heap.push o) (o := { cls := .type "enumerate", data := .fields #[.none, .bool false, .ref z.heap.objs.size, rawInt 0, .none, .none] }) rfl
    rw [sz] at q
    exact q
  exact ⟨⟨_, en, rfl⟩, k _ en (Heap.get?_push_of_some _ (Heap.get?_push_size _ B.free)) fun b u e => Heap.get?_push_of_some _ (Heap.get?_push_of_some _ e)⟩
end PySem
namespace L2
open PySem.Spec PySem PyProof.Rows
/-- the tuple at a, each item in a new pair behind its number -/
def ItEnT (K : PySem.W.Frag) (a : Addr) : It where
  go := fun i H => ∃ (xs : List V) (x : V), SqT K H a xs ∧ xs[i]? = some x
  yld := fun i H v H2 => ∃ p x, v = .ref p ∧ H p = none ∧ H2 = upd H p (.tup [.int (i : Nat), x]) ∧ ∀ xs, SqT K H a xs → xs[i]? = some x
  stop := fun i H => ∃ xs : List V, SqT K H a xs ∧ xs.length ≤ i
theorem two_of {b e d : Addr} (h : b ∈ [e, d]) : b = e ∨ b = d := by simpa using h
theorem turn_enT {P : Program} {W : World} {K : PySem.W.Frag} {es : List Expr} {kk : Nat} {tp : Pos} (a e d : Addr) :
    Turn P W K (.Tuple es kk tp) (ItEnT K a) [e, d] e (fun i h => (∃ was, IsEnum h e d ((i : Nat) : Int) was) ∧ h.IsTupleIter d a i ∧ e ≠ d) where
  mem := List.mem_cons_self
  obj := fun i h st b hb => by
    obtain ⟨⟨was, he⟩, ⟨o, ho, hc, hd⟩, _⟩ := st
    rcases two_of hb with rfl | rfl
    · exact ⟨_, he, fun _ q => nomatch q⟩
    · exact ⟨o, ho, fun _ q => by rw [hd] at q; cases q⟩
  keep := fun i h h2 st k => ⟨let ⟨was, he⟩ := st.1; ⟨was, k e (by simp) _ he⟩, st.2.1.at fun o q => k d (by simp) o q, st.2.2⟩
  item := by
    intro X hP hW hK hc i pins s σ H E I hf st hg
    subst hP hW hK
    obtain ⟨⟨was, he⟩, hit, hne⟩ := st
    obtain ⟨xs, x, hq, hx⟩ := hg
    obtain ⟨its, rv, p, hz⟩ := I.tuple hq
    obtain ⟨u, hu, ru⟩ := rv.get hx
    have le : e < s.heap.objs.size := Heap.lt_size he
    have ld : d < s.heap.objs.size := let ⟨_, q, _⟩ := hit; Heap.lt_size q
    have la : a < s.heap.objs.size := p.lt
    have had : a ≠ d := fun z => by
      obtain ⟨o1, h1, c1, _⟩ := hit
      obtain ⟨o2, h2, c2, _⟩ := p
      rw [z, h1] at h2
      have := Option.some.inj h2
      subst this
      rw [c1] at c2
      exact absurd c2 (by decide)
    have hae : a ≠ e := fun z => by
      obtain ⟨o2, h2, c2, _⟩ := p
      have h1 : s.heap.get? e = some _ := he
      rw [z, h1] at h2
      have := Option.some.inj h2
      subst this
      exact absurd (show Value.type "enumerate" = Value.type "tuple" from c2) (by decide)
    have hi : i < its.toArray.size := by
      have := (List.getElem?_eq_some_iff.mp hu).1
      simpa using this
    have D := Draws.tuple (prog := X.prog) (w := X.w) (A := X.A.in1) (I.ok.hd hc) d a had its.toArray
    refine wpAny_pyNext_enum_itemD (n := its.toArray.size) (i := i) D he ⟨hit, p⟩ hi hne (fun m => ?_) fun y h2 tk hy ho hs2 hT hsz hk => ?_
    · rcases two_of m with z | z
      · exact hne z
      · exact hae z.symm
    have ey : y = u := by
      have q : its.toArray[i]? = some u := by simpa using hu
      rw [hy] at q
      exact Option.some.inj q
    subst ey
    refine ⟨_, rfl, wpAny_letOwnedTupleGo_enum (s := { s with heap := h2, toks := tk + 1 }) ho fun h3 he3 sb => ?_⟩
    have hT3 : h3.get? s.heap.objs.size = some { cls := .type "tuple", data := .seq #[.int i tk, y] } := (sb.2 _ (Nat.ne_of_gt le)).trans hT
    have new : ObjOk X.prog X.w (upd H s.heap.objs.size (.tup [.int (i : Nat), x])) h3 s.heap.objs.size (.tup [.int (i : Nat), x]) :=
      ⟨by show 2 ≤ sizeLine; decide, [.int i tk, y], .cons ⟨_, rfl⟩ (.cons ru .nil), ⟨_, hT3, rfl, _, rfl⟩⟩
    have J : Inv X pins σ (upd H s.heap.objs.size (.tup [.int (i : Nat), x])) { s with heap := h3, toks := tk + 1 } :=
      I.turnedNew (ch := [e, d]) (fun b o hb q => (sb.2 b fun z => hb (by simp [z])).trans (hk b o (fun z => hb (by simp [z])) (fun z => hb (by simp [z])) q)) hf (Nat.le_refl _) new
    refine ⟨.ref s.heap.objs.size, _, J, rfl, ⟨_, x, rfl, I.hok.fresh (Nat.le_refl _), rfl, fun ys hy2 => by rw [I.tuple_inj hy2 hq]; exact hx⟩, ⟨⟨y, ?_⟩, hs2.1.at fun o q => (sb.2 d (Ne.symm hne)).trans q, hne⟩, fun b hb => ?_⟩
    · have e1 : ((i + 1 : Nat) : Int) = (i : Int) + 1 := by omega
      rw [e1]
      exact he3
    · have lb : b < s.heap.objs.size := by
        rcases two_of hb with z | z
        · rw [z]; exact le
        · rw [z]; exact ld
      rw [upd_ne (Nat.ne_of_lt lb)]
      exact (hf b hb).1
  done := by
    intro X hP hW hK hc i pins s σ H E I hf st hg
    subst hP hW hK
    obtain ⟨⟨was, he⟩, hit, hne⟩ := st
    obtain ⟨xs, hq, hx⟩ := hg
    obtain ⟨its, rv, p, hz⟩ := I.tuple hq
    obtain ⟨f0, f1, f2, f3, f4, f5⟩ := hf d (by simp)
    have hl := rv.length
    unfold pyNext
    refine wpAny_bind (wpAny_attempt (wpAny_callSpecial?_slot (name := Str.ofString "__next__") ⟨_, he, rfl⟩ F.slot_enumerate_next
      (wpAny_call_entry F.slot_enumerate_next ⟨_, he, rfl⟩ F.entry_enumerate_next ?_ (F.args_enumerate_next_1 _))))
    show wpAny _ _ (field (.ref e) 2 >>= _) _ _ _
    refine wpAny_bind (wpAny_field he rfl (x := .ref d) rfl ?_)
    refine wpAny_bind (wpAny_nextOf_tuple_end (I.ok.hd hc) hit p (by simp; omega) fun h2 x eb hx2 => ?_)
    obtain ⟨o, ho, hcl⟩ := hx2
    refine wpAny_bind (wpAny_isInstance (T := "StopIteration") (b := true) ⟨o, ho, hcl⟩ isSubtype_stop ?_)
    exact wpAny_pure ⟨rfl, I.turned (t' := s.toks) (fun b o hb q => eb b o hb q) f0 f1 f3 f4 f5⟩
  self := fun A i s Q E st h => let ⟨⟨_, he⟩, _⟩ := st; wpAny_pyIter_enum he h
def iEnT (K : PySem.W.Frag) (ta : TA) : TI := fun σ H R => ta σ H fun vs H1 => ∃ a xs, vs = [.ref a] ∧ SqT K H1 a xs ∧ R (ItEnT K a) H1
theorem pi_enT {X : Cx} {e : Expr} {ta : TA} {p pos tp : Pos} {es : List Expr} {kk : Nat} (hg : Gl X "enumerate") (hm : X.mg "enumerate" = none) (ha : PA X [e] ta) (hs : starEach [e] X.env = [(false, eval e X.env)] := by rfl) :
    PI X (.Tuple es kk tp) (.Call (.Name "enumerate" p) [e] [] pos) (iEnT X.K ta) := by
  constructor
  intro pins s σ H R I h
  refine Call_ (ld_blt I hg hm boot_enumerate (PyProof.Rows.callWith_type1 (thn (ha.run pos pins s σ H _ I h) fun us s1 hh => ?_) hs rfl))
  obtain ⟨vs, H1, I1, r1, a, xs, ex, hq, q⟩ := hh
  subst ex
  cases r1 with
  | cons r rr =>
    cases rr
    cases r
    obtain ⟨its, rv, p2, hz⟩ := I1.tuple hq
    refine enumT_call (begins_tuple a its.toArray) p2 fun h2 he hd hk => wpAny_pyIter_enum he ?_
    have I2 : Inv X pins σ H1 { s1 with heap := h2 } := I1.kept (t' := s1.toks) hk
    refine ⟨s1.heap.objs.size + 1, [s1.heap.objs.size + 1, s1.heap.objs.size], _, _, H1, rfl, I2, turn_enT a (s1.heap.objs.size + 1) s1.heap.objs.size, ⟨⟨.none, he⟩, ⟨_, hd, rfl, rfl⟩, Nat.succ_ne_self _⟩, fun b hb => ?_, q⟩
    have ge : s1.heap.objs.size ≤ b := by
      rcases two_of hb with z | z
      · rw [z]; exact Nat.le_add_right _ _
      · rw [z]; exact Nat.le_refl _
    exact I1.fpOk ge (I1.hok.fresh ge)
theorem walk_enT {K : PySem.W.Frag} {a : Addr} {xs : List V} : Walk (ItEnT K a) xs.length (fun H => SqT K H a xs) (YPair (fun i => some (.int (i : Nat))) (fun i => xs[i]?)) where
  goes := fun i _ hi q => ⟨xs, xs[i], q, by simp [hi]⟩
  stops := fun _ q => ⟨xs, q, Nat.le_refl _⟩
  yields := fun i H v H2 _ q y => let ⟨p, x, h1, h2, h3, h4⟩ := y; ⟨p, .int (i : Nat), x, h1, h2, h3, rfl, h4 xs q⟩
end L2
set_option Elab.async false
set_option linter.all false
set_option maxRecDepth 100001
set_option maxHeartbeats 1999999
/-! enumerate over a text. -/
namespace L2
open PySem.Spec PySem PyProof.Rows
def ItEnS (x : Str) : It where
  go := fun i _ => i < x.cps.size
  yld := fun i H v H2 => ∃ p c, v = .ref p ∧ H p = none ∧ H2 = upd H p (.tup [.int (i : Nat), .str ⟨#[c]⟩]) ∧ x.cps[i]? = some c
  stop := fun i _ => x.cps.size ≤ i
theorem strIter_at {h h' : Heap} {a : Addr} {ty : String} {x : Str} {t : Tok} {i : Nat} (y : h.IsStrIter a ty x t i) (k : ∀ o, h.get? a = some o → h'.get? a = some o) : h'.IsStrIter a ty x t i := let ⟨o, ho, r⟩ := y; ⟨o, k o ho, r⟩
theorem text_end {prog : Program} {w : World} {A : Around} {E : Value → Shared → Prop} {s : Shared} {it : Addr} {x : Str} {t : Tok} {i : Nat} {Q : Value → Shared → Prop} (hh : A.handled = none) (hit : s.heap.IsStrIter it (strIterType x) x t i) (hx : x.cps[i]? = none)
    (hE : ∀ h' e, Heap.ExtBut it s.heap h' → (∃ o, h'.get? e = some o ∧ o.cls = .type "StopIteration") → E (.ref e) { s with heap := h' }) : wpAny (model prog w) A (Builtin.SmallTypes.nextOf (.ref it)) Q E s := by
  cases ha : x.cps.all (· < 128)
  · simp only [strIterType, ha, Bool.false_eq_true, if_false] at hit
    exact wpAny_nextOf_wide_end hh hit hx hE
  · simp only [strIterType, ha, if_true] at hit
    exact wpAny_nextOf_ascii_end hh hit hx hE
theorem turn_enS {P : Program} {W : World} {K : PySem.W.Frag} {es : List Expr} {kk : Nat} {tp : Pos} (x : Str) (t : Tok) (e d : Addr) :
    Turn P W K (.Tuple es kk tp) (ItEnS x) [e, d] e (fun i h => (∃ was, IsEnum h e d ((i : Nat) : Int) was) ∧ h.IsStrIter d (strIterType x) x t i ∧ e ≠ d) where
  mem := List.mem_cons_self
  obj := fun i h st b hb => by
    obtain ⟨⟨was, he⟩, ⟨o, ho, hc, hd⟩, _⟩ := st
    rcases two_of hb with rfl | rfl
    · exact ⟨_, he, fun _ q => nomatch q⟩
    · exact ⟨o, ho, fun _ q => by rw [hd] at q; cases q⟩
  keep := fun i h h2 st k => ⟨let ⟨was, he⟩ := st.1; ⟨was, k e (by simp) _ he⟩, strIter_at st.2.1 fun o q => k d (by simp) o q, st.2.2⟩
  item := by
    intro X hP hW hK hc i pins s σ H E I hf st hg
    subst hP hW hK
    obtain ⟨⟨was, he⟩, hit, hne⟩ := st
    have hi : i < x.cps.size := hg
    have le : e < s.heap.objs.size := Heap.lt_size he
    have ld : d < s.heap.objs.size := let ⟨_, q, _⟩ := hit; Heap.lt_size q
    have D := Draws.text (prog := X.prog) (w := X.w) (A := X.A.in1) (I.ok.hd hc) d x t
    refine wpAny_pyNext_enum_itemD (n := x.cps.size) (i := i) D he hit hi hne (fun m => ?_) fun y h2 tk hy ho hs2 hT hsz hk => ?_
    · exact hne (by simpa using m)
    obtain ⟨c, u, hcx, rfl⟩ := hy
    refine ⟨_, rfl, wpAny_letOwnedTupleGo_enum (s := { s with heap := h2, toks := tk + 1 }) ho fun h3 he3 sb => ?_⟩
    have hT3 : h3.get? s.heap.objs.size = some { cls := .type "tuple", data := .seq #[.int i tk, .str ⟨#[c]⟩ u] } := (sb.2 _ (Nat.ne_of_gt le)).trans hT
    have new : ObjOk X.prog X.w (upd H s.heap.objs.size (.tup [.int (i : Nat), .str ⟨#[c]⟩])) h3 s.heap.objs.size (.tup [.int (i : Nat), .str ⟨#[c]⟩]) :=
      ⟨by show 2 ≤ sizeLine; decide, [.int i tk, .str ⟨#[c]⟩ u], .cons ⟨_, rfl⟩ (.cons ⟨_, rfl⟩ .nil), ⟨_, hT3, rfl, _, rfl⟩⟩
    have J : Inv X pins σ (upd H s.heap.objs.size (.tup [.int (i : Nat), .str ⟨#[c]⟩])) { s with heap := h3, toks := tk + 1 } :=
      I.turnedNew (ch := [e, d]) (fun b o hb q => (sb.2 b fun z => hb (by simp [z])).trans (hk b o (fun z => hb (by simp [z])) (fun z => hb (by simp [z])) q)) hf (Nat.le_refl _) new
    refine ⟨.ref s.heap.objs.size, _, J, rfl, ⟨_, c, rfl, I.hok.fresh (Nat.le_refl _), rfl, hcx⟩, ⟨⟨.str ⟨#[c]⟩ u, ?_⟩, strIter_at hs2 fun o q => (sb.2 d (Ne.symm hne)).trans q, hne⟩, fun b hb => ?_⟩
    · have e1 : ((i + 1 : Nat) : Int) = (i : Int) + 1 := by omega
      rw [e1]
      exact he3
    · have lb : b < s.heap.objs.size := by
        rcases two_of hb with z | z
        · rw [z]; exact le
        · rw [z]; exact ld
      rw [upd_ne (Nat.ne_of_lt lb)]
      exact (hf b hb).1
  done := by
    intro X hP hW hK hc i pins s σ H E I hf st hg
    subst hP hW hK
    obtain ⟨⟨was, he⟩, hit, hne⟩ := st
    have hx : x.cps.size ≤ i := hg
    obtain ⟨f0, f1, f2, f3, f4, f5⟩ := hf d (by simp)
    unfold pyNext
    refine wpAny_bind (wpAny_attempt (wpAny_callSpecial?_slot (name := Str.ofString "__next__") ⟨_, he, rfl⟩ F.slot_enumerate_next
      (wpAny_call_entry F.slot_enumerate_next ⟨_, he, rfl⟩ F.entry_enumerate_next ?_ (F.args_enumerate_next_1 _))))
    show wpAny _ _ (field (.ref e) 2 >>= _) _ _ _
    refine wpAny_bind (wpAny_field he rfl (x := .ref d) rfl ?_)
    have none : x.cps[i]? = none := by simp [hx]
    refine wpAny_bind (text_end (I.ok.hd hc) hit none fun h2 ex eb hx2 => ?_)
    obtain ⟨o, ho, hcl⟩ := hx2
    refine wpAny_bind (wpAny_isInstance (T := "StopIteration") (b := true) ⟨o, ho, hcl⟩ isSubtype_stop ?_)
    exact wpAny_pure ⟨rfl, I.turned (t' := s.toks) (fun b o hb q => eb b o hb q) f0 f1 f3 f4 f5⟩
  self := fun A i s Q E st h => let ⟨⟨_, he⟩, _⟩ := st; wpAny_pyIter_enum he h
def iEnS (ta : TA) : TI := fun σ H R => ta σ H fun vs H1 => ∃ x, vs = [.str x] ∧ R (ItEnS x) H1
theorem pi_enS {X : Cx} {e : Expr} {ta : TA} {p pos tp : Pos} {es : List Expr} {kk : Nat} (hg : Gl X "enumerate") (hm : X.mg "enumerate" = none) (ha : PA X [e] ta) (hs : starEach [e] X.env = [(false, eval e X.env)] := by rfl) :
    PI X (.Tuple es kk tp) (.Call (.Name "enumerate" p) [e] [] pos) (iEnS ta) := by
  constructor
  intro pins s σ H R I h
  refine Call_ (ld_blt I hg hm boot_enumerate (PyProof.Rows.callWith_type1 (thn (ha.run pos pins s σ H _ I h) fun us s1 hh => ?_) hs rfl))
  obtain ⟨vs, H1, I1, r1, x, ex, q⟩ := hh
  subst ex
  cases r1 with
  | cons r rr =>
    cases rr
    obtain ⟨t, rfl⟩ := r
    refine enumT_call (begins_text x t) trivial fun h2 he hd hk => wpAny_pyIter_enum he ?_
    have I2 : Inv X pins σ H1 { s1 with heap := h2 } := I1.kept (t' := s1.toks) hk
    refine ⟨s1.heap.objs.size + 1, [s1.heap.objs.size + 1, s1.heap.objs.size], _, _, H1, rfl, I2, turn_enS x t (s1.heap.objs.size + 1) s1.heap.objs.size, ⟨⟨.none, he⟩, ⟨_, hd, rfl, rfl⟩, Nat.succ_ne_self _⟩, fun b hb => ?_, q⟩
    have ge : s1.heap.objs.size ≤ b := by
      rcases two_of hb with z | z
      · rw [z]; exact Nat.le_add_right _ _
      · rw [z]; exact Nat.le_refl _
    exact I1.fpOk ge (I1.hok.fresh ge)
theorem walk_enS {x : Str} : Walk (ItEnS x) x.cps.size (fun _ => True) (YPair (fun i => some (.int (i : Nat))) (fun i => (x.cps[i]?).map fun c => V.str ⟨#[c]⟩)) where
  goes := fun i _ hi _ => hi
  stops := fun _ _ => Nat.le_refl _
  yields := fun i H v H2 _ _ y => let ⟨p, c, h1, h2, h3, h4⟩ := y; ⟨p, .int (i : Nat), .str ⟨#[c]⟩, h1, h2, h3, rfl, by show Option.map _ _ = _; rw [h4]; rfl⟩
end L2
set_option Elab.async false
set_option maxRecDepth 100001
set_option maxHeartbeats 3999999
/-! raise C(), C an own class whose own __init__ stores nothing. -/
namespace L2
open PySem.Spec PySem PyProof.Rows
section
variable {X : Cx}
theorem mk_bare {pins : List (Addr × Obj)} {σ : St} {H1 H2 : Hp} {Q : XK} {hp hp2 h2 : Heap} {g1 g2 : Array GenState} {d1 d2 : Drawn} {t1 t2 : Nat} {o1 o2 : OsState} {a C : Addr} (T : Raises X (.ref C))
    (I1 : Inv X pins σ H1 ⟨hp, g1, d1, t1, o1⟩) (big : hp.objs.size ≤ a) (k : ∀ b o, hp.get? b = some o → hp2.get? b = some o) (un : Un (frs X.stack) [] (upd H1 a (exo a C none)) H2 hp2 h2)
    (hok : HOk X.prog X.w H2 h2) (ho : o2 = o1) (hb : AllBare g2) (ea : H2 a = some (exo a C none)) (q : Q (.ref C) none (del H2 a)) : MkP X pins σ Q (.ref a) ⟨h2, g2, d2, t2, o2⟩ := by
  obtain ⟨t0, he⟩ := exo_at hok ea
  have na : H1 a = none := I1.hok.fresh big
  obtain ⟨G, gyes, gno⟩ := restrict h2 fun b => decide (b ≠ a)
  have gk : ∀ b, b ≠ a → G.get? b = h2.get? b := fun b z => gyes b (decide_eq_true z)
  have ga : G.get? a = none := gno a (by simp)
  have ne : ∀ {b : Addr} {o : Obj}, hp.get? b = some o → b ≠ a := fun z => Nat.ne_of_lt (Nat.lt_of_lt_of_le (Heap.lt_size z) big)
  have free : ∀ {b : Addr}, b ≠ a → H1 b = none → upd H1 a (exo a C none) b = none := fun z n => (upd_ne z).trans n
  have U : Un (frs X.stack) [] H1 (del H2 a) hp G := {
    keep := fun b o z n hf hx => (gk b (ne z)).trans (un.keep b o (k b o z) (free (ne z) n) hf hx)
    slot := fun b o z n hf hx => let ⟨sl, e⟩ := un.slot b o (k b o z) (free (ne z) n) hf hx; ⟨sl, (gk b (ne z)).trans e⟩
    free := fun b o z n hx => (del_ne (ne z)).trans (un.free b o (k b o z) (free (ne z) n) hx)
    there := fun b o z hx => let ⟨o', e⟩ := un.there b o (k b o z) hx; ⟨o', (gk b (ne z)).trans e⟩
    tups := fun b xs z => (del_ne (ne_of_none z na)).trans (un.tups b xs ((upd_ne (ne_of_none z na)).trans z))
    frzs := fun b o v z => (del_ne (ne_of_none z na)).trans (un.frzs b o v ((upd_ne (ne_of_none z na)).trans z))
    tbls := fun b ps z => let ⟨m, e⟩ := un.tbls b ps ((upd_ne (ne_of_none z na)).trans z); ⟨m, (del_ne (ne_of_none z na)).trans e⟩ }
  have hG : HOk X.prog X.w (del H2 a) G := fun b o z => by
    have hba : b ≠ a := fun e => by
      rw [e, del_same] at z
      cases z
    rw [del_ne hba] at z
    have own : ∀ {c : Addr}, H2 c = some (.own b) → c ≠ a := fun hc => at_ne ea hc exo_own
    refine (hok b o z).stay (fun c v hc y => ?_) (fun c hc => (del_ne (own hc)).trans hc) fun c xs hc => (del_ne (at_ne ea hc exo_tup)).trans hc
    refine (gk c ?_).trans y
    rcases hc with rfl | hc
    · exact hba
    · exact own hc
  have J : Inv X pins σ (del H2 a) ⟨G, g2, d2, t2, o2⟩ := I1.call' (ch := []) ho U hG hb fun b z => absurd z (by simp)
  refine ⟨a, _, _, ⟨G, g2, d2, t2, o2⟩, _, .ref C, none, rfl, J, fun b o z => ?_, ga, he, ⟨rfl, rfl⟩, rfl, rfl, del_same, rfl, hb, T, q⟩
  have hba : b ≠ a := fun e => by
    rw [e] at z
    have z' : G.get? a = some o := z
    rw [ga] at z'
    cases z'
  exact (gk b hba).symm.trans z
/-- C(): what its __init__ keeps, at the fresh exception -/
def tMkO0 (C : Addr) (sp : Sp) : St → Hp → XK → Prop := fun _ H Q => ∀ a, H a = none → sp [.ref a] (upd H a (exo a C none)) (fun v H2 => v = .non ∧ H2 a = some (exo a C none) ∧ Q (.ref C) none (del H2 a)) (fun _ _ _ => False)
theorem pmk_oex0 {CX : CXT} {x : Str} {p pos : Pos} {C fI : Addr} {k : Nat} {fd : FuncData} {ps : List Str} {sp : Sp} (T : OexC X.K C) (iC : PySem.W.findIn X.K (.ref C) "__init__" = some (some (.ref fI))) (tI : PySem.W.typeIn X.K (.ref fI) = some (.type "function"))
    (F1 : FnOk X.prog X.w X.K X.mg X.base CX k fI fd ps sp) (hr : Room (k + 1) X.A) (hb : Binds X.K fd ps []) (hx : Passes CX X (fun _ _ _ => False)) (hg : Gl X x) (hm : X.mg x = some (.ref C)) (hdb : (x == ("__debug__" : Str)) = false := by decide) :
    PMk X (.Call (.Name x p) [] [] pos) (tMkO0 C sp) := by
  intro pins s σ H Q I h
  obtain ⟨nm, qn, N, bs, bm, sn, sb, ab, col, dd, j0, j1, j2, j3, j5, hC, hbm⟩ := T.cls
  refine wpAny_Call_Name_kw (ld_glob I hg hm ?_ hdb)
  refine PySem.W.callWith_K0 I.kIn T.kC ?_
  show wpAny _ _ (call (.ref C) []) _ _ _
  obtain ⟨hp, g, dr, tk, os⟩ := s
  have big : hp.objs.size ≤ hp.objs.size + 1 := Nat.le_succ _
  have hn : H (hp.objs.size + 1) = none := I.hok.fresh big
  have hq := h (hp.objs.size + 1) hn
  have kk : ∀ b o, hp.get? b = some o → ((hp.push (PySem.W.kdv_tup [])).push (PySem.HandSPX.excO C hp.objs.size)).get? b = some o := fun b o e => Heap.get?_push_of_some _ (Heap.get?_push_of_some _ e)
  have hget : ((hp.push (PySem.W.kdv_tup [])).push (PySem.HandSPX.excO C hp.objs.size)).get? (hp.objs.size + 1) = some (PySem.HandSPX.excO C hp.objs.size) := by heap_get
  have I2 : Inv X pins σ (upd H (hp.objs.size + 1) (exo (hp.objs.size + 1) C none)) ⟨(hp.push (PySem.W.kdv_tup [])).push (PySem.HandSPX.excO C hp.objs.size), g, dr, tk, os⟩ := I.laid (t' := tk) kk big (exo_ok hget)
  have r2 : Vals [V.ref (hp.objs.size + 1)] [Value.ref (hp.objs.size + 1)] := .cons rfl .nil
  have hl : ([Value.ref (hp.objs.size + 1)] ++ ([] : List Value)).length = ps.length := (F1.len _ _ _ _ hq)
  refine wpAny_call (PySem.HandSPX.call_own F.excBase_ValueError (fun Y => PySem.HandSPX.refsVE_contains Y bm hbm) (I.kIn _ _ hC) (PySem.W.looks_findIn I.kIn iC) (fun self => PySem.W.bind_fn I.kIn self tI) (by show 0 ≤ sizeLine; exact Nat.zero_le _)
    (codeAny_mono (F1.run _ X.stack _ _ ⟨[Value.ref (hp.objs.size + 1)], []⟩ [Value.ref (hp.objs.size + 1)] _ _ (fun _ _ _ => False) (hr.make C [] []) (I2.env0.make C [] []) (hb _ [Value.ref (hp.objs.size + 1)] I2.kIn hl) r2 hq) fun r s2 hq2 => ?_))
  cases r with
  | error er => exact hx pins σ _ _ er s2 I2 hq2
  | ok fl =>
    cases fl with
    | ret u =>
      obtain ⟨v, H2, os2, bare2, un2, hok2, rv, ev, ea, q2⟩ := hq2
      subst ev
      obtain ⟨h2, g2, d2, t2, o2⟩ := s2
      exact ⟨rv, mk_bare (raises_own T.exC T.tyC) I big kk un2 hok2 os2 bare2 ea q2⟩
    | next => exact hq2.elim
    | brk => exact hq2.elim
    | cont => exact hq2.elim
end
end L2
set_option Elab.async false
set_option maxRecDepth 100001
set_option maxHeartbeats 3999999
/-! try with several clauses, some of which name the exception. -/
namespace L2
open PySem.Spec PySem PyProof.Rows
/-- a clause: its class, the slot of its name, its suite's reading -/
abbrev Clause := Value × Option Nat × (Addr → Value → Option Addr → TS)
def endsOf : Option Nat → Ends → Ends
  | none, D => D
  | some i, D => ⟨fun σ H => D.nx (σ.set i none) H, D.rt, fun σ H => D.bk (σ.set i none) H, fun σ H => D.ct (σ.set i none) H⟩
def slotOf : Option Nat → Addr → St → St
  | none, _, σ => σ
  | some i, a, σ => σ.set i (some (.ref a))
def wClauses (K : PySem.W.Frag) (Wout : WX) (D : Ends) : List Clause → WX
  | [], cls, d, σ, H => Wout cls d σ H
  | (c, i, ts) :: r, cls, d, σ, H => ∃ b, PySem.W.exmOne K cls c = some b ∧ (b = true → ∀ a, H a = none → ts a cls d (endsOf i D) (slotOf i a σ) H) ∧ (b = false → wClauses K Wout D r cls d σ H)
def SuiteOk (X : Cx) (sts : List Stmt) (ts : Addr → Value → Option Addr → TS) : Prop :=
  ∀ (a : Addr) (oe : Obj) (cls : Value) (d : Option Addr) (pn : List (Addr × Obj)), Zc cls d oe → (∃ vs, oe.data = .fields vs) → PSs (X.suite a ((a, oe) :: pn)) sts (ts a cls d)
inductive ClausesOk (X : Cx) : List ExceptHandler → List Clause → Prop
  | nil : ClausesOk X [] []
  | plain {x c ts b₀ su np p2 hds l} (hc : Names X x c) (ok : SuiteOk X (b₀ :: su) ts) (r : ClausesOk X hds l) : ClausesOk X (.ExceptHandler (some (.Name x np)) none (b₀ :: su) p2 :: hds) ((c, none, ts) :: l)
  | named {x c ts b₀ su np p2 hds l n i} (hc : Names X x c) (hi : X.N[i]? = some n) (hn : X.env.kindOf n = some .local) (ok : SuiteOk X (b₀ :: su) ts) (r : ClausesOk X hds l) :
      ClausesOk X (.ExceptHandler (some (.Name x np)) (some n) (b₀ :: su) p2 :: hds) ((c, some i, ts) :: l)
section
variable {X : Cx} {pins : List (Addr × Obj)} {σ : St} {H : Hp} {z sI : Shared} {a : Addr} {cls : Value} {d : Option Addr} {B h : Heap} {D : Ends}
/-- an exception that has come to its try: what is known there -/
structure Come (X : Cx) (pins : List (Addr × Obj)) (σ : St) (H : Hp) (sI z : Shared) (a : Addr) (cls : Value) (d : Option Addr) (B h : Heap) : Prop where
  hs : X.stack = X.env :: X.outer
  hf : X.env.frame = some X.env.locals
  J : Inv X pins σ H sI
  nb : ∀ b o, sI.heap.get? b = some o → b ∉ frs X.stack → B.get? b = some o
  fl : HandSPX.FlyingZ B (X.env :: X.outer) a (Zc cls d) h
  up : sI.heap.UpToSlots h
  na : H a = none
  os : z.os = sI.os
  ag : AllBare z.gens
theorem Come.inv (C : Come X pins σ H sI z a cls d B h) : Inv X pins σ H { z with heap := h } := C.J.landed C.nb C.fl.1 C.up C.os C.ag
theorem Come.apart (C : Come X pins σ H sI z a cls d B h) : a ≠ X.env.locals ∧ a ∉ X.fs := by
  obtain ⟨oe, vs, he, _, hd⟩ := C.fl.there
  have no : a ∉ frs (X.env :: X.outer) := fun m => by
    obtain ⟨_, o, e, q⟩ := C.fl.2.2.1.mem m
    rw [he] at e
    cases e
    exact q _ hd
  refine ⟨fun e => no (List.mem_filterMap.mpr ⟨X.env, List.mem_cons_self, by rw [C.hf, e]⟩), fun m => ?_⟩
  obtain ⟨e, he, q⟩ := List.mem_filterMap.mp m
  exact no (List.mem_filterMap.mpr ⟨e, List.mem_cons_of_mem _ he, q⟩)
theorem Come.suite (C : Come X pins σ H sI z a cls d B h) : ∃ oe, Zc cls d oe ∧ (∃ vs, oe.data = .fields vs) ∧ h.get? a = some oe ∧ Inv (X.suite a ((a, oe) :: (X.pn ++ pins))) [] σ H { z with heap := h } := by
  obtain ⟨oe, vs, he, hz, hd⟩ := C.fl.there
  exact ⟨oe, hz, ⟨vs, hd⟩, he, C.inv.suite he hd C.na C.apart.1 C.apart.2⟩
theorem Come.step (C : Come X pins σ H sI z a cls d B h) {h2 : Heap} (fl : HandSPX.FlyingZ B (X.env :: X.outer) a (Zc cls d) h2) (up : h.UpToSlots h2) : Come X pins σ H sI z a cls d B h2 :=
  ⟨C.hs, C.hf, C.J, C.nb, fl, C.up.trans up, C.na, C.os, C.ag⟩
/-- the class of a clause is looked at -/
theorem Come.test (C : Come X pins σ H sI z a cls d B h) {x : Str} {c : Value} {np : Pos} {b : Bool} (hc : Names X x c) (hb : PySem.W.exmOne X.K cls c = some b) {Q : Bool → Shared → Prop} {E E2 : Value → Shared → Prop} (q : Q b { z with heap := h }) :
    wpAny (model X.prog X.w) (X.A.mark (some (.ref a))) (eval (.Name x np) X.env) (fun u s1 => wpAny (model X.prog X.w) (X.A.mark (some (.ref a))) (excMatches (.ref a) u) Q E2 s1) E { z with heap := h } := by
  obtain ⟨oe, hz, _, he, S⟩ := C.suite
  have LT : PySem.W.Looks (model X.prog X.w) h (typeOf (.ref a)) cls := fun _ _ _ _ k q2 => wpAny_typeOf_ref (k _ _ he) (by rw [hz.1]; exact q2)
  have LM := (PySem.W.exm_one (M := model X.prog X.w) C.inv.kIn LT hb).here (A := X.A.mark (some (.ref a))) (Q := Q) (E := E2) (s := { z with heap := h }) q
  obtain ⟨hg, hdb, hm | ⟨hm, hv, hnn⟩⟩ := hc
  · exact ld_glob (X := X.suite a ((a, oe) :: (X.pn ++ pins))) S hg hm LM hdb
  · exact ld_blt (X := X.suite a ((a, oe) :: (X.pn ++ pins))) S hg hm hv LM hnn hdb
/-- no clause is left: it goes on -/
theorem Come.on {Wout : WX} (C : Come X pins σ H sI z a cls d B h) (tk : Takes X Wout) (wo : Wout cls d σ H) :
    wpAny (model X.prog X.w) X.A (handleBy (.ref a) X.env []) (SP X pins D) X.xe { z with heap := h } := by
  refine wpAny_handleBy_nil ?_
  obtain ⟨_, _, _, oe, vs, T, oT, ts, he, _, hd, h1, _⟩ := id C.fl
  unfold PySem.passOn
  refine wpAny_bind (wpAny_field he hd h1 ?_)
  rw [if_neg (show ¬ ((Value.ref T == Value.none) = true) from by simp)]
  have fin : wpAny (model X.prog X.w) X.A (setFlight (.ref a) X.env.frame) (fun _ s4 => wpAny (model X.prog X.w) X.A (throw (.ref a) : Sem Flow) (SP X pins D) X.xe s4) X.xe { z with heap := h } := by
    rw [C.hf]
    refine HandSPX.setFlight_upZ C.fl fun h4 hh4 up4 => wpAny_throw (tk _ _ ?_)
    exact ⟨a, B, sI, pins, σ, H, cls, d, rfl, C.J, C.nb, C.up.trans up4, .inr (.inr (by rw [C.hs]; exact hh4)), C.na, C.os, C.ag, wo⟩
  first | exact wpAny_bind (wpAny_pure (wpAny_bind fin)) | exact wpAny_bind fin
theorem Come.run {Wout : WX} {hds : List ExceptHandler} {l : List Clause} (hN : X.N.Nodup) (tk : Takes X Wout) (ok : ClausesOk X hds l) : ∀ {h : Heap}, Come X pins σ H sI z a cls d B h → wClauses X.K Wout D l cls d σ H →
    wpAny (model X.prog X.w) X.A (handleBy (.ref a) X.env hds) (SP X pins D) X.xe { z with heap := h } := by
  induction ok with
  | nil => exact fun C w => C.on tk w
  | plain hc su r ih =>
    intro h C w
    obtain ⟨b, hb, yes, no⟩ := w
    refine wpAny_handleBy_cons (codeAny_handlers_test (C.test hc hb ?_)) (by intro q; cases q)
    cases b with
    | false => exact ih C (no rfl)
    | true =>
      refine codeAny_handlers_suite ?_
      refine HandSPX.lands_againZ C.fl fun h4 fl4 up4 => ?_
      have C4 := C.step fl4 up4
      obtain ⟨oe, hz, hd, he, S⟩ := C4.suite
      refine wpAny_mono ((su a oe cls d (X.pn ++ pins) hz hd).run [] _ _ H _ S (yes rfl a C.na)) (fun f s6 hsp => ?_) (fun _ _ q => False.elim q)
      cases f with
      | next => exact let ⟨_, _, S6, q6⟩ := hsp; ⟨_, _, S6.unsuite C.J.ok, q6⟩
      | brk => exact let ⟨_, _, S6, q6⟩ := hsp; ⟨_, _, S6.unsuite C.J.ok, q6⟩
      | cont => exact let ⟨_, _, S6, q6⟩ := hsp; ⟨_, _, S6.unsuite C.J.ok, q6⟩
      | ret u => exact let ⟨_, _, _, S6, r6, q6⟩ := hsp; ⟨_, _, _, S6.unsuite C.J.ok, r6, q6⟩
  | @named x c ts b₀ suite np p2 hds l n i hc hi hn su r ih =>
    intro h C w
    obtain ⟨b, hb, yes, no⟩ := w
    refine wpAny_handleBy_cons (codeAny_handlers_test (C.test hc hb ?_)) (by intro q; cases q)
    cases b with
    | false => exact ih C (no rfl)
    | true =>
      refine codeAny_handlers_suite_as ?_
      refine HandSPX.lands_againZ C.fl fun h4 fl4 up4 => ?_
      have C4 := C.step fl4 up4
      obtain ⟨oe, hz, hd, he, S⟩ := C4.suite
      refine store_ok (X := X.suite a ((a, oe) :: (X.pn ++ pins))) (v := .ref a) S hN hi (.inl hn) rfl (fun s5 S5 => ?_) (.inr hn)
      refine wpAny_mono ((su a oe cls d (X.pn ++ pins) hz hd).run [] s5 _ H _ S5 (yes rfl a C.na)) (fun f s6 hsp => ?_) (fun _ _ q => False.elim q)
      have away : ∀ {σ6 : St} {H6 : Hp} {Q : Shared → Prop}, Inv (X.suite a ((a, oe) :: (X.pn ++ pins))) [] σ6 H6 s6 → (∀ s7, Inv X pins (σ6.set i none) H6 s7 → Q s7) →
          wpAny (model X.prog X.w) X.A (do bindName X.env n .none; unbindBehindTheSuite X.env n p2) (fun _ s7 => Q s7) X.xe s6 := fun S6 hq => gone_ok (S6.unsuite C.J.ok) hN hi hn hq
      cases f with
      | next => exact let ⟨_, _, S6, q6⟩ := hsp; away S6 fun s7 J7 => ⟨_, _, J7, q6⟩
      | brk => exact let ⟨_, _, S6, q6⟩ := hsp; away S6 fun s7 J7 => ⟨_, _, J7, q6⟩
      | cont => exact let ⟨_, _, S6, q6⟩ := hsp; away S6 fun s7 J7 => ⟨_, _, J7, q6⟩
      | ret u => exact let ⟨_, _, _, S6, r6, q6⟩ := hsp; away S6 fun s7 J7 => ⟨_, _, _, J7, r6, q6⟩
end
/-- try: body / except C1 as n: .. / except C2: .. -/
theorem ps_try_clauses {X : Cx} {body : List Stmt} {hd₀ : ExceptHandler} {hds : List ExceptHandler} {l : List Clause} {pos : Pos} {tb : WX → TS} {Wout : WX} (hs : X.stack = X.env :: X.outer) (hf : X.env.frame = some X.env.locals) (hN : X.N.Nodup) (tk : Takes X Wout)
    (hb : ∀ (W : WX) (pn : List (Addr × Obj)) (xe : Value → Shared → Prop), Takes (X.tr pn xe) W → PassesOwn (model X.prog X.w) X.A X.env xe → PSs (X.tr pn xe) body (tb W)) (ok : ClausesOk X (hd₀ :: hds) l) :
    PS X (.Try body (hd₀ :: hds) [] [] pos) (fun D σ H => tb (wClauses X.K Wout D l) D σ H) := by
  constructor
  intro pins s σ H D I h
  have oX := I.ok
  have fr : X.A.frames = some (X.env :: X.outer) := by rw [oX.frames, hs]
  refine wpAny_Try_except ?_
  refine wpAny_mono ((hb (wClauses X.K Wout D l) (X.pn ++ pins) (fun e s₁ => wpAny (model X.prog X.w) X.A (noteFrame e X.env) (fun _ s₂ => wpAny (model X.prog X.w) X.A (setFlight e none) (fun _ s₃ =>
    wpAny (model X.prog X.w) X.A (handleBy e X.env (hd₀ :: hds)) (SP X pins D) X.xe s₃) X.xe s₂) X.xe s₁) (fun u s1 xx => ?_) PassesOwn.looking).run [] s σ H D (I.toTry _) h) (fun f s1 hsp => ?_) fun _ _ he => he
  · obtain ⟨a, B, sI, pins', σ', H', cls, d, rfl, J', nb, up, sky, na, os, ag, w⟩ := xx
    have sky' : Sky B (X.env :: X.outer) a (Zc cls d) X.env.locals s1.heap := by rw [← hs]; exact sky
    show wpAny (model X.prog X.w) X.A (noteFrame (.ref a) X.env) _ _ _
    refine Sky.land Zc.steady fr hf sky' fun h3 fl3 up3 => ?_
    exact Come.run (z := s1) hN tk ok ⟨hs, hf, J'.ofTry oX, nb, fl3, up.trans up3, na, os, ag⟩ w
  · cases f with
    | next => exact let ⟨σ', H', J', q⟩ := hsp; wpAny_execs_nil ⟨σ', H', J'.ofTry oX, q⟩
    | brk => exact let ⟨σ', H', J', q⟩ := hsp; ⟨σ', H', J'.ofTry oX, q⟩
    | cont => exact let ⟨σ', H', J', q⟩ := hsp; ⟨σ', H', J'.ofTry oX, q⟩
    | ret u => exact let ⟨v, σ', H', J', r, q⟩ := hsp; ⟨v, σ', H', J'.ofTry oX, r, q⟩
end L2
set_option Elab.async false
set_option linter.all false
set_option maxRecDepth 100001
set_option maxHeartbeats 3999999
/-! sorted(xs, key=lambda x: ..): any order of the keys that the sort can tell. -/
namespace SrtL
open PySem PyProof.Rows Srt SrtO
theorem zip_list (ks vs : List Value) : (ks.toArray.zip vs.toArray).toList = ks.zip vs := by
  rw [ksk_zip]
section
variable {prog : Program} {w : World} {A : Around} {E : Value → Shared → Prop} {s : Shared} {a kS : Addr} {e1 ek : Nat} {vs ks : List Value} {ltv : Value → Value → Bool} {R : PySem.Fin → Shared → Prop}
/-- what is left when the list is sorted -/
def doneHeap (h : Heap) (kS a : Addr) (out : Array Value) : Heap := (h.update kS (Obj.mapSeq fun _ => (#[] : Array Value))).update a (Obj.mapSeq fun _ => out)
theorem tail_ord {st : SortSt} (hk : s.heap.get? kS = some (seqObj "list" ks.toArray ek)) (ha : s.heap.get? a = some (seqObj "list" #[] e1)) (ne : kS ≠ a) (hz : vs.length ≤ sizeLine) (hl : ks.length = vs.length) (hsz : (arrOf st).size = vs.length) (hfl : failedOf st = none)
    (h : R (.done (.ret .none)) { s with heap := doneHeap s.heap kS a ((arrOf st).map (·.2)) }) : wpAny (model prog w) A (ksk_tail a false e1 (.ref kS) st) R E s := by
  have s1 := Heap.SameBut.update s.heap kS (Obj.mapSeq fun _ => (#[] : Array Value))
  have na1 : (s.heap.update kS (Obj.mapSeq fun _ => (#[] : Array Value))).get? a = some (seqObj "list" #[] e1) := (s1.2 a ne.symm).trans ha
  unfold ksk_tail
  try dsimp only
  refine wpAny_bind (listUpdate_at hk rfl ?_ (by rw [List.size_toArray]; omega) (Nat.zero_le _))
  refine wpAny_bind (wpAny_letGo ?_)
  refine wpAny_bind (seqEpoch_at na1 rfl ?_)
  refine wpAny_bind (listUpdate_at na1 rfl ?_ (Nat.zero_le _) (by simp only [Bool.false_eq_true, if_false, Array.size_map]; omega))
  rw [hfl]
  simp only [bne_self_eq_false, Bool.false_eq_true, if_false]
  exact wpAny_pure h
theorem end_ord (O : Swo ltv) (hk : s.heap.get? kS = some (seqObj "list" ks.toArray ek)) (ha : s.heap.get? a = some (seqObj "list" #[] e1)) (ne : kS ≠ a) (hz : vs.length ≤ sizeLine) (hl : ks.length = vs.length)
    (hS : 2 ≤ vs.length → ∃ κ, (∀ (Q : SortKind → Shared → Prop) (E : Value → Shared → Prop), Q κ s → wpAny (model prog w) A (keyKind' ks.toArray) Q E s) ∧ Cmp prog w A s κ (fun p => p.1 ∈ ks) (lt2 ltv))
    (h : ∀ ps : List Keyed, Srtd (lt2 ltv) ps → Stb (lt2 ltv) ps (ks.zip vs) → R (.done (.ret .none)) { s with heap := doneHeap s.heap kS a (ps.map (·.2)).toArray }) :
    wpAny (model prog w) A (ksk_end a false vs.toArray e1 (.ref kS) ks.toArray) R E s := by
  have hzs : (ks.toArray.zip vs.toArray).size = vs.length := by rw [Array.size_zip, List.size_toArray, List.size_toArray, hl, Nat.min_self]
  have fin : ∀ st : SortSt, Srtd (lt2 ltv) (arrOf st).toList → Stb (lt2 ltv) (arrOf st).toList (ks.toArray.zip vs.toArray).toList → R (.done (.ret .none)) { s with heap := doneHeap s.heap kS a ((arrOf st).map (·.2)) } := by
    intro st h1 h2
    rw [zip_list] at h2
    have h3 := h _ h1 h2
    have e : ((arrOf st).toList.map (·.2)).toArray = (arrOf st).map (·.2) := by
      rw [← Array.toList_map, Array.toArray_toList]
    rw [e] at h3
    exact h3
  have size : ∀ st : SortSt, Stb (lt2 ltv) (arrOf st).toList (ks.toArray.zip vs.toArray).toList → (arrOf st).size = vs.length := by
    intro st h2
    have := h2.perm.length_eq
    rw [Array.length_toList, Array.length_toList, hzs] at this
    exact this
  unfold ksk_end
  try dsimp only
  simp only [Bool.false_eq_true, if_false]
  by_cases h2 : vs.toArray.size < 2
  · rw [if_pos h2, if_pos h2]
    refine wpAny_bind (wpAny_pure ?_)
    rw [StateT.run_pure]
    refine wpAny_bind (wpAny_pure ?_)
    try dsimp only
    rw [List.size_toArray] at h2
    refine tail_ord (st := SortSt.mk' general' (ks.toArray.zip vs.toArray) #[] 7 none) hk ha ne hz hl hzs rfl (fin (SortSt.mk' general' (ks.toArray.zip vs.toArray) #[] 7 none) ?_ (Stb.refl _))
    show Srtd (lt2 ltv) (ks.toArray.zip vs.toArray).toList
    have hlz : (ks.toArray.zip vs.toArray).toList.length < 2 := by rw [Array.length_toList, hzs]; exact h2
    revert hlz
    generalize (ks.toArray.zip vs.toArray).toList = l
    intro hlz
    match l, hlz with
    | [], _ => exact List.Pairwise.nil
    | [v], _ => exact List.pairwise_singleton _ _
    | _ :: _ :: l, h => exact absurd h (by rw [List.length_cons, List.length_cons]; omega)
  · rw [if_neg h2, if_neg h2]
    rw [List.size_toArray] at h2
    obtain ⟨κ, hkind, hT⟩ := hS (by omega)
    refine wpAny_bind (hkind _ _ ?_)
    have hall : AllL (fun p : Keyed => p.1 ∈ ks) (ks.toArray.zip vs.toArray).toList := fun p hm => by
      rw [zip_list] at hm
      obtain ⟨x, y⟩ := p
      exact (List.of_mem_zip hm).1
    refine wpAny_bind (wpAny_mono (wpS_sortO (st0 := SortSt.mk' κ (ks.toArray.zip vs.toArray) #[] 7 none)
      (Q := fun _ st' => Srtd (lt2 ltv) (arrOf st').toList ∧ Stb (lt2 ltv) (arrOf st').toList (ks.toArray.zip vs.toArray).toList ∧ failedOf st' = none) (swo2 O) hT rfl hall rfl rfl fun st' a1 a2 a3 => ⟨a1, a2, a3⟩) ?_ fun _ _ e => e)
    rintro ⟨⟨⟩, st'⟩ s' ⟨rfl, hp1, hp2, hf⟩
    try dsimp only
    exact tail_ord hk ha ne hz hl (size st' hp2) hf (fin st' hp1 hp2)
/-- what is asked of the keys' making: J of the keys so far -/
structure Keys (prog : Program) (w : World) (A : Around) (f : Value) (vs : List Value) (ltv : Value → Value → Bool) (R : PySem.Fin → Shared → Prop) (a kS : Addr) (e1 : Nat) (J : List Value → Shared → Prop) : Prop where
  obj : ∀ ks s, J ks s → (∃ ek, s.heap.get? kS = some (seqObj "list" ks.toArray ek)) ∧ s.heap.get? a = some (seqObj "list" #[] e1)
  turn : ∀ (ks : List Value) (v : Value) (s : Shared), J ks s → vs[ks.length]? = some v → wpAny (model prog w) A (call f [v]) (fun k s' => (∃ ek, s'.heap.get? kS = some (seqObj "list" ks.toArray ek)) ∧ J (ks ++ [k]) { s' with heap := s'.heap.update kS (Obj.mapSeq (·.push k)) }) (fun _ _ => False) s
  kind : ∀ ks s, J ks s → ks.length = vs.length → 2 ≤ vs.length → ∃ κ, (∀ (Q : SortKind → Shared → Prop) (E : Value → Shared → Prop), Q κ s → wpAny (model prog w) A (keyKind' ks.toArray) Q E s) ∧ Cmp prog w A s κ (fun p => p.1 ∈ ks) (lt2 ltv)
  fin : ∀ ks s, J ks s → ks.length = vs.length → ∀ ps : List Keyed, Srtd (lt2 ltv) ps → Stb (lt2 ltv) ps (ks.zip vs) → R (.done (.ret .none)) { s with heap := doneHeap s.heap kS a (ps.map (·.2)).toArray }
theorem rest_ord {f : Value} {J : List Value → Shared → Prop} (O : Swo ltv) (ne : kS ≠ a) (hz : vs.length ≤ sizeLine) (h0 : J [] s) (Y : Keys prog w A f vs ltv R a kS e1 J) : wpAny (model prog w) A (ksk_rest a f false vs.toArray e1 (.ref kS)) R E s := by
  unfold ksk_rest
  refine wpAny_bind (wpAny_rule ?_)
  first
    | rw [List.forIn_toArray]
    | (rw [← Array.forIn_toList]; simp only [List.toList_toArray])
    | rw [← Array.forIn_toList]
  refine wpAny_bind (ksk_fold (fun i s' => ∃ ks, J ks s' ∧ ks.length = i) vs 0 s ⟨[], h0, rfl⟩ ?step ?done)
  case step =>
    rintro j x s' hx ⟨ks, hJ, lk⟩
    simp only [Nat.zero_add] at lk ⊢
    have hj : j < vs.length := (List.getElem?_eq_some_iff.mp hx).1
    refine wpAny_bind (wpAny_attempt (wpAny_mono (Y.turn ks x s' hJ (by rw [lk]; exact hx)) (fun k s'' he => ?_) fun _ _ hF => hF.elim))
    obtain ⟨⟨ek, hk⟩, hJ2⟩ := he
    try dsimp only
    refine wpAny_bind (listUpdate_at hk rfl ?_ (by rw [List.size_toArray]; omega) (Nat.le_trans (Nat.le_of_eq (Array.size_push ..)) (by rw [List.size_toArray]; omega)))
    exact wpAny_pure ⟨rfl, _, hJ2, by rw [List.length_append, lk]; rfl⟩
  case done =>
    rintro s' ⟨ks, hJ, lk⟩
    rw [Nat.zero_add] at lk
    obtain ⟨⟨ek, hk⟩, ha⟩ := Y.obj ks s' hJ
    try dsimp only
    refine wpAny_bind (listItems_at hk rfl ?_)
    exact end_ord O hk ha ne hz lk (Y.kind ks s' hJ lk) (Y.fin ks s' hJ lk)
theorem tree_ord {f : Value} {n : Nat} (O : Swo ltv) (ho : s.heap.get? a = some (seqObj "list" vs.toArray n)) (hz : vs.length ≤ sizeLine)
    (h : ∀ (h1 : Heap) (kS : Addr) (e1 : Nat), (∀ b o, b ≠ a → s.heap.get? b = some o → h1.get? b = some o) → h1.get? a = some (seqObj "list" #[] e1) → h1.get? kS = some (seqObj "list" #[] 0) → s.heap.objs.size ≤ kS →
      ∃ J, J [] { s with heap := h1 } ∧ Keys prog w A f vs ltv R a kS e1 J) : wpAny (model prog w) A (ksk_tree a f false) R E s := by
  have ha : a < s.heap.objs.size := Heap.lt_size ho
  have s1 := Heap.SameBut.update s.heap a (Obj.mapSeq fun _ => (#[] : Array Value))
  obtain ⟨e1, ho1⟩ : ∃ e1, (s.heap.update a (Obj.mapSeq fun _ => (#[] : Array Value))).get? a = some (seqObj "list" #[] e1) := ⟨_, get?_update_seq ho fun _ => #[]⟩
  have hkS : ((s.heap.update a (Obj.mapSeq fun _ => (#[] : Array Value))).push (seqObj "tuple" vs.toArray 0)).objs.size = s.heap.objs.size + 1 := by rw [size_push', Heap.size_update]
  unfold ksk_tree
  refine wpAny_bind (listItems_at ho rfl ?_)
  refine wpAny_bind (listUpdate_at ho rfl ?_ (by rw [List.size_toArray]; omega) (Nat.zero_le _))
  refine wpAny_bind (seqEpoch_at ho1 rfl ?_)
  refine wpAny_bind (wpAny_newTuple ?_ (by show vs.length ≤ _; exact hz))
  refine wpAny_bind (wpAny_newList ?_ (Nat.zero_le _))
  refine wpAny_holding ?_
  obtain ⟨J, j0, Y⟩ := h (((s.heap.update a (Obj.mapSeq fun _ => (#[] : Array Value))).push (seqObj "tuple" vs.toArray 0)).push (seqObj "list" #[] 0)) ((s.heap.update a (Obj.mapSeq fun _ => (#[] : Array Value))).push (seqObj "tuple" vs.toArray 0)).objs.size e1
    (fun b o hb e => Heap.get?_push_of_some _ (Heap.get?_push_of_some _ ((Heap.get?_update_ne _ _ _ _ hb).trans e))) (Heap.get?_push_of_some _ (Heap.get?_push_of_some _ ho1)) (Heap.get?_push_size _ rfl) (by rw [hkS]; exact Nat.le_succ _)
  exact rest_ord (s := { s with heap := ((s.heap.update a (Obj.mapSeq fun _ => (#[] : Array Value))).push (seqObj "tuple" vs.toArray 0)).push (seqObj "list" #[] 0) }) O (by rw [hkS]; exact Nat.ne_of_gt (Nat.lt_succ_of_lt ha)) hz j0 Y
/-- sorted(l, key=q) -/
theorem sorted_ord {l q : Addr} {Q : Value → Shared → Prop} (O : Swo ltv) (hl : s.heap.IsList l vs.toArray) (hz : vs.length ≤ sizeLine)
    (h : ∀ (h1 : Heap) (d kS : Addr) (e1 : Nat), (∀ b o, s.heap.get? b = some o → h1.get? b = some o) → h1.get? d = some (seqObj "list" #[] e1) → h1.get? kS = some (seqObj "list" #[] 0) → s.heap.objs.size ≤ d → s.heap.objs.size ≤ kS → kS ≠ d →
      ∃ J, J [] { s with heap := h1 } ∧ Keys prog w A.in1.in1 (.ref q) vs ltv (fun r s' => r = .done (.ret .none) ∧ Q (.ref d) s') d kS e1 J) :
    wpAny (model prog w) A (call (.builtin "sorted") [.ref l] [(Str.ofString "key", .ref q)]) Q E s := by
  refine call_function_entry_kw kind_sorted plain_sorted entry_sorted (ksk_s1 _ _) ?_
  unfold Builtin.«sorted»
  refine wpAny_bind (m := checkCount "sorted" 1 1 _) (wpAny_pure ?_)
  refine wpAny_bind (collect_list hl ?_ hz)
  refine wpAny_bind (wpAny_newList ?_ hz)
  have hsz : ((s.heap.push (seqObj "list" #[] 0)).update s.heap.objs.size (Obj.mapSeq (· ++ vs.toArray))).objs.size = s.heap.objs.size + 1 := by
    rw [Heap.size_update, size_push']
  have hoL : (((s.heap.push (seqObj "list" #[] 0)).update s.heap.objs.size (Obj.mapSeq (· ++ vs.toArray))).push (seqObj "list" vs.toArray 0)).get? (s.heap.objs.size + 1) = some (seqObj "list" vs.toArray 0) := by
    rw [← hsz]; exact Heap.get?_push_size _ rfl
  have keep : ∀ b o, s.heap.get? b = some o → b ≠ s.heap.objs.size + 1 ∧ (((s.heap.push (seqObj "list" #[] 0)).update s.heap.objs.size (Obj.mapSeq (· ++ vs.toArray))).push (seqObj "list" vs.toArray 0)).get? b = some o := fun b o q => by
    have hlt : b < s.heap.objs.size := Heap.lt_size q
    refine ⟨Nat.ne_of_lt (Nat.lt_succ_of_lt hlt), Heap.get?_push_of_some _ ?_⟩
    rw [Heap.get?_update_ne _ _ _ _ (Nat.ne_of_lt hlt)]
    exact Heap.get?_push_of_some _ q
  have size2 : (((s.heap.push (seqObj "list" #[] 0)).update s.heap.objs.size (Obj.mapSeq (· ++ vs.toArray))).push (seqObj "list" vs.toArray 0)).objs.size = s.heap.objs.size + 2 := by rw [size_push', hsz]
  show wpAny _ _ _ _ _ { s with heap := ((s.heap.push (seqObj "list" #[] 0)).update s.heap.objs.size (Obj.mapSeq (· ++ vs.toArray))).push (seqObj "list" vs.toArray 0) }
  rw [hsz]
  refine wpAny_bind (wpAny_holding (wpAny_call_entry_kw slot_list_sort ⟨_, hoL, rfl⟩ entry_list_sort ?_ (ksk_l1 _ _)))
  rw [ksk_t1]
  refine tree_ord O hoL hz fun h1 kS e1 hk ha hkS hge => ?_
  dsimp only at hge hk
  rw [size2] at hge
  obtain ⟨J, j0, Y⟩ := h h1 (s.heap.objs.size + 1) kS e1 (fun b o q => hk b o (keep b o q).1 (keep b o q).2) ha hkS (Nat.le_succ _) (Nat.le_trans (Nat.le_add_right _ 2) hge) (Nat.ne_of_gt (Nat.lt_of_lt_of_le (Nat.lt_succ_self _) hge))
  refine ⟨J, j0, ⟨Y.obj, Y.turn, Y.kind, fun ks s' hJ hl ps h1 h2 => ?_⟩⟩
  obtain ⟨_, z⟩ := Y.fin ks s' hJ hl ps h1 h2
  exact ⟨_, rfl, wpAny_pure ⟨_, rfl, z⟩⟩
end
end SrtL
set_option Elab.async false
set_option linter.all false
set_option maxRecDepth 100001
set_option maxHeartbeats 3999999
namespace LamX
open PySem PySem.Spec PyProof.Rows L2
/-! ### a lambda of one parameter -/
structure LamP (sc scope : Scope) (a : Str) : Prop where
  kind : scope.kind = .function
  co : scope.isCoroutine = false
  gen : scope.isGenerator = false
  par : scope.names.lookup a = some .local
  own : ∀ y ∈ scope.names, y.2 ≠ .cell ∧ (y.2 = .local → y.1 = a)
  free : ∀ y ∈ scope.names, y.2 = .free → sc.names.lookup y.1 = some .cell ∨ sc.names.lookup y.1 = some .free
def lamPB (sc scope : Scope) (a : Str) : Bool :=
  decide (scope.kind = .function) && !scope.isCoroutine && !scope.isGenerator && decide (scope.names.lookup a = some .local) && scope.names.all fun y => !decide (y.2 = .cell) && (!decide (y.2 = .local) || decide (y.1 = a)) && (!decide (y.2 = .free) || decide (sc.names.lookup y.1 = some .cell) || decide (sc.names.lookup y.1 = some .free))
theorem lamP_by {sc scope : Scope} {a : Str} (h : lamPB sc scope a = true) : LamP sc scope a := by
  unfold lamPB at h
  simp only [Bool.and_eq_true, Bool.or_eq_true, Bool.not_eq_true', decide_eq_true_eq, decide_eq_false_iff_not, List.all_eq_true] at h
  obtain ⟨⟨⟨⟨h1, h2⟩, h3⟩, h0⟩, h4⟩ := h
  refine ⟨h1, h2, h3, h0, fun y hy => ⟨(h4 y hy).1.1, fun e => ?_⟩, fun y hy e => ?_⟩
  · rcases (h4 y hy).1.2 with z | z
    · exact absurd e z
    · exact z
  · rcases (h4 y hy).2 with (z | z) | z
    · exact absurd e z
    · exact .inl z
    · exact .inr z
theorem LamP.has {X : Cx} {scope : Scope} {a : Str} (L : LamP X.env.scope scope a) (ok : X.Ok) : ∀ y ∈ scope.names, y.2 = .free → ∃ c, X.env.cells.lookup y.1 = some c := fun y hy e => by
  rcases L.free y hy e with k | k
  · exact ok.has _ (.inl k)
  · exact ok.has _ (.inr k)
section
variable {X : Cx} {pins : List (Addr × Obj)} {σ : L2.St} {H : Hp} {s : Shared}
theorem lam_start1 {A : Around} {E : XK} {scope : Scope} {a : Str} {i : Nat} {v : V} {u : Value} {f c' : Addr} {h₁ : Heap} {tk : Nat} (I : Inv X pins σ H s) (L : LamP X.env.scope scope a) (hA : A.frames = some X.stack) (hd : A.handled = none) (nd : X.N.Nodup) (hN : X.N[i]? = some a) (rv : RelV v u)
    (hns : h₁.Ns s.heap.objs.size fun y => ([(a, u)] : List (Str × Value)).reverse.lookup y) (kp : ∀ b o, s.heap.get? b = some o → h₁.get? b = some o) :
    Inv (lamCx X A X.stack s H E scope f c') [] (σ.set i (some v)) H { s with heap := h₁, toks := tk } := by
  have e0 := I.env0
  have hfree := L.has I.ok
  have cm : ∀ {y c}, (cloFrom X.env.cells scope.names []).lookup y = some c → X.env.cells.lookup y = some c := fun {y c} e => by
    rcases cloFrom_mem (PySem.mem_of_lookup e) with hm | ⟨h1, h2⟩
    · cases hm
    · obtain ⟨c1, hc⟩ := hfree _ h1 rfl
      have hc : X.env.cells.lookup y = some c1 := hc
      have e2 : c = c1 := by
        rw [h2, hc] <;> rfl
      rw [e2]
      exact hc
  have look : ∀ {y}, scope.names.lookup y = some .free → ∃ c, (cloFrom X.env.cells scope.names []).lookup y = some c := fun {y} hl => by
    have hy : (y, NameKind.free) ∈ scope.names := PySem.mem_of_lookup hl
    exact mem_lookup (cloFrom_has (cells := X.env.cells) (acc := []) hy)
  have cellK : ∀ {c : Addr} {v : Option Value}, s.heap.IsCell c v → h₁.IsCell c v := fun {c v} ⟨o, ho, hd⟩ => ⟨o, kp _ _ ho, hd⟩
  have noA : ∀ b : Addr, b ∉ (lamCx X A X.stack s H E scope f c').ex := fun b z => absurd (show b ∈ ([] : List Addr) from z) (by simp)
  refine ⟨⟨e0.mod, L.kind, rfl, rfl, Nat.le_refl _, fun y z c e1 e2 => I.ok.inj y z c (cm e1) (cm e2), fun y hy => ?_, fun y c z _ => ?_, fun _ => hd, Around.frames_deeper hA, .inr ⟨rfl, rfl⟩, fun b z => absurd z (noA b), e0.bs, e0.bsz, fun b _ _ => noA b,
      fun b z => absurd z (noA b), e0.funs, e0.frf⟩,
    rfl, e0.bare, Un.kept kp, ⟨_, hns, fun j y w e1 e2 e3 => ?_⟩, fun y c e => ?_, e0.hok.fresh (Nat.le_refl _), fun y c e => I.freeC y c (cm e), fun q hq => absurd (show q ∈ ([] : List (Addr × Obj)) ++ [] from hq) (by simp), e0.hok.kept kp, by rw [List.length_set]; exact I.len⟩
  · have hy : scope.names.lookup y = some .cell ∨ scope.names.lookup y = some .free := hy
    rcases hy with hy | hy
    · exact absurd rfl (L.own _ (PySem.mem_of_lookup hy)).1
    · exact look hy
  · have z : false = true := z
    cases z
  · have e1 : X.N[j]? = some y := e1
    by_cases ej : j = i
    · rw [ej] at e1 e2
      rw [hN] at e1
      cases e1
      have lt : i < σ.length := by rw [I.len]; exact (List.getElem?_eq_some_iff.mp hN).1
      rw [List.getElem?_set_self lt] at e2
      cases e2
      refine ⟨u, rv, .inl ⟨L.par, ?_⟩⟩
      simp [List.lookup]
    · rw [List.getElem?_set_ne (fun z => ej z.symm)] at e2
      have ya : y ≠ a := fun z => ej (nodup_ix nd (z ▸ e1) hN)
      have e3 : Vis scope y := e3
      rcases e3 with k | k | k
      · exact absurd ((L.own _ (PySem.mem_of_lookup k)).2 rfl) ya
      · exact absurd rfl (L.own _ (PySem.mem_of_lookup k)).1
      · obtain ⟨m, hn, hl⟩ := I.loc
        have hvis : Vis X.env.scope y := (L.free _ (PySem.mem_of_lookup k) rfl).elim (fun k => .inr (.inl k)) (fun k => .inr (.inr k))
        obtain ⟨w', r, q⟩ := hl j y w e1 e2 hvis
        obtain ⟨c2, h2⟩ := look k
        refine ⟨w', r, .inr ⟨.inr k, c2, h2, ?_⟩⟩
        have c1 := cm h2
        rcases q with ⟨k', _⟩ | ⟨_, c3, e', z⟩
        · have k' : X.env.scope.names.lookup y = some .local := k'
          rcases L.free _ (PySem.mem_of_lookup k) rfl with k2 | k2 <;> rw [show X.env.scope.names.lookup y = _ from k2] at k' <;> cases k'
        · rw [c1] at e'
          cases e'
          exact cellK z
  · obtain ⟨w', z⟩ := I.cell y c (cm e)
    exact ⟨w', cellK z⟩
/-- the lambda called with one value, in the def that made it -/
theorem lam_call1 {A : Around} {scope : Scope} {a : Str} {i k : Nat} {v : V} {u pm ctv : Value} {f c' : Addr} {params : Arguments} {body : Expr} {tb : TE} {Q : VK} (I : Inv X pins σ H s) (L : LamP X.env.scope scope a) (hA : A.frames = some X.stack) (hr : Room (k + 1) A) (nd : X.N.Nodup) (hN : X.N[i]? = some a) (rv : RelV v u)
    (hf : s.heap.get? f = some (PySem.W.kla_obj "<lambda>" (X.env.qual ++ "<lambda>") params body scope (cloFrom X.env.cells scope.names []) pm c' ctv)) (hc : H c' = some (CodeO c' (X.env.qual ++ "<lambda>")))
    (hbind : bindArgs (PySem.W.kla_fn "<lambda>" (X.env.qual ++ "<lambda>") params body scope (cloFrom X.env.cells scope.names []) pm (.ref c') ctv) ⟨[u], []⟩ = pure [(a, u)])
    (hbody : Room k (A.deeper (lamEnv X scope s.heap.objs.size f c')) → PE (lamCx X A X.stack s H C8.E0 scope f c') body tb) (ht : tb (σ.set i (some v)) H Q) :
    codeAny (model X.prog X.w) A (.call (.ref f) ⟨[u], []⟩) (CR (L2.CX X.prog X.w) X.stack X.prog X.w H s Q C8.E0) s := by
  obtain ⟨⟨oc, vs, t, hoc, hdc, hvc⟩, _, _⟩ := I.hok c' _ hc
  refine PySem.W.kla_callFunE hr.depth hf rfl L.co L.gen rfl ⟨c', oc, vs, t, rfl, hoc, hdc, hvc⟩ ?_
  rw [hbind]
  refine wpAny_pure (wpAny_newFunctionEnv (fun y hy => (L.own y hy).1) (fun y hy => ?_) (fun h₁ hns hsb => ⟨I.nolimit.fresh _ hsb, ?_⟩) L.kind)
  · rw [List.mem_singleton.mp hy]
    exact L.par
  show codeAny _ _ (.expr body (lamEnv X scope s.heap.objs.size f c')) _ _
  have kp : ∀ b o, s.heap.get? b = some o → h₁.get? b = some o := fun b o e => hsb.extBut b o (Nat.ne_of_lt (Heap.lt_size e)) (Heap.get?_push_of_some _ e)
  have J : Inv (lamCx X A X.stack s H C8.E0 scope f c') [] (σ.set i (some v)) H { s with heap := h₁, toks := s.toks + ([(a, u)] : List (Str × Value)).length } := lam_start1 I L hA hr.hd nd hN rv hns kp
  refine PySem.W.kla_codeExpr (wpAny_mono ((hbody (hr.deeper _)).run [] _ _ H Q J ht) (fun v s' hq => ?_) fun e s' hq => hq)
  obtain ⟨w', H', J', rv, q⟩ := hq
  exact ⟨w', H', J'.os, J'.bare, J'.base, J'.hok, rv, q⟩
end
end LamX
set_option Elab.async false
set_option linter.all false
set_option maxRecDepth 100001
set_option maxHeartbeats 3999999
namespace SrtL
open PySem PyProof.Rows Srt SrtO L2 LamX
/-! ### orders of keys -/
structure KeyOrd (α : Type) where
  lt : α → α → Bool
  enc : α → V
  dec : Value → α
  val : α → Value
  swo : Swo lt
  rel : ∀ k u, RelV (enc k) u → dec u = k
  back : ∀ k, dec (val k) = k
  sortable : ∀ {prog : Program} {w : World} {A : Around} {s : Shared} (us : List Value), (∀ u ∈ us, ∃ k, RelV (enc k) u) → 2 ≤ us.length →
    ∃ κ, (∀ (Q : SortKind → Shared → Prop) (E : Value → Shared → Prop), Q κ s → wpAny (model prog w) A (keyKind' us.toArray) Q E s) ∧ Cmp prog w A s κ (fun p => p.1 ∈ us) (lt2 fun x y => lt (dec x) (dec y))
theorem swo_dec {α β : Type} {lt : α → α → Bool} (O : Swo lt) (f : β → α) : Swo fun x y => lt (f x) (f y) := ⟨fun x y h => O.asym _ _ h, fun x y z h1 h2 => O.tr _ _ _ h1 h2⟩
def decI : Value → Int
  | .int i _ => i
  | _ => 0
def decS : Value → Str
  | .str z _ => z
  | _ => Str.empty
theorem ints_dec : ∀ {us : List Value}, (∀ u ∈ us, ∃ k, RelV (.int k) u) → IntsAre us (us.map decI)
  | [], _ => .nil
  | u :: us, h => by
    obtain ⟨k, t, e⟩ := h u List.mem_cons_self
    subst e
    exact .cons k t (ints_dec fun v hv => h v (List.mem_cons_of_mem _ hv))
def ordInt : KeyOrd Int where
  lt i j := decide (i < j)
  enc := .int
  dec := decI
  val i := .int i 0
  swo := ⟨fun x y h => by have := of_decide_eq_true h; exact decide_eq_false (by omega), fun x y z h1 h2 => by have := of_decide_eq_false h1; have := of_decide_eq_false h2; exact decide_eq_false (by omega)⟩
  rel k u h := by obtain ⟨t, rfl⟩ := h; rfl
  back k := rfl
  sortable us h h2 := by
    have hI := ints_dec h
    refine ⟨oneType', fun Q E hq => ?_, fun p q hm hm' => ?_⟩
    · match us, hI, h2 with
      | v1 :: v2 :: rest, hI, _ =>
        rw [keyKind_ints hI]
        exact wpAny_pure hq
      | [], _, h => exact absurd h (by decide)
      | [v], _, h => exact absurd h (by simp)
    · obtain ⟨a, t, e⟩ := h _ hm
      obtain ⟨b, u, e'⟩ := h _ hm'
      show wpAny _ _ (keyLt' oneType' p.1 q.1) (fun r s' => s' = _ ∧ r = decide (decI p.1 < decI q.1)) (fun _ _ => False) _
      rw [e, e', keyLt'_oneType]
      exact oneLt_int ⟨rfl, rfl⟩
theorem strs_dec : ∀ {us : List Value}, (∀ u ∈ us, ∃ k, RelV (.str k) u) → StrsAre us (us.map decS)
  | [], _ => .nil
  | u :: us, h => by
    obtain ⟨k, t, e⟩ := h u List.mem_cons_self
    subst e
    exact .cons k t (strs_dec fun v hv => h v (List.mem_cons_of_mem _ hv))
theorem swo_nats : Swo fun (a b : List Nat) => decide (a < b) := by
  refine ⟨fun x y h => ?_, fun x y z h1 h2 => ?_⟩
  · have h := of_decide_eq_true h
    exact decide_eq_false fun z => List.lt_irrefl x (List.lt_trans h z)
  · have h1 := List.not_lt.mp (of_decide_eq_false h1)
    have h2 := List.not_lt.mp (of_decide_eq_false h2)
    exact decide_eq_false (List.not_lt.mpr (List.le_trans h1 h2))
def ordStr : KeyOrd Str where
  lt a b := decide (a.cps.toList < b.cps.toList)
  enc := .str
  dec := decS
  val z := .str z 0
  swo := swo_dec swo_nats fun a : Str => a.cps.toList
  rel k u h := by obtain ⟨t, rfl⟩ := h; rfl
  back k := rfl
  sortable us h h2 := by
    have hI := strs_dec h
    refine ⟨oneType', fun Q E hq => ?_, fun p q hm hm' => ?_⟩
    · match us, hI, h2 with
      | v1 :: v2 :: rest, hI, _ =>
        rw [keyKind_strs hI]
        exact wpAny_pure hq
      | [], _, h => exact absurd h (by decide)
      | [v], _, h => exact absurd h (by simp)
    · obtain ⟨a, t, e⟩ := h _ hm
      obtain ⟨b, u, e'⟩ := h _ hm'
      show wpAny _ _ (keyLt' oneType' p.1 q.1) (fun r s' => s' = _ ∧ r = decide ((decS p.1).cps.toList < (decS q.1).cps.toList)) (fun _ _ => False) _
      rw [e, e', keyLt'_oneType]
      exact oneLt_str ⟨rfl, rfl⟩
end SrtL
set_option Elab.async false
set_option linter.all false
set_option maxRecDepth 100001
set_option maxHeartbeats 3999999
namespace SrtL
open PySem PyProof.Rows Srt SrtO L2 LamX
def bk (u : Value) : V := (absV u).getD .non
theorem bk_rel {x : V} {u : Value} (r : RelV x u) : bk u = x := by
  unfold bk
  rw [r.abs]
  rfl
section
variable {α : Type} (O : KeyOrd α) (g : V → α)
theorem zip_fact : ∀ {xs : List V} {vs ks : List Value}, Vals xs vs → Vals (xs.map fun x => O.enc (g x)) ks → (∀ p ∈ ks.zip vs, O.dec p.1 = g (bk p.2) ∧ RelV (bk p.2) p.2) ∧ (ks.zip vs).map (fun p => bk p.2) = xs
  | [], _, _, .nil, .nil => ⟨fun _ h => (by simp at h), rfl⟩
  | x :: xs, _, _, .cons r t, .cons r2 t2 => by
    obtain ⟨h1, h2⟩ := zip_fact t t2
    refine ⟨fun p hp => ?_, ?_⟩
    · rw [List.zip_cons_cons] at hp
      rcases List.mem_cons.mp hp with rfl | hp
      · rw [bk_rel r]
        exact ⟨O.rel _ _ r2, r⟩
      · exact h1 p hp
    · rw [List.zip_cons_cons, List.map_cons, h2]
      show bk _ :: xs = x :: xs
      rw [bk_rel r]
abbrev ltG (x y : V) : Bool := O.lt (g x) (g y)
abbrev ltD (x y : Value) : Bool := O.lt (O.dec x) (O.dec y)
theorem conv {xs : List V} {vs ks : List Value} {ps : List Keyed} (hv : Vals xs vs) (hk : Vals (xs.map fun x => O.enc (g x)) ks) (h1 : Srtd (lt2 (ltD O)) ps) (h2 : Stb (lt2 (ltD O)) ps (ks.zip vs)) :
    Vals (ps.map fun p => bk p.2) (ps.map (·.2)) ∧ Srtd (ltG O g) (ps.map fun p => bk p.2) ∧ Stb (ltG O g) (ps.map fun p => bk p.2) xs := by
  obtain ⟨f1, f2⟩ := zip_fact O g hv hk
  have mem : ∀ p ∈ ps, O.dec p.1 = g (bk p.2) ∧ RelV (bk p.2) p.2 := fun p hp => f1 p (h2.perm.mem_iff.mp hp)
  refine ⟨?_, ?_, ?_⟩
  · clear h1 h2
    induction ps with
    | nil => exact .nil
    | cons p ps ih => exact .cons (mem p List.mem_cons_self).2 (ih fun q hq => mem q (List.mem_cons_of_mem _ hq))
  · refine srtd_map (f := fun p : Keyed => bk p.2) (lt := ltG O g) ?_
    refine List.Pairwise.imp_of_mem (fun {p q} hp hq hr => ?_) h1
    show O.lt (g (bk q.2)) (g (bk p.2)) = false
    rw [← (mem p hp).1, ← (mem q hq).1]
    exact hr
  · have h3 : Stb (fun p q : Keyed => ltG O g (bk p.2) (bk q.2)) ps (ks.zip vs) := by
      refine ⟨h2.perm, fun x => ?_⟩
      have e : ∀ p : Keyed, O.dec p.1 = g (bk p.2) → eqv (fun p q : Keyed => ltG O g (bk p.2) (bk q.2)) x p = eqv (lt2 (ltD O)) (O.val (g (bk x.2)), x.2) p := by
        intro p hp
        show (!O.lt (g (bk x.2)) (g (bk p.2)) && !O.lt (g (bk p.2)) (g (bk x.2))) = (!O.lt (O.dec (O.val (g (bk x.2)))) (O.dec p.1) && !O.lt (O.dec p.1) (O.dec (O.val (g (bk x.2)))))
        rw [O.back, hp]
      rw [List.filter_congr fun p hp => e p (mem p hp).1, List.filter_congr fun p hp => e p (f1 p hp).1]
      exact h2.cls _
    have h4 := Stb.map (swo_dec O.swo g) (fun p : Keyed => bk p.2) h3
    rw [f2] at h4
    exact h4
end
/-- sorted(e, key=lambda x: tb): the keys are read at one and the same heap -/
def tSortLam {α : Type} (Tb : List (Addr × Str)) (K : PySem.W.Frag) (O : KeyOrd α) (i : Nat) (te tb : TE) : TE := fun σ H Q => te σ H fun x H1 => ∃ (a : Addr) (xs : List V) (g : V → α), x = .ref a ∧ SqL K H1 a xs ∧ Tabs Tb H1 ∧
  ∀ H2, ExtN H1 H2 → Tabs Tb H2 → SqL K H2 a xs ∧ (∀ v ∈ xs, tb (σ.set i (some v)) H2 fun kv H4 => kv = O.enc (g v) ∧ H4 = H2) ∧
    ∀ ys p, Srtd (ltG O g) ys → Stb (ltG O g) ys xs → H2 p = none → Q (.ref p) (upd H2 p (.lst ys))
section
variable {X : Cx} {pins : List (Addr × Obj)} {σ : L2.St} {H : Hp} {s : Shared}
theorem fp_keep {b : Addr} {o : Obj} {H' : Hp} {h' : Heap} (I : Inv X pins σ H s) (un : Un (frs X.stack) [] H H' s.heap h') (hn : H b = none) (hf : b ∉ frs X.stack) (hb : s.heap.get? b = some o) : h'.get? b = some o := un.keep b o hb hn hf (by simp)
theorem fp_nofr {b : Addr} (I : Inv X pins σ H s) (hf : FpOk X pins H b) : b ∉ frs X.stack := fun z => by
  rcases List.mem_cons.mp (I.stkSub _ z) with e | e
  · exact hf.2.1 e
  · exact hf.2.2.1 e
/-- the sorted list is known from now on -/
theorem inv_done {kS d : Addr} {ks out : List Value} {ys : List V} {ek e1 : Nat} (I : Inv X pins σ H s) (fk : FpOk X pins H kS) (fd : FpOk X pins H d) (ne : kS ≠ d) (hk : s.heap.get? kS = some (seqObj "list" ks.toArray ek)) (hd : s.heap.get? d = some (seqObj "list" #[] e1))
    (hl : ys.length ≤ sizeLine) (hv : Vals ys out) : Inv X pins σ (upd H d (.lst ys)) { s with heap := doneHeap s.heap kS d out.toArray } := by
  have s1 := Heap.SameBut.update s.heap kS (Obj.mapSeq fun _ => (#[] : Array Value))
  have nd1 : (s.heap.update kS (Obj.mapSeq fun _ => (#[] : Array Value))).get? d = some (seqObj "list" #[] e1) := (s1.2 d ne.symm).trans hd
  obtain ⟨e2, hd2⟩ : ∃ e2, (doneHeap s.heap kS d out.toArray).get? d = some (seqObj "list" out.toArray e2) := ⟨_, get?_update_seq nd1 fun _ => out.toArray⟩
  obtain ⟨e3, hk3⟩ : ∃ e3, (s.heap.update kS (Obj.mapSeq fun _ => (#[] : Array Value))).get? kS = some (seqObj "list" #[] e3) := ⟨_, get?_update_seq hk fun _ => #[]⟩
  have kp : ∀ b o, b ≠ kS → b ≠ d → s.heap.get? b = some o → (doneHeap s.heap kS d out.toArray).get? b = some o := fun b o h1 h2 e => by
    show ((s.heap.update kS (Obj.mapSeq fun _ => (#[] : Array Value))).update d _).get? b = _
    rw [Heap.get?_update_ne _ _ _ _ h2, Heap.get?_update_ne _ _ _ _ h1]
    exact e
  have nK : ∀ b u, H b = some u → b ≠ kS := fun b u e z => by rw [z, fk.1] at e; cases e
  have nD : ∀ b u, H b = some u → b ≠ d := fun b u e z => by rw [z, fd.1] at e; cases e
  have stay : ∀ b u, H b = some u → upd H d (.lst ys) b = some u := fun b u e => (upd_ne (nD b u e)).trans e
  refine I.step (g' := s.gens) (t' := s.toks) (d' := s.drawn) (ch := [kS, d]) (fun b hb => ?_) (fun b o _ _ hc e _ => kp b o (fun z => hc (by simp [z])) (fun z => hc (by simp [z])) e) (fun b o _ _ hc e _ => ⟨o.slots, kp b o (fun z => hc (by simp [z])) (fun z => hc (by simp [z])) e⟩)
    (fun b o hc _ n => (upd_ne (fun z => hc (by simp [z]))).trans n) (fun b o hc e => ⟨o, kp b o (fun z => hc (by simp [z])) (fun z => hc (by simp [z])) e⟩) (fun b xs e => stay _ _ e) (fun b o u e => stay _ _ e) (fun b ps e => ⟨#[], by rw [stay _ _ e]; simp⟩) (fun m hm => ?_) (fun b u e => ?_) I.bare
  · rcases List.mem_cons.mp hb with rfl | hb
    · exact ⟨fk.2.2.2.1, fk.2.1, fk.2.2.2.2.1, fk.2.2.2.2.2⟩
    · rw [List.mem_singleton.mp hb]
      exact ⟨fd.2.2.2.1, fd.2.1, fd.2.2.2.2.1, fd.2.2.2.2.2⟩
  · obtain ⟨o, es, ep, ho, r⟩ := hm
    exact ⟨o, es, ep, kp _ o (Ne.symm fk.2.1) (Ne.symm fd.2.1) ho, r⟩
  · by_cases hb : b = d
    · rw [hb, upd_same] at e
      cases e
      rw [hb]
      exact ⟨hl, out, e2, hv, hd2⟩
    · rw [upd_ne hb] at e
      refine (I.hok b u e).stay (fun c v hc q => ?_) (fun _ q => stay _ _ q) fun _ _ q => stay _ _ q
      rcases hc with z | z
      · rw [z] at q ⊢
        exact kp _ _ (nK b u e) hb q
      · exact kp _ _ (nK c _ z) (nD c _ z) q
end
end SrtL
set_option Elab.async false
set_option linter.all false
set_option maxRecDepth 100001
set_option maxHeartbeats 3999999
namespace SrtL
open PySem PyProof.Rows Srt SrtO L2 LamX
section
variable {X : Cx} {p lpos kpos pos : Pos} {e : Expr} {te tb : TE} {α : Type}
theorem frames2 (I : X.Ok) : X.A.in1.in1.frames = some X.stack := I.frames
theorem pe_sortLam (O : KeyOrd α) {Tb : List (Addr × Str)} {c T : Addr} {k i : Nat} {a : Str} {params : Arguments} {body : Expr} {scope : Scope} (hg : Gl X "sorted") (hm : X.mg "sorted" = none) (he : PE X e te) (TB : TabB X.base X.mg c T) (hmT : (T, X.env.qual ++ "<lambda>") ∈ Tb) (hu : ∀ p ∈ Tb, p.1 = T → p.2 = X.env.qual ++ "<lambda>")
    (hr : Room (k + 3) X.A) (L : LamP X.env.scope scope a) (nd : X.N.Nodup) (hN : X.N[i]? = some a)
    (hbody : ∀ (s : Shared) (H : Hp) (f c' : Addr), Room k (X.A.in1.in1.deeper (lamEnv X scope s.heap.objs.size f c')) → PE (lamCx X X.A.in1.in1 X.stack s H C8.E0 scope f c') body tb)
    (hcode : X.env.code = .ref c := by rfl) (hdef : defaultsOf params X.env = ([], []) := by rfl)
    (hbind : ∀ (q : Str) (cl : List (Str × Addr)) (pm cv ctv u : Value), bindArgs (PySem.W.kla_fn "<lambda>" q params body scope cl pm cv ctv) ⟨[u], []⟩ = pure [(a, u)] := by intros; rfl)
    (hs0 : starEach [e] X.env = (false, eval e X.env) :: starEach [] X.env := by rfl) (hs : backTo pos (starEach [e] X.env) = (false, eval e X.env) :: backTo pos (starEach [] X.env) := by rfl) (hpl : (backTo pos (starEach [e] X.env)).any (·.1) = false := by rfl) :
    PE X (.Call (.Name "sorted" p) [e] [⟨some "key", .Lambda params body scope lpos, kpos⟩] pos) (tSortLam Tb X.K O i te tb) := by
  refine ⟨fun pins s σ H Q I h => ?_⟩
  refine wpAny_Call_Name_kw (ld_blt (u := Value.builtin "sorted") I hg hm (by decide +kernel) ?_ (by decide) (by decide))
  refine PyProof.Rows.callWith_kw (thn ((pa_cons he pa_nil hs0).run pos pins s σ H (fun vs H1 => match vs with
    | [x] => ∃ (a : Addr) (xs : List V) (g : V → α), x = .ref a ∧ SqL X.K H1 a xs ∧ Tabs Tb H1 ∧
  ∀ H2, ExtN H1 H2 → Tabs Tb H2 → SqL X.K H2 a xs ∧ (∀ v ∈ xs, tb (σ.set i (some v)) H2 fun kv H4 => kv = O.enc (g v) ∧ H4 = H2) ∧
    ∀ ys p, Srtd (ltG O g) ys → Stb (ltG O g) ys xs → H2 p = none → Q (.ref p) (upd H2 p (.lst ys))
    | _ => False) I h) fun us s1 ⟨vs, H1, I1, r1, q1⟩ => ?_) hs hpl (by rfl) (by rfl)
  obtain ⟨x, rfl, u, rfl, rx, q1⟩ : ∃ x, vs = [x] ∧ ∃ u, us = [u] ∧ RelV x u ∧ ∃ (a : Addr) (xs : List V) (g : V → α), x = .ref a ∧ SqL X.K H1 a xs ∧ Tabs Tb H1 ∧
      ∀ H2, ExtN H1 H2 → Tabs Tb H2 → SqL X.K H2 a xs ∧ (∀ v ∈ xs, tb (σ.set i (some v)) H2 fun kv H4 => kv = O.enc (g v) ∧ H4 = H2) ∧
        ∀ ys p, Srtd (ltG O g) ys → Stb (ltG O g) ys xs → H2 p = none → Q (.ref p) (upd H2 p (.lst ys)) := by
    cases vs with
    | nil => exact q1.elim
    | cons x r =>
      cases r with
      | nil =>
        cases r1 with
        | cons rx t =>
          cases t
          exact ⟨x, rfl, _, rfl, rx, q1⟩
      | cons y r => exact q1.elim
  obtain ⟨l, xs, g, rfl, hl1, hT1, q1⟩ := q1
  obtain rfl : u = Value.ref l := rx
  show wpAny _ _ (evalAll ((do let v ← eval (.Lambda params body scope lpos) X.env; standAt pos; pure v) :: (backToKw pos (keywordEach [] X.env)).map (·.2))) _ _ s1
  refine wpAny_evalAll_cons (wpAny_bind (lam_make2 I1 TB hcode hmT hu hT1 hdef (L.has I1.ok) fun f c' pm ctv H2 s2 I2 e12 hT2 hf hfn hfr hc => wpAny_bind (wpAny_standAt (wpAny_pure ?_))))
  refine wpAny_evalAll_nil ?_
  show wpAny _ _ (call (.builtin "sorted") [.ref l] [(Str.ofString "key", .ref f)]) _ _ s2
  obtain ⟨hl2, hkey, hend⟩ := q1 H2 e12 hT2
  obtain ⟨its, rv, hil, hz⟩ := I2.list hl2
  refine sorted_ord (vs := its) (ltv := ltD O) (swo_dec O.swo O.dec) hil.isList (by rw [← rv.length]; exact hz) fun h1 d kS e1 hkp hd hkS gd gk nkd => ?_
  have fk : FpOk X pins H2 kS := I2.fpOk gk (I2.hok.fresh gk)
  have fd : FpOk X pins H2 d := I2.fpOk gd (I2.hok.fresh gd)
  have hroom : Room (k + 1) X.A.in1.in1 := (Room.in1 (Room.in1 hr))
  refine ⟨fun ks s' => Inv X pins σ H2 s' ∧ (∃ ek, s'.heap.get? kS = some (seqObj "list" ks.toArray ek)) ∧ s'.heap.get? d = some (seqObj "list" #[] e1) ∧ s'.heap.get? f = some (PySem.W.kla_obj "<lambda>" (X.env.qual ++ "<lambda>") params body scope (cloFrom X.env.cells scope.names []) pm c' ctv) ∧ Vals ((xs.take ks.length).map fun x => O.enc (g x)) ks,
    ⟨I2.kept (t' := s2.toks) hkp, ⟨0, hkS⟩, hd, hkp _ _ hf, by rw [List.length_nil, List.take_zero]; exact .nil⟩, ⟨fun ks s' h => ⟨h.2.1, h.2.2.1⟩, ?_, ?_, ?_⟩⟩
  · rintro ks u s' ⟨J, ⟨ek, jk⟩, jd, jf, jv⟩ hu2
    obtain ⟨x, hx, rx⟩ : ∃ x, xs[ks.length]? = some x ∧ RelV x u := by
      have lt : ks.length < xs.length := by rw [rv.length]; exact (List.getElem?_eq_some_iff.mp hu2).1
      obtain ⟨u', h1, h2⟩ := rv.get (List.getElem?_eq_getElem lt)
      rw [hu2] at h1
      cases h1
      exact ⟨_, List.getElem?_eq_getElem lt, h2⟩
    refine wpAny_call (codeAny_mono (lam_call1 (A := X.A.in1.in1) (i := i) (Q := fun kv H4 => kv = O.enc (g x) ∧ H4 = H2) J L J.ok.frames hroom nd hN rx jf hc (hbind _ _ _ _ _ _) (fun _ => hbody s' H2 f c' ‹_›) (hkey x (List.mem_of_getElem? hx))) fun r s'' hq => ?_)
    cases r with
    | error e =>
      obtain ⟨_, _, _, _, _, _, _, _, _, _, _, _, z⟩ := hq
      exact z
    | ok fl =>
      cases fl with
      | ret kv =>
        obtain ⟨v, H', os, bare, un, hok, rk, rfl, rfl⟩ := id hq
        obtain ⟨v2, H3, J2, _, _, rfl⟩ := J.after hq
        have kept : ∀ b o, H3 b = none → b ∉ frs X.stack → s'.heap.get? b = some o → s''.heap.get? b = some o := fun b o h1 h2 h3 => un.keep b o h3 h1 h2 (by simp)
        have jk2 := kept _ _ fk.1 (fp_nofr J fk) jk
        have jd2 := kept _ _ fd.1 (fp_nofr J fd) jd
        have jf2 := kept _ _ hfn hfr jf
        have sb := Heap.SameBut.update s''.heap kS (Obj.mapSeq (·.push kv))
        have kb : ∀ b o, b ≠ kS → s''.heap.get? b = some o → (s''.heap.update kS (Obj.mapSeq (·.push kv))).get? b = some o := fun b o hb e => (sb.2 b hb).trans e
        obtain ⟨c2, hc2⟩ : ∃ c2, (s''.heap.update kS (Obj.mapSeq (·.push kv))).get? kS = some (seqObj "list" (ks.toArray.push kv) c2) := ⟨_, get?_update_seq jk2 (·.push kv)⟩
        have nf : f ≠ kS := fun z => Nat.lt_irrefl _ (Nat.lt_of_lt_of_le (z ▸ Heap.lt_size hf) gk)
        refine ⟨⟨ek, jk2⟩, J2.turned (t' := s''.toks) kb fk.1 fk.2.1 fk.2.2.2.1 fk.2.2.2.2.1 fk.2.2.2.2.2, ⟨c2, by rw [hc2, List.push_toArray]⟩, kb _ _ nkd.symm jd2, kb _ _ nf jf2, ?_⟩
        have e1 : xs.take (ks ++ [kv]).length = xs.take ks.length ++ [x] := by
          rw [List.length_append, List.length_singleton, List.take_add_one, hx]
          rfl
        rw [e1, List.map_append]
        exact Paired.snoc jv rk
      | next => exact False.elim hq
      | brk => exact False.elim hq
      | cont => exact False.elim hq
  · rintro ks s' ⟨J, _, _, _, jv⟩ lk h2
    refine O.sortable ks (fun u hu => ?_) (by omega)
    obtain ⟨j, hj⟩ := List.mem_iff_getElem?.mp hu
    obtain ⟨lt, _⟩ := List.getElem?_eq_some_iff.mp hj
    have lt2 : j < ((xs.take ks.length).map fun x => O.enc (g x)).length := by rw [jv.length]; exact lt
    obtain ⟨u', h3, h4⟩ := jv.get (List.getElem?_eq_getElem lt2)
    rw [hj] at h3
    cases h3
    rw [List.getElem_map] at h4
    exact ⟨_, h4⟩
  · rintro ks s' ⟨J, ⟨ek, jk⟩, jd, _, jv⟩ lk ps h1 h2
    have lx : xs.length = ks.length := by rw [rv.length, lk]
    rw [← lx, List.take_length] at jv
    obtain ⟨y1, y2, y3⟩ := conv O g rv jv h1 h2
    refine ⟨rfl, .ref d, _, inv_done (ys := ps.map fun p => bk p.2) J fk fd nkd jk jd (by rw [y3.len]; exact hz) y1, rfl, hend _ d y2 y3 fd.1⟩
end
end SrtL
set_option Elab.async false
set_option linter.all false
set_option maxRecDepth 100001
set_option maxHeartbeats 1999999
/-! rules for texts: list(s), s * n, s[::-1], and for lists of ints: xs < ys. -/
namespace L2
open PySem.Spec PySem PyProof.Rows
def sgn (c : Nat) : V := .str ⟨#[c]⟩
def sgns (z : Str) : List V := z.cps.toList.map sgn
theorem vals_get : ∀ {xs : List V} {us : List Value}, xs.length = us.length → (∀ (j : Nat) x u, xs[j]? = some x → us[j]? = some u → RelV x u) → Vals xs us
  | [], [], _, _ => .nil
  | [], _ :: _, h, _ => by simp at h
  | _ :: _, [], h, _ => by simp at h
  | x :: xs, u :: us, h, k => .cons (k 0 x u rfl rfl) (vals_get (by simpa using h) fun j a b h1 h2 => k (j + 1) a b (by simpa using h1) (by simpa using h2))
section
variable {X : Cx}
/-- list(s) -/
theorem call_listS (hc : X.calm = true) : CallR X (.type "list") (fun xs H Q => ∃ z : Str, xs = [.str z] ∧ z.length ≤ sizeLine ∧ ∀ p, H p = none → Q (.ref p) (upd H p (.lst (sgns z)))) := by
  intro pins s σ H xs us Q I r h
  obtain ⟨z, rfl, hz, q⟩ := h
  obtain ⟨u, rfl, rx⟩ := vals1 r
  obtain ⟨t, rfl⟩ := rx
  refine PySem.call_list_str (I.ok.hd hc) z t (fun h' tk acc' c' hk hS hacc => ?_) hz
  refine ⟨.ref _, upd H s.heap.objs.size (.lst (sgns z)), I.laid (t' := tk) hk (Nat.le_refl _) ⟨?_, acc'.toList, c', ?_, by rw [hS]⟩, rfl, q _ (I.hok.fresh (Nat.le_refl _))⟩
  · unfold sgns
    rw [List.length_map, Array.length_toList]
    exact hz
  · refine vals_get ?_ fun j x u h1 h2 => ?_
    · unfold sgns
      rw [List.length_map, Array.length_toList, Array.length_toList, hacc.1]
    · unfold sgns at h1
      rw [List.getElem?_map] at h1
      rw [Array.getElem?_toList] at h2
      obtain ⟨c, t', hc', rfl⟩ := hacc.2 j u h2
      rw [Array.getElem?_toList, hc'] at h1
      cases h1
      exact ⟨t', rfl⟩
/-! ### xs < ys -/
theorem firstLt_map (e r : Nat → Bool) (fin : Bool) : ∀ l : List Nat, SeqAt.firstLt e r fin (l.map (· + 1)) = SeqAt.firstLt (fun j => e (j + 1)) (fun j => r (j + 1)) fin l
  | [] => rfl
  | j :: l => by
    rw [List.map_cons]
    unfold SeqAt.firstLt
    rw [firstLt_map e r fin l]
theorem firstLt_lex : ∀ ns ms : List Int, SeqAt.firstLt (fun j => ns.getD j 0 == ms.getD j 0) (fun j => decide (ns.getD j 0 < ms.getD j 0)) (decide (ns.length < ms.length)) (List.range (min ns.length ms.length)) = HT.lexLt ns ms
  | [], [] => rfl
  | [], y :: ys => by simp [SeqAt.firstLt, HT.lexLt]
  | x :: xs, [] => by simp [SeqAt.firstLt, HT.lexLt]
  | x :: xs, y :: ys => by
    have ih := firstLt_lex xs ys
    have e : List.range (min (x :: xs).length (y :: ys).length) = 0 :: (List.range (min xs.length ys.length)).map (· + 1) := by
      rw [List.length_cons, List.length_cons, Nat.succ_min_succ, List.range_succ_eq_map]
    rw [e, HT.lexLt_cons]
    show (if (x == y) = true then _ else decide (x < y)) = _
    by_cases c : x = y
    · rw [if_pos (by simpa using c), if_pos c, firstLt_map, ← ih]
      simp
    · rw [if_neg (by simpa using c), if_neg c]
theorem ints_get : ∀ {ns : List Int} {us : List Value}, Vals (ns.map V.int) us → ∀ (j : Nat) u, us[j]? = some u → ∃ t, u = .int (ns.getD j 0) t
  | [], _, .nil, j, u, h => by simp at h
  | n :: ns, _, .cons ⟨t, e⟩ r, 0, u, h => by
    simp at h
    subst h e
    exact ⟨t, rfl⟩
  | n :: ns, _, .cons _ r, j + 1, u, h => by
    obtain ⟨t, e⟩ := ints_get r j u (by simpa using h)
    exact ⟨t, by simpa using e⟩
def rLtLI (K : PySem.W.Frag) : R2 := fun x y H Q => ∃ a b ns ms, x = .ref a ∧ y = .ref b ∧ SqL K H a (ns.map V.int) ∧ SqL K H b (ms.map V.int) ∧ Q (.bl (HT.lexLt ns ms)) H
theorem op_ltLI (hu : X.A.units < cLine) : OpR X (compareOp .Lt) (rLtLI X.K) := by
  intro pins s σ H x y v u Q I rx ry h
  obtain ⟨a, b, ns, ms, rfl, rfl, ha, hb, q⟩ := h
  cases rx
  cases ry
  obtain ⟨its, r1, p1, _⟩ := I.list ha
  obtain ⟨its2, r2, p2, _⟩ := I.list hb
  have l1 : its.toArray.size = ns.length := by have := r1.length; simp at this ⊢; omega
  have l2 : its2.toArray.size = ms.length := by have := r2.length; simp at this ⊢; omega
  have g1 : ∀ j (h : j < its.toArray.size), ∃ t, its.toArray[j] = .int (ns.getD j 0) t := fun j h => ints_get r1 j _ (by simpa using (List.getElem?_eq_getElem (by simpa using h)))
  have g2 : ∀ j (h : j < its2.toArray.size), ∃ t, its2.toArray[j] = .int (ms.getD j 0) t := fun j h => ints_get r2 j _ (by simpa using (List.getElem?_eq_getElem (by simpa using h)))
  refine SeqAt.RcLt.lists (e := fun j => ns.getD j 0 == ms.getD j 0) (r := fun j => decide (ns.getD j 0 < ms.getD j 0)) p1.isList p2.isList hu (fun j h1 h2 => ?_) (fun j h1 h2 _ => ?_) X.prog X.w _ _ ?_
  · obtain ⟨t, e1⟩ := g1 j h1
    obtain ⟨t', e2⟩ := g2 j h2
    rw [e1, e2]
    exact SeqAt.EqAt.int_int _ _ _ _
  · obtain ⟨t, e1⟩ := g1 j h1
    obtain ⟨t', e2⟩ := g2 j h2
    rw [e1, e2]
    exact fun prog w E Q h => HT.rcLt_int _ _ _ _ _ _ prog w E Q h
  · rw [l1, l2, firstLt_lex]
    exact ⟨.bl _, H, I, rfl, q⟩
/-! ### s * n -/
def repS (z : Str) (k : Nat) : Str := ⟨((List.replicate k z.cps.toList).flatten).toArray⟩
theorem fold_rep (z : Array Nat) : ∀ (k : Nat) (a : Array Nat), ((List.replicate k z).foldl (· ++ ·) a) = a ++ ((List.replicate k z.toList).flatten).toArray
  | 0, a => by simp
  | k + 1, a => by
    rw [List.replicate_succ, List.foldl_cons, fold_rep z k, List.replicate_succ, List.flatten_cons]
    refine Array.ext' ?_
    simp
def rMulS : R2 := fun x y H Q => ∃ (z : Str) (k : Nat), x = .str z ∧ y = .int (k : Nat) ∧ 2 ≤ k ∧ k ≤ 1000 ∧ 1 ≤ z.length ∧ z.length ≤ 1000 ∧ Q (.str (repS z k)) H
theorem op_mulS : OpR X (binaryOp .Mult) rMulS := by
  intro pins s σ H x y v u Q I rx ry h
  obtain ⟨z, k, rfl, rfl, k2, k1, z1, z2, q⟩ := h
  obtain ⟨t, rfl⟩ := rx
  obtain ⟨t', rfl⟩ := ry
  have n1 : ¬ ((k : Nat) : Int) < 1 := by omega
  have n2 : (((k : Nat) : Int) == 1 || z.length == 0) = false := by
    simp
    omega
  refine P.mul_str (by simp; omega) (fun _ _ => ?_) (fun _ _ => ?_) ?_
  · have hk : (9007199254740 : Int) ≤ (2 ^ 63 - 1) / ((k : Nat) : Int) := by
      refine (Int.le_ediv_iff_mul_le (by omega)).mpr ?_
      have : (9007199254740 : Int) * ((k : Nat) : Int) ≤ 9007199254740 * 1000 := Int.mul_le_mul_of_nonneg_left (by omega) (by decide)
      have e : (9007199254740 : Int) * 1000 ≤ 2 ^ 63 - 1 := by decide
      omega
    omega
  · rw [Int.toNat_natCast]
    have : z.length * k ≤ 1000 * 1000 := Nat.mul_le_mul z2 k1
    exact decide_eq_false (Nat.not_lt.mpr (Nat.le_trans this (by decide)))
  · rw [if_neg n1, if_neg (by rw [n2]; decide), Int.toNat_natCast, fold_rep]
    have e : (#[] ++ ((List.replicate k z.cps.toList).flatten).toArray : Array Nat) = ((List.replicate k z.cps.toList).flatten).toArray := by simp
    rw [e]
    refine ⟨?_, .str (repS z k), H, I.tok _, ⟨_, rfl⟩, q⟩
    show (((List.replicate k z.cps.toList).flatten).toArray).size ≤ sizeLine
    rw [List.size_toArray, List.length_flatten, List.map_replicate, List.sum_replicate_nat, Array.length_toList]
    have : k * z.length ≤ 1000 * 1000 := Nat.mul_le_mul k1 z2
    exact Nat.le_trans this (by decide)
/-! ### s[::-1] -/
def revS (z : Str) : Str := ⟨z.cps.toList.reverse.toArray⟩
def tRevS (te : TE) : TE := fun σ H Q => te σ H fun x H1 => ∃ z : Str, x = .str z ∧ z.length ≤ sizeLine ∧ Q (.str (revS z)) H1
theorem pick_rev (z : Str) : (Builtin.Str.strSliceIndices none none (-1) z.length).filterMap (z.cps[·]?) = z.cps.toList.reverse := by
  show (sliceRange ((z.cps.size : Int) - 1) (-1) (-1)).filterMap (z.cps[·]?) = _
  rw [PySem.W.krv_sliceRange, PySem.W.krv_range, List.filterMap_reverse, PySem.W.krv_all]
theorem pe_revS {e : Expr} {te : TE} {k : Nat} {p1 p2 p3 pos : Pos} (he : PE X e te) : PE X (.Subscript e (.Slice none none (some (.UnaryOp .USub (.Constant (.int 1) k p1) p2)) p3) pos) (tRevS te) := by
  refine ⟨fun pins s σ H Q I h => ?_⟩
  refine Subscript_ (thn (he.run pins s σ H _ I h) fun v s1 ⟨x, H1, I1, r1, q1⟩ => ?_)
  obtain ⟨z, ex, hz, q⟩ := q1
  subst ex
  obtain ⟨t, rfl⟩ := r1
  have hst : PO X (some (.UnaryOp .USub (.Constant (.int 1) k p1) p2)) (tPart (tUn (rU fun i => .int (-i)) (tC (.int 1)))) := po_some (pe_un un_neg pe_int)
  refine wpAny_Slice (thn (po_none.run pins s1 σ H1 (fun o H2 => o = none ∧ H2 = H1) I1 ⟨rfl, rfl⟩) fun vl s2 ⟨l, H2, I2, pl, el, e2⟩ => ?_)
  subst el e2
  refine thn (po_none.run pins s2 σ H2 (fun o H3 => o = none ∧ H3 = H2) I2 ⟨rfl, rfl⟩) fun vu s3 ⟨u, H3, I3, pu, eu, e3⟩ => ?_
  subst eu e3
  refine thn (hst.run pins s3 σ H3 (fun o H4 => o = some (-1) ∧ H4 = H3) I3 ⟨1, rfl, -1, rfl, rfl, rfl⟩) fun vs s4 ⟨o, H4, I4, ps, eo, e4⟩ => ?_
  subst eo e4
  have I5 : Inv X pins σ H4 { s4 with heap := s4.heap.push { cls := .type "slice", data := .fields #[vl, vu, vs] } } := I4.kept (t' := s4.toks) fun b ob q => Heap.get?_push_of_some _ q
  obtain ⟨l0, rfl, e0⟩ := IsPart.raw pl
  obtain ⟨u0, rfl, e1⟩ := IsPart.raw pu
  obtain ⟨v0, rfl, e2⟩ := IsPart.raw ps
  have l0n : l0 = none := by cases l0 with | none => rfl | some _ => cases e0
  have u0n : u0 = none := by cases u0 with | none => rfl | some _ => cases e1
  subst l0n u0n
  obtain ⟨tk, rfl⟩ : ∃ tk, v0 = some (-1, tk) := by
    cases v0 with
    | none => cases e2
    | some p =>
      obtain ⟨a, b⟩ := p
      have : a = -1 := Option.some.inj e2
      exact ⟨b, by rw [this]⟩
  show wpAny (model X.prog X.w) X.A (subscriptTail e (.Slice none none (some (.UnaryOp .USub (.Constant (.int 1) k p1) p2)) p3) (.str z t) (.ref s4.heap.objs.size)) (EP X pins σ Q) X.xe _
  refine tail_any (ops := [.str z t, .ref s4.heap.objs.size]) (typeIs_str _ z t) F.slot_str_getitem.lookup ?_ (by with_unfolding_all rfl)
  refine wpAny_getItem_str_slice (l := none) (u := none) (st := some (-1, tk)) ⟨_, Heap.get?_push_size _ rfl, rfl, rfl⟩ rfl ?_
  show Made.post (if ((-1 : Int) == 1 && (Builtin.Str.strSliceIndices none none (-1) z.length).length == z.length) = true then Made.val (.str z t) else Made.str ⟨((Builtin.Str.strSliceIndices none none (-1) z.length).filterMap (z.cps[·]?)).toArray⟩) _ _
  rw [if_neg (by simp), pick_rev]
  refine ⟨?_, .str (revS z), H4, I5.tok _, ⟨_, rfl⟩, q⟩
  show (z.cps.toList.reverse.toArray).size ≤ sizeLine
  rw [List.size_toArray, List.length_reverse, Array.length_toList]
  exact hz
/-! ### sep.join(s), s a text -/
theorem mt_joinS (hc : X.calm = true) : MtR X "str.join" (fun x xs H Q => ∃ a z : Str, x = .str a ∧ xs = [.str z] ∧ JoinOk a (PyProof.Rows.signs z) = true ∧ Q (.str (Txt.join a (PyProof.Rows.signs z))) H) := by
  intro pins s σ H x xs v us Q I rx rs h
  obtain ⟨a, z, rfl, rfl, ok, q⟩ := h
  obtain ⟨t, rfl⟩ := rx
  obtain ⟨u, rfl, ru⟩ := vals1 rs
  obtain ⟨t', rfl⟩ := ru
  exact SC.joinStr (I.ok.hd hc) ok fun h' k t2 hk => ⟨.str _, H, I.kept (t' := k) hk, ⟨t2, rfl⟩, q⟩
end
end L2
set_option Elab.async false
set_option linter.all false
set_option maxRecDepth 100001
set_option maxHeartbeats 3999999
namespace K25
open PySem L2
def topS (i : Nat) : Stmt := PySem.Challenge.pw_wordvault_k25_phrases_and_their_classes.main.body.getD i (.Pass ⟨0, 0, 0, 0⟩)
abbrev sWhole : Stmt := topS 1
abbrev sBetween : Stmt := topS 2
abbrev sPen : Stmt := topS 31
abbrev sDraw : Stmt := topS 32
abbrev sPick : Stmt := topS 33
/-! what kinds of values are met -/
inductive Kn (H : Hp) : V → Prop where
  | non : Kn H .non
  | bl (b : Bool) : Kn H (.bl b)
  | int (i : Int) : Kn H (.int i)
  | str (x : Str) : Kn H (.str x)
  | lst {a : Addr} {xs : List V} (e : H a = some (.lst xs)) : Kn H (.ref a)
  | tup {a : Addr} {xs : List V} (e : H a = some (.tup xs)) : Kn H (.ref a)
theorem Kn.same {H H2 : Hp} {v : V} (k : Kn H v) (s : Same H H2) : Kn H2 v := by
  cases k with
  | non => exact .non
  | bl b => exact .bl b
  | int i => exact .int i
  | str x => exact .str x
  | lst e => exact .lst (s _ _ e)
  | tup e => exact .tup (s _ _ e)
def isI : V → Bool
  | .int _ => true
  | _ => false
def isB : V → Bool
  | .bl _ => true
  | _ => false
def isT (H : Hp) : V → Bool
  | .ref a => match H a with
    | some (.tup _) => true
    | _ => false
  | _ => false
def isL (H : Hp) : V → Bool
  | .ref a => match H a with
    | some (.lst _) => true
    | _ => false
  | _ => false
theorem isT_lst {H : Hp} {a : Addr} {xs : List V} (e : H a = some (.lst xs)) : isT H (.ref a) = false := by simp only [isT, e]
theorem isT_tup {H : Hp} {a : Addr} {xs : List V} (e : H a = some (.tup xs)) : isT H (.ref a) = true := by simp only [isT, e]
theorem isL_lst {H : Hp} {a : Addr} {xs : List V} (e : H a = some (.lst xs)) : isL H (.ref a) = true := by simp only [isL, e]
theorem isL_tup {H : Hp} {a : Addr} {xs : List V} (e : H a = some (.tup xs)) : isL H (.ref a) = false := by simp only [isL, e]
def KT (K : PySem.W.Frag) (t : String) (bi bb bt bl : Bool) : Prop := PySem.W.kitOne K (.type t) (.type "int") = some bi ∧ PySem.W.kitOne K (.type t) (.type "bool") = some bb ∧
    PySem.W.kitOne K (.type t) (.type "tuple") = some bt ∧ PySem.W.kitOne K (.type t) (.type "list") = some bl ∧ PySem.W.kitOne K (.type t) (.type "dict") = some false
theorem kt_of {K : PySem.W.Frag} {t : String} {bi bb bt bl : Bool} (h : kitB t "int" = some bi ∧ kitB t "bool" = some bb ∧ kitB t "tuple" = some bt ∧ kitB t "list" = some bl ∧ kitB t "dict" = some false) : KT K t bi bb bt bl := h
theorem kt_non {K : PySem.W.Frag} : KT K "NoneType" false false false false := kt_of (by decide +kernel)
theorem kt_bl {K : PySem.W.Frag} : KT K "bool" true true false false := kt_of (by decide +kernel)
theorem kt_int {K : PySem.W.Frag} : KT K "int" true false false false := kt_of (by decide +kernel)
theorem kt_str {K : PySem.W.Frag} : KT K "str" false false false false := kt_of (by decide +kernel)
theorem kt_lst {K : PySem.W.Frag} : KT K "list" false false false true := kt_of (by decide +kernel)
theorem kt_tup {K : PySem.W.Frag} : KT K "tuple" false false true false := kt_of (by decide +kernel)
/-- a known value's type, and what isinstance says of it -/
theorem Kn.kinds (K : PySem.W.Frag) {H : Hp} {v : V} (k : Kn H v) : ∃ t : String, TyX K H v (.type t) ∧ KT K t (isI v || isB v) (isB v) (isT H v) (isL H v) := by
  cases k with
  | non => exact ⟨_, .base .non, kt_non⟩
  | bl b => exact ⟨_, .base (.bl b), kt_bl⟩
  | int i => exact ⟨_, .base (.int i), kt_int⟩
  | str x => exact ⟨_, .base (.str x), kt_str⟩
  | lst e =>
    rw [isT_lst e, isL_lst e]
    exact ⟨_, .base (.lst e), kt_lst⟩
  | tup e =>
    rw [isT_tup e, isL_tup e]
    exact ⟨_, .base (.tup e), kt_tup⟩
def spWhole : Sp := fun vs H Q _ => ∃ v, vs = [v] ∧ Kn H v ∧ Q (.bl (isI v)) H
def btw : V → Int → Int → Bool
  | .int i, lo, hi => decide (lo ≤ i ∧ i ≤ hi)
  | _, _, _ => false
def spBetween : Sp := fun vs H Q _ => ∃ v lo hi, vs = [v, .int lo, .int hi] ∧ Kn H v ∧ Q (.bl (btw v lo hi)) H
/-- how many items a known tuple has -/
def isTn (H : Hp) (v : V) (n : Int) : Bool := match v with
  | .ref a => match H a with
    | some (.tup xs) => decide ((xs.length : Int) = n)
    | _ => false
  | _ => false
def spTupOf : Sp := fun vs H Q _ => ∃ v n, vs = [v, .int n] ∧ Kn H v ∧ Q (.bl (isTn H v n)) H
section
variable {P : Program} {w : World} {K : PySem.W.Frag} {mg : Str → Option Value} {base : Heap}
/-- a def of the top that may be called by its name; CX: what it may let out -/
structure Cal (CX : CXT) (P : Program) (w : World) (K : PySem.W.Frag) (mg : Str → Option Value) (base : Heap) (k : Nat) (x : Str) (sp : Sp) : Prop where
  ex : ∃ (f : Addr) (fd : FuncData) (ps : List Str), FnOk P w K mg base CX k f fd ps sp ∧ mg x = some (.ref f) ∧ PySem.W.keepIn K (.ref f) = true ∧ Binds K fd ps []
/-- a method of the class at C -/
structure Met (CX : CXT) (P : Program) (w : World) (K : PySem.W.Frag) (mg : Str → Option Value) (base : Heap) (k : Nat) (C : Addr) (m : Str) (sp : Sp) : Prop where
  ex : ∃ (f : Addr) (fd : FuncData) (ps : List Str), Cls K C ∧ Meth K C m f ∧ FnOk P w K mg base CX k f fd ps sp ∧ Binds K fd ps []
/-- a class that may be made by its name -/
structure Mak (CX : CXT) (P : Program) (w : World) (K : PySem.W.Frag) (mg : Str → Option Value) (base : Heap) (k : Nat) (x : Str) (C : Addr) (sp : Sp) : Prop where
  ex : ∃ (f : Addr) (fd : FuncData) (ps : List Str), Mk K C f ∧ FnOk P w K mg base CX k f fd ps sp ∧ mg x = some (.ref C) ∧ Binds K fd ps []
section
variable {X : Cx} {CX : CXT} {k j : Nat} {C : Addr} {x m : Str} {sp : Sp} {p pos apos : Pos} {e o : Expr} {es : List Expr} {ta : TE} {t : TA} {E : XK}
theorem pe_c (c : Cal CX X.prog X.w X.K X.mg X.base k x sp) (hr : Room j X.A) (hx : Passes CX X E) (ha : PA X (e :: es) t) (hk : k ≤ j := by decide) (hg : Gl X x := by rfl) (hdb : (x == ("__debug__" : Str)) = false := by decide)
    (he : starEach (e :: es) X.env = (false, eval e X.env) :: starEach es X.env := by rfl) (hpl : (backTo pos (starEach es X.env)).any (·.1) = false := by rfl) : PE X (.Call (.Name x p) (e :: es) [] pos) (tCall sp [] E t) := by
  obtain ⟨f, fd, ps, F, hm, kp, b⟩ := c.ex
  exact pe_call F (hr.mono hk) hg hm kp b .nil hx ha hdb he hpl
theorem pe_mt (c : Met CX X.prog X.w X.K X.mg X.base k C m sp) (hr : Room j X.A) (hx : Passes CX X E) (he : PE X o ta) (ha : PA X (e :: es) t) (hk : k ≤ j := by decide) {pl : Sem Bool}
    (hst : starEach (e :: es) X.env = (false, eval e X.env) :: starEach es X.env := by rfl) (hpl : (backTo pos (starEach es X.env)).any (·.1) = false := by rfl)
    (hc : eval (.Call (.Attribute o m apos) (e :: es) [] pos) X.env = (do
      let ov ← eval o X.env
      standAt apos.atName
      let (f, first) ← holding [ov] (getMethod ov m pl)
      callWith pos f first (backTo pos (starEach (e :: es) X.env)) (backToKw pos (keywordEach [] X.env))) := by rfl) :
    PE X (.Call (.Attribute o m apos) (e :: es) [] pos) (tMeth C m sp [] E ta t) := by
  obtain ⟨f, fd, ps, cc, hm, F, b⟩ := c.ex
  exact pe_meth he cc hm F (hr.mono hk) b .nil hx ha hst hpl hc
theorem pe_mt0 (c : Met CX X.prog X.w X.K X.mg X.base k C m sp) (hr : Room j X.A) (hx : Passes CX X E) (he : PE X o ta) (hk : k ≤ j := by decide) {pl : Sem Bool}
    (hc : eval (.Call (.Attribute o m apos) [] [] pos) X.env = (do
      let ov ← eval o X.env
      standAt apos.atName
      let (f, first) ← holding [ov] (getMethod ov m pl)
      callWith pos f first (backTo pos (starEach [] X.env)) (backToKw pos (keywordEach [] X.env))) := by rfl) :
    PE X (.Call (.Attribute o m apos) [] [] pos) (tMeth C m sp [] E ta tNil) := by
  obtain ⟨f, fd, ps, cc, hm, F, b⟩ := c.ex
  exact pe_meth0 he cc hm F (hr.mono hk) b .nil hx hc
theorem pe_mk (c : Mak CX X.prog X.w X.K X.mg X.base k x C sp) (hr : Room j X.A) (hx : Passes CX X E) (ha : PA X (e :: es) t) (hk : k + 1 ≤ j := by decide) (hg : Gl X x := by rfl) (hdb : (x == ("__debug__" : Str)) = false := by decide)
    (he : starEach (e :: es) X.env = (false, eval e X.env) :: starEach es X.env := by rfl) (hpl : (backTo pos (starEach es X.env)).any (·.1) = false := by rfl) : PE X (.Call (.Name x p) (e :: es) [] pos) (tMake C sp [] E t) := by
  obtain ⟨f, fd, ps, M, F, hm, b⟩ := c.ex
  exact pe_make M F (hr.mono hk) hg hm b .nil hx ha hdb he hpl
end
/-- the built-in names that the module leaves as they are -/
structure Bi (mg : Str → Option Value) : Prop where
  isi : mg "isinstance" = none
  int : mg "int" = none
  bool : mg "bool" = none
  tuple : mg "tuple" = none
  list : mg "list" = none
  dict : mg "dict" = none
  len : mg "len" = none
  enum : mg "enumerate" = none
  range : mg "range" = none
  abs : mg "abs" = none
  max : mg "max" = none
  min : mg "min" = none
section
variable {X : Cx}
theorem pe_isi {a : Expr} {es : List Expr} {t : TA} {p pos : Pos} (hm : X.mg "isinstance" = none) (ha : PA X (a :: es) t) (hg : Gl X "isinstance" := by rfl)
    (he : starEach (a :: es) X.env = (false, eval a X.env) :: starEach es X.env := by rfl) (hpl : (backTo pos (starEach es X.env)).any (·.1) = false := by rfl) :
    PE X (.Call (.Name "isinstance" p) (a :: es) [] pos) (tCB (rIsi X.K) t) := pe_callB call_isi hg hm PyProof.Rows.boot_isinstance ha (he := he) (hpl := hpl)
theorem pe_ty (n : String) {x : Str} {p : Pos} (hm : X.mg x = none) (hv : bootBuiltins x = some (.type n) := by decide +kernel) (hg : Gl X x := by rfl) (h1 : x ≠ "__name__" := by decide) (h2 : (x == ("__debug__" : Str)) = false := by decide) : PE X (.Name x p) (tC (.ty n)) :=
  pe_bltn (v := .ty n) hg hm hv rfl h1 h2
theorem pe_len {a : Expr} {es : List Expr} {t : TA} {p pos : Pos} (hm : X.mg "len" = none) (ha : PA X (a :: es) t) (hg : Gl X "len" := by rfl) (he : starEach (a :: es) X.env = (false, eval a X.env) :: starEach es X.env := by rfl)
    (hpl : (backTo pos (starEach es X.env)).any (·.1) = false := by rfl) :
    PE X (.Call (.Name "len" p) (a :: es) [] pos) (tCB (fun xs H Q => ∃ p ys, xs = [.ref p] ∧ (SqL X.K H p ys ∨ SqT X.K H p ys) ∧ Q (.int ys.length) H) t) := pe_callB call_len_seq hg hm PySem.boot_len ha (he := he) (hpl := hpl)
theorem pa1 {a : Expr} {ta : TE} (ha : PE X a ta) (hs : starEach (a :: []) X.env = (false, eval a X.env) :: starEach [] X.env := by rfl) : PA X [a] (tCons ta tNil) := pa_cons ha pa_nil hs
end
theorem scWhole : FnScope ["value"] ["value"] (defScope sWhole) := ⟨rfl, rfl, rfl, by decide +kernel, rfl, by decide +kernel, by decide +kernel⟩
theorem ok_whole {f : Addr} {fd : FuncData} (F : Fun K "is_whole" "is_whole" sWhole f fd) (B : Bi mg) : FnOk P w K mg base CX0 1 f fd ["value"] spWhole := by
  refine F.ok scWhole (fun vs H Q E h => ?_) (fun cdv A outer s H vs Q E hr h => ?_)
  · obtain ⟨v, rfl, _⟩ := h
    rfl
  · obtain ⟨v, rfl, k, q⟩ := h
    refine ⟨_, pss_one (ps_ret (pe_and (pe_isi B.isi (pa_cons (pv 0) (pa_cons (pe_ty "int" B.int) pa_nil))) (pe_one (pe_not (pe_isi B.isi (pa_cons (pv 0) (pa_cons (pe_ty "bool" B.bool) pa_nil))))))), ?_⟩
    obtain ⟨t, ty, k1, k2, _⟩ := k.kinds K
    refine ⟨v, rfl, v, _, _, _, _, rfl, .ty "int", ty, k1, _, rfl, ?_⟩
    cases v with
    | bl b => exact ⟨_, rfl, _, _, _, _, _, rfl, .ty "bool", ty, k2, _, rfl, q⟩
    | int i => exact ⟨_, rfl, _, _, _, _, _, rfl, .ty "bool", ty, k2, _, rfl, q⟩
    | _ => exact q
theorem scBetween : FnScope ["value", "low", "high"] ["value", "low", "high"] (defScope sBetween) := ⟨rfl, rfl, rfl, by decide +kernel, rfl, by decide +kernel, by decide +kernel⟩
theorem ok_between {f : Addr} {fd : FuncData} (F : Fun K "is_between" "is_between" sBetween f fd) (cW : Cal CX0 P w K mg base 1 "is_whole" spWhole) : FnOk P w K mg base CX0 2 f fd ["value", "low", "high"] spBetween := by
  refine F.ok scBetween (fun vs H Q E h => ?_) (fun cdv A outer s H vs Q E hr h => ?_)
  · obtain ⟨v, lo, hi, rfl, _⟩ := h
    rfl
  · obtain ⟨v, lo, hi, rfl, k, q⟩ := h
    refine ⟨_, pss_one (ps_ret (pe_and (pe_c cW hr pass0 (pa_cons (pv 0) pa_nil)) (pe_one (pe_chain op_le op_le (pv 1) (pv 0) (pv 2))))), ?_⟩
    refine ⟨v, rfl, v, rfl, k, _, rfl, ?_⟩
    cases v with
    | int i =>
      refine ⟨_, rfl, _, rfl, _, _, rfl, rfl, _, rfl, ?_⟩
      by_cases c : lo ≤ i
      · rw [decide_eq_true c]
        refine ⟨_, rfl, _, _, rfl, rfl, ?_⟩
        have e : decide (i ≤ hi) = btw (.int i) lo hi := by
          show decide (i ≤ hi) = decide (lo ≤ i ∧ i ≤ hi)
          exact decide_eq_decide.mpr ⟨fun h => ⟨c, h⟩, fun h => h.2⟩
        show Q (.bl (decide (i ≤ hi))) H
        rw [e]
        exact q
      · rw [decide_eq_false c]
        have e : false = btw (.int i) lo hi := (decide_eq_false fun h => c h.1).symm
        show Q (.bl false) H
        rw [e]
        exact q
    | _ => exact q
end
theorem Same.seqT {K : PySem.W.Frag} {H H' : Hp} {a : Addr} {xs : List V} (e : Same H H') (h : SqT K H a xs) : SqT K H' a xs := by
  rcases h with (h | ⟨o, h⟩) | h
  · exact .inl (.inl (e _ _ h))
  · exact .inl (.inr ⟨o, e _ _ h⟩)
  · exact .inr h
theorem same_new {H : Hp} {p : Addr} {o : HO} (n : H p = none) : Same H (upd H p o) := fun b u e => by
  rw [upd_ne (ne_of_none e n)]
  exact e
/-- a list or a tuple of these items -/
def Sq (K : PySem.W.Frag) (H : Hp) (a : Addr) (xs : List V) : Prop := SqL K H a xs ∨ SqT K H a xs
theorem Sq.same {K : PySem.W.Frag} {H H' : Hp} {a : Addr} {xs : List V} (q : Sq K H a xs) (e : Same H H') : Sq K H' a xs := q.imp (fun h => e.seq h) fun h => Same.seqT e h
section
variable {X : Cx} {tg e : Expr} {w1 w2 : TI}
/-- a list or a tuple, item by item -/
def iSqS (K : PySem.W.Frag) (te : TE) : TI := fun σ H R => te σ H fun x H1 => ∃ a xs, x = .ref a ∧ Sq K H1 a xs ∧ ∀ (J : It) (G : Hp → Prop), Walk J xs.length G (YAt xs) → (∀ H', Same H1 H' → G H') → R J H1
open PySem.Spec PyProof.Rows in
theorem pi_sq {te : TE} (he : PE X e te) : PI X tg e (iSqS X.K te) := by
  constructor
  intro pins s σ H R I h
  refine thn (he.run pins s σ H _ I h) fun u s1 hh => ?_
  obtain ⟨v, H1, I1, r1, a, xs, ev, sq, k⟩ := hh
  subst ev
  cases r1
  have near : ∀ b ∈ [s1.heap.objs.size], FpOk X pins H1 b := fun b hb => by
    rw [List.mem_singleton.mp hb]
    exact I1.fpOk (Nat.le_refl _) (I1.hok.fresh (Nat.le_refl _))
  have J1 : ∀ o : Obj, Inv X pins σ H1 { s1 with heap := s1.heap.push o } := fun o => I1.kept (t' := s1.toks) fun b u z => Heap.get?_push_of_some _ z
  rcases sq with hq | hq
  · obtain ⟨its, rv, p1, hz⟩ := I1.list hq
    exact wpAny_pyIter_list p1.isList ⟨s1.heap.objs.size, _, _, _, H1, rfl, J1 _, turn_list a _, ⟨_, Heap.get?_push_size _ rfl, rfl, rfl⟩, near, k _ _ walk_list fun H' z => z.seq hq⟩
  · obtain ⟨its, rv, p2, hz⟩ := I1.tuple hq
    exact wpAny_pyIter_tuple (show s1.heap.IsTuple a its.toArray from p2) ⟨s1.heap.objs.size, _, _, _, H1, rfl, J1 _, turn_tuple a _, ⟨_, Heap.get?_push_size _ rfl, rfl, rfl⟩, near, k _ _ walk_tup fun H' z => Same.seqT z hq⟩
end
/-! ### None or an int -/
def Num (v : V) : Prop := v = .non ∨ ∃ i, v = .int i
def dOf : V → PyData
  | .int i => .int i
  | .bl b => .bool b
  | .str x => .str x
  | _ => .none
theorem eqv_num {a b : V} (ha : Num a) (hb : Num b) : PyData.eqv (dOf a) (dOf b) = decide (a = b) := by
  rcases ha with rfl | ⟨i, rfl⟩ <;> rcases hb with rfl | ⟨j, rfl⟩
  · simp [dOf, PyData.eqv]
  · simp [dOf, PyData.eqv]
  · simp [dOf, PyData.eqv]
  · rw [dec_int]
    simp [dOf, PyData.eqv]
theorem eqvAll_num : ∀ {xs ys : List V}, (∀ v ∈ xs, Num v) → (∀ v ∈ ys, Num v) → PyData.eqvAll (xs.map dOf) (ys.map dOf) = decide (xs = ys)
  | [], [], _, _ => by simp [PyData.eqvAll]
  | [], _ :: _, _, _ => by simp [PyData.eqvAll]
  | _ :: _, [], _, _ => by simp [PyData.eqvAll]
  | x :: xs, y :: ys, hx, hy => by
    have ih := eqvAll_num (fun v m => hx v (List.mem_cons_of_mem _ m)) fun v m => hy v (List.mem_cons_of_mem _ m)
    have e : PyData.eqvAll ((x :: xs).map dOf) ((y :: ys).map dOf) = (PyData.eqv (dOf x) (dOf y) && PyData.eqvAll (xs.map dOf) (ys.map dOf)) := by simp only [List.map_cons, PyData.eqvAll]
    rw [e, ih, eqv_num (hx x List.mem_cons_self) (hy y List.mem_cons_self)]
    by_cases h1 : x = y
    · by_cases h2 : xs = ys
      · simp [h1, h2]
      · simp [h1, h2]
    · simp [h1]
theorem dp_num {K : PySem.W.Frag} {H : Hp} {v : V} (h : Num v) : Dp K H v (dOf v) := by
  rcases h with rfl | ⟨i, rfl⟩
  · exact .non
  · exact .int i
theorem dpAll_num {K : PySem.W.Frag} {H : Hp} : ∀ {xs : List V}, (∀ v ∈ xs, Num v) → DpAll K H xs (xs.map dOf)
  | [], _ => .nil
  | x :: xs, h => .cons (dp_num (h x List.mem_cons_self)) (dpAll_num fun v m => h v (List.mem_cons_of_mem _ m))
theorem lay_num : ∀ {xs : List V}, (∀ v ∈ xs, Num v) → PyData.canLayAll0 (xs.map dOf) = true
  | [], _ => by simp [PyData.canLayAll0]
  | x :: xs, h => by
    have ih := lay_num fun v m => h v (List.mem_cons_of_mem x m)
    rw [List.map_cons, PyData.canLayAll0, ih, Bool.and_true]
    rcases h x List.mem_cons_self with rfl | ⟨i, rfl⟩ <;> simp [dOf, PyData.canLay0]
theorem depth_num : ∀ {xs : List V}, (∀ v ∈ xs, Num v) → PyData.depthAll (xs.map dOf) ≤ 1
  | [], _ => by simp [PyData.depthAll]
  | x :: xs, h => by
    have ih := depth_num fun v m => h v (List.mem_cons_of_mem x m)
    simp only [List.map_cons, PyData.depthAll]
    rcases h x List.mem_cons_self with rfl | ⟨i, rfl⟩ <;> simp only [dOf, PyData.depth] <;> omega
theorem shL_num {xs : List V} (h : ∀ v ∈ xs, Num v) : SeqAt.shaped (.list (xs.map dOf)) = true := by
  have h1 := lay_num h
  have h2 := depth_num h
  show (PyData.canLay0 (.list (xs.map dOf)) && decide (PyData.depth (.list (xs.map dOf)) ≤ 64)) = true
  rw [Bool.and_eq_true]
  refine ⟨by simp only [PyData.canLay0]; exact h1, decide_eq_true ?_⟩
  simp only [PyData.depth]
  omega
theorem shT_num {xs : List V} (h : ∀ v ∈ xs, Num v) : SeqAt.shaped (.tuple (xs.map dOf)) = true := by
  have h1 := lay_num h
  have h2 := depth_num h
  show (PyData.canLay0 (.tuple (xs.map dOf)) && decide (PyData.depth (.tuple (xs.map dOf)) ≤ 64)) = true
  rw [Bool.and_eq_true]
  refine ⟨by simp only [PyData.canLay0]; exact h1, decide_eq_true ?_⟩
  simp only [PyData.depth]
  omega
/-- two lists, or two tuples, of None and ints -/
def rEqN (K : PySem.W.Frag) (neg : Bool) : R2 := fun x y H Q => ∃ a b xs ys, x = .ref a ∧ y = .ref b ∧ ((SqL K H a xs ∧ SqL K H b ys) ∨ (SqT K H a xs ∧ SqT K H b ys)) ∧ (∀ v ∈ xs, Num v) ∧ (∀ v ∈ ys, Num v) ∧ Q (.bl (if neg then !decide (xs = ys) else decide (xs = ys))) H
section
variable {X : Cx}
theorem op_eqN (hu : X.A.units + 64 < cLine) : OpR X (compareOp .Eq) (rEqN X.K false) := by
  intro pins s σ H x y v u Q I rx ry h
  obtain ⟨a, b, xs, ys, rfl, rfl, d, nx, ny, q⟩ := h
  rcases d with ⟨d1, d2⟩ | ⟨d1, d2⟩
  · refine op_eqD hu pins s σ H _ _ v u Q I rx ry ⟨.list (xs.map dOf), .list (ys.map dOf), .lst d1 (dpAll_num nx), .lst d2 (dpAll_num ny), shL_num nx, shL_num ny, ?_⟩
    rw [show PyData.eqv (.list (xs.map dOf)) (.list (ys.map dOf)) = decide (xs = ys) by rw [← eqvAll_num nx ny]; simp only [PyData.eqv]]
    exact q
  · refine op_eqD hu pins s σ H _ _ v u Q I rx ry ⟨.tuple (xs.map dOf), .tuple (ys.map dOf), .tup d1 (dpAll_num nx), .tup d2 (dpAll_num ny), shT_num nx, shT_num ny, ?_⟩
    rw [show PyData.eqv (.tuple (xs.map dOf)) (.tuple (ys.map dOf)) = decide (xs = ys) by rw [← eqvAll_num nx ny]; simp only [PyData.eqv]]
    exact q
theorem op_neN (hu : X.A.units + 64 < cLine) : OpR X (compareOp .NotEq) (rEqN X.K true) := by
  intro pins s σ H x y v u Q I rx ry h
  obtain ⟨a, b, xs, ys, rfl, rfl, d, nx, ny, q⟩ := h
  rcases d with ⟨d1, d2⟩ | ⟨d1, d2⟩
  · refine op_neD hu pins s σ H _ _ v u Q I rx ry ⟨.list (xs.map dOf), .list (ys.map dOf), .lst d1 (dpAll_num nx), .lst d2 (dpAll_num ny), shL_num nx, shL_num ny, ?_⟩
    rw [show PyData.eqv (.list (xs.map dOf)) (.list (ys.map dOf)) = decide (xs = ys) by rw [← eqvAll_num nx ny]; simp only [PyData.eqv]]
    exact q
  · refine op_neD hu pins s σ H _ _ v u Q I rx ry ⟨.tuple (xs.map dOf), .tuple (ys.map dOf), .tup d1 (dpAll_num nx), .tup d2 (dpAll_num ny), shT_num nx, shT_num ny, ?_⟩
    rw [show PyData.eqv (.tuple (xs.map dOf)) (.tuple (ys.map dOf)) = decide (xs = ys) by rw [← eqvAll_num nx ny]; simp only [PyData.eqv]]
    exact q
/-- x == y, x an instance of the class at C with an own __eq__ -/
def rOwnEq (K : PySem.W.Frag) (C : Addr) (sp : Sp) : R2 := fun x y H Q => ∃ a dx fs tb, x = .ref a ∧ H a = some (.ins C dx fs) ∧ TyX K H y tb ∧ PySem.W.notFirst K C tb = true ∧ sp [x, y] H (fun v H' => (∃ b, v = .bl b) ∧ Q v H') E0
theorem op_ownEq {CX : CXT} {n j : Nat} {C f : Addr} {fd : FuncData} {ps : List Str} {sp : Sp} (F : FnOk X.prog X.w X.K X.mg X.base CX n f fd ps sp) (hs : PySem.W.findIn X.K (.ref C) "__eq__" = some (some (.ref f))) (hf : PySem.W.isFn X.K (.ref f) = true) (hb : Binds X.K fd ps [])
    (hx : Passes CX X E0) (hr : Room j X.A) (hj : n ≤ j) : OpR X (compareOp .Eq) (rOwnEq X.K C sp) := by
  intro pins s σ H x y v u Q I rx ry h
  obtain ⟨a, dx, fs, tb, rfl, ha, ty, nf, h⟩ := h
  have hr := hr.mono hj
  cases (show v = Value.ref a from rx)
  obtain ⟨mA, J, _⟩ := ins_get I.hok ha
  obtain ⟨od, J, _⟩ := J.look
  obtain ⟨Pz, Z, p, _⟩ := kit_of I ry ty
  obtain ⟨m, hF⟩ := I.fr
  show wpAny (model X.prog X.w) X.A (richCompare .Eq (.ref a) u) (EP X pins σ Q) X.xe s
  have hu : X.A.units < cLine := by have := hr.un; omega
  refine PySem.W.cmp_K (op := .Eq) (tb := tb) hu hF I.ok.mod.kin J (Z.ty _ _ I.kIn p) nf hs hf ?_
  have hl := F.len _ _ _ _ h
  have r2 : Vals [V.ref a, y] [Value.ref a, u] := .cons rfl (.cons ry .nil)
  refine wpAny_call (codeAny_mono (F.run X.A X.stack s H ⟨[.ref a, u], []⟩ [.ref a, u] [.ref a, y] _ E0 hr I.env0 (by
    have := hb s [.ref a, u] I.kIn (by simpa using hl)
    simpa using this) r2 h) fun r s' hq => ?_)
  cases r with
  | error e => exact hx pins σ H s e s' I hq
  | ok fl =>
    cases fl with
    | ret w =>
      obtain ⟨z, H', I', rz, ⟨b, ez⟩, q⟩ := I.after hq
      subst ez
      cases rz
      exact ⟨.bl b, H', I', rfl, q⟩
    | next => exact False.elim hq
    | brk => exact False.elim hq
    | cont => exact False.elim hq
end
theorem kit_self {K : PySem.W.Frag} {C : Addr} : PySem.W.kitOne K (.ref C) (.ref C) = some true := by
  unfold PySem.W.kitOne
  rw [if_pos (by simp)]

theorem hu64 {A : Around} {k : Nat} (hr : Room k A) : A.units + 64 < cLine := by have := hr.un; omega
theorem hu65 {A : Around} {k : Nat} (hr : Room k A) : A.units + 65 < cLine := by have := hr.un; omega
theorem small2000 {n : Nat} (h : n ≤ 2100) : n < sizeLine := Nat.lt_of_le_of_lt h (by decide)
theorem small10 {n : Nat} (h : n ≤ 10000) : n < sizeLine := Nat.lt_of_le_of_lt h (by decide)
theorem num_kn {H : Hp} {v : V} (h : Num v) : Kn H v := by
  rcases h with rfl | ⟨i, rfl⟩
  · exact .non
  · exact .int i

section
variable {X : Cx} (K : PySem.W.Frag)
theorem pe_fldK (hK : X.K = K) {e : Expr} {ta : TE} {f : Str} {pos : Pos} (he : PE X e ta) (hb : attributeBase e f X.env (eval e X.env) = eval e X.env := by rfl) : PE X (.Attribute e f pos) (tFld K ta f) := by
  subst hK
  exact pe_fld he hb
theorem ix_tupK (hK : X.K = K) : IxR X (rIxT K) := by
  subst hK
  exact ix_tup
theorem ix_listK (hK : X.K = K) : IxR X (rIxL K) := by
  subst hK
  exact ix_list
end

theorem paired_last {α β : Type} {F : α → β → Prop} : ∀ {ts : List α} {ps : List β} {p : β}, Paired F ts (ps ++ [p]) → ∃ us v, ts = us ++ [v] ∧ Paired F us ps ∧ F v p
  | _, [], _, .cons h .nil => ⟨[], _, rfl, .nil, h⟩
  | _, _ :: _, _, .cons h t =>
    let ⟨us, v, e, q1, q2⟩ := paired_last t
    ⟨_ :: us, v, by rw [e]; rfl, .cons h q1, q2⟩
section
variable {X : Cx} {tg e : Expr}
/-- a list or a tuple, item by item; it stays where its own object does -/
def iSqA (K : PySem.W.Frag) (te : TE) : TI := fun σ H R => te σ H fun x H1 => ∃ a xs, x = .ref a ∧ Sq K H1 a xs ∧ ∀ (J : It) (G : Hp → Prop), Walk J xs.length G (YAt xs) → (∀ H', (∀ o, H1 a = some o → H' a = some o) → G H') → R J H1
theorem sqL_at {K : PySem.W.Frag} {H H' : Hp} {a : Addr} {xs : List V} (h : SqL K H a xs) (e : ∀ o, H a = some o → H' a = some o) : SqL K H' a xs := by
  rcases h with (h | ⟨o, h⟩) | h
  · exact .inl (.inl (e _ h))
  · exact .inl (.inr ⟨o, e _ h⟩)
  · exact .inr h
theorem sqT_at {K : PySem.W.Frag} {H H' : Hp} {a : Addr} {xs : List V} (h : SqT K H a xs) (e : ∀ o, H a = some o → H' a = some o) : SqT K H' a xs := by
  rcases h with (h | ⟨o, h⟩) | h
  · exact .inl (.inl (e _ h))
  · exact .inl (.inr ⟨o, e _ h⟩)
  · exact .inr h
open PySem.Spec PyProof.Rows in
theorem pi_sqA {te : TE} (he : PE X e te) : PI X tg e (iSqA X.K te) := by
  constructor
  intro pins s σ H R I h
  refine thn (he.run pins s σ H _ I h) fun u s1 hh => ?_
  obtain ⟨v, H1, I1, r1, a, xs, ev, sq, k⟩ := hh
  subst ev
  cases r1
  have near : ∀ b ∈ [s1.heap.objs.size], FpOk X pins H1 b := fun b hb => by
    rw [List.mem_singleton.mp hb]
    exact I1.fpOk (Nat.le_refl _) (I1.hok.fresh (Nat.le_refl _))
  have J1 : ∀ o : Obj, Inv X pins σ H1 { s1 with heap := s1.heap.push o } := fun o => I1.kept (t' := s1.toks) fun b u z => Heap.get?_push_of_some _ z
  rcases sq with hq | hq
  · obtain ⟨its, rv, p1, hz⟩ := I1.list hq
    exact wpAny_pyIter_list p1.isList ⟨s1.heap.objs.size, _, _, _, H1, rfl, J1 _, turn_list a _, ⟨_, Heap.get?_push_size _ rfl, rfl, rfl⟩, near, k _ _ walk_list fun H' z => sqL_at hq z⟩
  · obtain ⟨its, rv, p2, hz⟩ := I1.tuple hq
    exact wpAny_pyIter_tuple (show s1.heap.IsTuple a its.toArray from p2) ⟨s1.heap.objs.size, _, _, _, H1, rfl, J1 _, turn_tuple a _, ⟨_, Heap.get?_push_size _ rfl, rfl, rfl⟩, near, k _ _ walk_tup fun H' z => sqT_at hq z⟩
end

/-! ### the law's pen -/
def penK (cl : Addr) (k left : Int) : List (Key × V) := [(.inr "cells", .ref cl), (.inr "at", .int k), (.inr "rest", .int left)]
theorem valV_eq {k : Key} {v : V} {r : List (Key × V)} : valV ((k, v) :: r) k = some v := by
  unfold valV
  rw [List.find?_cons_of_pos (by simp)]
  rfl
theorem valV_ne {k j : Key} {v : V} {r : List (Key × V)} (h : ¬ j = k) : valV ((j, v) :: r) k = valV r k := by
  unfold valV
  rw [List.find?_cons_of_neg (by simpa using h)]
theorem k12 : ¬ (Sum.inr ("cells" : Str) : Key) = Sum.inr ("at" : Str) := by decide +kernel
theorem k13 : ¬ (Sum.inr ("cells" : Str) : Key) = Sum.inr ("rest" : Str) := by decide +kernel
theorem k23 : ¬ (Sum.inr ("at" : Str) : Key) = Sum.inr ("rest" : Str) := by decide +kernel
theorem k32 : ¬ (Sum.inr ("rest" : Str) : Key) = Sum.inr ("at" : Str) := by decide +kernel
theorem pen_cells (cl : Addr) (k l : Int) : valV (penK cl k l) (.inr "cells") = some (.ref cl) := valV_eq
theorem pen_opened (cl : Addr) (k l : Int) : valV (penK cl k l) (.inr "at") = some (.int k) := (valV_ne k12).trans valV_eq
theorem pen_left (cl : Addr) (k l : Int) : valV (penK cl k l) (.inr "rest") = some (.int l) := (valV_ne k13).trans ((valV_ne k23).trans valV_eq)
theorem put_opened (cl : Addr) (k l j : Int) : putK (penK cl k l) (.inr "at") (.int j) = penK cl j l := by
  unfold putK penK
  rw [if_pos (by simp)]
  simp only [List.map_cons, List.map_nil, k12, k32, if_false, if_true]
theorem put_left (cl : Addr) (k l j : Int) : putK (penK cl k l) (.inr "rest") (.int j) = penK cl k j := by
  unfold putK penK
  rw [if_pos (by simp)]
  simp only [List.map_cons, List.map_nil, k13, k23, if_false, if_true]
/-- at pn: the pen, at most b cells opened -/
def Pen (H : Hp) (pn cl : Addr) (b : Nat) : Prop := ∃ (k : Nat) (l : Int) (cs : List Int), H pn = some (.dK (penK cl (k : Nat) l)) ∧ H cl = some (.lst (cs.map V.int)) ∧ k ≤ b ∧ cs.length ≤ 63
/-- all but what is at pn is as it was -/
def But (pn : Addr) (H H' : Hp) : Prop := ∀ b o, b ≠ pn → H b = some o → H' b = some o
theorem But.refl {pn : Addr} {H : Hp} : But pn H H := fun _ _ _ h => h
theorem But.trans {pn : Addr} {H H1 H2 : Hp} (a : But pn H H1) (b : But pn H1 H2) : But pn H H2 := fun c o n h => b c o n (a c o n h)
def spDraw : Sp := fun vs H Q _ => ∃ (pn cl : Addr) (m : Int) (b : Nat), vs = [.ref pn, .int m] ∧ Pen H pn cl b ∧ b ≤ 1000000 ∧ 0 < m ∧ m < 1073741824 ∧ ∀ (r : Int) H', 0 ≤ r → r < m → But pn H H' → Pen H' pn cl (b + 1) → Q (.int r) H'
def spPen (K : PySem.W.Frag) : Sp := fun vs H Q _ => ∃ (a : Addr) (ns : List Int), vs = [.ref a] ∧ SqL K H a (ns.map V.int) ∧ ∀ pn cl H', H pn = none → H cl = none → Same H H' → Pen H' pn cl 0 → Q (.ref pn) H'
section
variable {P : Program} {w : World} {K : PySem.W.Frag} {mg : Str → Option Value} {base : Heap}
theorem scPen : FnScope ["_law_script"] ["_law_script"] (defScope sPen) := ⟨rfl, rfl, rfl, by decide +kernel, rfl, by decide +kernel, by decide +kernel⟩
theorem ok_pen {f : Addr} {fd : FuncData} (F : Fun K "_law_pen" "_law_pen" sPen f fd) (B : Bi mg) : FnOk P w K mg base CX0 1 f fd ["_law_script"] (spPen K) := by
  refine F.ok scPen (fun vs H Q E h => ?_) (fun cdv A outer s H vs Q E hr h => ?_)
  · obtain ⟨a, ns, rfl, _⟩ := h
    rfl
  · obtain ⟨a, ns, rfl, hs, q⟩ := h
    refine ⟨_, pss_one (ps_ret (pe_disp (pps_cons pe_str (pe_callTy call_list_of rfl B.list (by decide +kernel) (pa_cons (pe_slice sl_list (pv 0) po_none (po_some pe_int)) pa_nil)) (pps_cons pe_str pe_int (pps_cons pe_str pe_int pps_nil))) rfl rfl (by simp) (by decide))), ?_⟩
    intro p np
    have hs2 := (same_new (o := .dK []) np).seq hs
    refine ⟨_, rfl, 63, rfl, a, _, rfl, hs2, fun c nc => ⟨c, _, rfl, .inl (SqL.of upd_same), fun l nl => ?_⟩⟩
    have npl : p ≠ l := ne_of_none ((upd_ne (ne_of_none upd_same nc)).trans upd_same) nl
    have npc : p ≠ c := ne_of_none upd_same nc
    have ec : cutV (ns.map V.int) none (some 63) = (ns.take 63).map V.int := by
      unfold cutV
      rw [show ((63 : Int)) = ((63 : Nat) : Int) from rfl, HT.sIx_nat, HT.sIx_none, List.drop_zero, Nat.sub_zero, List.length_map, ← List.map_take]
      congr 1
      by_cases c : 63 ≤ ns.length
      · rw [Nat.min_eq_left c]
      · rw [Nat.min_eq_right (by omega), List.take_of_length_le (Nat.le_refl _), List.take_of_length_le (by omega)]
    refine ⟨(upd_ne npl).trans ((upd_ne npc).trans upd_same), [(.inr "cells", .ref l), (.inr "at", .int 0), (.inr "rest", .int 0)], rfl, (by show 3 ≤ 15; decide), ?_⟩
    have em : mergeK [] [((.inr ("cells" : Str) : Key), V.ref l), (.inr ("at" : Str), .int 0), (.inr ("rest" : Str), .int 0)] = penK l ((0 : Nat) : Int) 0 := by
      unfold mergeK penK
      simp only [List.foldl_cons, List.foldl_nil]
      have h1 : valV ([(.inr ("cells" : Str), V.ref l)] : List (Key × V)) (.inr ("at" : Str)) = none := (valV_ne k12).trans rfl
      have h2 : valV ([(.inr ("cells" : Str), V.ref l), (.inr ("at" : Str), V.int 0)] : List (Key × V)) (.inr ("rest" : Str)) = none := (valV_ne k13).trans ((valV_ne k23).trans rfl)
      rw [show putK ([] : List (Key × V)) (.inr ("cells" : Str)) (.ref l) = [(.inr ("cells" : Str), .ref l)] from rfl, putK_new _ h1]
      simp only [List.cons_append, List.nil_append]
      rw [putK_new _ h2]
      rfl
    rw [em]
    have nl0 : H l = none := by
      cases z : H l with
      | none => rfl
      | some o =>
        have z1 : upd H p (.dK []) l = some o := (upd_ne (ne_of_none z np)).trans z
        rw [(upd_ne (ne_of_none z1 nc)).trans z1] at nl
        cases nl
    refine q p l _ np nl0 (fun b o z => ?_) ⟨0, 0, ns.take 63, upd_same, ?_, Nat.le_refl _, by rw [List.length_take]; omega⟩
    · have nb : b ≠ p := ne_of_none z np
      have z1 : upd H p (.dK []) b = some o := (upd_ne nb).trans z
      have nc2 : b ≠ c := ne_of_none z1 nc
      have z2 : upd (upd H p (.dK [])) c (.lst (cutV (ns.map V.int) none (some 63))) b = some o := (upd_ne nc2).trans z1
      rw [upd_ne nb, upd_ne (ne_of_none z2 nl)]
      exact z2
    · rw [upd_ne (Ne.symm npl), upd_same, ec]
theorem getL {H : Hp} {pn cl : Addr} {k l : Int} (hp : H pn = some (.dK (penK cl k l))) : DGet H pn (.str "rest") (some (.int l)) := by
  have z := DGet.k (k := .inr ("rest" : Str)) hp
  rw [pen_left] at z
  exact z
theorem getO {H : Hp} {pn cl : Addr} {k l : Int} (hp : H pn = some (.dK (penK cl k l))) : DGet H pn (.str "at") (some (.int k)) := by
  have z := DGet.k (k := .inr ("at" : Str)) hp
  rw [pen_opened] at z
  exact z
theorem getC {H : Hp} {pn cl : Addr} {k l : Int} (hp : H pn = some (.dK (penK cl k l))) : DGet H pn (.str "cells") (some (.ref cl)) := by
  have z := DGet.k (k := .inr ("cells" : Str)) hp
  rw [pen_cells] at z
  exact z
theorem putL {H : Hp} {pn cl : Addr} {k l : Int} (j : Int) (hp : H pn = some (.dK (penK cl k l))) : DPut H pn (.str "rest") (.int j) (upd H pn (.dK (penK cl k j))) := by
  have z := DPut.k (k := .inr ("rest" : Str)) (v := .int j) hp (by show 3 < sizeLine; decide)
  rw [put_left] at z
  exact z
theorem putO' {H : Hp} {pn cl : Addr} {k l : Int} (j : Int) (hp : H pn = some (.dK (penK cl k l))) : DPut H pn (.str "at") (.int j) (upd H pn (.dK (penK cl j l))) := by
  have z := DPut.k (k := .inr ("at" : Str)) (v := .int j) hp (by show 3 < sizeLine; decide)
  rw [put_opened] at z
  exact z
theorem scDraw : FnScope ["_law_pen_here", "_law_many", "_law_digit", "_law_spot", "_law_size", "_law_cell", "_law_mixed"] ["_law_pen_here", "_law_many"] (defScope sDraw) := ⟨rfl, rfl, rfl, by decide +kernel, rfl, by decide +kernel, by decide +kernel⟩
theorem mix_lt (x : Int) {m : Int} (h : 0 < m) : 0 ≤ x % m ∧ x % m < m := ⟨Int.emod_nonneg _ (by omega), Int.emod_lt_of_pos _ h⟩
section
variable {X : Cx}
theorem pe_int1 {a : Expr} {es : List Expr} {t : TA} {p pos : Pos} (hm : X.mg "int" = none) (ha : PA X (a :: es) t) (hg : Gl X "int" := by rfl) (he : starEach (a :: es) X.env = (false, eval a X.env) :: starEach es X.env := by rfl)
    (hpl : (backTo pos (starEach es X.env)).any (·.1) = false := by rfl) : PE X (.Call (.Name "int" p) (a :: es) [] pos) (tCB (fun xs H Q => (∃ i, xs = [.int i] ∧ Q (.int i) H) ∨ ∃ k, xs = [.bl k] ∧ Q (.int (if k then 1 else 0)) H) t) :=
  pe_callTy call_int1 hg hm (by decide +kernel) ha (he := he) (hpl := hpl)
theorem pe_abs {a : Expr} {es : List Expr} {t : TA} {p pos : Pos} (hm : X.mg "abs" = none) (ha : PA X (a :: es) t) (hg : Gl X "abs" := by rfl) (he : starEach (a :: es) X.env = (false, eval a X.env) :: starEach es X.env := by rfl)
    (hpl : (backTo pos (starEach es X.env)).any (·.1) = false := by rfl) : PE X (.Call (.Name "abs" p) (a :: es) [] pos) (tCB (fun xs H Q => ∃ i, xs = [.int i] ∧ Q (.int (if i < 0 then -i else i)) H) t) :=
  pe_callB call_abs hg hm (by decide +kernel) ha (he := he) (hpl := hpl)
end
theorem ok_draw {f : Addr} {fd : FuncData} (F : Fun K "_law_draw" "_law_draw" sDraw f fd) (B : Bi mg) : FnOk P w K mg base CX0 1 f fd ["_law_pen_here", "_law_many"] spDraw := by
  refine F.ok scDraw (fun vs H Q E h => ?_) (fun cdv A outer s H vs Q E hr h => ?_)
  · obtain ⟨pn, cl, m, b, rfl, _⟩ := h
    rfl
  · obtain ⟨pn, cl, m, b, rfl, ⟨k, l, cs, hp, hc, hk, lc⟩, hb, m0, m1, q⟩ := h
    refine ⟨_, pss_cons (ps_if (pt_cmpR op_gt (pe_dget (hu_of hr) (pv 0) pe_str (fun _ _ => rfl)) pe_int (nomark _))
        (pss_cons (ps_set (i := 2) scDraw.nd rfl (Or.inl rfl) (pe_op op_mod (pe_int1 B.int (pa_cons (pe_dget (hu_of hr) (pv 0) pe_str (fun _ _ => rfl)) pa_nil)) (pv 1)))
        (pss_cons (ps_dput (hu_of hr) (pv 0) pe_str (pe_op op_fdiv (pe_dget (hu_of hr) (pv 0) pe_str (fun _ _ => rfl)) (pv 1)) rfl) (pss_one (ps_ret (pv 2))))) pss_nil)
      (pss_cons (ps_par (i := 3) (j := 4) rfl scDraw.nd rfl rfl (by decide) rfl rfl (pa_cons (pe_dget (hu_of hr) (pv 0) pe_str (fun _ _ => rfl)) (pa_cons (pe_len B.len (pa_cons (pe_dget (hu_of hr) (pv 0) pe_str (fun _ _ => rfl)) pa_nil)) pa_nil)) rfl)
      (pss_cons (ps_dput (hu_of hr) (pv 0) pe_str (pe_op op_add (pv 3) pe_int) rfl)
      (pss_cons (ps_if (pt_cmpR op_eq (pv 4) pe_int (nomark _)) (pss_one (ps_ret (pe_op op_mod (pe_int1 B.int (pa_cons (pe_op op_add (pe_op op_mul pe_int (pv 3)) pe_int) pa_nil)) (pv 1)))) pss_nil)
      (pss_cons (ps_set (i := 5) scDraw.nd rfl (Or.inl rfl) (pe_ix ix_list (pe_dget (hu_of hr) (pv 0) pe_str (fun _ _ => rfl)) (pe_op op_mod (pe_int1 B.int (pa_cons (pv 3) pa_nil)) (pv 4)) (fun _ _ => rfl)))
      (pss_cons (ps_if (PW.pt (pw_and (pt_cmpR op_lt (pv 3) (pv 4) (nomark _)) (pw_and1 (pt_cmpR op_ge (pe_abs B.abs (pa_cons (pv 5) pa_nil)) (pe_op op_pow pe_int pe_int) (nomark _)))))
        (pss_cons (ps_dput (hu_of hr) (pv 0) pe_str (pe_op op_fdiv (pe_op op_sub (pe_abs B.abs (pa_cons (pv 5) pa_nil)) (pe_op op_pow pe_int pe_int)) (pv 1)) rfl)
        (pss_one (ps_ret (pe_op op_mod (pe_int1 B.int (pa_cons (pe_op op_sub (pe_abs B.abs (pa_cons (pv 5) pa_nil)) (pe_op op_pow pe_int pe_int)) pa_nil)) (pv 1))))) pss_nil)
      (pss_cons (ps_set (i := 6) scDraw.nd rfl (Or.inl rfl) (pe_op op_mod (pe_int1 B.int (pa_cons (pe_op op_add (pe_op op_add (pe_op op_mul (pe_op op_mod (pe_int1 B.int (pa_cons (pv 5) pa_nil)) pe_int) pe_int) (pe_op op_mul (pe_op op_mul pe_int (pv 3)) (pv 3))) pe_int) pa_nil)) pe_int))
      (pss_cons (ps_set (i := 6) scDraw.nd rfl (Or.inl rfl) (pe_op op_mod (pe_int1 B.int (pa_cons (pe_op op_add (pe_op op_add (pe_op op_add (pe_op op_mul (pv 6) (pv 6)) (pe_op op_mul pe_int (pv 6))) (pe_op op_mul pe_int (pv 3))) pe_int) pa_nil)) pe_int))
      (pss_cons (ps_set (i := 6) scDraw.nd rfl (Or.inl rfl) (pe_op op_fdiv (pe_op op_mod (pe_int1 B.int (pa_cons (pe_op op_mul (pv 6) (pe_op op_add (pv 6) pe_int)) pa_nil)) pe_int) pe_int))
      (pss_one (ps_ret (pe_op op_mod (pe_int1 B.int (pa_cons (pv 6) pa_nil)) (pv 1)))))))))))), ?_⟩
    have ncp : cl ≠ pn := ne_of hc hp (fun z => by cases z)
    refine ⟨_, rfl, pn, _, rfl, getL hp, _, _, rfl, rfl, _, rfl, ?_⟩
    refine ite2 (fun _ => ?_) fun _ => ?_
    · refine ⟨_, rfl, pn, _, rfl, getL hp, .inl ⟨_, rfl, _, rfl, _, _, rfl, rfl, m0, ?_⟩⟩
      refine ⟨_, rfl, pn, _, rfl, getL hp, _, rfl, _, _, rfl, rfl, ⟨m0, m1⟩, _, rfl, pn, _, rfl, putL _ hp, ?_⟩
      exact ⟨_, rfl, q _ _ (mix_lt _ m0).1 (mix_lt _ m0).2 (fun c o n z => (upd_ne n).trans z) ⟨k, _, cs, upd_same, (upd_ne ncp).trans hc, Nat.le_succ_of_le hk, lc⟩⟩
    · refine ⟨_, rfl, pn, _, rfl, getO hp, _, rfl, pn, _, rfl, getC hp, cl, _, rfl, .inl (SqL.of hc), _, _, rfl, ?_⟩
      refine ⟨_, rfl, _, _, rfl, rfl, _, rfl, pn, _, rfl, putO' _ hp, ?_⟩
      have ek : ((k : Nat) : Int) + 1 = ((k + 1 : Nat) : Int) := by omega
      rw [ek]
      generalize eH2 : upd H pn (.dK (penK cl ((k + 1 : Nat) : Int) l)) = H3
      have hp3 : H3 pn = some (.dK (penK cl ((k + 1 : Nat) : Int) l)) := by rw [← eH2]; exact upd_same
      have hc3 : H3 cl = some (.lst (cs.map V.int)) := by rw [← eH2]; exact (upd_ne ncp).trans hc
      have e3 : But pn H H3 := fun c o n z => by rw [← eH2]; exact (upd_ne n).trans z
      have fin : ∀ (r : Int) (H4 : Hp) (l2 : Int), 0 ≤ r → r < m → H4 = H3 ∨ H4 = upd H3 pn (.dK (penK cl ((k + 1 : Nat) : Int) l2)) → Q (.int r) H4 := fun r H4 l2 r0 r1 e4 => by
        rcases e4 with rfl | rfl
        · exact q r _ r0 r1 e3 ⟨k + 1, l, cs, hp3, hc3, Nat.succ_le_succ hk, lc⟩
        · exact q r _ r0 r1 (fun c o n z => (upd_ne n).trans (e3 c o n z)) ⟨k + 1, l2, cs, upd_same, (upd_ne ncp).trans hc3, Nat.succ_le_succ hk, lc⟩
      refine ⟨_, rfl, rfl, _, rfl, ?_⟩
      refine ite2 (fun c => ?_) fun c => ?_
      · refine ⟨_, rfl, _, _, rfl, rfl, .inl ⟨by decide, by decide⟩, ?_⟩
        refine ⟨_, _, rfl, rfl, .inl ⟨_, rfl, _, rfl, _, _, rfl, rfl, m0, ?_⟩⟩
        exact fin _ _ 0 (mix_lt _ m0).1 (mix_lt _ m0).2 (.inl rfl)
      have cne : cs ≠ [] := fun z => by
        rw [z] at c
        exact c (by decide)
      have lpos : 0 < cs.length := List.length_pos_iff.mpr cne
      refine ⟨_, rfl, pn, _, rfl, getC hp3, _, rfl, .inl ⟨_, rfl, _, rfl, _, _, rfl, rfl, (by rw [List.length_map]; omega), cl, _, _, .int (cs[k % cs.length]'(Nat.mod_lt _ lpos)), rfl, rfl, SqL.of hc3, ?_, ?_⟩⟩
      · rw [List.length_map]
        have em : ((k : Nat) : Int) % ((cs.length : Nat) : Int) = ((k % cs.length : Nat) : Int) := by omega
        rw [em]
        refine atI_nat ?_
        rw [List.getElem?_map, List.getElem?_eq_getElem (Nat.mod_lt _ lpos)]
        rfl
      generalize cs[k % cs.length]'(Nat.mod_lt _ lpos) = cell
      refine ⟨_, rfl, _, rfl, _, _, rfl, rfl, _, rfl, ?_⟩
      refine ite2 (fun _ => ?_) fun _ => iteF ?_
      refine ⟨_, rfl, _, rfl, _, _, rfl, rfl, ⟨by decide, by decide, by decide⟩, _, _, rfl, rfl, _, rfl, ?_⟩
      refine ite2 (fun _ => ?_) fun _ => ?_
      refine ⟨_, rfl, _, rfl, _, _, rfl, rfl, ⟨by decide, by decide, by decide⟩, _, _, rfl, rfl, _, rfl, _, _, rfl, rfl, ⟨m0, m1⟩, _, rfl, pn, _, rfl, putL _ hp3, ?_⟩
      refine ⟨_, rfl, _, rfl, _, _, rfl, rfl, ⟨by decide, by decide, by decide⟩, _, _, rfl, rfl, .inl ⟨_, rfl, _, rfl, _, _, rfl, rfl, m0, ?_⟩⟩
      exact fin _ _ _ (mix_lt _ m0).1 (mix_lt _ m0).2 (.inr rfl)
      all_goals
        refine ⟨_, rfl, .inl ⟨_, rfl, _, _, rfl, rfl, (by show (0 : Int) < _; decide), _, _, rfl, rfl, .inr ⟨by decide, by decide⟩, ?_⟩⟩
        refine ⟨_, rfl, _, _, rfl, rfl, .inl ⟨by decide, by decide⟩, _, rfl, _, _, rfl, rfl, .inr ⟨by omega, by omega⟩, _, _, rfl, rfl, ?_⟩
        refine ⟨_, _, rfl, rfl, .inl ⟨_, rfl, _, _, rfl, rfl, (by show (0 : Int) < _; decide), ?_⟩⟩
        generalize emx : (cell % 4294967231 * 48271 + 30269 * ((k : Nat) : Int) * ((k : Nat) : Int) + 211) % 4294967279 = mx
        have b1 : 0 ≤ mx ∧ mx < 4294967279 := by rw [← emx]; exact mix_lt _ (by decide)
        refine ⟨_, rfl, _, rfl, _, _, rfl, rfl, .inl ⟨by omega, by omega⟩, ?_⟩
        refine ⟨_, rfl, _, _, rfl, rfl, .inl ⟨by decide, by decide⟩, _, _, rfl, rfl, _, rfl, _, _, rfl, rfl, .inl ⟨by decide, by decide⟩, _, _, rfl, rfl, _, _, rfl, rfl, .inl ⟨_, rfl, _, _, rfl, rfl, (by show (0 : Int) < _; decide), ?_⟩⟩
        generalize emy : (mx * mx + 69069 * mx + 23 * ((k : Nat) : Int) + 7) % 4294967291 = my
        have b2 : 0 ≤ my ∧ my < 4294967291 := by rw [← emy]; exact mix_lt _ (by decide)
        refine ⟨_, rfl, _, rfl, _, _, rfl, rfl, _, _, rfl, rfl, .inl ⟨by omega, by omega⟩, .inl ⟨_, rfl, _, _, rfl, rfl, (by show (0 : Int) < _; decide), _, _, rfl, rfl, ⟨by decide, by decide⟩, ?_⟩⟩
        refine ⟨_, rfl, .inl ⟨_, rfl, _, rfl, _, _, rfl, rfl, m0, ?_⟩⟩
        exact fin _ _ 0 (mix_lt _ m0).1 (mix_lt _ m0).2 (.inl rfl)
end
def spPick : Sp := fun vs H Q _ => ∃ (pn cl s : Addr) (xs : List V) (b : Nat), vs = [.ref pn, .ref s] ∧ Pen H pn cl b ∧ b ≤ 1000000 ∧ H s = some (.lst xs) ∧ 0 < xs.length ∧ xs.length ≤ 1000 ∧ ∀ x H', x ∈ xs → But pn H H' → Pen H' pn cl (b + 1) → Q x H'
theorem Pen.mono {H : Hp} {pn cl : Addr} {b c : Nat} (h : Pen H pn cl b) (e : b ≤ c) : Pen H pn cl c := let ⟨k, l, cs, h1, h2, h3, h4⟩ := h; ⟨k, l, cs, h1, h2, Nat.le_trans h3 e, h4⟩
theorem Pen.same {H H' : Hp} {pn cl : Addr} {b : Nat} (h : Pen H pn cl b) (e : Same H H') : Pen H' pn cl b := let ⟨k, l, cs, h1, h2, h3, h4⟩ := h; ⟨k, l, cs, e _ _ h1, e _ _ h2, h3, h4⟩
theorem Pen.ne {H : Hp} {pn cl a : Addr} {b : Nat} {o : HO} (h : Pen H pn cl b) (ha : H a = some o) (d : ∀ kvs, o ≠ .dK kvs) : a ≠ pn := let ⟨_, _, _, h1, _⟩ := h; ne_of ha h1 (d _)
/-- the pen stays where another object is written -/
theorem Pen.upd {H : Hp} {pn cl a : Addr} {b : Nat} {o : HO} (h : Pen H pn cl b) (n1 : pn ≠ a) (n2 : cl ≠ a) : Pen (L2.upd H a o) pn cl b := let ⟨k, l, cs, h1, h2, h3, h4⟩ := h; ⟨k, l, cs, (upd_ne n1).trans h1, (upd_ne n2).trans h2, h3, h4⟩
theorem Pen.off {H : Hp} {pn cl a : Addr} {b : Nat} (h : Pen H pn cl b) (n : H a = none) : pn ≠ a ∧ cl ≠ a := let ⟨_, _, _, h1, h2, _⟩ := h; ⟨ne_of_none h1 n, ne_of_none h2 n⟩
theorem same_but {pn : Addr} {H H' : Hp} (e : Same H H') : But pn H H' := fun b o _ h => e b o h
section
variable {P : Program} {w : World} {K : PySem.W.Frag} {mg : Str → Option Value} {base : Heap}
theorem scPick : FnScope ["_law_pen_here", "_law_some"] ["_law_pen_here", "_law_some"] (defScope sPick) := ⟨rfl, rfl, rfl, by decide +kernel, rfl, by decide +kernel, by decide +kernel⟩
theorem ok_pick {f : Addr} {fd : FuncData} (F : Fun K "_law_pick" "_law_pick" sPick f fd) (B : Bi mg) (cD : Cal CX0 P w K mg base 1 "_law_draw" spDraw) : FnOk P w K mg base CX0 2 f fd ["_law_pen_here", "_law_some"] spPick := by
  refine F.ok scPick (fun vs H Q E h => ?_) (fun cdv A outer s H vs Q E hr h => ?_)
  · obtain ⟨pn, cl, s, xs, b, rfl, _⟩ := h
    rfl
  · obtain ⟨pn, cl, s0, xs, b, rfl, pen, hb, hs, l0, l1, q⟩ := h
    refine ⟨_, pss_one (ps_ret (pe_ix ix_list (pv 1) (pe_c cD hr pass0 (pa_cons (pv 0) (pa_cons (pe_len B.len (pa_cons (pv 1) pa_nil)) pa_nil))) (fun _ _ => rfl))), ?_⟩
    refine ⟨_, rfl, _, rfl, _, rfl, s0, xs, rfl, .inl (SqL.of hs), pn, cl, _, b, rfl, pen, hb, by omega, by omega, fun r H' r0 r1 e pen2 => ?_⟩
    obtain ⟨r, rfl⟩ := Int.eq_ofNat_of_zero_le r0
    have lt : r < xs.length := by omega
    exact ⟨s0, xs, _, xs[r], rfl, rfl, SqL.of (e _ _ (pen.ne hs fun _ z => by cases z) hs), atI_nat (List.getElem?_eq_getElem lt), q _ _ (List.getElem_mem lt) e pen2⟩
end
def Flat : V → Prop
  | .non | .bl _ | .int _ => True
  | .str x => PyData.strOk x = true
  | _ => False
theorem dp_flat {K : PySem.W.Frag} {H : Hp} {v : V} (h : Flat v) : Dp K H v (dOf v) := by
  cases v with
  | non => exact .non
  | bl b => exact .bl b
  | int i => exact .int i
  | str x => exact .str x
  | _ => exact h.elim
theorem dpAll_flat {K : PySem.W.Frag} {H : Hp} : ∀ {xs : List V}, (∀ v ∈ xs, Flat v) → DpAll K H xs (xs.map dOf)
  | [], _ => .nil
  | x :: xs, h => .cons (dp_flat (h x List.mem_cons_self)) (dpAll_flat fun v m => h v (List.mem_cons_of_mem _ m))
theorem lay_flat : ∀ {xs : List V}, (∀ v ∈ xs, Flat v) → PyData.canLayAll0 (xs.map dOf) = true
  | [], _ => by simp [PyData.canLayAll0]
  | x :: xs, h => by
    have ih := lay_flat fun v m => h v (List.mem_cons_of_mem x m)
    have hx := h x List.mem_cons_self
    rw [List.map_cons, PyData.canLayAll0, ih, Bool.and_true]
    cases x <;> simp [dOf, PyData.canLay0, Flat] at hx ⊢
    exact hx
theorem depth_flat : ∀ (xs : List V), PyData.depthAll (xs.map dOf) ≤ 1
  | [] => by simp [PyData.depthAll]
  | x :: xs => by
    have ih := depth_flat xs
    simp only [List.map_cons, PyData.depthAll]
    cases x <;> simp only [dOf, PyData.depth] <;> omega
theorem shT_flat {xs : List V} (h : ∀ v ∈ xs, Flat v) : SeqAt.shaped (.tuple (xs.map dOf)) = true := by
  have h1 := lay_flat h
  have h2 := depth_flat xs
  show (PyData.canLay0 (.tuple (xs.map dOf)) && decide (PyData.depth (.tuple (xs.map dOf)) ≤ 64)) = true
  rw [Bool.and_eq_true]
  refine ⟨by simp only [PyData.canLay0]; exact h1, decide_eq_true ?_⟩
  simp only [PyData.depth]
  omega
/-- two tuples with the same flat items -/
def rSm (b : Bool) : R2 := fun x y H Q => ∃ s t us, x = .ref s ∧ y = .ref t ∧ H s = some (.tup us) ∧ H t = some (.tup us) ∧ (∀ v ∈ us, Flat v) ∧ Q (.bl b) H
section
variable {X : Cx}
theorem op_neSm (hu : X.A.units + 64 < cLine) : OpR X (compareOp .NotEq) (rSm false) := by
  intro pins s σ H x y v u Q I rx ry h
  obtain ⟨a, b, us, rfl, rfl, d1, d2, f, q⟩ := h
  have sh := shT_flat f
  refine op_neD hu pins s σ H _ _ v u Q I rx ry ⟨_, _, .tup (SqT.of d1) (dpAll_flat f), .tup (SqT.of d2) (dpAll_flat f), sh, sh, ?_⟩
  rw [SeqAt.eqv_refl _ (Bool.and_eq_true_iff.mp sh).1]
  exact q
theorem op_eqSm (hu : X.A.units + 64 < cLine) : OpR X (compareOp .Eq) (rSm true) := by
  intro pins s σ H x y v u Q I rx ry h
  obtain ⟨a, b, us, rfl, rfl, d1, d2, f, q⟩ := h
  have sh := shT_flat f
  refine op_eqD hu pins s σ H _ _ v u Q I rx ry ⟨_, _, .tup (SqT.of d1) (dpAll_flat f), .tup (SqT.of d2) (dpAll_flat f), sh, sh, ?_⟩
  rw [SeqAt.eqv_refl _ (Bool.and_eq_true_iff.mp sh).1]
  exact q
end
theorem cut_to {xs : List V} {k : Nat} (h : k ≤ xs.length) : cutV xs none (some (k : Int)) = xs.take k := by
  unfold cutV
  rw [HT.sIx_nat, HT.sIx_none, List.drop_zero, Nat.sub_zero, Nat.min_eq_left h]
theorem cut_from {xs : List V} {k : Nat} (h : k ≤ xs.length) : cutV xs (some (k : Int)) none = xs.drop k := by
  unfold cutV
  rw [HT.sIx_nat, HT.sIx_none, Nat.min_eq_left h, List.take_of_length_le (by rw [List.length_drop]; exact Nat.le_refl _)]
theorem kn_flat {H : Hp} {v : V} (h : Flat v) : Kn H v := by
  cases v with
  | non => exact .non
  | bl b => exact .bl b
  | int i => exact .int i
  | str x => exact .str x
  | _ => exact h.elim
theorem flat_ref {v : V} (h : Flat v) : ∀ b, v ≠ .ref b := fun b e => by
  rw [e] at h
  exact h
end K25
set_option Elab.async false
set_option linter.all false
set_option maxRecDepth 100001
set_option maxHeartbeats 3999999
namespace K25
open PySem L2
abbrev sCopied : Stmt := topS 7
abbrev sBadSigns : Stmt := inClass (topS 12) 0
abbrev sBadSign : Stmt := inClass (topS 13) 0
abbrev sBadSpot : Stmt := inClass (topS 15) 0
/-- what is handed in of any kind, as data -/
inductive Odd (H : Hp) : V → PyData → Prop
  | flat {v : V} (h : Flat v) : Odd H v (dOf v)
  | tup {a : Addr} {x : V} (e : H a = some (.tup [x])) (f : Flat x) : Odd H (.ref a) (.tuple [dOf x])
  | lst {a : Addr} {xs : List V} (e : H a = some (.lst xs)) (f : ∀ v ∈ xs, Flat v) (l : xs.length ≤ 1000) : Odd H (.ref a) (.list (xs.map dOf))
theorem Odd.kn {H : Hp} {v : V} {d : PyData} (o : Odd H v d) : Kn H v := by
  cases o with
  | flat h => exact kn_flat h
  | tup e f => exact .tup e
  | lst e f l => exact .lst e
theorem Odd.same {H H' : Hp} {v : V} {d : PyData} (o : Odd H v d) (s : Same H H') : Odd H' v d := by
  cases o with
  | flat h => exact .flat h
  | tup e f => exact .tup (s _ _ e) f
  | lst e f l => exact .lst (s _ _ e) f l
theorem Odd.dp {K : PySem.W.Frag} {H : Hp} {v : V} {d : PyData} (o : Odd H v d) : Dp K H v d := by
  cases o with
  | flat h => exact dp_flat h
  | tup e f => exact .tup (SqT.of e) (.cons (dp_flat f) .nil)
  | lst e f l => exact .lst (SqL.of e) (dpAll_flat f)
def spCopied : Sp := fun vs H Q _ => ∃ v, vs = [v] ∧ Flat v ∧ Q v H
def spCopy2 : Sp := fun vs H Q _ => ∃ v d, vs = [v] ∧ Odd H v d ∧ ∀ v' H', Same H H' → Odd H' v' d → Q v' H'
section
variable {P : Program} {w : World} {K : PySem.W.Frag} {mg : Str → Option Value} {base : Heap}
theorem scCopied : FnScope ["value", "part", "key"] ["value"] (defScope sCopied) := ⟨rfl, rfl, rfl, by decide +kernel, rfl, by decide +kernel, by decide +kernel⟩
theorem ok_copied {f : Addr} {fd : FuncData} (F : Fun K "copied" "copied" sCopied f fd) (B : Bi mg) : FnOk P w K mg base CX0 1 f fd ["value"] spCopied := by
  refine F.ok scCopied (fun vs H Q E h => ?_) (fun cdv A outer s H vs Q E hr h => ?_)
  · obtain ⟨v, rfl, _⟩ := h
    rfl
  · obtain ⟨v, rfl, fl, q⟩ := h
    refine ⟨_, pss_cons (ps_if (pt_val (pe_isi B.isi (pa_cons (pv 0) (pa_cons (pe_ty "list" B.list) pa_nil)))) pss_never pss_nil) (pss_cons (ps_if (pt_val (pe_isi B.isi (pa_cons (pv 0) (pa_cons (pe_ty "tuple" B.tuple) pa_nil)))) pss_never pss_nil)
      (pss_cons (ps_if (pt_val (pe_isi B.isi (pa_cons (pv 0) (pa_cons (pe_ty "dict" B.dict) pa_nil)))) pss_never pss_nil) (pss_one (ps_ret (pv 0))))), ?_⟩
    obtain ⟨t, ty, _, _, k3, k4, k5⟩ := (kn_flat (H := H) fl).kinds K
    have f3 : isT H v = false := by cases v <;> first | rfl | exact fl.elim
    have f4 : isL H v = false := by cases v <;> first | rfl | exact fl.elim
    rw [f3] at k3
    rw [f4] at k4
    exact ⟨v, rfl, v, _, _, _, _, rfl, .ty "list", ty, k4, _, rfl, iteF ⟨v, rfl, v, _, _, _, _, rfl, .ty "tuple", ty, k3, _, rfl, iteF ⟨v, rfl, v, _, _, _, _, rfl, .ty "dict", ty, k5, _, rfl, iteF ⟨v, rfl, q⟩⟩⟩⟩
theorem ok_copy2 {f : Addr} {fd : FuncData} (F : Fun K "copied" "copied" sCopied f fd) (B : Bi mg) (c1 : Cal CX0 P w K mg base 1 "copied" spCopied) : FnOk P w K mg base CX0 2 f fd ["value"] spCopy2 := by
  refine F.ok scCopied (fun vs H Q E h => ?_) (fun cdv A outer s H vs Q E hr h => ?_)
  · obtain ⟨v, d, rfl, _⟩ := h
    rfl
  · obtain ⟨v, d, rfl, od, q⟩ := h
    refine ⟨_, pss_cons (ps_if (pt_val (pe_isi B.isi (pa_cons (pv 0) (pa_cons (pe_ty "list" B.list) pa_nil)))) (pss_one (ps_ret (pe_lc (own := [("part", 1)]) rfl scCopied.nd (pi_sqA (pv 0)) (blkOk_by (N := ["value", "part", "key"]) (sc := defScope sCopied) (by decide +kernel))
          (fun _ _ _ _ _ => pg_name (i := 1) scCopied.nd rfl (Or.inl rfl)) (fun _ _ _ _ _ => pts_nil) (fun _ _ _ _ _ => pe_c c1 hr pass0 (pa_cons (pv 1) pa_nil))))) pss_nil)
      (pss_cons (ps_if (pt_val (pe_isi B.isi (pa_cons (pv 0) (pa_cons (pe_ty "tuple" B.tuple) pa_nil)))) (pss_one (ps_ret (pe_tupleOf rfl B.tuple (pe_lc (own := [("part", 1)]) rfl scCopied.nd (pi_sqA (pv 0)) (blkOk_by (N := ["value", "part", "key"]) (sc := defScope sCopied) (by decide +kernel))
          (fun _ _ _ _ _ => pg_name (i := 1) scCopied.nd rfl (Or.inl rfl)) (fun _ _ _ _ _ => pts_nil) (fun _ _ _ _ _ => pe_c c1 hr pass0 (pa_cons (pv 1) pa_nil)))))) pss_nil)
      (pss_cons (ps_if (pt_val (pe_isi B.isi (pa_cons (pv 0) (pa_cons (pe_ty "dict" B.dict) pa_nil)))) pss_never pss_nil) (pss_one (ps_ret (pv 0))))), ?_⟩
    obtain ⟨t, ty, _, _, k3, k4, k5⟩ := od.kn.kinds K
    cases od with
    | flat fl =>
      have f3 : isT H v = false := by cases v <;> first | rfl | exact fl.elim
      have f4 : isL H v = false := by cases v <;> first | rfl | exact fl.elim
      rw [f3] at k3
      rw [f4] at k4
      exact ⟨v, rfl, v, _, _, _, _, rfl, .ty "list", ty, k4, _, rfl, iteF ⟨v, rfl, v, _, _, _, _, rfl, .ty "tuple", ty, k3, _, rfl, iteF ⟨v, rfl, v, _, _, _, _, rfl, .ty "dict", ty, k5, _, rfl, iteF ⟨v, rfl, q v H (Same.refl H) (.flat fl)⟩⟩⟩⟩
    | @lst a xs e fx ll =>
      rw [isL_lst e] at k4
      refine ⟨_, rfl, _, _, _, _, _, rfl, .ty "list", ty, k4, _, rfl, iteT ?_⟩
      refine ⟨_, rfl, a, _, rfl, .inl (SqL.of e), fun J G wk hG D nD => lc_it wk (fun j H' => Same H H' ∧ H' D = some (.lst (xs.take j))) ⟨same_new nD, upd_same⟩ (fun j H' _ z => hG H' fun o w => z.1 _ _ w) ?_ ?_⟩
      · rintro j y H1 H2 hj ⟨e1, hD⟩ ⟨rfl, hy⟩
        refine ⟨rfl, ?_⟩
        unfold tYes
        refine iteT ⟨_, rfl, _, rfl, fx y (List.mem_of_getElem? hy), _, hD, by rw [List.length_take]; exact small10 (by omega), fun b o z => ?_, ?_⟩
        · rw [upd_ne (ne_of_none z nD)]
          exact e1 _ _ z
        · rw [upd_same, List.take_add_one, hy]
          rfl
      · rintro H1 ⟨e1, hD⟩
        rw [List.take_length] at hD
        exact q _ H1 e1 (.lst hD fx ll)
    | @tup a x e fx =>
      rw [isL_tup e] at k4
      rw [isT_tup e] at k3
      refine ⟨_, rfl, _, _, _, _, _, rfl, .ty "list", ty, k4, _, rfl, iteF ⟨_, rfl, _, _, _, _, _, rfl, .ty "tuple", ty, k3, _, rfl, iteT ?_⟩⟩
      refine ⟨_, rfl, a, _, rfl, .inr (SqT.of e), fun J G wk hG D nD => lc_it wk (fun j H' => Same H H' ∧ H' D = some (.lst ([x].take j))) ⟨same_new nD, upd_same⟩ (fun j H' _ z => hG H' fun o w => z.1 _ _ w) ?_ ?_⟩
      · rintro j y H1 H2 hj ⟨e1, hD⟩ ⟨rfl, hy⟩
        have j0 : j = 0 := by simpa using hj
        subst j0
        cases hy
        refine ⟨rfl, ?_⟩
        unfold tYes
        refine iteT ⟨_, rfl, _, rfl, fx, _, hD, by show 0 < sizeLine; decide, fun b o z => ?_, upd_same⟩
        rw [upd_ne (ne_of_none z nD)]
        exact e1 _ _ z
      · rintro H1 ⟨e1, hD⟩
        exact .inl ⟨D, _, rfl, SqL.of hD, fun t nt => q _ _ (e1.trans (same_new nt)) (.tup upd_same fx)⟩
/-! ### the errors -/
/-- self.f = copied(v), of an exception that has no field yet -/
def spXO (K : PySem.W.Frag) (f : Str) : Sp := fun vs H Q _ => ∃ (a C : Addr) (v : V) (d : PyData), vs = [.ref a, v] ∧ OexC K C ∧ PySem.W.findIn K (.ref C) f = some none ∧ Odd H v d ∧ H a = some (exo a C none) ∧
  ∀ v' H1 dx, Same H H1 → Odd H1 v' d → H1 dx = none → dx ≠ a → Q .non (upd (upd H1 dx (exd dx [(f, v')])) a (exo a C (some dx)))
theorem scBadSigns : FnScope ["self", "signs"] ["self", "signs"] (defScope sBadSigns) := ⟨rfl, rfl, rfl, by decide +kernel, rfl, by decide +kernel, by decide +kernel⟩
theorem ok_badSigns {f : Addr} {fd : FuncData} (F : Fun K "__init__" "BadSigns.__init__" sBadSigns f fd) (cC : Cal CX0 P w K mg base 2 "copied" spCopy2) : FnOk P w K mg base CX0 3 f fd ["self", "signs"] (spXO K "signs") := by
  refine F.ok scBadSigns (fun vs H Q E h => ?_) (fun cdv A outer s H vs Q E hr h => ?_)
  · obtain ⟨a, C, v, d, rfl, _⟩ := h
    rfl
  · obtain ⟨a, C, v, d, rfl, T, no, od, ha, q⟩ := h
    refine ⟨_, pss_one (ps_ost (pv 0) (pe_c cC hr pass0 (pa_cons (pv 1) pa_nil))), ?_⟩
    exact ⟨_, rfl, v, d, rfl, od, fun v' H1 e1 o1 => ⟨_, rfl, a, C, rfl, T, no, .inl ⟨e1 _ _ ha, fun dx nd ne => q v' H1 dx e1 o1 nd ne⟩⟩⟩
theorem scBadSign : FnScope ["self", "index"] ["self", "index"] (defScope sBadSign) := ⟨rfl, rfl, rfl, by decide +kernel, rfl, by decide +kernel, by decide +kernel⟩
theorem ok_badSign {f : Addr} {fd : FuncData} (F : Fun K "__init__" "BadSign.__init__" sBadSign f fd) (cC : Cal CX0 P w K mg base 2 "copied" spCopy2) : FnOk P w K mg base CX0 3 f fd ["self", "index"] (spXO K "index") := by
  refine F.ok scBadSign (fun vs H Q E h => ?_) (fun cdv A outer s H vs Q E hr h => ?_)
  · obtain ⟨a, C, v, d, rfl, _⟩ := h
    rfl
  · obtain ⟨a, C, v, d, rfl, T, no, od, ha, q⟩ := h
    refine ⟨_, pss_one (ps_ost (pv 0) (pe_c cC hr pass0 (pa_cons (pv 1) pa_nil))), ?_⟩
    exact ⟨_, rfl, v, d, rfl, od, fun v' H1 e1 o1 => ⟨_, rfl, a, C, rfl, T, no, .inl ⟨e1 _ _ ha, fun dx nd ne => q v' H1 dx e1 o1 nd ne⟩⟩⟩
theorem scBadSpot : FnScope ["self", "index"] ["self", "index"] (defScope sBadSpot) := ⟨rfl, rfl, rfl, by decide +kernel, rfl, by decide +kernel, by decide +kernel⟩
theorem ok_badSpot {f : Addr} {fd : FuncData} (F : Fun K "__init__" "BadSpot.__init__" sBadSpot f fd) (cC : Cal CX0 P w K mg base 2 "copied" spCopy2) : FnOk P w K mg base CX0 3 f fd ["self", "index"] (spXO K "index") := by
  refine F.ok scBadSpot (fun vs H Q E h => ?_) (fun cdv A outer s H vs Q E hr h => ?_)
  · obtain ⟨a, C, v, d, rfl, _⟩ := h
    rfl
  · obtain ⟨a, C, v, d, rfl, T, no, od, ha, q⟩ := h
    refine ⟨_, pss_one (ps_ost (pv 0) (pe_c cC hr pass0 (pa_cons (pv 1) pa_nil))), ?_⟩
    exact ⟨_, rfl, v, d, rfl, od, fun v' H1 e1 o1 => ⟨_, rfl, a, C, rfl, T, no, .inl ⟨e1 _ _ ha, fun dx nd ne => q v' H1 dx e1 o1 nd ne⟩⟩⟩
end
/-! ### what a raise leaves -/
/-- behind a raise: all that was there, and the error's field at d -/
structure RsO (H H' : Hp) (d : Addr) (f : Str) (dd : PyData) : Prop where
  new : H d = none
  same : Same H H'
  at_ : ∃ v', H' d = some (.xd [(f, v')]) ∧ Odd H' v' dd
theorem raiseO {H : Hp} {C : Addr} {f : Str} {v : V} {dd : PyData} {R : XK} {K : PySem.W.Frag} (T : OexC K C) (no : PySem.W.findIn K (.ref C) f = some none) (od : Odd H v dd) (r : ∀ d H', RsO H H' d f dd → R (.ref C) (some d) H') :
    ([v] : List V).length ≤ 1000 ∧ ∀ a, H a = none → spXO K f (.ref a :: ([v] ++ [])) (upd H a (exo a C none)) (fun u H2 => u = .non ∧ ∃ (d : Addr) (fs : List (Str × V)), H2 a = some (exo a C (some d)) ∧ H2 d = some (exd d fs) ∧ H d = none ∧ R (.ref C) (some d) (upd (del H2 a) d (.xd fs))) (fun _ _ _ => False) := by
  refine ⟨by show 1 ≤ 1000; decide, fun a na => ⟨a, C, v, dd, rfl, T, no, od.same (same_new na), upd_same, fun v' H1 dx e1 o1 nd ne => ⟨rfl, dx, [(f, v')], upd_same, by rw [upd_ne ne]; exact upd_same, ?_, r _ _ ?_⟩⟩⟩
  · cases z : H dx with
    | none => rfl
    | some o =>
      rw [e1 _ _ (same_new na _ _ z)] at nd
      cases nd
  · have hne : ∀ b o, H1 b = some o → b ≠ dx := fun b o e => ne_of_none e nd
    have h1a : H1 a = some (exo a C none) := e1 _ _ upd_same
    have keep : ∀ b o, b ≠ a → H1 b = some o → upd (del (upd (upd H1 dx (exd dx [(f, v')])) a (exo a C (some dx))) a) dx (.xd [(f, v')]) b = some o := fun b o h1 h2 => by
      rw [upd_ne (hne b o h2), del_ne h1, upd_ne h1, upd_ne (hne b o h2)]
      exact h2
    refine ⟨?_, fun b o e => ?_, v', upd_same, ?_⟩
    · cases z : H dx with
      | none => rfl
      | some o =>
        rw [e1 _ _ (same_new na _ _ z)] at nd
        cases nd
    · have ba := ne_of_none e na
      exact keep b o ba (e1 _ _ ((upd_ne ba).trans e))
    · cases o1 with
      | flat h => exact .flat h
      | tup e f => exact .tup (keep _ _ (ne_of e h1a fun z => by unfold exo at z; cases z) e) f
      | lst e f l => exact .lst (keep _ _ (ne_of e h1a fun z => by unfold exo at z; cases z) e) f l
end K25
set_option Elab.async false
set_option linter.all false
set_option maxRecDepth 100001
set_option maxHeartbeats 3999999
namespace K25
open PySem L2
abbrev sTMany : Stmt := inClass (topS 11) 0
/-- an exception of three flat fields -/
def spX3 (K : PySem.W.Frag) (f g h : Str) : Sp := fun vs H Q _ => ∃ (a C : Addr) (u v w : V), vs = [.ref a, u, v, w] ∧ OexC K C ∧ PySem.W.findIn K (.ref C) f = some none ∧ PySem.W.findIn K (.ref C) g = some none ∧ PySem.W.findIn K (.ref C) h = some none ∧
  Flat u ∧ Flat v ∧ Flat w ∧ H a = some (exo a C none) ∧
  ∀ dx H', H dx = none → dx ≠ a → (∀ b, b ≠ a → b ≠ dx → H' b = H b) → H' a = some (exo a C (some dx)) → H' dx = some (exd dx [(h, w), (g, v), (f, u)]) → Q .non H'
def spX0 : Sp := fun vs H Q _ => ∃ a : Addr, vs = [.ref a] ∧ Q .non H
section
variable {P : Program} {w : World} {K : PySem.W.Frag} {mg : Str → Option Value} {base : Heap}
theorem scTMany : FnScope ["self", "what", "many", "most"] ["self", "what", "many", "most"] (defScope sTMany) := ⟨rfl, rfl, rfl, by decide +kernel, rfl, by decide +kernel, by decide +kernel⟩
theorem ok_TMany {f : Addr} {fd : FuncData} (F : Fun K "__init__" "TooMany.__init__" sTMany f fd) (cC : Cal CX0 P w K mg base 1 "copied" spCopied) : FnOk P w K mg base CX0 2 f fd ["self", "what", "many", "most"] (spX3 K "what" "many" "most") := by
  refine F.ok scTMany (fun vs H Q E h => ?_) (fun cdv A outer s H vs Q E hr h => ?_)
  · obtain ⟨a, C, u, v, z, rfl, _⟩ := h
    rfl
  · obtain ⟨a, C, u, v, z, rfl, T, n1, n2, n3, k1, k2, k3, ha, q⟩ := h
    refine ⟨_, pss_cons (ps_ost (pv 0) (pe_c cC hr pass0 (pa_cons (pv 1) pa_nil))) (pss_cons (ps_ost (pv 0) (pe_c cC hr pass0 (pa_cons (pv 2) pa_nil))) (pss_one (ps_ost (pv 0) (pe_c cC hr pass0 (pa_cons (pv 3) pa_nil))))), ?_⟩
    refine ⟨u, rfl, u, rfl, k1, _, rfl, a, C, rfl, T, n1, .inl ⟨ha, fun dx nd na => ?_⟩⟩
    refine ⟨v, rfl, v, rfl, k2, _, rfl, a, C, rfl, T, n2, .inr ⟨dx, _, upd_same, by rw [upd_ne na]; exact upd_same, by show 1 ≤ 900; decide, ?_⟩⟩
    refine ⟨z, rfl, z, rfl, k3, _, rfl, a, C, rfl, T, n3, .inr ⟨dx, _, by rw [upd_ne (Ne.symm na)]; exact upd_same, upd_same, by show 2 ≤ 900; decide, ?_⟩⟩
    refine q dx _ nd na (fun b h1 h2 => ?_) ?_ upd_same
    · rw [upd_ne h2, upd_ne h2, upd_ne h1, upd_ne h2]
    · rw [upd_ne (Ne.symm na), upd_ne (Ne.symm na)]
      exact upd_same
end
/-- behind a raise: all that was there, and the error's fields at d -/
structure Rsd (H H' : Hp) (d : Addr) (fs : List (Str × V)) : Prop where
  new : H d = none
  same : Same H H'
  at_ : H' d = some (.xd fs)
theorem rsd_of {H H2 : Hp} {a d C : Addr} {fs : List (Str × V)} (na : H a = none) (nd : H d = none) (h : ∀ b, b ≠ a → b ≠ d → H2 b = H b) : Rsd H (upd (del H2 a) d (.xd fs)) d fs :=
  ⟨nd, fun b o e => by
    rw [upd_ne (ne_of_none e nd), del_ne (ne_of_none e na), h b (ne_of_none e na) (ne_of_none e nd)]
    exact e, upd_same⟩
theorem raise3 {H : Hp} {C : Addr} {f g h : Str} {u v z : V} {R : XK} {K : PySem.W.Frag} (T : OexC K C) (n1 : PySem.W.findIn K (.ref C) f = some none) (n2 : PySem.W.findIn K (.ref C) g = some none) (n3 : PySem.W.findIn K (.ref C) h = some none)
    (k1 : Flat u) (k2 : Flat v) (k3 : Flat z) (r : ∀ d H', Rsd H H' d [(h, z), (g, v), (f, u)] → R (.ref C) (some d) H') :
    ([u, v, z] : List V).length ≤ 1000 ∧ ∀ a, H a = none → spX3 K f g h (.ref a :: ([u, v, z] ++ [])) (upd H a (exo a C none)) (fun y H2 => y = .non ∧ ∃ (d : Addr) (fs : List (Str × V)), H2 a = some (exo a C (some d)) ∧ H2 d = some (exd d fs) ∧ H d = none ∧ R (.ref C) (some d) (upd (del H2 a) d (.xd fs))) (fun _ _ _ => False) := by
  refine ⟨by show 3 ≤ 1000; decide, fun a na => ⟨a, C, u, v, z, rfl, T, n1, n2, n3, k1, k2, k3, upd_same, fun dx H' nd ne hk ha hd => ⟨rfl, dx, _, ha, hd, ?_, r _ _ ?_⟩⟩⟩
  · rw [upd_ne ne] at nd
    exact nd
  · refine rsd_of (C := C) na (by rw [upd_ne ne] at nd; exact nd) fun b h1 h2 => ?_
    rw [hk b h1 h2, upd_ne h1]
theorem raise0 {H : Hp} {C : Addr} {R : XK} {K : PySem.W.Frag} (r : ∀ H', Same H H' → R (.ref C) none H') :
    ∀ a, H a = none → spX0 [.ref a] (upd H a (exo a C none)) (fun v H2 => v = .non ∧ H2 a = some (exo a C none) ∧ R (.ref C) none (del H2 a)) (fun _ _ _ => False) := fun a na =>
  ⟨a, rfl, rfl, upd_same, r _ fun b o e => by rw [del_ne (ne_of_none e na), upd_ne (ne_of_none e na)]; exact e⟩
end K25
set_option Elab.async false
set_option linter.all false
set_option maxRecDepth 100001
set_option maxHeartbeats 3999999
namespace K25
open PySem L2
abbrev sFWR : Stmt := topS 17
abbrev sRanges : Stmt := topS 18
abbrev sTupOf : Stmt := topS 4
abbrev sIsList : Stmt := topS 3
section
variable {X : Cx} {tg e : Expr}
/-- enumerate of a list or a tuple -/
def iEnS (K : PySem.W.Frag) (ta : TA) : TI := fun σ H R => ta σ H fun vs H1 => ∃ a xs, vs = [.ref a] ∧ Sq K H1 a xs ∧ ∀ (J : It) (G : Hp → Prop), Walk J xs.length G (YPair (fun i => some (.int (i : Nat))) (fun i => xs[i]?)) → (∀ H', (∀ o, H1 a = some o → H' a = some o) → G H') → R J H1
open PySem.Spec PyProof.Rows in
theorem pi_en {ta : TA} {p pos tp : Pos} {es : List Expr} {kk : Nat} (hm : X.mg "enumerate" = none) (ha : PA X [e] ta) (hg : Gl X "enumerate" := by rfl) (hs : starEach [e] X.env = [(false, eval e X.env)] := by rfl) :
    PI X (.Tuple es kk tp) (.Call (.Name "enumerate" p) [e] [] pos) (iEnS X.K ta) := by
  constructor
  intro pins s σ H R I h
  refine Call_ (ld_blt I hg hm PyProof.Rows.boot_enumerate (PyProof.Rows.callWith_type1 (thn (ha.run pos pins s σ H _ I h) fun us s1 hh => ?_) hs rfl))
  obtain ⟨vs, H1, I1, r1, a, xs, ev, sq, k⟩ := hh
  subst ev
  have near : ∀ b ∈ [s1.heap.objs.size + 1, s1.heap.objs.size], FpOk X pins H1 b := fun b hb => by
    have ge : s1.heap.objs.size ≤ b := by
      rcases two_of hb with z | z
      · rw [z]; exact Nat.le_add_right _ _
      · rw [z]; exact Nat.le_refl _
    exact I1.fpOk ge (I1.hok.fresh ge)
  cases r1 with
  | cons r rr =>
    cases rr
    cases r
    rcases sq with hq | hq
    · obtain ⟨its, rv, p1, hz⟩ := I1.list hq
      refine call_enumerate_list p1.isList fun h2 he hd _ hk => wpAny_pyIter_enum he ?_
      exact ⟨s1.heap.objs.size + 1, _, _, _, H1, rfl, I1.kept (t' := s1.toks) hk, turn_enum a (s1.heap.objs.size + 1) s1.heap.objs.size, ⟨⟨.none, he⟩, hd, Nat.succ_ne_self _⟩, near, k _ _ walk_enum fun H' e => sqL_at hq e⟩
    · obtain ⟨its, rv, p2, hz⟩ := I1.tuple hq
      refine enumT_call (begins_tuple a its.toArray) p2 fun h2 he hd hk => wpAny_pyIter_enum he ?_
      exact ⟨s1.heap.objs.size + 1, _, _, _, H1, rfl, I1.kept (t' := s1.toks) hk, turn_enT a (s1.heap.objs.size + 1) s1.heap.objs.size, ⟨⟨.none, he⟩, ⟨_, hd, rfl, rfl⟩, Nat.succ_ne_self _⟩, near, k _ _ walk_enT fun H' e => sqT_at hq e⟩
end
theorem btw_int {v : V} {lo hi : Int} (h : btw v lo hi = true) : ∃ j, v = .int j := by
  cases v with
  | int j => exact ⟨j, rfl⟩
  | _ => cases h
/-! ### ranges -/
/-- a pair's content -/
def pairOf (H : Hp) : V → Option (V × V)
  | .ref a => match H a with
    | some (.tup [x, y]) => some (x, y)
    | _ => none
  | _ => none
theorem pairOf_tup {H : Hp} {a : Addr} {x y : V} (e : H a = some (.tup [x, y])) : pairOf H (.ref a) = some (x, y) := by simp only [pairOf, e]
/-- the first one of ranges of the numbers below n that does not stand as it must -/
def rwrong (H : Hp) (n : Int) : Int → Nat → List V → Option Nat
  | _, _, [] => none
  | least, i, v :: r => match pairOf H v with
    | some (x, y) => match x with
      | .int f => if least ≤ f ∧ f ≤ n - 1 then (match y with
          | .int l => if f ≤ l ∧ l ≤ n - 1 then rwrong H n (l + 2) (i + 1) r else some i
          | _ => some i) else some i
      | _ => some i
    | none => some i
theorem rwrong_ok {H : Hp} {n least f l : Int} {i : Nat} {v : V} {r : List V} (e : pairOf H v = some (.int f, .int l)) (h1 : btw (.int f) least (n - 1) = true) (h2 : btw (.int l) f (n - 1) = true) : rwrong H n least i (v :: r) = rwrong H n (l + 2) (i + 1) r := by
  simp only [rwrong, e]
  rw [if_pos (of_decide_eq_true h1), if_pos (of_decide_eq_true h2)]
theorem rwrong_none {H : Hp} {n least : Int} {i : Nat} {v : V} {r : List V} (e : pairOf H v = none) : rwrong H n least i (v :: r) = some i := by simp only [rwrong, e]
theorem rwrong_1 {H : Hp} {n least : Int} {i : Nat} {v x y : V} {r : List V} (e : pairOf H v = some (x, y)) (h1 : btw x least (n - 1) = false) : rwrong H n least i (v :: r) = some i := by
  simp only [rwrong, e]
  cases x with
  | int f => simp only; rw [if_neg (of_decide_eq_false h1)]
  | _ => rfl
theorem rwrong_2 {H : Hp} {n least f : Int} {i : Nat} {v y : V} {r : List V} (e : pairOf H v = some (.int f, y)) (h1 : btw (.int f) least (n - 1) = true) (h2 : btw y f (n - 1) = false) : rwrong H n least i (v :: r) = some i := by
  simp only [rwrong, e]
  rw [if_pos (of_decide_eq_true h1)]
  cases y with
  | int l => simp only; rw [if_neg (of_decide_eq_false h2)]
  | _ => rfl
/-- a known value, its items known, too -/
structure Kp (H : Hp) (v : V) : Prop where
  kn : Kn H v
  items : ∀ a xs, v = .ref a → H a = some (.tup xs) → ∀ x ∈ xs, Kn H x
def oI : Option Nat → V
  | none => .non
  | some i => .int (i : Nat)
def spFWR (K : PySem.W.Frag) : Sp := fun vs H Q _ => ∃ s n ps, vs = [.ref s, .int n] ∧ Sq K H s ps ∧ (∀ v ∈ ps, Kp H v) ∧ ∀ H', Same H H' → Q (oI (rwrong H n 0 0 ps)) H'
section
variable {P : Program} {w : World} {K : PySem.W.Frag} {mg : Str → Option Value} {base : Heap}
theorem scTupOf : FnScope ["value", "size"] ["value", "size"] (defScope sTupOf) := ⟨rfl, rfl, rfl, by decide +kernel, rfl, by decide +kernel, by decide +kernel⟩
theorem ok_tupOf {f : Addr} {fd : FuncData} (F : Fun K "is_tuple_of" "is_tuple_of" sTupOf f fd) (B : Bi mg) : FnOk P w K mg base CX0 1 f fd ["value", "size"] spTupOf := by
  refine F.ok scTupOf (fun vs H Q E h => ?_) (fun cdv A outer s H vs Q E hr h => ?_)
  · obtain ⟨v, n, rfl, _⟩ := h
    rfl
  · obtain ⟨v, n, rfl, k, q⟩ := h
    refine ⟨_, pss_one (ps_ret (pe_and (pe_isi B.isi (pa_cons (pv 0) (pa_cons (pe_ty "tuple" B.tuple) pa_nil))) (pe_one (pe_cmpR op_eq (pe_len B.len (pa_cons (pv 0) pa_nil)) (pv 1) (nomark _))))), ?_⟩
    obtain ⟨t, ty, _, _, k3, _⟩ := k.kinds K
    refine ⟨v, rfl, v, _, _, _, _, rfl, .ty "tuple", ty, k3, _, rfl, ?_⟩
    cases k with
    | tup e =>
      rw [isT_tup e]
      refine ⟨_, rfl, _, _, rfl, .inr (SqT.of e), _, rfl, rfl, ?_⟩
      simp only [isTn, e] at q
      rw [dec_int]
      have e2 : ∀ i j : Int, (i == j) = decide (i = j) := fun i j => by rw [Bool.eq_iff_iff]; simp
      rw [e2]
      exact q
    | lst e =>
      rw [isT_lst e]
      simp only [isTn, e] at q
      exact q
    | _ => exact q
theorem scFWR : FnScope ["ranges", "many", "least", "index", "pair", "first", "last"] ["ranges", "many"] (defScope sFWR) := ⟨rfl, rfl, rfl, by decide +kernel, rfl, by decide +kernel, by decide +kernel⟩
theorem kp_pair {H : Hp} {v : V} (k : Kp H v) : (isTn H v 2 = false ∧ pairOf H v = none) ∨ (isTn H v 2 = true ∧ ∃ a x y, v = .ref a ∧ H a = some (.tup [x, y]) ∧ pairOf H v = some (x, y) ∧ Kn H x ∧ Kn H y) := by
  cases hk : k.kn with
  | @tup a xs e =>
    match xs, e with
    | [x, y], e => exact .inr ⟨by simp [isTn, e], a, x, y, rfl, e, pairOf_tup e, k.items a _ rfl e x (by simp), k.items a _ rfl e y (by simp)⟩
    | [], e => exact .inl ⟨by simp [isTn, e], by simp [pairOf, e]⟩
    | [x], e => exact .inl ⟨by simp [isTn, e], by simp [pairOf, e]⟩
    | x :: y :: z :: r, e => exact .inl ⟨by simp [isTn, e]; omega, by simp [pairOf, e]⟩
  | lst e => exact .inl ⟨by simp [isTn, e], by simp [pairOf, e]⟩
  | _ => exact .inl ⟨rfl, rfl⟩
theorem kp_same {H H' : Hp} {v : V} (e : Same H H') (k : Kp H v) : isTn H' v 2 = isTn H v 2 := by
  cases k.kn with
  | tup h => simp [isTn, h, e _ _ h]
  | lst h => simp [isTn, h, e _ _ h]
  | _ => rfl
theorem ok_fwr {f : Addr} {fd : FuncData} (F : Fun K "first_wrong_range" "first_wrong_range" sFWR f fd) (B : Bi mg) (cT : Cal CX0 P w K mg base 1 "is_tuple_of" spTupOf) (cB : Cal CX0 P w K mg base 2 "is_between" spBetween) : FnOk P w K mg base CX0 3 f fd ["ranges", "many"] (spFWR K) := by
  refine F.ok scFWR (fun vs H Q E h => ?_) (fun cdv A outer s H vs Q E hr h => ?_)
  · obtain ⟨s, n, ps, rfl, _⟩ := h
    rfl
  · obtain ⟨s0, n, ps, rfl, hs, kp, q⟩ := h
    refine ⟨_, pss_cons (ps_set (i := 2) scFWR.nd rfl (Or.inl rfl) pe_int) (pss_cons (ps_for PassesOwn.never rfl (pi_en B.enum (pa_cons (pv 0) pa_nil)) (pg_tup rfl (pgs_cons (pg_name (i := 3) scFWR.nd rfl (.inl rfl)) (pgs_cons (pg_name (i := 4) scFWR.nd rfl (.inl rfl)) pgs_nil)))
        (pss_cons (ps_if (pt_not (pt_val (pe_c cT hr pass0 (pa_cons (pv 4) (pa_cons pe_int pa_nil))))) (pss_one (ps_ret (pv 3))) pss_nil)
        (pss_cons (ps_asg (pv 4) (pg_tup rfl (pgs_cons (pg_name (i := 5) scFWR.nd rfl (.inl rfl)) (pgs_cons (pg_name (i := 6) scFWR.nd rfl (.inl rfl)) pgs_nil))))
        (pss_cons (ps_if (PW.pt (pw_or (pt_not (pt_val (pe_c cB hr pass0 (pa_cons (pv 5) (pa_cons (pv 2) (pa_cons (pe_op op_sub (pv 1) pe_int) pa_nil)))))) (pw_or1 (pt_not (pt_val (pe_c cB hr pass0 (pa_cons (pv 6) (pa_cons (pv 5) (pa_cons (pe_op op_sub (pv 1) pe_int) pa_nil))))))))) (pss_one (ps_ret (pv 3))) pss_nil)
        (pss_one (ps_set (i := 2) scFWR.nd rfl (Or.inl rfl) (pe_op op_add (pv 6) pe_int)))))))
      (pss_one (ps_ret pe_non))), ?_⟩
    refine ⟨_, rfl, s0, ps, rfl, hs, fun J G wk hG => for_it wk (fun i σ H' => ∃ (least : Int) (a b c d : Option V), σ = [some (.ref s0), some (.int n), some (.int least), a, b, c, d] ∧ Same H H' ∧ rwrong H n least i (ps.drop i) = rwrong H n 0 0 ps) ⟨0, none, none, none, none, rfl, Same.refl H, rfl⟩
      (fun i σ H' _ ⟨_, _, _, _, _, _, e, _⟩ => hG H' fun o z => e _ _ z) ?_ ?_⟩
    · rintro i x σ H1 H2 hi ⟨least, a, b, c, d, rfl, e, sc⟩ ⟨T0, y, v, rfl, nT0, rfl, ey, hv⟩
      have ey : y = .int (i : Nat) := (Option.some.inj ey).symm
      subst ey
      have e2 : Same H (upd H1 T0 (.tup [.int (i : Nat), v])) := e.trans (same_new nT0)
      have kv : Kp H v := kp v (List.mem_of_getElem? hv)
      have dr : ps.drop i = v :: ps.drop (i + 1) := by
        obtain ⟨lt, eq⟩ := List.getElem?_eq_some_iff.mp hv
        rw [List.drop_eq_getElem_cons lt, eq]
      rw [dr] at sc
      have stop : rwrong H n least i (v :: ps.drop (i + 1)) = some i → Q (.int (i : Nat)) (upd H1 T0 (.tup [.int (i : Nat), v])) := fun z => by
        have q2 := q _ e2
        rw [← sc, z] at q2
        exact q2
      refine ⟨T0, _, rfl, SqT.of upd_same, rfl, _, _, rfl, _, _, rfl, rfl, ?_⟩
      refine ⟨v, rfl, v, 2, rfl, kv.kn.same e2, _, rfl, ?_⟩
      rw [kp_same e2 kv]
      rcases kp_pair kv with ⟨p1, p2⟩ | ⟨p1, a0, x, y, rfl, ha, p2, kx, ky⟩
      · rw [p1]
        exact iteT ⟨_, rfl, stop (rwrong_none p2)⟩
      rw [p1]
      refine iteF ⟨_, rfl, a0, [x, y], rfl, SqT.of (e2 _ _ ha), rfl, _, _, rfl, _, _, rfl, rfl, ?_⟩
      refine ⟨x, rfl, _, rfl, _, rfl, _, _, rfl, rfl, x, least, n - 1, rfl, kx.same e2, _, rfl, ?_⟩
      cases e3 : btw x least (n - 1) with
      | false => exact iteT (iteT ⟨_, rfl, stop (rwrong_1 p2 e3)⟩)
      | true =>
        obtain ⟨f0, rfl⟩ := btw_int e3
        refine iteF ⟨y, rfl, _, rfl, _, rfl, _, _, rfl, rfl, y, f0, n - 1, rfl, ky.same e2, _, rfl, ?_⟩
        cases e4 : btw y f0 (n - 1) with
        | false => exact iteT ⟨_, rfl, stop (rwrong_2 p2 e3 e4)⟩
        | true =>
          obtain ⟨l0, rfl⟩ := btw_int e4
          refine iteF ⟨_, rfl, _, _, rfl, rfl, l0 + 2, _, _, _, _, rfl, e2, ?_⟩
          rw [← sc, rwrong_ok p2 e3 e4]
    · rintro σ H1 ⟨least, a, b, c, d, rfl, e, sc⟩
      rw [List.drop_length] at sc
      have q2 := q _ e
      rw [← sc] at q2
      exact q2
end
/-! ### ranges of ascending numbers -/
def rstep (acc : List (Int × Int)) (n : Int) : List (Int × Int) := match acc.getLast? with
  | some p => if p.2 = n - 1 then acc.dropLast ++ [(p.1, n)] else acc ++ [(n, n)]
  | none => acc ++ [(n, n)]
def rngs (is : List Int) : List (Int × Int) := is.foldl rstep []
theorem rstep_nil (n : Int) : rstep [] n = [(n, n)] := rfl
theorem rstep_join (acc : List (Int × Int)) (p : Int × Int) (n : Int) (h : p.2 = n - 1) : rstep (acc ++ [p]) n = acc ++ [(p.1, n)] := by
  unfold rstep
  rw [List.getLast?_concat]
  show (if p.2 = n - 1 then (acc ++ [p]).dropLast ++ [(p.1, n)] else _) = _
  rw [if_pos h, List.dropLast_concat]
theorem rstep_new (acc : List (Int × Int)) (p : Int × Int) (n : Int) (h : ¬ p.2 = n - 1) : rstep (acc ++ [p]) n = acc ++ [p] ++ [(n, n)] := by
  unfold rstep
  rw [List.getLast?_concat]
  show (if p.2 = n - 1 then _ else _) = _
  rw [if_neg h]
theorem rngs_snoc (is : List Int) (n : Int) : rngs (is ++ [n]) = rstep (rngs is) n := by
  unfold rngs
  rw [List.foldl_append]
  rfl
theorem rstep_len (acc : List (Int × Int)) (n : Int) : (rstep acc n).length ≤ acc.length + 1 := by
  rcases List.eq_nil_or_concat acc with rfl | ⟨l, p, rfl⟩
  · exact Nat.le_refl _
  · rw [List.concat_eq_append]
    by_cases h : p.2 = n - 1
    · rw [rstep_join l p n h]
      simp
    · rw [rstep_new l p n h]
      simp
theorem fold_len : ∀ (is : List Int) (acc : List (Int × Int)), (is.foldl rstep acc).length ≤ acc.length + is.length
  | [], acc => Nat.le_refl _
  | n :: is, acc => by
    have h1 := fold_len is (rstep acc n)
    have h2 := rstep_len acc n
    show (is.foldl rstep (rstep acc n)).length ≤ acc.length + (is.length + 1)
    omega
theorem rngs_len (is : List Int) : (rngs is).length ≤ is.length := Nat.le_trans (fold_len is []) (by simp)
/-- pairs of ints in the heap -/
def PrAt (H : Hp) : List V → List (Int × Int) → Prop := Paired fun v p => ∃ a, v = .ref a ∧ H a = some (.tup [.int p.1, .int p.2])
theorem PrAt.same {H H' : Hp} {ts : List V} {prs : List (Int × Int)} (h : PrAt H ts prs) (e : Same H H') : PrAt H' ts prs := Paired.mapP h fun _ _ ⟨a, h1, h2⟩ => ⟨a, h1, e _ _ h2⟩
theorem PrAt.put {H : Hp} {L : Addr} {xs ys : List V} {ts : List V} {prs : List (Int × Int)} (h : PrAt H ts prs) (hL : H L = some (.lst xs)) : PrAt (upd H L (.lst ys)) ts prs :=
  Paired.mapP h fun _ _ ⟨a, h1, h2⟩ => ⟨a, h1, (upd_ne (ne_of h2 hL (fun z => by cases z))).trans h2⟩
section
variable {X : Cx} {tg e : Expr}
open PySem.Spec PyProof.Rows in
end
/-- ranges_of(numbers) -/
def spRngs : Sp := fun vs H Q _ => ∃ (s : Addr) (is : List Int), vs = [.ref s] ∧ H s = some (.lst (is.map V.int)) ∧ is.length ≤ 10000 ∧ ∀ l H' ts, H l = none → Same H H' → H' l = some (.lst ts) → PrAt H' ts (rngs is) → Q (.ref l) H'
section
variable {P : Program} {w : World} {K : PySem.W.Frag} {mg : Str → Option Value} {base : Heap}
theorem scRanges : FnScope ["numbers", "ranges", "number"] ["numbers"] (defScope sRanges) := ⟨rfl, rfl, rfl, by decide +kernel, rfl, by decide +kernel, by decide +kernel⟩
theorem ok_ranges {f : Addr} {fd : FuncData} (F : Fun K "ranges_of" "ranges_of" sRanges f fd) : FnOk P w K mg base CX0 1 f fd ["numbers"] spRngs := by
  refine F.ok scRanges (fun vs H Q E h => ?_) (fun cdv A outer s H vs Q E hr h => ?_)
  · obtain ⟨s, is, rfl, _⟩ := h
    rfl
  · obtain ⟨s0, is, rfl, hs, len, q⟩ := h
    refine ⟨_, pss_cons (ps_set (i := 1) scRanges.nd rfl (Or.inl rfl) (pe_lst pa_nil)) (pss_cons (ps_for PassesOwn.never rfl (pi_sqA (pv 0)) (pg_name (i := 2) scRanges.nd rfl (.inl rfl))
        (pss_one (ps_if (PW.pt (pw_and (pt_truth (pv 1) (by intro _; rfl)) (pw_and1 (pt_cmpR op_eq (pe_ix ix_tup (pe_ix ix_list (pv 1) (pe_un un_neg pe_int) (fun _ _ => rfl)) pe_int (fun _ _ => rfl)) (pe_op op_sub (pv 2) pe_int) (nomark _)))))
          (pss_one (ps_asg (pe_tup (pa_cons (pe_ix ix_tup (pe_ix ix_list (pv 1) (pe_un un_neg pe_int) (fun _ _ => rfl)) pe_int (fun _ _ => rfl)) (pa_cons (pv 2) pa_nil))) (pg_sub (pv 1) (pe_un un_neg pe_int) set_list)))
          (pss_one (ps_expr (pe_bm PySem.F.plainAttrs_list PySem.F.slot_list_append PySem.F.type_list_append mt_append (pv 1) (pa_cons (pe_tup (pa_cons (pv 2) (pa_cons (pv 2) pa_nil))) pa_nil)))))))
      (pss_one (ps_ret (pv 1)))), ?_⟩
    refine ⟨Nat.zero_le _, fun L nL => ?_⟩
    have ns0 : s0 ≠ L := ne_of_none hs nL
    refine ⟨_, rfl, s0, is.map V.int, rfl, .inl (SqL.of ((upd_ne ns0).trans hs)), fun J G wk hG => for_it wk (fun i σ H' => ∃ (a : Option V) (ts : List V), σ = [some (.ref s0), some (.ref L), a] ∧ Same H H' ∧ H' L = some (.lst ts) ∧ PrAt H' ts (rngs (is.take i)))
      ⟨none, [], rfl, same_new nL, upd_same, .nil⟩ (fun i σ H' _ ⟨_, _, _, e, _⟩ => hG H' fun o z => e _ _ (by rw [upd_ne ns0] at z; exact z)) ?_ ?_⟩
    · rintro i x σ H1 H2 hi ⟨a, ts, rfl, e, hL, pr⟩ ⟨rfl, hx⟩
      obtain ⟨n, hn, rfl⟩ : ∃ n, is[i]? = some n ∧ x = V.int n := by
        rw [List.getElem?_map] at hx
        cases q2 : is[i]? with
        | none => rw [q2] at hx; cases hx
        | some n => rw [q2] at hx; exact ⟨n, rfl, (Option.some.inj hx).symm⟩
      have tk : is.take (i + 1) = is.take i ++ [n] := by
        obtain ⟨lt, eq⟩ := List.getElem?_eq_some_iff.mp hn
        rw [List.take_succ_eq_append_getElem lt, eq]
      have lts : ts.length ≤ 10000 := by
        rw [Paired.length pr]
        exact Nat.le_trans (rngs_len _) (by rw [List.length_take]; omega)
      have fin : ∀ (t : Addr) (p : Int × Int) (us : List V) (ps : List (Int × Int)) (ts2 : List V), H2 t = none → PrAt H2 us ps → ts2 = us ++ [V.ref t] → rngs (is.take (i + 1)) = ps ++ [p] →
          (∃ (a : Option V) (ts : List V), [some (V.ref s0), some (.ref L), some (V.int n)] = [some (V.ref s0), some (.ref L), a] ∧ Same H (upd (upd H2 t (.tup [.int p.1, .int p.2])) L (.lst ts2)) ∧
            upd (upd H2 t (.tup [.int p.1, .int p.2])) L (.lst ts2) L = some (.lst ts) ∧ PrAt (upd (upd H2 t (.tup [.int p.1, .int p.2])) L (.lst ts2)) ts (rngs (is.take (i + 1)))) := by
        intro t p us ps ts2 nt pu et er
        have ntL : t ≠ L := Ne.symm (ne_of_none hL nt)
        refine ⟨_, ts2, rfl, fun b o z => ?_, upd_same, ?_⟩
        · rw [upd_ne (ne_of_none z nL), upd_ne (ne_of_none (e _ _ z) nt)]
          exact e _ _ z
        · rw [et, er]
          refine Paired.snoc ?_ ⟨t, rfl, (upd_ne ntL).trans upd_same⟩
          have h1 : upd H2 t (.tup [.int p.1, .int p.2]) L = some (.lst ts) := (upd_ne (Ne.symm ntL)).trans hL
          exact (pu.same (same_new nt)).put h1
      rcases List.eq_nil_or_concat (rngs (is.take i)) with en | ⟨ps, p, en⟩
      · rw [en] at pr
        cases pr
        refine ⟨_, rfl, false, .inl ⟨[], SqL.of hL, rfl⟩, ?_⟩
        refine iteF ?_
        refine iteF ⟨_, rfl, .inl ⟨rfl, _, SqL.of hL⟩, _, rfl, _, rfl, by show 2 ≤ sizeLine; decide, fun t nt => ⟨L, [], _, rfl, rfl, (upd_ne (ne_of_none hL nt)).trans hL, by show 0 < sizeLine; decide, ?_⟩⟩
        refine fin t (n, n) [] [] _ nt .nil rfl ?_
        rw [tk, rngs_snoc, en]
        rfl
      · rw [List.concat_eq_append] at en
        rw [en] at pr
        obtain ⟨us, v, rfl, pu, a0, rfl, ha0⟩ := paired_last pr
        refine ⟨_, rfl, true, .inl ⟨us ++ [V.ref a0], SqL.of hL, by cases us <;> rfl⟩, ?_⟩
        refine iteT ?_
        have two : atI [V.int p.1, V.int p.2] 1 = some (V.int p.2) := rfl
        have one : atI [V.int p.1, V.int p.2] 0 = some (V.int p.1) := rfl
        refine ⟨_, rfl, _, rfl, L, _, _, _, rfl, rfl, SqL.of hL, atI_last us (V.ref a0), a0, _, _, _, rfl, rfl, SqT.of ha0, two, _, rfl, _, _, rfl, rfl, rfl, _, rfl, ?_⟩
        refine ite2 (fun c => ?_) fun c => ?_
        · have c2 : p.2 = n - 1 := by simpa using c
          refine ⟨_, rfl, _, rfl, L, _, _, _, rfl, rfl, SqL.of hL, atI_last us (V.ref a0), a0, _, _, _, rfl, rfl, SqT.of ha0, one, _, rfl, by show 2 ≤ sizeLine; decide, fun t nt => ?_⟩
          refine ⟨_, rfl, _, rfl, L, _, _, us.length, rfl, rfl, (upd_ne (ne_of_none hL nt)).trans hL, (by simp [ixN]; omega), ?_⟩
          refine fin t (p.1, n) us ps _ nt pu ?_ ?_
          · rw [List.set_append_right _ _ (Nat.le_refl _), Nat.sub_self]
            rfl
          · rw [tk, rngs_snoc, en, rstep_join ps p n c2]
        · have c2 : ¬ p.2 = n - 1 := by simpa using c
          refine ⟨_, rfl, .inl ⟨rfl, _, SqL.of hL⟩, _, rfl, _, rfl, by show 2 ≤ sizeLine; decide, fun t nt => ⟨L, _, _, rfl, rfl, (upd_ne (ne_of_none hL nt)).trans hL, small10 lts, ?_⟩⟩
          refine fin t (n, n) (us ++ [V.ref a0]) (ps ++ [p]) _ nt pr rfl ?_
          rw [tk, rngs_snoc, en, rstep_new ps p n c2]
    · rintro σ H1 ⟨a, ts, rfl, e, hL, pr⟩
      rw [List.length_map, List.take_length] at pr
      exact ⟨_, rfl, q L H1 ts nL e hL pr⟩
end
end K25
set_option Elab.async false
set_option linter.all false
set_option maxRecDepth 100001
set_option maxHeartbeats 3999999
namespace K25
open PySem L2
abbrev sFrz : Stmt := topS 8
abbrev sFWS : Stmt := topS 5
/-- a list or a tuple at u -/
def LT (H : Hp) (u : Addr) (ts : List V) : Prop := H u = some (.lst ts) ∨ H u = some (.tup ts)
theorem LT.sq {K : PySem.W.Frag} {H : Hp} {u : Addr} {ts : List V} (h : LT H u ts) : Sq K H u ts := h.elim (fun h => .inl (SqL.of h)) fun h => .inr (SqT.of h)
theorem LT.same {H H' : Hp} {u : Addr} {ts : List V} (h : LT H u ts) (e : Same H H') : LT H' u ts := h.imp (fun h => e _ _ h) fun h => e _ _ h
theorem LT.kn {H : Hp} {u : Addr} {ts : List V} (h : LT H u ts) : Kn H (.ref u) := h.elim .lst .tup
def isLT (H : Hp) (v : V) : Bool := isL H v || isT H v
theorem LT.is {H : Hp} {u : Addr} {ts : List V} (h : LT H u ts) : isLT H (.ref u) = true := by
  unfold isLT
  rcases h with h | h
  · rw [isL_lst h]
    rfl
  · rw [isT_tup h, Bool.or_true]
theorem Kn.any (K : PySem.W.Frag) {H : Hp} {v : V} (k : Kn H v) : ∃ t : String, TyX K H v (.type t) ∧ PySem.W.kitAny K (.type t) [.type "list", .type "tuple"] = some (isLT H v) := by
  obtain ⟨t, ty, _, _, k3, k4, _⟩ := k.kinds K
  refine ⟨t, ty, kitAny_cons k4 (fun z => ?_) (fun z => by unfold isLT; rw [z]; rfl)⟩
  refine kitAny_cons k3 (fun z2 => by unfold isLT; rw [z, z2]; rfl) (fun z2 => by unfold isLT; rw [z2, Bool.or_true])
theorem Kn.lt_same {H H' : Hp} {v : V} (k : Kn H v) (e : Same H H') : isLT H' v = isLT H v := by
  unfold isLT
  cases k with
  | lst h => rw [isL_lst h, isL_lst (e _ _ h)]; rfl
  | tup h => rw [isT_tup h, isT_tup (e _ _ h), Bool.or_true, Bool.or_true]
  | _ => rfl
theorem paired_get {α β : Type} {F : α → β → Prop} : ∀ {ts : List α} {ps : List β} {i : Nat} {v : α}, Paired F ts ps → ts[i]? = some v → ∃ p, ps[i]? = some p ∧ F v p
  | _, _, _, _, .nil, h => by simp at h
  | _, _, 0, _, .cons h _, e => by cases e; exact ⟨_, rfl, h⟩
  | _, _, i + 1, v, .cons _ t, e => paired_get (i := i) t (by simpa using e)
theorem paired_to {α β : Type} {F : α → β → Prop} : ∀ {ts : List α} {ps : List β} {i : Nat} {p : β}, Paired F ts ps → ps[i]? = some p → ∃ v, ts[i]? = some v ∧ F v p
  | _, _, _, _, .nil, h => by simp at h
  | _, _, 0, _, .cons h _, e => by cases e; exact ⟨_, rfl, h⟩
  | _, _, i + 1, v, .cons _ t, e => paired_to (i := i) t (by simpa using e)
theorem paired_map {α β γ : Type} {F : α → β → Prop} {G : α → γ → Prop} {g : β → γ} (h : ∀ a b, F a b → G a (g b)) : ∀ {ts : List α} {ps : List β}, Paired F ts ps → Paired G ts (ps.map g)
  | _, _, .nil => .nil
  | _, _, .cons x t => .cons (h _ _ x) (paired_map h t)
theorem paired_unmap {α β γ : Type} {F : α → β → Prop} {G : α → γ → Prop} {g : β → γ} (h : ∀ a b, G a (g b) → F a b) : ∀ {ps : List β} {ts : List α}, Paired G ts (ps.map g) → Paired F ts ps
  | [], _, .nil => .nil
  | _ :: _, _, .cons x t => .cons (h _ _ x) (paired_unmap h t)
/-- is_list -/
def spIsL : Sp := fun vs H Q _ => ∃ v, vs = [v] ∧ Kn H v ∧ ∀ H', Same H H' → Q (.bl (isLT H v)) H'
/-- frozen(value) -/
def spFz {α : Type} (In Out : Hp → V → α → Prop) : Sp := fun vs H Q _ => ∃ v d, vs = [v] ∧ In H v d ∧ ∀ v' H', Same H H' → Out H' v' d → Q v' H'
def In0 (_ : Hp) (v : V) (i : Int) : Prop := v = .int i
def InS {α : Type} (In : Hp → V → α → Prop) (H : Hp) (v : V) (ds : List α) : Prop := ∃ a xs, v = .ref a ∧ LT H a xs ∧ xs.length ≤ 10000 ∧ Paired (In H) xs ds
def OutS {α : Type} (Out : Hp → V → α → Prop) (H : Hp) (v : V) (ds : List α) : Prop := ∃ a xs, v = .ref a ∧ H a = some (.tup xs) ∧ Paired (Out H) xs ds
def Stb {α : Type} (In : Hp → V → α → Prop) : Prop := ∀ H H' v d, Same H H' → In H v d → In H' v d
/-- tuples stay -/
def TT (H H' : Hp) : Prop := ∀ a xs, H a = some (.tup xs) → H' a = some (.tup xs)
theorem TT.same {H H' : Hp} (e : Same H H') : TT H H' := fun a xs z => e _ _ z
theorem TT.trans {H H1 H2 : Hp} (a : TT H H1) (b : TT H1 H2) : TT H H2 := fun c xs z => b _ _ (a _ _ z)
theorem TT.lst {H : Hp} {D : Addr} {xs ys : List V} (hD : H D = some (.lst xs)) : TT H (upd H D (.lst ys)) := fun a zs z => (upd_ne (ne_of z hD fun y => nomatch y)).trans z
def StT {α : Type} (Out : Hp → V → α → Prop) : Prop := ∀ H H' v d, TT H H' → Out H v d → Out H' v d
theorem stt0 : StT In0 := fun _ _ _ _ _ h => h
theorem sttO {α : Type} {Out : Hp → V → α → Prop} (s : StT Out) : StT (OutS Out) := fun _ _ _ _ e ⟨a, xs, h1, h2, h3⟩ => ⟨a, xs, h1, e _ _ h2, Paired.mapP h3 fun _ _ h => s _ _ _ _ e h⟩
theorem stb0 : Stb In0 := fun _ _ _ _ _ h => h
theorem stbS {α : Type} {In : Hp → V → α → Prop} (s : Stb In) : Stb (InS In) := fun _ _ _ _ e ⟨a, xs, h1, h2, h3, h4⟩ => ⟨a, xs, h1, h2.same e, h3, Paired.mapP h4 fun _ _ h => s _ _ _ _ e h⟩
section
variable {P : Program} {w : World} {K : PySem.W.Frag} {mg : Str → Option Value} {base : Heap}
theorem scIsL : FnScope ["value"] ["value"] (defScope sIsList) := ⟨rfl, rfl, rfl, by decide +kernel, rfl, by decide +kernel, by decide +kernel⟩
theorem ok_isL {f : Addr} {fd : FuncData} (F : Fun K "is_list" "is_list" sIsList f fd) (B : Bi mg) : FnOk P w K mg base CX0 1 f fd ["value"] spIsL := by
  refine F.ok scIsL (fun vs H Q E h => ?_) (fun cdv A outer s H vs Q E hr h => ?_)
  · obtain ⟨v, rfl, _⟩ := h
    rfl
  · obtain ⟨v, rfl, k, q⟩ := h
    refine ⟨_, pss_one (ps_ret (pe_callB call_isiT rfl B.isi PyProof.Rows.boot_isinstance (pa_cons (pv 0) (pa_cons (pe_tup (pa_cons (pe_ty "list" B.list) (pa_cons (pe_ty "tuple" B.tuple) pa_nil))) pa_nil)))), ?_⟩
    refine ⟨_, rfl, by show 2 ≤ sizeLine; decide, fun tp ntp => ?_⟩
    have e := same_new (o := .tup [.ty "list", .ty "tuple"]) ntp
    obtain ⟨t, ty, ka⟩ := (k.same e).any K
    rw [k.lt_same e] at ka
    exact ⟨v, tp, _, .type t, [.type "list", .type "tuple"], _, rfl, upd_same, .cons (.ty "list") (.cons (.ty "tuple") .nil), ty, ka, q _ e⟩
theorem scFrz : FnScope ["value", "part", "key"] ["value"] (defScope sFrz) := ⟨rfl, rfl, rfl, by decide +kernel, rfl, by decide +kernel, by decide +kernel⟩
theorem ok_fz0 {f : Addr} {fd : FuncData} (F : Fun K "frozen" "frozen" sFrz f fd) (B : Bi mg) : FnOk P w K mg base CX0 1 f fd ["value"] (spFz In0 In0) := by
  refine F.ok scFrz (fun vs H Q E h => ?_) (fun cdv A outer s H vs Q E hr h => ?_)
  · obtain ⟨v, d, rfl, _⟩ := h
    rfl
  · obtain ⟨v, d, rfl, rfl, q⟩ := h
    refine ⟨_, pss_cons (ps_if (pt_val (pe_callB call_isiT rfl B.isi PyProof.Rows.boot_isinstance (pa_cons (pv 0) (pa_cons (pe_tup (pa_cons (pe_ty "list" B.list) (pa_cons (pe_ty "tuple" B.tuple) pa_nil))) pa_nil)))) pss_never pss_nil)
      (pss_cons (ps_if (pt_val (pe_isi B.isi (pa_cons (pv 0) (pa_cons (pe_ty "dict" B.dict) pa_nil)))) pss_never pss_nil) (pss_one (ps_ret (pv 0)))), ?_⟩
    refine ⟨_, rfl, by show 2 ≤ sizeLine; decide, fun tp ntp => ?_⟩
    have e := same_new (o := .tup [.ty "list", .ty "tuple"]) ntp
    obtain ⟨t, ty, ka⟩ := (Kn.int d : Kn (upd H tp (.tup [.ty "list", .ty "tuple"])) (.int d)).any K
    obtain ⟨t2, ty2, _, _, _, _, k5⟩ := (Kn.int d : Kn (upd H tp (.tup [.ty "list", .ty "tuple"])) (.int d)).kinds K
    refine ⟨_, tp, _, .type t, [.type "list", .type "tuple"], _, rfl, upd_same, .cons (.ty "list") (.cons (.ty "tuple") .nil), ty, ka, _, rfl, iteF ?_⟩
    exact ⟨_, rfl, _, _, _, _, _, rfl, .ty "dict", ty2, k5, _, rfl, iteF ⟨_, rfl, q _ _ e rfl⟩⟩
theorem ok_fzS {α : Type} {In Out : Hp → V → α → Prop} {k : Nat} (sI : Stb In) (sO : StT Out) {f : Addr} {fd : FuncData} (F : Fun K "frozen" "frozen" sFrz f fd) (B : Bi mg) (c1 : Cal CX0 P w K mg base k "frozen" (spFz In Out)) : FnOk P w K mg base CX0 (k + 1) f fd ["value"] (spFz (InS In) (OutS Out)) := by
  refine F.ok scFrz (fun vs H Q E h => ?_) (fun cdv A outer s H vs Q E hr h => ?_)
  · obtain ⟨v, d, rfl, _⟩ := h
    rfl
  · obtain ⟨v, ds, rfl, ⟨a, xs, rfl, ha, len, pr⟩, q⟩ := h
    refine ⟨_, pss_cons (ps_if (pt_val (pe_callB call_isiT rfl B.isi PyProof.Rows.boot_isinstance (pa_cons (pv 0) (pa_cons (pe_tup (pa_cons (pe_ty "list" B.list) (pa_cons (pe_ty "tuple" B.tuple) pa_nil))) pa_nil)))) (pss_one (ps_ret (pe_tupleOf rfl B.tuple (pe_lc (own := [("part", 1)]) rfl scFrz.nd (pi_sqA (pv 0)) (blkOk_by (N := ["value", "part", "key"]) (sc := defScope sFrz) (by decide +kernel))
          (fun _ _ _ _ _ => pg_name (i := 1) scFrz.nd rfl (Or.inl rfl)) (fun _ _ _ _ _ => pts_nil) (fun _ _ _ _ _ => pe_c c1 hr pass0 (pa_cons (pv 1) pa_nil) (Nat.le_refl _)))))) pss_nil)
      (pss_cons (ps_if (pt_val (pe_isi B.isi (pa_cons (pv 0) (pa_cons (pe_ty "dict" B.dict) pa_nil)))) pss_never pss_nil) (pss_one (ps_ret (pv 0)))), ?_⟩
    refine ⟨_, rfl, by show 2 ≤ sizeLine; decide, fun tp ntp => ?_⟩
    have e := same_new (o := .tup [.ty "list", .ty "tuple"]) ntp
    have htp : upd H tp (.tup [.ty "list", .ty "tuple"]) tp = some (.tup [.ty "list", .ty "tuple"]) := upd_same
    generalize upd H tp (.tup [.ty "list", .ty "tuple"]) = H1 at e htp ⊢
    have ha1 := ha.same e
    obtain ⟨t, ty, ka⟩ := ha1.kn.any K
    rw [ha1.is] at ka
    refine ⟨_, tp, _, .type t, [.type "list", .type "tuple"], _, rfl, htp, .cons (.ty "list") (.cons (.ty "tuple") .nil), ty, ka, _, rfl, iteT ?_⟩
    refine ⟨_, rfl, a, _, rfl, ha1.sq, fun J G wk hG D nD => lc_it wk (fun j H' => Same H1 H' ∧ ∃ ys, H' D = some (.lst ys) ∧ Paired (Out H') ys (ds.take j)) ⟨same_new nD, [], upd_same, .nil⟩ (fun j H' _ z => hG H' fun o w => z.1 _ _ w) ?_ ?_⟩
    · rintro j y H2 H3 hj ⟨e1, ys, hD, po⟩ ⟨rfl, hy⟩
      obtain ⟨d, hd, hin⟩ := paired_get pr hy
      have ly : ys.length ≤ 10000 := by
        rw [Paired.length po, List.length_take]
        omega
      refine ⟨rfl, ?_⟩
      unfold tYes
      refine iteT ⟨_, rfl, y, d, rfl, sI _ _ _ _ (e.trans e1) hin, fun v' H4 e4 o4 => ⟨ys, e4 _ _ hD, small10 ly, fun b o z => ?_, ys ++ [v'], upd_same, ?_⟩⟩
      · rw [upd_ne (ne_of_none z nD)]
        exact e4 _ _ (e1 _ _ z)
      · have tk : ds.take (j + 1) = ds.take j ++ [d] := by rw [List.take_add_one, hd]; rfl
        rw [tk]
        have h4 := e4 _ _ hD
        exact Paired.snoc (Paired.mapP po fun _ _ h => sO _ _ _ _ ((TT.same e4).trans (TT.lst h4)) h) (sO _ _ _ _ (TT.lst h4) o4)
    · rintro H2 ⟨e1, ys, hD, po⟩
      rw [Paired.length pr, List.take_length] at po
      exact .inl ⟨D, ys, rfl, SqL.of hD, fun t nt => q _ _ ((e.trans e1).trans (same_new nt)) ⟨t, ys, rfl, upd_same, Paired.mapP po fun _ _ h => sO _ _ _ _ (TT.same (same_new nt)) h⟩⟩
end
end K25
set_option Elab.async false
set_option linter.all false
set_option maxRecDepth 100001
set_option maxHeartbeats 3999999
namespace K25
open PySem L2
abbrev sAre : Stmt := topS 26
abbrev sMask : Stmt := topS 27
abbrev Prs := List (Int × Int)
/-- ranges below n, ascending from least on, none touching -/
def rok (n : Int) : Int → Prs → Prop
  | _, [] => True
  | least, p :: r => least ≤ p.1 ∧ p.1 ≤ p.2 ∧ p.2 ≤ n - 1 ∧ rok n (p.2 + 2) r
def hasP (ps : Prs) (s : Int) : Bool := ps.any fun p => decide (p.1 ≤ s) && decide (s ≤ p.2)
def mN : Prs → Nat
  | [] => 0
  | p :: r => (2 ^ (p.2.toNat + 1) - 2 ^ p.1.toNat) + mN r
theorem rok_mono {n a b : Int} {ps : Prs} (h : rok n b ps) (l : a ≤ b) : rok n a ps := by
  cases ps with
  | nil => trivial
  | cons p r => exact ⟨by have := h.1; omega, h.2⟩
theorem rok_has {n least : Int} : ∀ {ps : Prs}, rok n least ps → ∀ s, hasP ps s = true → least ≤ s ∧ s ≤ n - 1
  | [], _, s, h => by simp [hasP] at h
  | p :: r, ⟨h1, h2, h3, h4⟩, s, h => by
    unfold hasP at h
    rw [List.any_cons, Bool.or_eq_true, Bool.and_eq_true, decide_eq_true_eq, decide_eq_true_eq] at h
    rcases h with ⟨a, b⟩ | h
    · omega
    · have := rok_has h4 s h
      omega
theorem mN_dvd {n : Int} : ∀ {ps : Prs} {k : Nat}, rok n (k : Nat) ps → ∃ q, mN ps = 2 ^ k * q
  | [], k, _ => ⟨0, by rw [mN, Nat.mul_zero]⟩
  | p :: r, k, ⟨h1, h2, h3, h4⟩ => by
    obtain ⟨q, hq⟩ := mN_dvd (ps := r) (k := k) (rok_mono h4 (by omega))
    have e1 : p.1.toNat = k + (p.1.toNat - k) := by omega
    have e2 : p.2.toNat + 1 = k + (p.2.toNat + 1 - k) := by omega
    refine ⟨2 ^ (p.2.toNat + 1 - k) - 2 ^ (p.1.toNat - k) + q, ?_⟩
    rw [mN, hq, Nat.mul_add, Nat.mul_sub, ← Nat.pow_add, ← Nat.pow_add, ← e1, ← e2]
theorem band_bit (f l j : Nat) (h : f ≤ l) : (2 ^ (l + 1) - 2 ^ f).testBit j = (decide (f ≤ j) && decide (j ≤ l)) := by
  have e : 2 ^ (l + 1) - 2 ^ f = 2 ^ f * (2 ^ (l + 1 - f) - 1) := by
    rw [Nat.mul_sub, ← Nat.pow_add, Nat.mul_one, show f + (l + 1 - f) = l + 1 by omega]
  rw [e, Nat.testBit_two_pow_mul, Nat.testBit_two_pow_sub_one]
  by_cases c : f ≤ j
  · rw [decide_eq_true c, Bool.true_and, Bool.true_and]
    exact decide_eq_decide.mpr (by omega)
  · rw [decide_eq_false c, Bool.false_and, Bool.false_and]
theorem mN_bit {n : Int} : ∀ {ps : Prs} {least : Int}, 0 ≤ least → rok n least ps → ∀ j : Nat, (mN ps).testBit j = hasP ps (j : Nat)
  | [], _, _, _, j => by rw [mN, Nat.zero_testBit]; rfl
  | p :: r, least, l0, ⟨h1, h2, h3, h4⟩, j => by
    have ih := mN_bit (ps := r) (by omega) h4 j
    obtain ⟨q, hq⟩ := mN_dvd (ps := r) (k := p.2.toNat + 1) (rok_mono h4 (by omega))
    have lt : 2 ^ (p.2.toNat + 1) - 2 ^ p.1.toNat < 2 ^ (p.2.toNat + 1) := by
      have : 0 < 2 ^ p.1.toNat := Nat.two_pow_pos _
      have : 0 < 2 ^ (p.2.toNat + 1) := Nat.two_pow_pos _
      omega
    rw [mN, Nat.add_comm, hq, Nat.testBit_two_pow_mul_add _ lt]
    have hs : hasP (p :: r) (j : Nat) = ((decide (p.1 ≤ (j : Nat)) && decide (((j : Nat) : Int) ≤ p.2)) || hasP r (j : Nat)) := rfl
    rw [hs]
    by_cases c : j < p.2.toNat + 1
    · rw [if_pos c, band_bit _ _ _ (by omega)]
      have nr : hasP r (j : Nat) = false := by
        cases z : hasP r (j : Nat) with
        | false => rfl
        | true =>
          have := rok_has h4 _ z
          omega
      rw [nr, Bool.or_false]
      congr 1
      · exact decide_eq_decide.mpr (by omega)
      · exact decide_eq_decide.mpr (by omega)
    · rw [if_neg c]
      have : (decide (p.1 ≤ ((j : Nat) : Int)) && decide (((j : Nat) : Int) ≤ p.2)) = false := by
        rw [decide_eq_false (show ¬ ((j : Nat) : Int) ≤ p.2 by omega), Bool.and_false]
      rw [this, Bool.false_or, ← ih, hq, Nat.testBit_two_pow_mul, decide_eq_true (show j ≥ p.2.toNat + 1 by omega), Bool.true_and]
theorem mN_sum {n : Int} : ∀ {ps : Prs} {least : Int}, 0 ≤ least → rok n least ps → (ps.map fun p => (2 : Int) ^ (p.2.toNat + 1) - 2 ^ p.1.toNat).sum = ((mN ps : Nat) : Int)
  | [], _, _, _ => rfl
  | p :: r, least, l0, ⟨h1, h2, h3, h4⟩ => by
    have ih := mN_sum (ps := r) (by omega) h4
    rw [List.map_cons, List.sum_cons, ih, mN, Int.natCast_add]
    congr 1
    have : 2 ^ p.1.toNat ≤ 2 ^ (p.2.toNat + 1) := Nat.pow_le_pow_right (by decide) (by omega)
    rw [Int.natCast_sub this, PySem.W.kbt_cast, PySem.W.kbt_cast]
/-- two spots meet -/
theorem meet_iff {n m : Int} {ps qs : Prs} (hp : rok n 0 ps) (hq : rok m 0 qs) : (mN ps &&& mN qs ≠ 0) ↔ ∃ s : Nat, hasP ps s = true ∧ hasP qs s = true := by
  constructor
  · intro h
    obtain ⟨s, hs⟩ := Nat.exists_testBit_of_ne_zero h
    rw [Nat.testBit_and, Bool.and_eq_true, mN_bit (Int.le_refl 0) hp, mN_bit (Int.le_refl 0) hq] at hs
    exact ⟨s, hs⟩
  · rintro ⟨s, h1, h2⟩ z
    have : (mN ps &&& mN qs).testBit s = true := by
      rw [Nat.testBit_and, mN_bit (Int.le_refl 0) hp, mN_bit (Int.le_refl 0) hq, h1, h2]
      rfl
    rw [z, Nat.zero_testBit] at this
    cases this
end K25
set_option Elab.async false
set_option linter.all false
set_option maxRecDepth 100001
set_option maxHeartbeats 3999999
namespace K25
open PySem L2
theorem pairOf_same {H H' : Hp} {v : V} (k : Kn H v) (e : Same H H') : pairOf H' v = pairOf H v := by
  cases k with
  | lst h => simp only [pairOf, h, e _ _ h]
  | tup h => simp only [pairOf, h, e _ _ h]
  | _ => rfl
theorem rwrong_same {H H' : Hp} (e : Same H H') {n : Int} : ∀ {ts : List V} {least : Int} {i : Nat}, (∀ v ∈ ts, Kp H v) → rwrong H' n least i ts = rwrong H n least i ts
  | [], _, _, _ => rfl
  | v :: r, least, i, h => by
    have ih : ∀ l i, rwrong H' n l i r = rwrong H n l i r := fun l i => rwrong_same e fun x hx => h x (List.mem_cons_of_mem _ hx)
    simp only [rwrong, pairOf_same (h v List.mem_cons_self).kn e, ih]
theorem Kp.same {H H' : Hp} {v : V} (k : Kp H v) (e : Same H H') : Kp H' v := by
  refine ⟨k.kn.same e, fun a xs ev h x hx => ?_⟩
  subst ev
  cases k.kn with
  | lst z => rw [e _ _ z] at h; cases h
  | tup z =>
    rw [e _ _ z] at h
    cases h
    exact (k.items a _ rfl z x hx).same e
/-- a value whose items are known, and their items -/
def KnR (H : Hp) (v : V) : Prop := Kn H v ∧ ∀ a ts, v = .ref a → LT H a ts → ∀ x ∈ ts, Kp H x
def arB (H : Hp) (n : Int) : V → Bool
  | .ref a => match H a with
    | some (.lst ts) => !ts.isEmpty && (rwrong H n 0 0 ts).isNone
    | some (.tup ts) => !ts.isEmpty && (rwrong H n 0 0 ts).isNone
    | _ => false
  | _ => false
theorem arB_lt {H : Hp} {n : Int} {a : Addr} {ts : List V} (h : LT H a ts) : arB H n (.ref a) = (!ts.isEmpty && (rwrong H n 0 0 ts).isNone) := by
  rcases h with h | h <;> simp only [arB, h]
theorem arB_no {H : Hp} {n : Int} {v : V} (h : isLT H v = false) : arB H n v = false := by
  unfold isLT isL isT at h
  unfold arB
  cases v with
  | ref a =>
    simp only at h ⊢
    cases z : H a with
    | none => rfl
    | some o =>
      rw [z] at h
      cases o <;> first | rfl | (simp at h)
  | _ => rfl
theorem lt_of {H : Hp} {v : V} (h : isLT H v = true) : ∃ a ts, v = .ref a ∧ LT H a ts := by
  unfold isLT isL isT at h
  cases v with
  | ref a =>
    simp only at h
    cases z : H a with
    | none => rw [z] at h; cases h
    | some o =>
      rw [z] at h
      cases o <;> first | exact ⟨a, _, rfl, .inl z⟩ | exact ⟨a, _, rfl, .inr z⟩ | (simp at h)
  | _ => cases h
theorem pg_pairK {X : Cx} (K : PySem.W.Frag) (hK : X.K = K) (hc : X.calm = true) {e1 e2 : Expr} {t1 t2 : TG} {k : Nat} {pos : Pos} (h1 : PG X e1 t1) (h2 : PG X e2 t2) (he1 : (assignEach [e1, e2] X.env).map (·.2) = assign e1 X.env :: (assignEach [e2] X.env).map (·.2) := by rfl)
    (he2 : (assignEach [e2] X.env).map (·.2) = assign e2 X.env :: (assignEach [] X.env).map (·.2) := by rfl) (hn : (assignEach [e1, e2] X.env).length = 2 := by rfl) (hf : (assignEach [e1, e2] X.env).findIdx? (·.1) = none := by rfl) : PG X (.Tuple [e1, e2] k pos) (gTup K 2 (gCons t1 (gCons t2 gNil))) := by
  subst hK
  have h := pg_tup (k := k) (pos := pos) hc (pgs_cons h1 (pgs_cons h2 pgs_nil he2) he1) hn hf
  exact h
def spAre : Sp := fun vs H Q _ => ∃ v n, vs = [v, .int n] ∧ KnR H v ∧ ∀ H', Same H H' → Q (.bl (arB H n v)) H'
/-- mask_of(ranges) -/
def spMask : Sp := fun vs H Q _ => ∃ (a : Addr) (ts : List V) (ps : Prs) (n : Int), vs = [.ref a] ∧ LT H a ts ∧ PrAt H ts ps ∧ rok n 0 ps ∧ n ≤ 100000 ∧ ts.length ≤ 10000 ∧ ∀ H', Same H H' → Q (.int ((mN ps : Nat) : Int)) H'
section
variable {X : Cx}
theorem pe_sum {a : Expr} {es : List Expr} {t : TA} {p pos : Pos} (hc : X.calm = true) (hm : X.mg "sum" = none) (ha : PA X (a :: es) t) (hg : Gl X "sum" := by rfl) (he : starEach (a :: es) X.env = (false, eval a X.env) :: starEach es X.env := by rfl)
    (hpl : (backTo pos (starEach es X.env)).any (·.1) = false := by rfl) :
    PE X (.Call (.Name "sum" p) (a :: es) [] pos) (tCB (rSum X.K) t) := pe_callB (cr_sum hc) hg hm (by decide +kernel) ha (he := he) (hpl := hpl)
end
section
variable {P : Program} {w : World} {K : PySem.W.Frag} {mg : Str → Option Value} {base : Heap}
theorem scAre : FnScope ["value", "signs"] ["value", "signs"] (defScope sAre) := ⟨rfl, rfl, rfl, by decide +kernel, rfl, by decide +kernel, by decide +kernel⟩
theorem ok_are {f : Addr} {fd : FuncData} (F : Fun K "are_ranges" "are_ranges" sAre f fd) (B : Bi mg) (cL : Cal CX0 P w K mg base 1 "is_list" spIsL) (cF : Cal CX0 P w K mg base 3 "first_wrong_range" (spFWR K)) : FnOk P w K mg base CX0 4 f fd ["value", "signs"] spAre := by
  refine F.ok scAre (fun vs H Q E h => ?_) (fun cdv A outer s H vs Q E hr h => ?_)
  · obtain ⟨v, n, rfl, _⟩ := h
    rfl
  · obtain ⟨v, n, rfl, k, q⟩ := h
    refine ⟨_, pss_one (ps_ret (pe_and (pe_c cL hr pass0 (pa_cons (pv 0) pa_nil)) (pe_and (pe_cmpR op_gt (pe_len B.len (pa_cons (pv 0) pa_nil)) pe_int (nomark _)) (pe_one (pe_cmpR op_isN (pe_c cF hr pass0 (pa_cons (pv 0) (pa_cons (pv 1) pa_nil))) pe_non (nomark _)))))), ?_⟩
    refine ⟨v, rfl, v, rfl, k.1, fun H1 e1 => ⟨_, rfl, ?_⟩⟩
    cases c : isLT H v with
    | false =>
      have q2 := q _ e1
      rw [arB_no c] at q2
      exact q2
    | true =>
      obtain ⟨a, ts, rfl, ha⟩ := lt_of c
      have ha1 := ha.same e1
      refine ⟨_, rfl, a, ts, rfl, ha1.sq, _, _, rfl, rfl, ?_⟩
      have q2 := q
      rw [arB_lt ha] at q2
      cases ts with
      | nil => exact ⟨_, rfl, q2 _ e1⟩
      | cons t r =>
        refine ⟨true, congrArg V.bl (decide_eq_true (by rw [List.length_cons]; omega)), ?_⟩
        refine ⟨_, rfl, _, rfl, a, n, t :: r, rfl, ha1.sq, fun x hx => (k.2 a _ rfl ha x hx).same e1, fun H2 e2 => ?_⟩
        rw [rwrong_same e1 (k.2 a _ rfl ha)]
        refine ⟨rfl, ?_⟩
        have q3 := q2 _ (e1.trans e2)
        cases z : rwrong H n 0 0 (t :: r) with
        | none => rw [z] at q3; exact q3
        | some i => rw [z] at q3; exact q3
theorem scMask : FnScope ["ranges", "first", "last"] ["ranges"] (defScope sMask) := ⟨rfl, rfl, rfl, by decide +kernel, rfl, by decide +kernel, by decide +kernel⟩
theorem ok_mask {f : Addr} {fd : FuncData} (F : Fun K "mask_of" "mask_of" sMask f fd) (hs : mg "sum" = none) : FnOk P w K mg base CX0 1 f fd ["ranges"] spMask := by
  refine F.ok scMask (fun vs H Q E h => ?_) (fun cdv A outer s H vs Q E hr h => ?_)
  · obtain ⟨a, ts, ps, n, rfl, _⟩ := h
    rfl
  · obtain ⟨a, ts, ps, n, rfl, ha, pr, ok, n1, lt, q⟩ := h
    refine ⟨_, pss_one (ps_ret (pe_sum rfl hs (pa_cons (pe_lc (own := [("first", 1), ("last", 2)]) rfl scMask.nd (pi_sqA (pv 0)) (blkOk_by (N := ["ranges", "first", "last"]) (sc := defScope sMask) (by decide +kernel))
          (fun _ _ _ _ _ => pg_pairK K rfl rfl (pg_name (i := 1) scMask.nd rfl (Or.inl rfl) (.inr rfl)) (pg_name (i := 2) scMask.nd rfl (Or.inl rfl) (.inr rfl))) (fun _ _ _ _ _ => pts_nil) (fun _ _ _ _ _ => pe_op op_sub (pe_op op_shlN pe_int (pe_op op_add (pv 2) pe_int)) (pe_op op_shlN pe_int (pv 1)))) pa_nil))), ?_⟩
    have sm : ∀ k : Nat, k ≤ 100001 → CShl 1 ((k : Nat) : Int) := fun k h => ⟨by omega, by show (1 : Int) + (k : Nat) ≤ 2 ^ 27; omega⟩
    have okP : ∀ (i : Nat) (p : Int × Int), ps[i]? = some p → 0 ≤ p.1 ∧ p.1 ≤ p.2 ∧ p.2 ≤ n - 1 := by
      have key : ∀ (qs : Prs) (l : Int), 0 ≤ l → rok n l qs → ∀ p ∈ qs, 0 ≤ p.1 ∧ p.1 ≤ p.2 ∧ p.2 ≤ n - 1 := by
        intro qs
        induction qs with
        | nil => intro _ _ _ p hp; cases hp
        | cons x r ih =>
          rintro l l0 ⟨h1, h2, h3, h4⟩ p hp
          rcases List.mem_cons.mp hp with rfl | hp
          · omega
          · exact ih _ (by omega) h4 p hp
      intro i p h
      exact key ps 0 (Int.le_refl _) ok p (List.mem_of_getElem? h)
    refine ⟨_, rfl, a, ts, rfl, ha.sq, fun J G wk hG D nD => lc_it wk (fun j H' => Same H H' ∧ H' D = some (.lst (((ps.take j).map fun p => (2 : Int) ^ (p.2.toNat + 1) - 2 ^ p.1.toNat).map V.int))) ⟨same_new nD, upd_same⟩ (fun j H' _ z => hG H' fun o w => z.1 _ _ w) ?_ ?_⟩
    · rintro j y H2 H3 hj ⟨e1, hD⟩ ⟨rfl, hy⟩
      obtain ⟨p, hp, b, rfl, hb⟩ := paired_get pr hy
      obtain ⟨p1, p2, p3⟩ := okP j p hp
      obtain ⟨p, l⟩ := p
      obtain ⟨f, rfl⟩ := Int.eq_ofNat_of_zero_le p1
      obtain ⟨l, rfl⟩ := Int.eq_ofNat_of_zero_le (Int.le_trans p1 p2)
      have l1 : l ≤ 100000 := by
        have : ((l : Nat) : Int) ≤ n - 1 := p3
        omega
      have fl : f ≤ l := by
        have : ((f : Nat) : Int) ≤ ((l : Nat) : Int) := p2
        omega
      refine ⟨b, _, rfl, SqT.of (e1 _ _ hb), rfl, _, _, rfl, _, _, rfl, rfl, rfl, ?_⟩
      unfold tYes
      refine iteT ⟨_, rfl, _, _, rfl, rfl, 1, l + 1, rfl, rfl, sm _ (by omega), _, rfl, 1, f, rfl, rfl, sm _ (by omega), _, _, rfl, rfl, _, hD, ?_, fun b o z => ?_, ?_⟩
      · rw [List.length_map, List.length_map, List.length_take]
        have := Paired.length pr
        exact small10 (by omega)
      · rw [upd_ne (ne_of_none z nD)]
        exact e1 _ _ z
      · rw [upd_same, List.take_add_one, hp, List.map_append, List.map_append, Int.one_mul, Int.one_mul]
        rfl
    · rintro H2 ⟨e1, hD⟩
      rw [Paired.length pr, List.take_length] at hD
      refine ⟨D, _, rfl, SqL.of hD, ?_⟩
      rw [mN_sum (Int.le_refl 0) ok]
      exact q _ e1
end
end K25
set_option Elab.async false
set_option linter.all false
set_option maxRecDepth 100001
set_option maxHeartbeats 3999999
namespace K25
open PySem L2
/-- what is not at p stays -/
def ButI (p : Addr) (H H' : Hp) : Prop := ∀ b o, b ≠ p → H b = some o → H' b = some o
def tmF (w : Str) (n m : Int) : List (Str × V) := [("most", .int m), ("many", .int n), ("what", .str w)]
structure RsB (p : Addr) (H H' : Hp) (d : Addr) (f : Str) (dd : PyData) : Prop where
  new : H d = none
  same : ButI p H H'
  at_ : ∃ v', H' d = some (.xd [(f, v')]) ∧ Odd H' v' dd
structure RsC (p : Addr) (H H' : Hp) (d : Addr) (fs : List (Str × V)) : Prop where
  new : H d = none
  same : ButI p H H'
  at_ : H' d = some (.xd fs)
structure TL (H H' : Hp) : Prop where
  l : ∀ a xs, H a = some (.lst xs) → H' a = some (.lst xs)
  t : ∀ a xs, H a = some (.tup xs) → H' a = some (.tup xs)
theorem TL.but {H H' : Hp} {C p dx : Addr} {fs : List (Str × V)} (hp : H p = some (.ins C dx fs)) (u : ButI p H H') : TL H H' := ⟨fun a xs z => u _ _ (ne_of z hp fun y => nomatch y) z, fun a xs z => u _ _ (ne_of z hp fun y => nomatch y) z⟩
theorem TL.pen {H H' : Hp} {pn cl : Addr} {b : Nat} (pen : Pen H pn cl b) (u : But pn H H') : TL H H' := by
  obtain ⟨k, l, cs, h1, _⟩ := pen
  exact ⟨fun a xs z => u _ _ (ne_of z h1 fun y => nomatch y) z, fun a xs z => u _ _ (ne_of z h1 fun y => nomatch y) z⟩
theorem TL.trans {H H1 H2 : Hp} (a : TL H H1) (b : TL H1 H2) : TL H H2 := ⟨fun c xs z => b.l _ _ (a.l _ _ z), fun c xs z => b.t _ _ (a.t _ _ z)⟩
theorem TL.same {H H' : Hp} (e : Same H H') : TL H H' := ⟨fun a xs z => e _ _ z, fun a xs z => e _ _ z⟩
structure Xc (P : Program) (w : World) (K : PySem.W.Frag) (mg : Str → Option Value) (base : Heap) (k : Nat) (x : Str) (C : Addr) (sp : Sp) : Prop where
  T : OexC K C
  mgC : mg x = some (.ref C)
  ex : ∃ (f : Addr) (fd : FuncData) (ps : List Str), PySem.W.findIn K (.ref C) "__init__" = some (some (.ref f)) ∧ PySem.W.typeIn K (.ref f) = some (.type "function") ∧ FnOk P w K mg base CX0 k f fd ps sp ∧ Binds K fd ps []
section
variable {X : Cx} {k j : Nat} {x : Str} {C : Addr} {sp : Sp} {e : Expr} {es : List Expr} {t : TA} {p pos : Pos}
theorem pmk_x (c : Xc X.prog X.w X.K X.mg X.base k x C sp) (hr : Room j X.A) (ha : PA X (e :: es) t) (hk : k + 1 ≤ j := by decide) (hg : Gl X x := by rfl) (hdb : (x == ("__debug__" : Str)) = false := by decide)
    (he : starEach (e :: es) X.env = (false, eval e X.env) :: starEach es X.env := by rfl) (hpl : (backTo pos (starEach es X.env)).any (·.1) = false := by rfl) : PMk X (.Call (.Name x p) (e :: es) [] pos) (tMkO C sp [] t) := by
  obtain ⟨f, fd, ps, i1, i2, F, b⟩ := c.ex
  exact pmk_oex c.T i1 i2 F (hr.mono hk) b .nil pass0 hg c.mgC ha hdb he hpl
end
/-! ### a class called where what is let out depends on the slots -/
section
variable {X : Cx} {CX : CXT} {k j : Nat} {C f : Addr} {fd : FuncData} {ps : List Str} {sp : Sp} {E : L2.St → XK} {x : Str} {p pos : Pos} {e : Expr} {es : List Expr} {t : TA}
theorem run_mkS {pins : List (Addr × Obj)} {σ : L2.St} {H : Hp} {s : Shared} {Q : VK} {us : List Value} {vs : List V} (M : Mk X.K C f) (F : FnOk X.prog X.w X.K X.mg X.base CX k f fd ps sp) (hr : Room (k + 1) X.A) (hb : Binds X.K fd ps []) (hx : PassesAt CX X σ (E σ)) (I : Inv X pins σ H s) (r : Vals vs us)
    (h : ∀ x dx, H x = none → H dx = none → dx ≠ x → sp (.ref x :: vs) (upd (upd H dx (.own x)) x (.ins C dx [])) (fun v H2 => v = .non ∧ Q (.ref x) H2) (E σ)) : wpAny (model X.prog X.w) X.A (call (.ref C) us) (EP X pins σ Q) X.xe s := by
  have J := Inv.made (C := C) I
  have hq := h (s.heap.objs.size + 1) s.heap.objs.size
    (I.hok.fresh (Nat.le_succ _)) (I.hok.fresh (Nat.le_refl _)) (Nat.ne_of_lt (Nat.lt_succ_self _))
  have rr : Vals (V.ref (s.heap.objs.size + 1) :: vs) (Value.ref (s.heap.objs.size + 1) :: us) := .cons rfl r
  have hl : (Value.ref (s.heap.objs.size + 1) :: us).length = ps.length := by rw [← rr.length]; exact F.len _ _ _ _ hq
  have bb := hb _ (Value.ref (s.heap.objs.size + 1) :: us) J.kIn (by rw [List.append_nil]; exact hl)
  rw [List.append_nil] at bb
  have run := F.run _ X.stack _ _ ⟨Value.ref (s.heap.objs.size + 1) :: us, []⟩ (Value.ref (s.heap.objs.size + 1) :: us) _ _ (E σ) (hr.make C us []) (J.env0.make C us []) bb rr hq
  refine wpAny_call (make_map (f := f) I.kIn M.makes M.init (beq_iff_eq.mp M.fn) (codeAny_mono run fun z s' hz => ?_))
  cases z with
  | error er => exact hx pins _ _ er s' J hz
  | ok fl =>
    cases fl with
    | ret u =>
      obtain ⟨v, H', J3, rv, ev, q3⟩ := J.after hz
      subst ev
      exact ⟨rv, V.ref (s.heap.objs.size + 1), H', J3, rfl, q3⟩
    | next => exact hz.elim
    | brk => exact hz.elim
    | cont => exact hz.elim
def tMakeS (C : Addr) (sp : Sp) (E : L2.St → XK) (t : TA) : TE := fun σ H Q => t σ H fun vs H1 => ∀ x dx, H1 x = none → H1 dx = none → dx ≠ x → sp (.ref x :: vs) (upd (upd H1 dx (.own x)) x (.ins C dx [])) (fun v H2 => v = .non ∧ Q (.ref x) H2) (E σ)
theorem pe_mkS (c : Mak CX X.prog X.w X.K X.mg X.base k x C sp) (hr : Room j X.A) (hx : ∀ σ, PassesAt CX X σ (E σ)) (ha : PA X (e :: es) t) (hk : k + 1 ≤ j := by decide) (hg : Gl X x := by rfl) (hdb : (x == ("__debug__" : Str)) = false := by decide)
    (he : starEach (e :: es) X.env = (false, eval e X.env) :: starEach es X.env := by rfl) (hpl : (backTo pos (starEach es X.env)).any (·.1) = false := by rfl) : PE X (.Call (.Name x p) (e :: es) [] pos) (tMakeS C sp E t) := by
  obtain ⟨f, fd, ps, M, F, hm, b⟩ := c.ex
  constructor
  intro pins s σ H Q I h
  refine wpAny_Call_Name_kw (ld_glob I hg hm (PySem.W.callWith_K (h₀ := X.base) I.ok.mod.kin M.kp (thn (ha.run pos pins s σ H _ I h) fun us s1 hh => ?_) he hpl) hdb)
  obtain ⟨vs, H1, I1, r, q⟩ := hh
  exact ⟨I1.kIn, run_mkS M F (hr.mono hk) b (hx σ) I1 r q⟩
end
/-- an exception class, caught -/
structure Ct (K : PySem.W.Frag) (mg : Str → Option Value) (x : Str) (C : Addr) : Prop where
  g : mg x = some (.ref C)
  T : XfC K C
  me : PySem.W.exmOne K (.ref C) (.ref C) = some true
section
variable {X : Cx}
def rSmD (K : PySem.W.Frag) : R2 := fun x y H Q => ∃ d, Dp K H x d ∧ Dp K H y d ∧ SeqAt.shaped d = true ∧ Q (.bl false) H
theorem op_neSmD (hu : X.A.units + 64 < cLine) : OpR X (compareOp .NotEq) (rSmD X.K) := by
  intro pins s σ H x y v u Q I rx ry h
  obtain ⟨d, d1, d2, sh, q⟩ := h
  refine op_neD hu pins s σ H _ _ v u Q I rx ry ⟨d, d, d1, d2, sh, sh, ?_⟩
  rw [SeqAt.eqv_refl _ (Bool.and_eq_true_iff.mp sh).1]
  exact q
def rSmE (K : PySem.W.Frag) : R2 := fun x y H Q => ∃ d, Dp K H x d ∧ Dp K H y d ∧ SeqAt.shaped d = true ∧ Q (.bl true) H
theorem op_eqSmD (hu : X.A.units + 64 < cLine) : OpR X (compareOp .Eq) (rSmE X.K) := by
  intro pins s σ H x y v u Q I rx ry ⟨d, d1, d2, sh, q⟩
  refine op_eqD hu pins s σ H _ _ v u Q I rx ry ⟨d, d, d1, d2, sh, sh, ?_⟩
  rw [SeqAt.eqv_refl _ (Bool.and_eq_true_iff.mp sh).1]
  exact q
end
end K25
set_option Elab.async false
set_option linter.all false
set_option maxRecDepth 100001
set_option maxHeartbeats 3999999
namespace K25
open PySem L2
abbrev sChk : Stmt := topS 24
abbrev sPh (j : Nat) : Stmt := inClass (topS 22) j
abbrev sPhI : Stmt := sPh 0
/-- names of the module -/
structure Cm (mg : Str → Option Value) : Prop where
  signs : ∃ u, mg "MOST_SIGNS" = some u ∧ RelV (.int 2000) u
  spots : ∃ u, mg "MOST_SPOTS" = some u ∧ RelV (.int 10) u
/-- the errors' fields -/
structure Er (K : PySem.W.Frag) (CS CT CB : Addr) : Prop where
  s : PySem.W.findIn K (.ref CS) "signs" = some none
  t : PySem.W.findIn K (.ref CT) "what" = some none ∧ PySem.W.findIn K (.ref CT) "many" = some none ∧ PySem.W.findIn K (.ref CT) "most" = some none
  b : PySem.W.findIn K (.ref CB) "index" = some none
structure TxP (K : PySem.W.Frag) (C : Addr) : Prop where
  cl : Cls K C
  s : NoAttr K C "signs"
  p : NoAttr K C "spots"
  w : NoAttr K C "width"
  m : NoAttr K C "masks"
def spChk (CS CT : Addr) : Sp := fun vs H Q E => ∃ (v : V) (s : Addr) (ts : List V), vs = [v, .ref s] ∧ Flat v ∧ LT H s ts ∧
  ((btw v 1 2000 = false ∧ ∀ d H', RsO H H' d "signs" (dOf v) → E (.ref CS) (some d) H') ∨
   (btw v 1 2000 = true ∧ ¬ (1 ≤ ts.length ∧ ts.length ≤ 10) ∧ ∀ d H', Rsd H H' d (tmF "spots" (ts.length : Nat) 10) → E (.ref CT) (some d) H') ∨
   (btw v 1 2000 = true ∧ 1 ≤ ts.length ∧ ts.length ≤ 10 ∧ ∀ H', Same H H' → Q .non H'))
/-- a spot as it is handed in, and as it is kept -/
def SpIn (H : Hp) (v : V) (ps : Prs) : Prop := ∃ a ts, v = .ref a ∧ LT H a ts ∧ PrAt H ts ps
def SpT (H : Hp) (v : V) (ps : Prs) : Prop := ∃ a ts, v = .ref a ∧ H a = some (.tup ts) ∧ PrAt H ts ps
def phF (n : Int) (s : Addr) (w : Int) (m : Addr) : List (Str × V) := putF "masks" (.ref m) (putF "width" (.int w) (putF "spots" (.ref s) (putF "signs" (.int n) [])))
/-- a phrase -/
def IsPh (C : Addr) (H : Hp) (p : Addr) (n : Int) (pss : List Prs) : Prop := ∃ dx s m vs, H p = some (.ins C dx (phF n s (pss.length : Nat) m)) ∧ H s = some (.tup vs) ∧ Paired (SpT H) vs pss ∧ H m = some (.lst (pss.map fun ps => V.int ((mN ps : Nat) : Int)))
structure PhOk (n : Int) (pss : List Prs) : Prop where
  n1 : 1 ≤ n
  n2 : n ≤ 2000
  l1 : 1 ≤ pss.length
  l2 : pss.length ≤ 10
  ok : ∀ ps ∈ pss, ps ≠ [] ∧ rok n 0 ps
theorem rok_len {n : Int} : ∀ {ps : Prs} {least : Int}, rok n least ps → least ≤ n + 1 → ((ps.length : Nat) : Int) ≤ n + 1 - least
  | [], least, _, h => by show (0 : Int) ≤ _; omega
  | p :: r, least, ⟨h1, h2, h3, h4⟩, h => by
    have := rok_len h4 (by omega)
    rw [List.length_cons]
    omega
theorem rok_right {H : Hp} {n : Int} : ∀ {ps : Prs} {ts : List V} {least : Int} {i : Nat}, PrAt H ts ps → rok n least ps → rwrong H n least i ts = none
  | [], _, _, _, .nil, _ => rfl
  | p :: r, _, least, i, .cons ⟨a, e, h⟩ t, ⟨h1, h2, h3, h4⟩ => by
    subst e
    rw [rwrong_ok (pairOf_tup h) (decide_eq_true ⟨h1, by omega⟩) (decide_eq_true ⟨h2, h3⟩)]
    exact rok_right t h4
theorem PrAt.kp {H : Hp} {ts : List V} {ps : Prs} (h : PrAt H ts ps) : ∀ v ∈ ts, Kp H v := fun v hv => by
  obtain ⟨i, hi⟩ := List.getElem?_of_mem hv
  obtain ⟨p, _, a, rfl, ha⟩ := paired_get h hi
  refine ⟨.tup ha, fun b xs e hb x hx => ?_⟩
  cases e
  rw [ha] at hb
  cases hb
  simp only [List.mem_cons, List.not_mem_nil, or_false] at hx
  rcases hx with rfl | rfl <;> exact .int _
theorem LT.inj {H : Hp} {a : Addr} {xs ys : List V} (h : LT H a xs) (g : LT H a ys) : xs = ys := by
  rcases h with h | h <;> rcases g with g | g <;> rw [h] at g <;> cases g <;> rfl
theorem SpIn.knr {H : Hp} {v : V} {ps : Prs} (h : SpIn H v ps) : KnR H v := by
  obtain ⟨a, ts, rfl, ha, pr⟩ := h
  refine ⟨ha.kn, fun b us e hb => ?_⟩
  cases e
  cases ha.inj hb
  exact pr.kp
theorem SpIn.are {H : Hp} {v : V} {ps : Prs} {n : Int} (h : SpIn H v ps) (ne : ps ≠ []) (ok : rok n 0 ps) : arB H n v = true := by
  obtain ⟨a, ts, rfl, ha, pr⟩ := h
  rw [arB_lt ha, rok_right pr ok]
  cases pr with
  | nil => exact absurd rfl ne
  | cons _ _ => rfl
theorem SpIn.same {H H' : Hp} {v : V} {ps : Prs} (h : SpIn H v ps) (e : Same H H') : SpIn H' v ps := let ⟨a, ts, h1, h2, h3⟩ := h; ⟨a, ts, h1, h2.same e, h3.same e⟩
section
variable {P : Program} {w : World} {K : PySem.W.Frag} {mg : Str → Option Value} {base : Heap}
theorem scChk : FnScope ["signs", "spots"] ["signs", "spots"] (defScope sChk) := ⟨rfl, rfl, rfl, by decide +kernel, rfl, by decide +kernel, by decide +kernel⟩
theorem ok_chk {f CS CT : Addr} {fd : FuncData} (F : Fun K "check_size" "check_size" sChk f fd) (B : Bi mg) (M : Cm mg) (cB : Cal CX0 P w K mg base 2 "is_between" spBetween)
    (xS : Xc P w K mg base 3 "BadSigns" CS (spXO K "signs")) (nS : PySem.W.findIn K (.ref CS) "signs" = some none) (xT : Xc P w K mg base 2 "TooMany" CT (spX3 K "what" "many" "most")) (nT : PySem.W.findIn K (.ref CT) "what" = some none ∧ PySem.W.findIn K (.ref CT) "many" = some none ∧ PySem.W.findIn K (.ref CT) "most" = some none) :
    FnOk P w K mg base (L2.CX P w) 5 f fd ["signs", "spots"] (spChk CS CT) := by
  refine F.okX scChk (fun vs H Q E h => ?_) (fun cdv A outer s H vs Q E hr h => ?_)
  · obtain ⟨v, s, ts, rfl, _⟩ := h
    rfl
  · obtain ⟨v, s0, ts, rfl, fl, hs, out⟩ := h
    refine ⟨_, pss_cons (ps_if (pt_not (pt_val (pe_c cB hr pass0 (pa_cons (pv 0) (pa_cons pe_int (pa_cons (C8.pe_gc rfl M.signs) pa_nil)))))) (pss_one (ps_raise rfl (takes_of rfl rfl rfl rfl) (pmk_x xS hr (pa_cons (pv 0) pa_nil)))) pss_nil)
      (pss_one (ps_if (pt_not (pt_chain op_le op_le pe_int (pe_len B.len (pa_cons (pv 1) pa_nil)) (C8.pe_gc rfl M.spots))) (pss_one (ps_raise rfl (takes_of rfl rfl rfl rfl) (pmk_x xT hr (pa_cons pe_str (pa_cons (pe_len B.len (pa_cons (pv 1) pa_nil)) (pa_cons (C8.pe_gc rfl M.spots) pa_nil)))))) pss_nil)), ?_⟩
    refine ⟨v, rfl, v, 1, 2000, rfl, kn_flat fl, _, rfl, ?_⟩
    rcases out with ⟨h, out⟩ | out
    · rw [h]
      exact iteT ⟨_, rfl, raiseO xS.T nS (.flat fl) fun d H' r => out d H' r⟩
    have hb : btw v 1 2000 = true := by rcases out with ⟨h, _⟩ | ⟨h, _⟩ <;> exact h
    rw [hb]
    refine iteF ⟨_, rfl, s0, ts, rfl, hs.sq, _, _, rfl, rfl, _, rfl, ?_⟩
    by_cases c1 : 1 ≤ ts.length
    · rw [decide_eq_true (show (1 : Int) ≤ ((ts.length : Nat) : Int) by omega)]
      refine iteT ⟨_, _, rfl, rfl, _, rfl, ?_⟩
      by_cases c2 : ts.length ≤ 10
      · rw [decide_eq_true (show ((ts.length : Nat) : Int) ≤ 10 by omega)]
        refine iteF ?_
        rcases out with ⟨_, h, _⟩ | ⟨_, _, _, out⟩
        · exact absurd ⟨c1, c2⟩ h
        · exact out _ (Same.refl H)
      · rw [decide_eq_false (show ¬ ((ts.length : Nat) : Int) ≤ 10 by omega)]
        rcases out with ⟨_, h, out⟩ | ⟨_, _, h, _⟩
        · exact iteT ⟨_, rfl, s0, ts, rfl, hs.sq, raise3 xT.T nT.1 nT.2.1 nT.2.2 (by show PyData.strOk _ = true; decide +kernel) True.intro True.intro fun d H' r => out d H' r⟩
        · exact absurd h c2
    · rw [decide_eq_false (show ¬ (1 : Int) ≤ ((ts.length : Nat) : Int) by omega)]
      refine iteF ⟨_, rfl, ?_⟩
      rcases out with ⟨_, h, out⟩ | ⟨_, h, _⟩
      · exact iteT ⟨_, rfl, s0, ts, rfl, hs.sq, raise3 xT.T nT.1 nT.2.1 nT.2.2 (by show PyData.strOk _ = true; decide +kernel) True.intro True.intro fun d H' r => out d H' r⟩
      · exact absurd h c1
end
end K25
set_option Elab.async false
set_option linter.all false
set_option maxRecDepth 100001
set_option maxHeartbeats 3999999
namespace K25
open PySem L2
theorem KnR.same {H H' : Hp} {v : V} (k : KnR H v) (e : Same H H') : KnR H' v := by
  refine ⟨k.1.same e, fun a ts ev h x hx => ?_⟩
  subst ev
  cases hk : k.1 with
  | lst z => cases h.inj (.inl (e _ _ z)); exact (k.2 a _ rfl (.inl z) x hx).same e
  | tup z => cases h.inj (.inr (e _ _ z)); exact (k.2 a _ rfl (.inr z) x hx).same e
theorem arB_same {H H' : Hp} {v : V} {n : Int} (k : KnR H v) (e : Same H H') : arB H' n v = arB H n v := by
  cases c : isLT H v with
  | false => rw [arB_no c, arB_no (by rw [k.1.lt_same e]; exact c)]
  | true =>
    obtain ⟨a, ts, rfl, ha⟩ := lt_of c
    rw [arB_lt ha, arB_lt (ha.same e), rwrong_same e (k.2 a ts rfl ha)]
theorem RsO.back {H H1 H' : Hp} {d : Addr} {f : Str} {dd : PyData} (r : RsO H1 H' d f dd) (e : Same H H1) : RsO H H' d f dd := ⟨e.free r.new, e.trans r.same, r.at_⟩
theorem Rsd.back {H H1 H' : Hp} {d : Addr} {fs : List (Str × V)} (r : Rsd H1 H' d fs) (e : Same H H1) : Rsd H H' d fs := ⟨e.free r.new, e.trans r.same, r.at_⟩
theorem RsO.toB {H H' : Hp} {d p : Addr} {f : Str} {dd : PyData} (r : RsO H H' d f dd) : RsB p H H' d f dd := ⟨r.new, fun b o _ z => r.same _ _ z, r.at_⟩
theorem Rsd.toC {H H' : Hp} {d p : Addr} {fs : List (Str × V)} (r : Rsd H H' d fs) : RsC p H H' d fs := ⟨r.new, fun b o _ z => r.same _ _ z, r.at_⟩
theorem btw_v {v : V} (h : btw v 1 2000 = true) : ∃ n, v = .int n ∧ 1 ≤ n ∧ n ≤ 2000 := by
  obtain ⟨n, rfl⟩ := btw_int h
  have := of_decide_eq_true h
  exact ⟨n, rfl, this.1, this.2⟩
def pl (p : Int × Int) : List Int := [p.1, p.2]
theorem in_pr {H : Hp} {ts : List V} {ps : Prs} (h : PrAt H ts ps) : Paired (InS In0 H) ts (ps.map pl) :=
  paired_map (fun v p ⟨a, e, z⟩ => ⟨a, _, e, .inr z, by show 2 ≤ 10000; decide, .cons rfl (.cons rfl .nil)⟩) h
theorem out_pr {H : Hp} {ts : List V} {ps : Prs} (h : Paired (OutS In0 H) ts (ps.map pl)) : PrAt H ts ps :=
  paired_unmap (fun v p ⟨a, xs, e, z, q⟩ => by
    cases q with
    | cons q1 q =>
      cases q with
      | cons q2 q =>
        cases q
        cases q1
        cases q2
        exact ⟨a, e, z⟩) h
theorem in_sp {H : Hp} {v : V} {ps : Prs} (h : SpIn H v ps) (l : ps.length ≤ 10000) : InS (InS In0) H v (ps.map pl) :=
  let ⟨a, ts, h1, h2, h3⟩ := h
  ⟨a, ts, h1, h2, by rw [Paired.length h3]; exact l, in_pr h3⟩
theorem out_sp {H : Hp} {v : V} {ps : Prs} (h : OutS (OutS In0) H v (ps.map pl)) : SpT H v ps :=
  let ⟨a, ts, h1, h2, h3⟩ := h
  ⟨a, ts, h1, h2, out_pr h3⟩
theorem in_sps {H : Hp} : ∀ {pss : List Prs} {vs : List V}, Paired (SpIn H) vs pss → (∀ ps ∈ pss, ps.length ≤ 10000) → Paired (InS (InS In0) H) vs (pss.map (List.map pl))
  | [], _, .nil, _ => .nil
  | _ :: _, _, .cons h t, l => .cons (in_sp h (l _ List.mem_cons_self)) (in_sps t fun ps m => l ps (List.mem_cons_of_mem _ m))
theorem out_sps {H : Hp} {pss : List Prs} {vs : List V} (h : Paired (OutS (OutS In0) H) vs (pss.map (List.map pl))) : Paired (SpT H) vs pss := paired_unmap (F := SpT H) (G := OutS (OutS In0) H) (g := List.map pl) (fun _ _ z => out_sp z) h
theorem SpT.tt {H H' : Hp} (e : TT H H') {v : V} {ps : Prs} (h : SpT H v ps) : SpT H' v ps := let ⟨a, ts, h1, h2, h3⟩ := h; ⟨a, ts, h1, e _ _ h2, Paired.mapP h3 fun _ _ ⟨b, z1, z2⟩ => ⟨b, z1, e _ _ z2⟩⟩
theorem PrAt.tt {H H' : Hp} (e : TT H H') {ts : List V} {ps : Prs} (h : PrAt H ts ps) : PrAt H' ts ps := Paired.mapP h fun _ _ ⟨b, z1, z2⟩ => ⟨b, z1, e _ _ z2⟩
theorem TL.tt {H H' : Hp} (e : TL H H') : TT H H' := e.t
theorem LT.tl {H H' : Hp} {a : Addr} {ts : List V} (e : TL H H') (h : LT H a ts) : LT H' a ts := h.imp (e.l _ _) (e.t _ _)
theorem SpIn.tl {H H' : Hp} (e : TL H H') {v : V} {ps : Prs} (h : SpIn H v ps) : SpIn H' v ps := let ⟨a, ts, h1, h2, h3⟩ := h; ⟨a, ts, h1, h2.tl e, h3.tt e.t⟩
theorem ph_signs (n : Int) (s : Addr) (w : Int) (m : Addr) : (phF n s w m).lookup ("signs" : Str) = some (.int n) := by
  unfold phF
  rw [lookup_putF, if_neg (by decide +kernel), lookup_putF, if_neg (by decide +kernel), lookup_putF, if_neg (by decide +kernel), lookup_putF, if_pos rfl]
theorem ph_spots (n : Int) (s : Addr) (w : Int) (m : Addr) : (phF n s w m).lookup ("spots" : Str) = some (.ref s) := by
  unfold phF
  rw [lookup_putF, if_neg (by decide +kernel), lookup_putF, if_neg (by decide +kernel), lookup_putF, if_pos rfl]
theorem ph_width (n : Int) (s : Addr) (w : Int) (m : Addr) : (phF n s w m).lookup ("width" : Str) = some (.int w) := by
  unfold phF
  rw [lookup_putF, if_neg (by decide +kernel), lookup_putF, if_pos rfl]
theorem ph_masks (n : Int) (s : Addr) (w : Int) (m : Addr) : (phF n s w m).lookup ("masks" : Str) = some (.ref m) := by
  unfold phF
  rw [lookup_putF, if_pos rfl]
/-- Phrase(signs, spots): what comes of it -/
def spPhI (C CS CT CB : Addr) : Sp := fun vs H Q E => ∃ (p dx : Addr) (v : V) (s : Addr) (ts : List V), vs = [.ref p, v, .ref s] ∧ H p = some (.ins C dx []) ∧ Flat v ∧ LT H s ts ∧
  ((btw v 1 2000 = false ∧ ∀ d H', RsB p H H' d "signs" (dOf v) → E (.ref CS) (some d) H') ∨
   (btw v 1 2000 = true ∧ ¬ (1 ≤ ts.length ∧ ts.length ≤ 10) ∧ ∀ d H', RsC p H H' d (tmF "spots" (ts.length : Nat) 10) → E (.ref CT) (some d) H') ∨
   (∃ n : Int, v = .int n ∧ 1 ≤ n ∧ n ≤ 2000 ∧ 1 ≤ ts.length ∧ ts.length ≤ 10 ∧ (∀ x ∈ ts, KnR H x) ∧ ∃ (i : Nat) (x : V), ts[i]? = some x ∧ arB H n x = false ∧ (∀ j y, j < i → ts[j]? = some y → arB H n y = true) ∧
      ∀ d H', RsB p H H' d "index" (.int (i : Nat)) → E (.ref CB) (some d) H') ∨
   (∃ (n : Int) (pss : List Prs), v = .int n ∧ PhOk n pss ∧ Paired (SpIn H) ts pss ∧ ∀ H', ButI p H H' → IsPh C H' p n pss → Q .non H'))
abbrev NPh : List Str := ["self", "signs", "spots", "index", "spot"]
section
variable {P : Program} {w : World} {K : PySem.W.Frag} {mg : Str → Option Value} {base : Heap}
theorem scPhI : FnScope NPh ["self", "signs", "spots"] (defScope sPhI) := ⟨rfl, rfl, rfl, by decide +kernel, rfl, by decide +kernel, by decide +kernel⟩
theorem ok_phI {f C CS CT CB : Addr} {fd : FuncData} (F : Fun K "__init__" "Phrase.__init__" sPhI f fd) (B : Bi mg) (T : TxP K C) (cK : Cal (L2.CX P w) P w K mg base 5 "check_size" (spChk CS CT)) (cA : Cal CX0 P w K mg base 4 "are_ranges" spAre)
    (cZ : Cal CX0 P w K mg base 4 "frozen" (spFz (InS (InS (InS In0))) (OutS (OutS (OutS In0))))) (cM : Cal CX0 P w K mg base 1 "mask_of" spMask) (xB : Xc P w K mg base 3 "BadSpot" CB (spXO K "index")) (nB : PySem.W.findIn K (.ref CB) "index" = some none) :
    FnOk P w K mg base (L2.CX P w) 6 f fd ["self", "signs", "spots"] (spPhI C CS CT CB) := by
  refine F.okX scPhI (fun vs H Q E h => ?_) (fun cdv A outer s H vs Q E hr h => ?_)
  · obtain ⟨p, dx, v, s, ts, rfl, _⟩ := h
    rfl
  · obtain ⟨p, dx, v, s0, ts, rfl, hp, fl, hs, out⟩ := h
    refine ⟨_, pss_cons (ps_expr (pe_c cK hr (passes_call (takes_of rfl rfl rfl rfl) fun _ _ _ _ h => h) (pa_cons (pv 1) (pa_cons (pv 2) pa_nil))))
      (pss_cons (ps_for (passes_of rfl) rfl (pi_en B.enum (pa_cons (pv 2) pa_nil)) (pg_tup rfl (pgs_cons (pg_name (i := 3) scPhI.nd rfl (.inl rfl)) (pgs_cons (pg_name (i := 4) scPhI.nd rfl (.inl rfl)) pgs_nil)))
        (pss_one (ps_if (pt_not (pt_val (pe_c cA hr pass0 (pa_cons (pv 4) (pa_cons (pv 1) pa_nil))))) (pss_one (ps_raise rfl (takes_of rfl rfl rfl rfl) (pmk_x xB hr (pa_cons (pv 3) pa_nil)))) pss_nil)))
      (pss_cons (ps_fld (pv 0) (pv 1) rfl)
      (pss_cons (ps_fld (pv 0) (pe_c cZ hr pass0 (pa_cons (pv 2) pa_nil)) rfl)
      (pss_cons (ps_fld (pv 0) (pe_len B.len (pa_cons (pe_fld (pv 0) rfl) pa_nil)) rfl)
      (pss_one (ps_fld (pv 0) (pe_lc (own := [("spot", 4)]) rfl scPhI.nd (pi_sqA (pe_fld (pv 0) rfl)) (blkOk_by (N := NPh) (sc := defScope sPhI) (by decide +kernel))
          (fun _ _ _ _ _ => pg_name (i := 4) scPhI.nd rfl (Or.inl rfl)) (fun _ _ _ _ _ => pts_nil) (fun _ _ _ _ _ => pe_c cM hr pass0 (pa_cons (pv 4) pa_nil))) rfl)))))), ?_⟩
    refine ⟨_, rfl, _, rfl, v, s0, ts, rfl, fl, hs, ?_⟩
    rcases out with ⟨h, out⟩ | ⟨h, h2, out⟩ | ⟨n, rfl, n1, n2, l1, l2, kr, i0, x0, hx0, bad, good, out⟩ | ⟨n, pss, rfl, ok, pr, out⟩
    · exact .inl ⟨h, fun d H' r => out d H' r.toB⟩
    · exact .inr (.inl ⟨h, h2, fun d H' r => out d H' r.toC⟩)
    · refine .inr (.inr ⟨decide_eq_true ⟨n1, n2⟩, l1, l2, fun H1 e1 => ?_⟩)
      refine ⟨_, rfl, s0, ts, rfl, (hs.same e1).sq, fun J G wk hG => for_it wk (fun i σ H' => ∃ (a b : Option V), σ = [some (.ref p), some (.int n), some (.ref s0), a, b] ∧ Same H1 H' ∧ i ≤ i0) ⟨none, none, rfl, Same.refl _, Nat.zero_le _⟩ (fun i σ H' _ ⟨_, _, _, e, _⟩ => hG H' fun o z => e _ _ z) ?_ ?_⟩
      · rintro i x σ H2 H3 hi ⟨a, b, rfl, e, le⟩ ⟨T0, y, v', rfl, nT0, rfl, ey, hv⟩
        have ey : y = .int (i : Nat) := (Option.some.inj ey).symm
        subst ey
        have e3 : Same H (upd H2 T0 (.tup [.int (i : Nat), v'])) := (e1.trans e).trans (same_new nT0)
        have kv := kr v' (List.mem_of_getElem? hv)
        refine ⟨T0, _, rfl, SqT.of upd_same, rfl, _, _, rfl, _, _, rfl, rfl, ?_⟩
        refine ⟨v', rfl, _, rfl, v', n, rfl, kv.same e3, fun H4 e4 => ⟨_, rfl, ?_⟩⟩
        rw [arB_same kv e3]
        by_cases c : i = i0
        · subst c
          have hxv : x0 = v' := Option.some.inj (hx0.symm.trans hv)
          subst hxv
          rw [bad]
          exact iteT ⟨_, rfl, raiseO xB.T nB (.flat True.intro) fun d H' r => out d H' (r.back (e3.trans e4)).toB⟩
        · rw [good i v' (by omega) hv]
          exact iteF ⟨_, _, rfl, (e.trans (same_new nT0)).trans e4, by omega⟩
      · rintro σ H2 ⟨a, b, rfl, e, le⟩
        have := (List.getElem?_eq_some_iff.mp hx0).1
        omega
    refine .inr (.inr ⟨decide_eq_true ⟨ok.n1, ok.n2⟩, by rw [Paired.length pr]; exact ok.l1, by rw [Paired.length pr]; exact ok.l2, fun H1 e1 => ?_⟩)
    refine ⟨_, rfl, s0, ts, rfl, (hs.same e1).sq, fun J G wk hG => for_it wk (fun i σ H' => ∃ (a b : Option V), σ = [some (.ref p), some (.int n), some (.ref s0), a, b] ∧ Same H1 H') ⟨none, none, rfl, Same.refl _⟩ (fun i σ H' _ ⟨_, _, _, e⟩ => hG H' fun o z => e _ _ z) ?_ ?_⟩
    · rintro i x σ H2 H3 hi ⟨a, b, rfl, e⟩ ⟨T0, y, v', rfl, nT0, rfl, ey, hv⟩
      have e3 : Same H (upd H2 T0 (.tup [y, v'])) := (e1.trans e).trans (same_new nT0)
      obtain ⟨ps, hps, sp⟩ := paired_get pr hv
      obtain ⟨ne, rk⟩ := ok.ok ps (List.mem_of_getElem? hps)
      refine ⟨T0, _, rfl, SqT.of upd_same, rfl, _, _, rfl, _, _, rfl, rfl, ?_⟩
      refine ⟨v', rfl, _, rfl, v', n, rfl, sp.knr.same e3, fun H4 e4 => ⟨_, rfl, ?_⟩⟩
      rw [arB_same sp.knr e3, sp.are ne rk]
      exact iteF ⟨_, _, rfl, (e.trans (same_new nT0)).trans e4⟩
    · rintro σ H2 ⟨a, b, rfl, e⟩
      have e2 : Same H H2 := e1.trans e
      clear wk hG
      have hp2 := e2 _ _ hp
      have len : ∀ ps ∈ pss, ps.length ≤ 10000 := fun ps m => by
        have := rok_len (ok.ok ps m).2 (by have := ok.n1; omega)
        have := ok.n2
        omega
      refine ⟨_, rfl, _, rfl, p, C, dx, [], rfl, hp2, T.cl, T.s, by decide, ?_⟩
      have u3 : ButI p H2 (upd H2 p (.ins C dx (putF "signs" (.int n) []))) := fun b o n z => (upd_ne n).trans z
      have hp3 : upd H2 p (.ins C dx (putF "signs" (.int n) [])) p = some (.ins C dx (putF "signs" (.int n) [])) := upd_same
      generalize upd H2 p (.ins C dx (putF "signs" (.int n) [])) = H3 at u3 hp3 ⊢
      have b3 : ButI p H H3 := fun b o n z => u3 b o n (e2 _ _ z)
      have t3 := TL.but hp b3
      have lts : ts.length ≤ 10000 := by
        have := Paired.length pr
        have := ok.l2
        omega
      refine ⟨_, rfl, .ref s0, pss.map (List.map pl), rfl, ⟨s0, ts, rfl, hs.tl t3, lts, in_sps (Paired.mapP pr fun _ _ z => z.tl t3) len⟩, fun v' H4 e4 o4 => ?_⟩
      obtain ⟨q, vs, rfl, hq, po⟩ := o4
      have po := out_sps po
      have hp4 := e4 _ _ hp3
      refine ⟨_, rfl, p, C, dx, _, rfl, hp4, T.cl, T.p, by show 1 < 1000; decide, ?_⟩
      have u5 : ButI p H4 (upd H4 p (.ins C dx (putF "spots" (.ref q) (putF "signs" (.int n) [])))) := fun b o n z => (upd_ne n).trans z
      have hp5 : upd H4 p (.ins C dx (putF "spots" (.ref q) (putF "signs" (.int n) []))) p = some (.ins C dx (putF "spots" (.ref q) (putF "signs" (.int n) []))) := upd_same
      generalize upd H4 p (.ins C dx (putF "spots" (.ref q) (putF "signs" (.int n) []))) = H5 at u5 hp5 ⊢
      have b5 : ButI p H H5 := fun b o n z => u5 b o n (e4 _ _ (b3 b o n z))
      have t45 := TL.but hp4 u5
      have hq5 := t45.t _ _ hq
      have po5 : Paired (SpT H5) vs pss := Paired.mapP po fun _ _ z => z.tt t45.t
      have lv : vs.length = pss.length := Paired.length po
      refine ⟨_, rfl, p, C, dx, _, _, rfl, hp5, T.cl, T.p, (by rw [lookup_putF, if_pos rfl]), q, vs, rfl, .inr (SqT.of hq5), _, rfl, p, C, dx, _, rfl, hp5, T.cl, T.w, by show 2 < 1000; decide, ?_⟩
      rw [lv]
      have u6 : ButI p H5 (upd H5 p (.ins C dx (putF "width" (.int (pss.length : Nat)) (putF "spots" (.ref q) (putF "signs" (.int n) []))))) := fun b o n z => (upd_ne n).trans z
      have hp6 : upd H5 p (.ins C dx (putF "width" (.int (pss.length : Nat)) (putF "spots" (.ref q) (putF "signs" (.int n) [])))) p = some (.ins C dx (putF "width" (.int (pss.length : Nat)) (putF "spots" (.ref q) (putF "signs" (.int n) [])))) := upd_same
      generalize upd H5 p (.ins C dx (putF "width" (.int (pss.length : Nat)) (putF "spots" (.ref q) (putF "signs" (.int n) [])))) = H6 at u6 hp6 ⊢
      have b6 : ButI p H H6 := fun b o n z => u6 b o n (b5 b o n z)
      have t56 := TL.but hp5 u6
      have hq6 := t56.t _ _ hq5
      have po6 : Paired (SpT H6) vs pss := Paired.mapP po5 fun _ _ z => z.tt t56.t
      refine ⟨_, rfl, p, C, dx, _, _, rfl, hp6, T.cl, T.p, (by rw [lookup_putF, if_neg (by decide +kernel), lookup_putF, if_pos rfl]), q, vs, rfl, .inr (SqT.of hq6), fun J G wk hG D nD => lc_it wk (fun j H' => Same H6 H' ∧ H' D = some (.lst ((pss.take j).map fun ps => V.int ((mN ps : Nat) : Int)))) ⟨same_new nD, upd_same⟩ (fun j H' _ z => hG H' fun o w => z.1 _ _ w) ?_ ?_⟩
      · rintro j y H7 H8 hj ⟨e7, hD⟩ ⟨rfl, hy⟩
        obtain ⟨ps, hps, a, ts', rfl, ha, pa⟩ := paired_get po6 hy
        obtain ⟨ne, rk⟩ := ok.ok ps (List.mem_of_getElem? hps)
        refine ⟨rfl, ?_⟩
        unfold tYes
        refine iteT ⟨_, rfl, a, ts', ps, n, rfl, .inr (e7 _ _ ha), pa.tt (TT.same e7), rk, by have := ok.n2; omega, by rw [Paired.length pa]; exact len ps (List.mem_of_getElem? hps), fun H9 e9 => ⟨_, e9 _ _ hD, ?_, fun b o z => ?_, ?_⟩⟩
        · rw [List.length_map, List.length_take]
          have := ok.l2
          exact small10 (by omega)
        · rw [upd_ne (ne_of_none z nD)]
          exact e9 _ _ (e7 _ _ z)
        · rw [upd_same, List.take_add_one, hps, List.map_append]
          rfl
      · rintro H7 ⟨e7, hD⟩
        rw [lv, List.take_length] at hD
        have hp7 := e7 _ _ hp6
        refine ⟨_, rfl, p, C, dx, _, rfl, hp7, T.cl, T.m, by show 3 < 1000; decide, ?_⟩
        have u8 : ButI p H7 (upd H7 p (.ins C dx (phF n q (pss.length : Nat) D))) := fun b o n z => (upd_ne n).trans z
        have t78 := TL.but hp7 u8
        exact out _ (fun b o n z => u8 b o n (e7 _ _ (b6 b o n z))) ⟨dx, q, D, vs, upd_same, t78.t _ _ (e7 _ _ hq6), Paired.mapP po6 fun _ _ z => (z.tt (TT.same e7)).tt t78.t, t78.l _ _ hD⟩
end
end K25
set_option Elab.async false
set_option linter.all false
set_option maxRecDepth 100001
set_option maxHeartbeats 3999999
namespace K25
open PySem L2
abbrev sOSg : Stmt := inClass (topS 14) 0
abbrev sPlain : Stmt := topS 23
abbrev sChP : Stmt := topS 25
section
variable {X : Cx} {k j : Nat} {x : Str} {C : Addr} {sp : Sp} {p pos : Pos}
theorem pmk_x0 (c : Xc X.prog X.w X.K X.mg X.base k x C sp) (hr : Room j X.A) (hk : k + 1 ≤ j := by decide) (hg : Gl X x := by rfl) (hdb : (x == ("__debug__" : Str)) = false := by decide) : PMk X (.Call (.Name x p) [] [] pos) (tMkO0 C sp) := by
  obtain ⟨f, fd, ps, i1, i2, F, b⟩ := c.ex
  exact pmk_oex0 c.T i1 i2 F (hr.mono hk) b pass0 hg c.mgC hdb
end
/-- the first one that is no sign -/
def fws (n : Int) (ts : List V) : Option Nat := ts.findIdx? fun v => !btw v 0 (n - 1)
def spFws (K : PySem.W.Frag) : Sp := fun vs H Q _ => ∃ (s : Addr) (ts : List V) (n : Int), vs = [.ref s, .int n] ∧ LT H s ts ∧ (∀ v ∈ ts, Kn H v) ∧ ∀ H', Same H H' → Q (oI (fws n ts)) H'
/-- a phrase is what v is -/
def Ph (C : Addr) (H : Hp) (v : V) (n : Int) (pss : List Prs) : Prop := ∃ p, v = .ref p ∧ IsPh C H p n pss
theorem IsPh.same {C : Addr} {H H' : Hp} {p : Addr} {n : Int} {pss : List Prs} (h : IsPh C H p n pss) (e : Same H H') : IsPh C H' p n pss :=
  let ⟨dx, s, m, vs, h1, h2, h3, h4⟩ := h
  ⟨dx, s, m, vs, e _ _ h1, e _ _ h2, Paired.mapP h3 fun _ _ z => z.tt (TT.same e), e _ _ h4⟩
/-- plain_phrase(signs, row) -/
def spPlain (C CT CG : Addr) : Sp := fun vs H Q E => ∃ (n : Int) (s : Addr) (ts : List V), vs = [.int n, .ref s] ∧ 1 ≤ n ∧ n ≤ 2000 ∧ LT H s ts ∧ (∀ v ∈ ts, Kn H v) ∧
  ((¬ (1 ≤ ts.length ∧ ts.length ≤ 10) ∧ ∀ d H', Rsd H H' d (tmF "spots" (ts.length : Nat) 10) → E (.ref CT) (some d) H') ∨
   (1 ≤ ts.length ∧ ts.length ≤ 10 ∧ ∃ i, fws n ts = some i ∧ ∀ d H', RsO H H' d "index" (.int (i : Nat)) → E (.ref CG) (some d) H') ∨
   (1 ≤ ts.length ∧ ts.length ≤ 10 ∧ ∃ xs : List Int, ts = xs.map V.int ∧ (∀ x ∈ xs, 0 ≤ x ∧ x ≤ n - 1) ∧ ∀ p H', Same H H' → IsPh C H' p n (xs.map fun x => [(x, x)]) → Q (.ref p) H'))
/-- check_phrases(phrases) -/
def spChP (C CO : Addr) : Sp := fun vs H Q E => ∃ (s : Addr) (ts : List V) (ps : List (Int × List Prs)), vs = [.ref s] ∧ H s = some (.lst ts) ∧ Paired (fun v p => Ph C H v p.1 p.2) ts ps ∧ 0 < ps.length ∧ ps.length ≤ 100 ∧
  (((∀ p ∈ ps, p.1 = (ps.getD 0 (0, [])).1) ∧ ∀ H', Same H H' → Q .non H') ∨ ((∃ p ∈ ps, p.1 ≠ (ps.getD 0 (0, [])).1) ∧ ∀ H', Same H H' → E (.ref CO) none H'))
theorem fws_none {n : Int} {xs : List Int} (h : ∀ x ∈ xs, 0 ≤ x ∧ x ≤ n - 1) : fws n (xs.map V.int) = none := by
  unfold fws
  rw [List.findIdx?_eq_none_iff]
  intro v hv
  obtain ⟨x, hx, rfl⟩ := List.mem_map.mp hv
  rw [show btw (.int x) 0 (n - 1) = true from decide_eq_true (h x hx)]
  rfl
section
variable {P : Program} {w : World} {K : PySem.W.Frag} {mg : Str → Option Value} {base : Heap}
theorem scOSg : FnScope ["self"] ["self"] (defScope sOSg) := ⟨rfl, rfl, rfl, by decide +kernel, rfl, by decide +kernel, by decide +kernel⟩
theorem ok_OSg {f : Addr} {fd : FuncData} (F : Fun K "__init__" "OtherSigns.__init__" sOSg f fd) : FnOk P w K mg base CX0 1 f fd ["self"] spX0 := by
  refine F.ok scOSg (fun vs H Q E h => ?_) (fun cdv A outer s H vs Q E hr h => ?_)
  · obtain ⟨a, rfl, _⟩ := h
    rfl
  · obtain ⟨a, rfl, q⟩ := h
    exact ⟨_, pss_one ps_pass, q⟩
theorem scFws : FnScope ["row", "signs", "index", "sign"] ["row", "signs"] (defScope sFWS) := ⟨rfl, rfl, rfl, by decide +kernel, rfl, by decide +kernel, by decide +kernel⟩
theorem ok_fws {f : Addr} {fd : FuncData} (F : Fun K "first_wrong_sign" "first_wrong_sign" sFWS f fd) (B : Bi mg) (cB : Cal CX0 P w K mg base 2 "is_between" spBetween) : FnOk P w K mg base CX0 3 f fd ["row", "signs"] (spFws K) := by
  refine F.ok scFws (fun vs H Q E h => ?_) (fun cdv A outer s H vs Q E hr h => ?_)
  · obtain ⟨s, ts, n, rfl, _⟩ := h
    rfl
  · obtain ⟨s0, ts, n, rfl, hs, kn, q⟩ := h
    refine ⟨_, pss_cons (ps_for PassesOwn.never rfl (pi_en B.enum (pa_cons (pv 0) pa_nil)) (pg_tup rfl (pgs_cons (pg_name (i := 2) scFws.nd rfl (.inl rfl)) (pgs_cons (pg_name (i := 3) scFws.nd rfl (.inl rfl)) pgs_nil)))
        (pss_one (ps_if (pt_not (pt_val (pe_c cB hr pass0 (pa_cons (pv 3) (pa_cons pe_int (pa_cons (pe_op op_sub (pv 1) pe_int) pa_nil)))))) (pss_one (ps_ret (pv 2))) pss_nil)))
      (pss_one (ps_ret pe_non)), ?_⟩
    refine ⟨_, rfl, s0, ts, rfl, hs.sq, fun J G wk hG => for_it wk (fun i σ H' => ∃ (a b : Option V), σ = [some (.ref s0), some (.int n), a, b] ∧ Same H H' ∧ ∀ j v, j < i → ts[j]? = some v → btw v 0 (n - 1) = true) ⟨none, none, rfl, Same.refl H, fun j v h => absurd h (Nat.not_lt_zero _)⟩
      (fun i σ H' _ ⟨_, _, _, e, _⟩ => hG H' fun o z => e _ _ z) ?_ ?_⟩
    · rintro i x σ H1 H2 hi ⟨a, b, rfl, e, ok⟩ ⟨T0, y, v, rfl, nT0, rfl, ey, hv⟩
      have ey : y = .int (i : Nat) := (Option.some.inj ey).symm
      subst ey
      have e2 : Same H (upd H1 T0 (.tup [.int (i : Nat), v])) := e.trans (same_new nT0)
      have kv := kn v (List.mem_of_getElem? hv)
      refine ⟨T0, _, rfl, SqT.of upd_same, rfl, _, _, rfl, _, _, rfl, rfl, ?_⟩
      refine ⟨v, rfl, _, rfl, _, _, rfl, rfl, v, 0, n - 1, rfl, kv.same e2, _, rfl, ?_⟩
      cases c : btw v 0 (n - 1) with
      | false =>
        have ef : fws n ts = some i := by
          unfold fws
          rw [List.findIdx?_eq_some_iff_getElem]
          obtain ⟨lt, eq⟩ := List.getElem?_eq_some_iff.mp hv
          refine ⟨lt, by rw [eq, c]; rfl, fun j hj => ?_⟩
          rw [ok j _ hj (List.getElem?_eq_getElem (Nat.lt_trans hj lt))]
          decide
        have q2 := q _ e2
        rw [ef] at q2
        exact iteT ⟨_, rfl, q2⟩
      | true =>
        refine iteF ⟨_, _, rfl, e2, fun j u hj hu => ?_⟩
        rcases Nat.lt_succ_iff_lt_or_eq.mp hj with h | rfl
        · exact ok j u h hu
        · have := Option.some.inj (hv.symm.trans hu)
          rw [← this]
          exact c
    · rintro σ H1 ⟨a, b, rfl, e, ok⟩
      have ef : fws n ts = none := by
        unfold fws
        rw [List.findIdx?_eq_none_iff]
        intro v hv
        obtain ⟨j, hj⟩ := List.getElem?_of_mem hv
        rw [ok j v (List.getElem?_eq_some_iff.mp hj).1 hj]
        rfl
      have q2 := q _ e
      rw [ef] at q2
      exact q2
theorem scPlain : FnScope ["signs", "row", "wrong", "sign"] ["signs", "row"] (defScope sPlain) := ⟨rfl, rfl, rfl, by decide +kernel, rfl, by decide +kernel, by decide +kernel⟩
theorem ok_plain {f C CS CT CB CG : Addr} {fd : FuncData} (F : Fun K "plain_phrase" "plain_phrase" sPlain f fd) (cK : Cal (L2.CX P w) P w K mg base 5 "check_size" (spChk CS CT)) (cF : Cal CX0 P w K mg base 3 "first_wrong_sign" (spFws K)) (xG : Xc P w K mg base 3 "BadSign" CG (spXO K "index")) (nG : PySem.W.findIn K (.ref CG) "index" = some none)
    (mk : Mak (L2.CX P w) P w K mg base 6 "Phrase" C (spPhI C CS CT CB)) : FnOk P w K mg base (L2.CX P w) 8 f fd ["signs", "row"] (spPlain C CT CG) := by
  refine F.okX scPlain (fun vs H Q E h => ?_) (fun cdv A outer s H vs Q E hr h => ?_)
  · obtain ⟨n, s, ts, rfl, _⟩ := h
    rfl
  · obtain ⟨n, s0, ts, rfl, n1, n2, hs, kn, out⟩ := h
    refine ⟨_, pss_cons (ps_expr (pe_c cK hr (passes_call (takes_of rfl rfl rfl rfl) fun _ _ _ _ h => h) (pa_cons (pv 0) (pa_cons (pv 1) pa_nil))))
      (pss_cons (ps_set (i := 2) scPlain.nd rfl (Or.inl rfl) (pe_c cF hr pass0 (pa_cons (pv 1) (pa_cons (pv 0) pa_nil))))
      (pss_cons (ps_if (pt_cmpR op_notN (pv 2) pe_non (nomark _)) (pss_one (ps_raise rfl (takes_of rfl rfl rfl rfl) (pmk_x xG hr (pa_cons (pv 2) pa_nil)))) pss_nil)
      (pss_one (ps_ret (pe_mk mk hr (passes_call (takes_of rfl rfl rfl rfl) fun _ _ _ _ h => h) (pa_cons (pv 0) (pa_cons (pe_lc (own := [("sign", 3)]) rfl scPlain.nd (pi_sqA (pv 1)) (blkOk_by (N := ["signs", "row", "wrong", "sign"]) (sc := defScope sPlain) (by decide +kernel))
          (fun _ _ _ _ _ => pg_name (i := 3) scPlain.nd rfl (Or.inl rfl)) (fun _ _ _ _ _ => pts_nil) (fun _ _ _ _ _ => pe_lst (pa_cons (pe_tup (pa_cons (pv 3) (pa_cons (pv 3) pa_nil))) pa_nil))) pa_nil))))))), ?_⟩
    refine ⟨_, rfl, _, rfl, .int n, s0, ts, rfl, True.intro, hs, ?_⟩
    have hb : btw (.int n) 1 2000 = true := decide_eq_true ⟨n1, n2⟩
    rcases out with ⟨h, out⟩ | out
    · exact .inr (.inl ⟨hb, h, out⟩)
    have l1 : 1 ≤ ts.length := by rcases out with ⟨h, _⟩ | ⟨h, _⟩ <;> exact h
    have l2 : ts.length ≤ 10 := by rcases out with ⟨_, h, _⟩ | ⟨_, h, _⟩ <;> exact h
    refine .inr (.inr ⟨hb, l1, l2, fun H1 e1 => ?_⟩)
    refine ⟨_, rfl, _, rfl, s0, ts, n, rfl, hs.same e1, fun v hv => (kn v hv).same e1, fun H2 e2 => ?_⟩
    rcases out with ⟨_, _, i, hi, out⟩ | ⟨_, _, xs, rfl, hx, out⟩
    · rw [hi]
      exact ⟨_, rfl, rfl, _, rfl, iteT ⟨_, rfl, raiseO xG.T nG (.flat True.intro) fun d H' r => out d H' (r.back (e1.trans e2))⟩⟩
    rw [fws_none hx]
    refine ⟨_, rfl, rfl, _, rfl, iteF ?_⟩
    have e12 := e1.trans e2
    have hs2 := hs.same e12
    refine ⟨_, rfl, _, rfl, s0, _, rfl, hs2.sq, fun J G wk hG D nD => lc_it wk (fun j H' => Same H2 H' ∧ ∃ ys, H' D = some (.lst ys) ∧ Paired (fun v ps => SpIn H' v ps ∧ v ≠ .ref D) ys ((xs.take j).map fun x => [(x, x)])) ⟨same_new nD, [], upd_same, .nil⟩ (fun j H' _ z => hG H' fun o w => z.1 _ _ w) ?_ ?_⟩
    · rintro j y H3 H4 hj ⟨e3, ys, hD, po⟩ ⟨rfl, hy⟩
      obtain ⟨x, hx2, rfl⟩ : ∃ x, xs[j]? = some x ∧ y = V.int x := by
        rw [List.getElem?_map] at hy
        cases q2 : xs[j]? with
        | none => rw [q2] at hy; cases hy
        | some n => rw [q2] at hy; exact ⟨n, rfl, (Option.some.inj hy).symm⟩
      have ly : ys.length ≤ 10000 := by
        rw [Paired.length po, List.length_map, List.length_take]
        rw [List.length_map] at l2
        omega
      refine ⟨rfl, ?_⟩
      unfold tYes
      refine iteT ⟨_, rfl, _, rfl, by show 2 ≤ sizeLine; decide, fun t nt => ⟨by show 1 ≤ sizeLine; decide, fun l nl => ?_⟩⟩
      have et := same_new (o := .tup [.int x, .int x]) nt
      have ht : upd H4 t (.tup [.int x, .int x]) t = some (.tup [.int x, .int x]) := upd_same
      generalize upd H4 t (.tup [.int x, .int x]) = H5 at et ht nl ⊢
      have el := same_new (o := .lst [.ref t]) nl
      have hl : upd H5 l (.lst [.ref t]) l = some (.lst [.ref t]) := upd_same
      have lD : l ≠ D := (ne_of_none (et _ _ hD) nl).symm
      generalize upd H5 l (.lst [.ref t]) = H6 at el hl ⊢
      have hD6 := el _ _ (et _ _ hD)
      have keep : ∀ v ps, SpIn H6 v ps → v ≠ .ref D → SpIn (upd H6 D (.lst (ys ++ [.ref l]))) v ps := fun v ps ⟨a, us, h1, h2, h3⟩ ne => by
        subst h1
        have na : a ≠ D := fun z => ne (by rw [z])
        exact ⟨a, us, rfl, h2.imp (fun h => (upd_ne na).trans h) (fun h => (upd_ne na).trans h), h3.tt (TT.lst hD6)⟩
      refine ⟨_, hD6, small10 ly, fun b o z => ?_, _, upd_same, ?_⟩
      · rw [upd_ne (ne_of_none z nD)]
        exact el _ _ (et _ _ (e3 _ _ z))
      · rw [List.take_add_one, hx2, List.map_append]
        exact Paired.snoc (Paired.mapP po fun v ps ⟨z, ne⟩ => ⟨keep v ps (z.same (et.trans el)) ne, ne⟩) ⟨keep _ _ ⟨l, [.ref t], rfl, .inl hl, .cons ⟨t, rfl, el _ _ ht⟩ .nil⟩ (fun z => lD (V.ref.inj z)), fun z => lD (V.ref.inj z)⟩
    · rintro H3 ⟨e3, ys, hD, po⟩
      rw [List.length_map, List.take_length] at po
      intro p dx np nd ne
      have e4 : Same H3 (upd (upd H3 dx (.own p)) p (.ins C dx [])) := fun b o z => by
        rw [upd_ne (ne_of_none z np), upd_ne (ne_of_none z nd)]
        exact z
      rw [List.length_map] at l1 l2
      have ok : PhOk n (xs.map fun x => [(x, x)]) := by
        refine ⟨n1, n2, by rw [List.length_map]; exact l1, by rw [List.length_map]; exact l2, fun ps hps => ?_⟩
        obtain ⟨x, hx3, rfl⟩ := List.mem_map.mp hps
        obtain ⟨h1, h2⟩ := hx x hx3
        refine ⟨by simp, ?_⟩
        show 0 ≤ x ∧ x ≤ x ∧ x ≤ n - 1 ∧ True
        exact ⟨h1, Int.le_refl _, h2, trivial⟩
      refine ⟨p, dx, .int n, D, ys, rfl, upd_same, True.intro, .inl (e4 _ _ hD), .inr (.inr (.inr ⟨n, _, rfl, ok, Paired.mapP po fun v ps z => z.1.same e4, fun H' b ph => ⟨rfl, ?_⟩⟩))⟩
      exact out p H' (fun a o z => b a o (ne_of_none (e3 _ _ (e12 _ _ z)) np) (e4 _ _ (e3 _ _ (e12 _ _ z)))) ph
end
end K25
set_option Elab.async false
set_option linter.all false
set_option maxRecDepth 100001
set_option maxHeartbeats 3999999
namespace K25
open PySem L2
/-! ### values told as data -/
structure Enc {α : Type} [DecidableEq α] (f : α → PyData) (d : Nat) : Prop where
  eqv : ∀ a b, PyData.eqv (f a) (f b) = decide (a = b)
  lay : ∀ a, PyData.canLay0 (f a) = true
  dep : ∀ a, PyData.depth (f a) ≤ d
section
variable {α β γ δ : Type} [DecidableEq α] [DecidableEq β] [DecidableEq γ] [DecidableEq δ] {f : α → PyData} {g : β → PyData} {h : γ → PyData} {i : δ → PyData} {d d2 d3 d4 : Nat}
theorem enc_int : Enc PyData.int 0 := ⟨fun a b => by by_cases c : a = b <;> simp [PyData.eqv, c], fun a => by simp [PyData.canLay0], fun a => by simp [PyData.depth]⟩
theorem enc_bool : Enc PyData.bool 0 := ⟨fun a b => by cases a <;> cases b <;> simp [PyData.eqv], fun a => by simp [PyData.canLay0], fun a => by simp [PyData.depth]⟩
theorem Enc.mono (e : Enc f d) (h : d ≤ d2) : Enc f d2 := ⟨e.eqv, e.lay, fun a => Nat.le_trans (e.dep a) h⟩
theorem Enc.eqvAll (e : Enc f d) : ∀ xs ys : List α, PyData.eqvAll (xs.map f) (ys.map f) = decide (xs = ys)
  | [], [] => by simp [PyData.eqvAll]
  | [], _ :: _ => by simp [PyData.eqvAll]
  | _ :: _, [] => by simp [PyData.eqvAll]
  | x :: xs, y :: ys => by
    have ih := Enc.eqvAll e xs ys
    have e2 : PyData.eqvAll ((x :: xs).map f) ((y :: ys).map f) = (PyData.eqv (f x) (f y) && PyData.eqvAll (xs.map f) (ys.map f)) := by simp only [List.map_cons, PyData.eqvAll]
    rw [e2, ih, e.eqv]
    by_cases h1 : x = y
    · by_cases h2 : xs = ys
      · simp [h1, h2]
      · simp [h1, h2]
    · simp [h1]
theorem Enc.layAll (e : Enc f d) : ∀ xs : List α, PyData.canLayAll0 (xs.map f) = true
  | [] => by simp [PyData.canLayAll0]
  | x :: xs => by rw [List.map_cons, PyData.canLayAll0, e.lay, Enc.layAll e xs]; rfl
theorem Enc.depAll (e : Enc f d) : ∀ xs : List α, PyData.depthAll (xs.map f) ≤ d
  | [] => by simp [PyData.depthAll]
  | x :: xs => by
    have h1 := e.dep x
    have h2 := Enc.depAll e xs
    simp only [List.map_cons, PyData.depthAll]
    omega
theorem Enc.tup (e : Enc f d) : Enc (fun xs : List α => PyData.tuple (xs.map f)) (d + 1) :=
  ⟨fun a b => by simp only [PyData.eqv]; exact e.eqvAll a b, fun a => by simp only [PyData.canLay0]; exact e.layAll a, fun a => by simp only [PyData.depth]; have := e.depAll a; omega⟩
theorem Enc.lst (e : Enc f d) : Enc (fun xs : List α => PyData.list (xs.map f)) (d + 1) :=
  ⟨fun a b => by simp only [PyData.eqv]; exact e.eqvAll a b, fun a => by simp only [PyData.canLay0]; exact e.layAll a, fun a => by simp only [PyData.depth]; have := e.depAll a; omega⟩
theorem Enc.two (e : Enc f d) (e2 : Enc g d) : Enc (fun p : α × β => PyData.tuple [f p.1, g p.2]) (d + 1) := by
  refine ⟨fun a b => ?_, fun a => ?_, fun a => ?_⟩
  · simp only [PyData.eqv, PyData.eqvAll, e.eqv, e2.eqv, Bool.and_true]
    obtain ⟨a1, a2⟩ := a
    obtain ⟨b1, b2⟩ := b
    by_cases h1 : a1 = b1 <;> by_cases h2 : a2 = b2 <;> simp [h1, h2]
  · simp only [PyData.canLay0, PyData.canLayAll0, e.lay, e2.lay]
    rfl
  · have h1 := e.dep a.1
    have h2 := e2.dep a.2
    simp only [PyData.depth, PyData.depthAll]
    omega
theorem Enc.three (e : Enc f d) (e2 : Enc g d) (e3 : Enc h d) : Enc (fun p : α × β × γ => PyData.tuple [f p.1, g p.2.1, h p.2.2]) (d + 1) := by
  refine ⟨fun a b => ?_, fun a => ?_, fun a => ?_⟩
  · simp only [PyData.eqv, PyData.eqvAll, e.eqv, e2.eqv, e3.eqv, Bool.and_true]
    obtain ⟨a1, a2, a3⟩ := a
    obtain ⟨b1, b2, b3⟩ := b
    by_cases h1 : a1 = b1 <;> by_cases h2 : a2 = b2 <;> by_cases h3 : a3 = b3 <;> simp [h1, h2, h3]
  · simp only [PyData.canLay0, PyData.canLayAll0, e.lay, e2.lay, e3.lay]
    rfl
  · have h1 := e.dep a.1
    have h2 := e2.dep a.2.1
    have h3 := e3.dep a.2.2
    simp only [PyData.depth, PyData.depthAll]
    omega
theorem Enc.four (e : Enc f d) (e2 : Enc g d) (e3 : Enc h d) (e4 : Enc i d) : Enc (fun p : α × β × γ × δ => PyData.tuple [f p.1, g p.2.1, h p.2.2.1, i p.2.2.2]) (d + 1) := by
  refine ⟨fun a b => ?_, fun a => ?_, fun a => ?_⟩
  · simp only [PyData.eqv, PyData.eqvAll, e.eqv, e2.eqv, e3.eqv, e4.eqv, Bool.and_true]
    obtain ⟨a1, a2, a3, a4⟩ := a
    obtain ⟨b1, b2, b3, b4⟩ := b
    by_cases h1 : a1 = b1 <;> by_cases h2 : a2 = b2 <;> by_cases h3 : a3 = b3 <;> by_cases h4 : a4 = b4 <;> simp [h1, h2, h3, h4]
  · simp only [PyData.canLay0, PyData.canLayAll0, e.lay, e2.lay, e3.lay, e4.lay]
    rfl
  · have h1 := e.dep a.1
    have h2 := e2.dep a.2.1
    have h3 := e3.dep a.2.2.1
    have h4 := e4.dep a.2.2.2
    simp only [PyData.depth, PyData.depthAll]
    omega
theorem Enc.sh (e : Enc f d) (hd : d ≤ 64) (a : α) : SeqAt.shaped (f a) = true := by
  show (PyData.canLay0 (f a) && decide (PyData.depth (f a) ≤ 64)) = true
  rw [Bool.and_eq_true]
  exact ⟨e.lay a, decide_eq_true (Nat.le_trans (e.dep a) hd)⟩
/-- two values that are told as data by one rule -/
def rEqE {α : Type} [DecidableEq α] (K : PySem.W.Frag) (f : α → PyData) : R2 := fun x y H Q => ∃ a b : α, Dp K H x (f a) ∧ Dp K H y (f b) ∧ Q (.bl (decide (a = b))) H
def rNeE {α : Type} [DecidableEq α] (K : PySem.W.Frag) (f : α → PyData) : R2 := fun x y H Q => ∃ a b : α, Dp K H x (f a) ∧ Dp K H y (f b) ∧ Q (.bl (!decide (a = b))) H
theorem op_eqE {X : Cx} (hu : X.A.units + 64 < cLine) (e : Enc f d) (hd : d ≤ 64) : OpR X (compareOp .Eq) (rEqE X.K f) := by
  intro pins s σ H x y v u Q I rx ry h
  obtain ⟨a, b, d1, d2, q⟩ := h
  refine op_eqD hu pins s σ H _ _ v u Q I rx ry ⟨f a, f b, d1, d2, e.sh hd a, e.sh hd b, ?_⟩
  rw [e.eqv]
  exact q
theorem op_neE {X : Cx} (hu : X.A.units + 64 < cLine) (e : Enc f d) (hd : d ≤ 64) : OpR X (compareOp .NotEq) (rNeE X.K f) := by
  intro pins s σ H x y v u Q I rx ry h
  obtain ⟨a, b, d1, d2, q⟩ := h
  refine op_neD hu pins s σ H _ _ v u Q I rx ry ⟨f a, f b, d1, d2, e.sh hd a, e.sh hd b, ?_⟩
  rw [e.eqv]
  exact q
end
section
variable {X : Cx}
theorem pe_any {a : Expr} {es : List Expr} {t : TA} {p pos : Pos} (hc : X.calm = true) (hm : X.mg "any" = none) (ha : PA X (a :: es) t) (hg : Gl X "any" := by rfl) (he : starEach (a :: es) X.env = (false, eval a X.env) :: starEach es X.env := by rfl)
    (hpl : (backTo pos (starEach es X.env)).any (·.1) = false := by rfl) :
    PE X (.Call (.Name "any" p) (a :: es) [] pos) (tCB (rAny X.K) t) := pe_callB (cr_any hc) hg hm (by decide +kernel) ha (he := he) (hpl := hpl)
theorem pe_all {a : Expr} {es : List Expr} {t : TA} {p pos : Pos} (hc : X.calm = true) (hm : X.mg "all" = none) (ha : PA X (a :: es) t) (hg : Gl X "all" := by rfl) (he : starEach (a :: es) X.env = (false, eval a X.env) :: starEach es X.env := by rfl)
    (hpl : (backTo pos (starEach es X.env)).any (·.1) = false := by rfl) :
    PE X (.Call (.Name "all" p) (a :: es) [] pos) (tCB (rAll X.K) t) := pe_callB (cr_all hc) hg hm (by decide +kernel) ha (he := he) (hpl := hpl)
end
abbrev sPhE : Stmt := sPh 1
def dPr (p : Int × Int) : PyData := .tuple [.int p.1, .int p.2]
def dSp (ps : Prs) : PyData := .tuple (ps.map dPr)
def dSps (pss : List Prs) : PyData := .tuple (pss.map dSp)
theorem enc_pr : Enc dPr 1 := enc_int.two enc_int
theorem enc_sp : Enc dSp 2 := enc_pr.tup
theorem enc_sps : Enc dSps 3 := enc_sp.tup
section
variable {K : PySem.W.Frag} {H : Hp}
theorem dpAll_prs : ∀ {ts : List V} {ps : Prs}, PrAt H ts ps → DpAll K H ts (ps.map dPr)
  | _, _, .nil => .nil
  | _, _, .cons ⟨a, e, h⟩ t => by
    subst e
    exact .cons (.tup (SqT.of h) (.cons (.int _) (.cons (.int _) .nil))) (dpAll_prs t)
theorem dp_sp {v : V} {ps : Prs} (h : SpT H v ps) : Dp K H v (dSp ps) := by
  obtain ⟨a, ts, rfl, ha, pr⟩ := h
  exact .tup (SqT.of ha) (dpAll_prs pr)
theorem dpAll_sps : ∀ {vs : List V} {pss : List Prs}, Paired (SpT H) vs pss → DpAll K H vs (pss.map dSp)
  | _, _, .nil => .nil
  | _, _, .cons h t => .cons (dp_sp h) (dpAll_sps t)
theorem dp_sps {a : Addr} {vs : List V} {pss : List Prs} (h : H a = some (.tup vs)) (p : Paired (SpT H) vs pss) : Dp K H (.ref a) (dSps pss) := .tup (SqT.of h) (dpAll_sps p)
end
/-- what more the class is known by -/
structure TxE (K : PySem.W.Frag) (C : Addr) : Prop where
  cc : PySem.W.findIn K (.ref C) "__class__" = some (some (.builtin "object.__class__"))
  gg : PySem.W.specialIn K (.builtin "object.__class__") "__get__" = some (some (.builtin "getset_descriptor.__get__"))
  tk : PySem.W.takesIn K (.builtin "object.__class__") = some true
  mr : PySem.W.mroIn K C (.type "object") = some true
  kL : PySem.W.kitOne K (.type "list") (.ref C) = some false
theorem IsPh.ty {K : PySem.W.Frag} {C : Addr} {H : Hp} {p : Addr} {n : Int} {pss : List Prs} (T : TxP K C) (E : TxE K C) (q : IsPh C H p n pss) : TyX K H (.ref p) (.ref C) :=
  let ⟨_, _, _, _, h1, _⟩ := q
  .base (.ins h1 T.cl E.cc E.gg E.tk E.mr)
/-- one == other -/
def spEq (C : Addr) : Sp := fun vs H Q _ => ∃ (p : Addr) (y : V) (n : Int) (pss : List Prs), vs = [.ref p, y] ∧ IsPh C H p n pss ∧
  ((∃ (q : Addr) (n2 : Int) (pss2 : List Prs), y = .ref q ∧ IsPh C H q n2 pss2 ∧ Q (.bl (decide (n = n2) && decide (pss = pss2))) H) ∨ (∃ t xs, y = .ref t ∧ H t = some (.lst xs) ∧ Q (.bl false) H))
/-- a comprehension whose i-th item is f i, whatever is made new -/
theorem lcM {J : It} {n : Nat} {G : Hp → Prop} {Y : Nat → Hp → V → Hp → Prop} (wk : Walk J n G Y) {g : TG} {te : TE} {vs : List Nat} {σ : St} {H1 : Hp} {D : Addr} {Qd : Hp → Prop} (f : Nat → V) (hb : n ≤ 10000) (nD : H1 D = none) (hG : ∀ H', Same H1 H' → G H')
    (hs : ∀ (i : Nat) (x : V) (H2 H3 : Hp) (N : VK), i < n → Same H1 H2 → Y i H2 x H3 → (∀ H4, Same H2 H4 → N (f i) H4) → g x (wipe σ vs) H3 fun σ2 H4 => wipe σ2 vs = wipe σ vs ∧ te σ2 H4 N)
    (hd : ∀ H', Same H1 H' → H' D = some (.lst ((List.range n).map f)) → Qd H') :
    ∃ W : Nat → Nat → Hp → Prop, (∃ m, W 0 m (upd H1 D (.lst []))) ∧ ∀ i m H, W i m H →
      (J.stop i H ∧ Qd H) ∨ (J.go i H ∧ ∃ Nx : Hp → Prop, (∀ H', Nx H' → ∃ m', m' < m ∧ W (i + 1) m' H') ∧ ∀ x H', J.yld i H x H' → g x (wipe σ vs) H' fun σ2 H2 => wipe σ2 vs = wipe σ vs ∧ tYes σ2 H2 fun b H3 =>
        if b = true then te σ2 H3 fun y H4 => ∃ acc, H4 D = some (.lst acc) ∧ acc.length < sizeLine ∧ Nx (upd H4 D (.lst (acc ++ [y]))) else Nx H3) := by
  refine lc_it wk (fun i H' => Same H1 H' ∧ H' D = some (.lst ((List.range i).map f))) ⟨same_new nD, upd_same⟩ (fun i H' _ z => hG H' z.1) ?_ (fun H' z => hd H' z.1 z.2)
  rintro i x H H' hi ⟨e1, hD⟩ y
  refine hs i x H H' _ hi e1 y fun H4 e4 => ⟨_, e4 _ _ hD, ?_, fun b o z => ?_, ?_⟩
  · rw [List.length_map, List.length_range]
    exact small10 (by omega)
  · rw [upd_ne (ne_of_none z nD)]
    exact e4 _ _ (e1 _ _ z)
  · rw [upd_same, List.range_succ, List.map_append]
    rfl
theorem map_bl (b : Nat → Bool) (n : Nat) : (List.range n).map (fun i => V.bl (b i)) = ((List.range n).map b).map V.bl := by rw [List.map_map]; rfl
theorem dec_beq (a b : Int) : (a == b) = decide (a = b) := by rw [Bool.eq_iff_iff]; simp
section
variable {P : Program} {w : World} {K : PySem.W.Frag} {mg : Str → Option Value} {base : Heap}
theorem scPhE : FnScope ["self", "other"] ["self", "other"] (defScope sPhE) := ⟨rfl, rfl, rfl, by decide +kernel, rfl, by decide +kernel, by decide +kernel⟩
theorem ok_eq {f C : Addr} {fd : FuncData} (F : Fun K "__eq__" "Phrase.__eq__" sPhE f fd) (B : Bi mg) (T : TxP K C) (TE : TxE K C) (gC : mg "Phrase" = some (.ref C)) : FnOk P w K mg base CX0 1 f fd ["self", "other"] (spEq C) := by
  refine F.ok scPhE (fun vs H Q E h => ?_) (fun cdv A outer s H vs Q E hr h => ?_)
  · obtain ⟨p, y, n, pss, rfl, _⟩ := h
    rfl
  · obtain ⟨p, y, n, pss, rfl, M, h⟩ := h
    refine ⟨_, pss_one (ps_ret (pe_and (pe_isi B.isi (pa_cons (pv 1) (pa_cons (pe_glob (v := .ref C) rfl gC rfl) pa_nil))) (pe_and (pe_cmpR op_eq (pe_fld (pv 0) rfl) (pe_fld (pv 1) rfl) (nomark _)) (pe_one (pe_cmpR (op_eqE (hu64 hr) enc_sps (by decide)) (pe_fld (pv 0) rfl) (pe_fld (pv 1) rfl) (nomark _)))))), ?_⟩
    obtain ⟨dx, s1, m1, vs1, h1, h2, h3, h4⟩ := id M
    rcases h with ⟨q, n2, pss2, rfl, M2, h⟩ | ⟨t2, xs, rfl, ht, h⟩
    · obtain ⟨dx2, s2, m2, vs2, g1, g2, g3, g4⟩ := id M2
      refine ⟨_, rfl, _, _, _, _, _, rfl, .own C, M2.ty T TE, kit_self, _, rfl, ?_⟩
      refine ⟨_, rfl, p, C, dx, _, _, rfl, h1, T.cl, T.s, ph_signs _ _ _ _, _, rfl, q, C, dx2, _, _, rfl, g1, T.cl, T.s, ph_signs _ _ _ _, rfl, _, rfl, ?_⟩
      rw [dec_int, dec_beq]
      by_cases e1 : n = n2
      · rw [decide_eq_true e1] at h ⊢
        rw [Bool.true_and] at h
        exact ⟨_, rfl, p, C, dx, _, _, rfl, h1, T.cl, T.p, ph_spots _ _ _ _, _, rfl, q, C, dx2, _, _, rfl, g1, T.cl, T.p, ph_spots _ _ _ _, _, _, dp_sps h2 h3, dp_sps g2 g3, h⟩
      · rw [decide_eq_false e1] at h ⊢
        exact h
    · exact ⟨_, rfl, _, _, _, _, _, rfl, .own C, .base (.lst ht), TE.kL, _, rfl, h⟩
theorem scChP : FnScope ["phrases", "phrase"] ["phrases"] (defScope sChP) := ⟨rfl, rfl, rfl, by decide +kernel, rfl, by decide +kernel, by decide +kernel⟩
theorem ok_chP {f C CO : Addr} {fd : FuncData} (F : Fun K "check_phrases" "check_phrases" sChP f fd) (hany : mg "any" = none) (T : TxP K C) (xO : Xc P w K mg base 1 "OtherSigns" CO spX0) : FnOk P w K mg base (L2.CX P w) 3 f fd ["phrases"] (spChP C CO) := by
  refine F.okX scChP (fun vs H Q E h => ?_) (fun cdv A outer s H vs Q E hr h => ?_)
  · obtain ⟨s, ts, ps, rfl, _⟩ := h
    rfl
  · obtain ⟨s0, ts, ps, rfl, hs, pr, l0, l1, out⟩ := h
    refine ⟨_, pss_one (ps_if (pt_val (pe_any rfl hany (pa_cons (pe_lc (own := [("phrase", 1)]) rfl scChP.nd (pi_sqA (pv 0)) (blkOk_by (N := ["phrases", "phrase"]) (sc := defScope sChP) (by decide +kernel))
          (fun _ _ _ _ _ => pg_name (i := 1) scChP.nd rfl (Or.inl rfl)) (fun _ _ _ _ _ => pts_nil) (fun _ _ _ _ _ => pe_cmpR op_ne (pe_fldK K rfl (pv 1) rfl) (pe_fldK K rfl (pe_ix (ix_listK K rfl) (pv 0) pe_int (fun _ _ => rfl)) rfl) (nomark _))) pa_nil))) (pss_one (ps_raise rfl (takes_of rfl rfl rfl rfl) (pmk_x0 xO hr))) pss_nil), ?_⟩
    have lt := Paired.length pr
    obtain ⟨p0, hp0⟩ : ∃ p0, ps[0]? = some p0 := ⟨_, List.getElem?_eq_getElem l0⟩
    obtain ⟨v0, hv0, q0, rfl, M0⟩ := paired_to pr hp0
    have d0 : ps.getD 0 (0, []) = p0 := by rw [List.getD_eq_getElem?_getD, hp0]; rfl
    rw [d0] at out
    refine ⟨_, rfl, s0, ts, rfl, .inl (SqL.of hs), fun J G wk hG D nD => lcM wk (fun i => .bl (decide ((ps.getD i (0, [])).1 ≠ p0.1))) (by omega) nD (fun H' e => hG H' fun o z => e _ _ z) ?_ ?_⟩
    · rintro i x H2 H3 N hi e ⟨rfl, hx⟩ fin
      obtain ⟨p, hp, q, rfl, M⟩ := paired_get pr hx
      have di : ps.getD i (0, []) = p := by rw [List.getD_eq_getElem?_getD, hp]; rfl
      rw [di] at fin
      obtain ⟨dx, s1, m1, vs1, h1, _⟩ := M.same e
      obtain ⟨dx', s1', m1', vs1', g1, _⟩ := M0.same e
      refine ⟨rfl, ?_⟩
      refine ⟨_, rfl, q, C, dx, _, _, rfl, h1, T.cl, T.s, ph_signs _ _ _ _, _, rfl, s0, _, _, _, rfl, rfl, SqL.of (e _ _ hs), atI_nat (j := 0) hv0, q0, C, dx', _, _, rfl, g1, T.cl, T.s, ph_signs _ _ _ _, ?_⟩
      refine ⟨rfl, ?_⟩
      have f2 := fin _ (Same.refl _)
      rw [dec_int, dec_beq, ← decide_not]
      exact f2
    · intro H2 e hD
      rw [map_bl] at hD
      refine ⟨D, _, rfl, SqL.of hD, _, rfl, ?_⟩
      rcases out with ⟨all, out⟩ | ⟨⟨p, hp, ne⟩, out⟩
      · rw [show ((List.range ts.length).map fun i => decide ((ps.getD i (0, [])).1 ≠ p0.1)).any id = false by
          rw [List.any_eq_false]
          intro b hb
          obtain ⟨i, hi, rfl⟩ := List.mem_map.mp hb
          have := all (ps.getD i (0, [])) (by rw [List.getD_eq_getElem?_getD, List.getElem?_eq_getElem (by have := List.mem_range.mp hi; omega)]; exact List.getElem_mem _)
          show decide ((ps.getD i (0, [])).1 ≠ p0.1) ≠ true
          rw [decide_eq_false (fun z => z this)]
          decide]
        exact iteF (out _ e)
      · rw [show ((List.range ts.length).map fun i => decide ((ps.getD i (0, [])).1 ≠ p0.1)).any id = true by
          rw [List.any_eq_true]
          obtain ⟨i, hi⟩ := List.getElem?_of_mem hp
          refine ⟨true, List.mem_map.mpr ⟨i, List.mem_range.mpr (by have := (List.getElem?_eq_some_iff.mp hi).1; omega), ?_⟩, rfl⟩
          rw [List.getD_eq_getElem?_getD, hi]
          exact decide_eq_true ne]
        exact iteT (raise0 (K := K) fun H' e' => out H' (e.trans e'))
end
end K25
set_option Elab.async false
set_option linter.all false
set_option maxRecDepth 100001
set_option maxHeartbeats 3999999
namespace K25
open PySem L2
abbrev sFit : Stmt := sPh 2
abbrev sOver : Stmt := sPh 3
theorem bitAnd_nat (m n : Nat) : Builtin.bitAnd (m : Int) (n : Int) = ((m &&& n : Nat) : Int) := by
  unfold Builtin.bitAnd
  rw [decide_eq_true (show (0 : Int) ≤ (m : Int) by omega), decide_eq_true (show (0 : Int) ≤ (n : Int) by omega)]
  rfl
section
variable {X : Cx}
def rBit (g : Nat → Nat → Nat) : R2 := fun x y H Q => ∃ m n : Nat, x = .int (m : Nat) ∧ y = .int (n : Nat) ∧ Q (.int ((g m n : Nat) : Int)) H
theorem op_andS : OpR X (binaryOp .BitAnd) (rBit (· &&& ·)) := by
  intro pins s σ H x y v u Q I rx ry ⟨m, n, ex, ey, q⟩
  refine op_and pins s σ H x y v u Q I rx ry ⟨_, _, ex, ey, ?_⟩
  show Q (.int (Builtin.bitAnd (m : Int) (n : Int))) H
  rw [bitAnd_nat]
  exact q
end
def atP (pss : List Prs) (i : Nat) (s : Int) : Bool := hasP (pss.getD i []) s
/-- fits_row(row), of a row of signs -/
def spFit (C : Addr) : Sp := fun vs H Q _ => ∃ (p s : Addr) (n : Int) (pss : List Prs) (xs : List Int), vs = [.ref p, .ref s] ∧ IsPh C H p n pss ∧ PhOk n pss ∧ H s = some (.lst (xs.map V.int)) ∧ xs.length ≤ 1000 ∧ (∀ x ∈ xs, 0 ≤ x ∧ x ≤ n - 1) ∧
  ∀ H', Same H H' → Q (.bl (decide (xs.length = pss.length) && (List.range xs.length).all fun i => atP pss i (xs.getD i 0))) H'
/-- the bit of a mask -/
theorem bit_mask {n : Int} {ps : Prs} (h : rok n 0 ps) (x : Nat) : ((((mN ps : Nat) : Int) / 2 ^ x)) = ((mN ps / 2 ^ x : Nat) : Int) := by
  rw [Int.natCast_ediv, PySem.W.kbt_cast]
theorem bit_and {n : Int} {ps : Prs} (h : rok n 0 ps) (x : Nat) : (mN ps / 2 ^ x &&& 1) = if hasP ps (x : Nat) then 1 else 0 := by
  rw [← mN_bit (Int.le_refl 0) h x, Nat.testBit_eq_decide_div_mod_eq, Nat.and_one_is_mod]
  by_cases c : mN ps / 2 ^ x % 2 = 1
  · rw [decide_eq_true c, c]; rfl
  · rw [decide_eq_false c]
    show _ = 0
    omega
section
variable {P : Program} {w : World} {K : PySem.W.Frag} {mg : Str → Option Value} {base : Heap}
abbrev NFi : List Str := ["self", "row", "sign", "place"]
theorem scFit : FnScope NFi ["self", "row"] (defScope sFit) := ⟨rfl, rfl, rfl, by decide +kernel, rfl, by decide +kernel, by decide +kernel⟩
theorem ok_fit {f C : Addr} {fd : FuncData} (F : Fun K "fits_row" "Phrase.fits_row" sFit f fd) (B : Bi mg) (hall : mg "all" = none) (T : TxP K C) (cB : Cal CX0 P w K mg base 2 "is_between" spBetween) : FnOk P w K mg base CX0 3 f fd ["self", "row"] (spFit C) := by
  refine F.ok scFit (fun vs H Q E h => ?_) (fun cdv A outer s H vs Q E hr h => ?_)
  · obtain ⟨p, s, n, pss, xs, rfl, _⟩ := h
    rfl
  · obtain ⟨p, s0, n, pss, xs, rfl, M, O, hs, lx, hx, q⟩ := h
    refine ⟨_, pss_cons (ps_if (pt_cmpR op_ne (pe_len B.len (pa_cons (pv 1) pa_nil)) (pe_fld (pv 0) rfl) (nomark _)) (pss_one (ps_ret pe_bl)) pss_nil)
      (pss_one (ps_ret (pe_all rfl hall (pa_cons (pe_lc (own := [("place", 3), ("sign", 2)]) rfl scFit.nd (pi_en B.enum (pa_cons (pv 1) pa_nil)) (blkOk_by (N := NFi) (sc := defScope sFit) (by decide +kernel))
          (fun _ _ _ _ _ => pg_pairK K rfl rfl (pg_name (i := 3) scFit.nd rfl (Or.inl rfl) (.inr rfl)) (pg_name (i := 2) scFit.nd rfl (Or.inl rfl) (.inr rfl))) (fun _ _ _ _ _ => pts_nil)
          (fun _ _ _ _ _ => pe_and (pe_c cB hr pass0 (pa_cons (pv 2) (pa_cons pe_int (pa_cons (pe_op op_sub (pe_fldK K rfl (pv 0) rfl) pe_int) pa_nil)))) (pe_one (pe_cmpR op_eq (pe_op op_andS (pe_op op_shrN (pe_ix (ix_listK K rfl) (pe_fldK K rfl (pv 0) rfl) (pv 3) (fun _ _ => rfl)) (pv 2)) pe_int) pe_int (nomark _))))) pa_nil)))), ?_⟩
    obtain ⟨dx, s1, m1, vs1, h1, h2, h3, h4⟩ := id M
    refine ⟨_, rfl, s0, _, rfl, .inl (SqL.of hs), _, rfl, p, C, dx, _, _, rfl, h1, T.cl, T.w, ph_width _ _ _ _, rfl, _, rfl, ?_⟩
    rw [List.length_map]
    by_cases c : xs.length = pss.length
    · rw [decide_eq_true (congrArg (fun z : Nat => V.int (z : Nat)) c)]
      refine iteF ?_
      rw [decide_eq_true c, Bool.true_and] at q
      refine ⟨_, rfl, s0, _, rfl, .inl (SqL.of hs), fun J G wk hG D nD => lcM wk (fun i => .bl (atP pss i (xs.getD i 0))) (by rw [List.length_map]; omega) nD (fun H' e => hG H' fun o z => e _ _ z) ?_ ?_⟩
      · rintro i x H2 H3 N hi e ⟨T0, y, v, rfl, nT0, rfl, ey, hv⟩ fin
        have ey : y = .int (i : Nat) := (Option.some.inj ey).symm
        subst ey
        rw [List.length_map] at hi
        have hv : (xs.map V.int)[i]? = some v := hv
        rw [List.getElem?_map, List.getElem?_eq_getElem hi] at hv
        have hv : v = .int xs[i] := (Option.some.inj hv).symm
        subst hv
        have e3 : Same H2 (upd H2 T0 (.tup [.int (i : Nat), .int xs[i]])) := same_new nT0
        have hT0 : upd H2 T0 (.tup [.int (i : Nat), .int xs[i]]) T0 = some (.tup [.int (i : Nat), .int xs[i]]) := upd_same
        generalize upd H2 T0 (.tup [.int (i : Nat), .int xs[i]]) = H4 at e3 hT0 ⊢
        have gx : xs.getD i 0 = xs[i] := by rw [List.getD_eq_getElem?_getD, List.getElem?_eq_getElem hi]; rfl
        obtain ⟨x0, x1⟩ := hx _ (List.getElem_mem hi)
        rw [gx] at fin
        generalize xs[i] = x at x0 x1 fin hT0 ⊢
        obtain ⟨x, rfl⟩ := Int.eq_ofNat_of_zero_le x0
        have hi2 : i < pss.length := by omega
        have gp : pss.getD i [] = pss[i] := by rw [List.getD_eq_getElem?_getD, List.getElem?_eq_getElem hi2]; rfl
        have rk := (O.ok _ (List.getElem_mem hi2)).2
        have hm : (pss.map fun ps => V.int ((mN ps : Nat) : Int))[i]? = some (.int ((mN pss[i] : Nat) : Int)) := by rw [List.getElem?_map, List.getElem?_eq_getElem hi2]; rfl
        have e4 := e.trans e3
        refine ⟨T0, _, rfl, SqT.of hT0, rfl, _, _, rfl, _, _, rfl, rfl, rfl, ?_⟩
        refine ⟨_, rfl, _, rfl, p, C, dx, _, _, rfl, e4 _ _ h1, T.cl, T.s, ph_signs _ _ _ _, _, _, rfl, rfl, .int x, 0, n - 1, rfl, .int _, _, rfl, ?_⟩
        rw [show btw (.int (x : Nat)) 0 (n - 1) = true from decide_eq_true ⟨x0, x1⟩]
        refine ⟨_, rfl, p, C, dx, _, _, rfl, e4 _ _ h1, T.cl, T.m, ph_masks _ _ _ _, _, rfl, m1, _, _, _, rfl, rfl, SqL.of (e4 _ _ h4), atI_nat hm, _, rfl, _, x, rfl, rfl, mN pss[i] / 2 ^ x, 1, congrArg V.int (bit_mask rk x), rfl, rfl, ?_⟩
        show N (V.bl (decide (V.int ((mN pss[i] / 2 ^ x &&& 1 : Nat) : Int) = V.int 1))) H4
        rw [bit_and rk x]
        have f2 := fin _ e3
        unfold atP at f2
        rw [gp] at f2
        cases z : hasP pss[i] (x : Nat) with
        | true => rw [z] at f2; exact f2
        | false => rw [z] at f2; exact f2
      · intro H2 e hD
        rw [map_bl, List.length_map] at hD
        exact ⟨D, _, rfl, SqL.of hD, by
          have q2 := q _ e
          rw [List.all_map]
          exact q2⟩
    · rw [decide_eq_false (show ¬ V.int ((xs.length : Nat) : Int) = V.int ((pss.length : Nat) : Int) from fun z => c (by have := V.int.inj z; omega))]
      refine iteT ?_
      rw [decide_eq_false c, Bool.false_and] at q
      exact q _ (Same.refl _)
end
end K25
set_option Elab.async false
set_option linter.all false
set_option maxRecDepth 100001
set_option maxHeartbeats 3999999
namespace K25
open PySem L2
def meetB (ps qs : Prs) : Bool := decide (mN ps &&& mN qs ≠ 0)
def ovB (pss qss : List Prs) (o : Nat) : Bool := (List.range (min (pss.length - o) qss.length)).all fun k => meetB (pss.getD (o + k) []) (qss.getD k [])
def ovs (pss qss : List Prs) (m : Nat) : List Nat := (List.range m).filter (ovB pss qss)
/-- overlaps_at(other) -/
def spOver (C CO : Addr) : Sp := fun vs H Q E => ∃ (p q : Addr) (n n2 : Int) (pss qss : List Prs), vs = [.ref p, .ref q] ∧ IsPh C H p n pss ∧ PhOk n pss ∧ IsPh C H q n2 qss ∧ PhOk n2 qss ∧
  ((n ≠ n2 ∧ ∀ H', Same H H' → E (.ref CO) none H') ∨ (n = n2 ∧ ∀ t H', Same H H' → H' t = some (.tup ((ovs pss qss pss.length).map fun i : Nat => V.int (i : Nat))) → Q (.ref t) H'))
section
variable {P : Program} {w : World} {K : PySem.W.Frag} {mg : Str → Option Value} {base : Heap}
abbrev NOv : List Str := ["self", "other", "told", "offset", "behind", "mask", "against"]
theorem scOver : FnScope NOv ["self", "other"] (defScope sOver) := ⟨rfl, rfl, rfl, by decide +kernel, rfl, by decide +kernel, by decide +kernel⟩
theorem ok_over {f C CO : Addr} {fd : FuncData} (F : Fun K "overlaps_at" "Phrase.overlaps_at" sOver f fd) (B : Bi mg) (hall : mg "all" = none) (hzip : mg "zip" = none) (T : TxP K C) (cP : Cal (L2.CX P w) P w K mg base 3 "check_phrases" (spChP C CO)) : FnOk P w K mg base (L2.CX P w) 4 f fd ["self", "other"] (spOver C CO) := by
  refine F.okX scOver (fun vs H Q E h => ?_) (fun cdv A outer s H vs Q E hr h => ?_)
  · obtain ⟨p, q, n, n2, pss, qss, rfl, _⟩ := h
    rfl
  · obtain ⟨p, q, n, n2, pss, qss, rfl, M, O, M2, O2, out⟩ := h
    refine ⟨_, pss_cons (ps_expr (pe_c cP hr (passes_call (takes_of rfl rfl rfl rfl) fun _ _ _ _ h => h) (pa_cons (pe_lst (pa_cons (pv 0) (pa_cons (pv 1) pa_nil))) pa_nil)))
      (pss_cons (ps_set (i := 2) scOver.nd rfl (Or.inl rfl) (pe_lst pa_nil))
      (pss_cons (ps_for (passes_of rfl) rfl (pi_range1 rfl B.range (pa_cons (pe_fld (pv 0) rfl) pa_nil)) (pg_name (i := 3) scOver.nd rfl (.inl rfl))
        (pss_cons (ps_set (i := 4) scOver.nd rfl (Or.inl rfl) (pe_slice sl_list (pe_fld (pv 0) rfl) (po_some (pv 3)) po_none))
        (pss_one (ps_if (pt_val (pe_all rfl hall (pa_cons (pe_lc (own := [("mask", 5), ("against", 6)]) rfl scOver.nd (pi_zip rfl hzip (pa_cons (pv 4) (pa_cons (pe_fld (pv 1) rfl) pa_nil))) (blkOk_by (N := NOv) (sc := defScope sOver) (by decide +kernel))
            (fun _ _ _ _ _ => pg_pairK K rfl rfl (pg_name (i := 5) scOver.nd rfl (Or.inl rfl) (.inr rfl)) (pg_name (i := 6) scOver.nd rfl (Or.inl rfl) (.inr rfl))) (fun _ _ _ _ _ => pts_nil) (fun _ _ _ _ _ => pe_cmpR op_ne (pe_op op_andS (pv 5) (pv 6)) pe_int (nomark _))) pa_nil)))
          (pss_one (ps_expr (pe_bm PySem.F.plainAttrs_list PySem.F.slot_list_append PySem.F.type_list_append mt_append (pv 2) (pa_cons (pv 3) pa_nil)))) pss_nil))))
      (pss_one (ps_ret (pe_tupleOf rfl B.tuple (pv 2)))))), ?_⟩
    refine ⟨_, rfl, _, rfl, by show 2 ≤ sizeLine; decide, fun a0 n0 => ?_⟩
    have e0 := same_new (o := .lst [.ref p, .ref q]) n0
    have h0 : upd H a0 (.lst [.ref p, .ref q]) a0 = some (.lst [.ref p, .ref q]) := upd_same
    generalize upd H a0 (.lst [.ref p, .ref q]) = H0 at e0 h0 ⊢
    refine ⟨a0, _, [(n, pss), (n2, qss)], rfl, h0, .cons ⟨p, rfl, M.same e0⟩ (.cons ⟨q, rfl, M2.same e0⟩ .nil), (by show 0 < 2; decide), (by show 2 ≤ 100; decide), ?_⟩
    rcases out with ⟨ne, out⟩ | ⟨rfl, out⟩
    · exact .inr ⟨⟨(n2, qss), by simp, fun z => ne z.symm⟩, fun H' e => out _ (e0.trans e)⟩
    refine .inl ⟨fun x hx => by
      simp only [List.mem_cons, List.not_mem_nil, or_false] at hx
      rcases hx with rfl | rfl <;> rfl, fun H1 e1 => ?_⟩
    have e01 := e0.trans e1
    have Mp := M.same e01
    have Mq := M2.same e01
    obtain ⟨dx, s1, m1, vs1, h1, h2, h3, h4⟩ := Mp
    obtain ⟨dx2, s2, m2, vs2, g1, g2, g3, g4⟩ := Mq
    refine ⟨by show 0 ≤ sizeLine; decide, fun L nL => ?_⟩
    have e2 := same_new (o := .lst []) nL
    have hL2 : upd H1 L (.lst []) L = some (.lst []) := upd_same
    have nLo : ∀ b o, H1 b = some o → b ≠ L := fun b o z => ne_of_none z nL
    generalize upd H1 L (.lst []) = H2 at e2 hL2 ⊢
    refine ⟨_, rfl, p, C, dx, _, _, rfl, e2 _ _ h1, T.cl, T.w, ph_width _ _ _ _, _, rfl, by omega, by have := O.l2; omega, for_range (lo := 0) (n := ((pss.length : Nat) : Int).toNat) (fun i σ H' => ∃ (x3 x4 : Option V), σ = [some (.ref p), some (.ref q), some (.ref L), x3, x4, none, none] ∧ Same H1 H' ∧ H' L = some (.lst ((ovs pss qss i).map fun i : Nat => V.int (i : Nat))))
      ⟨none, none, rfl, e2, hL2⟩ ?_ ?_⟩
    · rintro i σ H3 hi ⟨x3, x4, rfl, e3, hL3⟩
      simp only [tNoPart]
      have hi : i < pss.length := by omega
      have l2 := O.l2
      have l3 := O2.l2
      have i0 : (0 : Int) + (i : Nat) = (i : Nat) := by omega
      rw [i0]
      refine ⟨_, rfl, p, C, dx, _, _, rfl, e3 _ _ h1, T.cl, T.m, ph_masks _ _ _ _, _, rfl, _, rfl, m1, _, rfl, SqL.of (e3 _ _ h4), fun b nb => ?_⟩
      have ec : cutV (pss.map fun ps => V.int ((mN ps : Nat) : Int)) (some (i : Nat)) none = (pss.drop i).map fun ps => V.int ((mN ps : Nat) : Int) := by
        unfold cutV
        rw [HT.sIx_nat, HT.sIx_none, List.length_map, Nat.min_eq_left (by omega), ← List.map_drop, List.take_of_length_le (by rw [List.length_map, List.length_drop]; exact Nat.le_refl _)]
      rw [ec]
      have e4 := same_new (o := .lst ((pss.drop i).map fun ps => V.int ((mN ps : Nat) : Int))) nb
      have hb : upd H3 b (.lst ((pss.drop i).map fun ps => V.int ((mN ps : Nat) : Int))) b = some (.lst ((pss.drop i).map fun ps => V.int ((mN ps : Nat) : Int))) := upd_same
      generalize upd H3 b (.lst ((pss.drop i).map fun ps => V.int ((mN ps : Nat) : Int))) = H4 at e4 hb ⊢
      have e34 := e3.trans e4
      refine ⟨_, rfl, _, rfl, q, C, dx2, _, _, rfl, e34 _ _ g1, T.cl, T.m, ph_masks _ _ _ _, b, m2, _, _, rfl, SqL.of hb, SqL.of (e34 _ _ g4), fun D nD => ?_⟩
      have ln : min (((pss.drop i).map fun ps => V.int ((mN ps : Nat) : Int)).length) ((qss.map fun ps => V.int ((mN ps : Nat) : Int)).length) = min (pss.length - i) qss.length := by rw [List.length_map, List.length_map, List.length_drop]
      refine lcM (walk_zip ln.symm) (fun k => .bl (meetB (pss.getD (i + k) []) (qss.getD k []))) (by omega) nD (fun H' e => ⟨SqL.of (e _ _ hb), SqL.of (e _ _ (e34 _ _ g4))⟩) ?_ ?_
      · rintro k x H5 H6 N hk e ⟨T0, y, v, rfl, nT0, rfl, ey, hv⟩ fin
        have k1 : i + k < pss.length := by omega
        have k2 : k < qss.length := by omega
        have ey : ((pss.drop i).map fun ps => V.int ((mN ps : Nat) : Int))[k]? = some y := ey
        have hv : (qss.map fun ps => V.int ((mN ps : Nat) : Int))[k]? = some v := hv
        rw [List.getElem?_map, List.getElem?_drop, List.getElem?_eq_getElem k1] at ey
        rw [List.getElem?_map, List.getElem?_eq_getElem k2] at hv
        have ey : y = .int ((mN pss[i + k] : Nat) : Int) := (Option.some.inj ey).symm
        have hv : v = .int ((mN qss[k] : Nat) : Int) := (Option.some.inj hv).symm
        subst ey hv
        have gp : pss.getD (i + k) [] = pss[i + k] := by rw [List.getD_eq_getElem?_getD, List.getElem?_eq_getElem k1]; rfl
        have gq : qss.getD k [] = qss[k] := by rw [List.getD_eq_getElem?_getD, List.getElem?_eq_getElem k2]; rfl
        have f2 := fin _ (same_new (o := .tup [.int ((mN pss[i + k] : Nat) : Int), .int ((mN qss[k] : Nat) : Int)]) nT0)
        rw [gp, gq] at f2
        refine ⟨T0, _, rfl, SqT.of upd_same, rfl, _, _, rfl, _, _, rfl, rfl, rfl, ?_⟩
        refine ⟨_, rfl, _, rfl, mN pss[i + k], mN qss[k], rfl, rfl, rfl, ?_⟩
        have eb : (!decide (V.int ((mN pss[i + k] &&& mN qss[k] : Nat) : Int) = V.int 0)) = meetB pss[i + k] qss[k] := by
          unfold meetB
          rw [dec_int, dec_beq, ← decide_not]
          exact decide_eq_decide.mpr (by omega)
        show N (V.bl (!decide (V.int ((mN pss[i + k] &&& mN qss[k] : Nat) : Int) = V.int 0))) _
        rw [eb]
        exact f2
      · intro H5 e5 hD
        rw [map_bl] at hD
        have e35 := e34.trans e5
        have hL5 := e5 _ _ (e4 _ _ hL3)
        have os : ovs pss qss (i + 1) = ovs pss qss i ++ [i].filter (ovB pss qss) := by
          unfold ovs
          rw [List.range_succ, List.filter_append]
        have eo : ((List.range (min (pss.length - i) qss.length)).map fun k => meetB (pss.getD (i + k) []) (qss.getD k [])).all id = ovB pss qss i := by
          rw [List.all_map]
          rfl
        refine ⟨D, _, rfl, SqL.of hD, _, rfl, ?_⟩
        rw [eo]
        have lo : ((ovs pss qss i).map fun i : Nat => V.int (i : Nat)).length ≤ 10000 := by
          rw [List.length_map]
          have := List.length_filter_le (ovB pss qss) (List.range i)
          rw [List.length_range] at this
          unfold ovs
          omega
        cases c : ovB pss qss i with
        | true =>
          refine iteT ⟨_, rfl, .inl ⟨rfl, _, SqL.of hL5⟩, _, rfl, L, _, _, rfl, rfl, hL5, small10 lo, _, _, rfl, fun b o z => ?_, ?_⟩
          · rw [upd_ne (nLo b o z)]
            exact e35 _ _ z
          · rw [upd_same, os, List.filter_cons_of_pos c, List.map_append]
            rfl
        | false =>
          refine iteF ⟨_, _, rfl, e35, ?_⟩
          rw [os, List.filter_cons_of_neg (by rw [c]; decide), List.filter_nil, List.append_nil]
          exact hL5
    · rintro σ H3 ⟨x3, x4, rfl, e3, hL3⟩
      rw [Int.toNat_natCast] at hL3
      exact ⟨_, rfl, .inl ⟨L, _, rfl, SqL.of hL3, fun t nt => out t _ ((e01.trans e3).trans (same_new nt)) upd_same⟩⟩
end
end K25
set_option Elab.async false
set_option linter.all false
set_option maxRecDepth 100001
set_option maxHeartbeats 3999999
namespace K25
open PySem L2
def kvO (as : List Addr) (gs : List (Nat × List Int)) : List (Key × V) := List.zipWith (fun a g => ((.inl ((g.1 : Nat) : Int) : Key), V.ref a)) as gs
theorem valV_cons {k j : Key} {v : V} {r : List (Key × V)} : valV ((k, v) :: r) j = if k = j then some v else valV r j := by
  by_cases c : k = j
  · subst c
    rw [if_pos rfl]
    exact valV_eq
  · rw [if_neg c]
    exact valV_ne c
theorem kvO_new {F : Addr → Nat × List Int → Prop} {k : Nat} : ∀ {gs : List (Nat × List Int)} {as : List Addr}, Paired F as gs → (∀ g ∈ gs, g.1 ≠ k) → valV (kvO as gs) (.inl ((k : Nat) : Int)) = none
  | [], _, .nil, _ => rfl
  | g :: r, a :: as, .cons _ t, h => by
    show valV ((.inl ((g.1 : Nat) : Int), .ref a) :: kvO as r) _ = none
    rw [valV_cons, if_neg (fun z => h g List.mem_cons_self (by have := Sum.inl.inj z; omega))]
    exact kvO_new t fun x hx => h x (List.mem_cons_of_mem _ hx)
theorem kvO_old {F : Addr → Nat × List Int → Prop} {k : Nat} {g : Nat × List Int} {a : Addr} {g2 : List (Nat × List Int)} {a2 : List Addr} (hk : g.1 = k) : ∀ {g1 : List (Nat × List Int)} {a1 : List Addr}, Paired F a1 g1 → (∀ g ∈ g1, g.1 ≠ k) → valV (kvO (a1 ++ a :: a2) (g1 ++ g :: g2)) (.inl ((k : Nat) : Int)) = some (.ref a)
  | [], _, .nil, _ => by
    show valV ((.inl ((g.1 : Nat) : Int), .ref a) :: kvO a2 g2) _ = _
    rw [valV_cons, if_pos (by rw [hk])]
  | x :: r, b :: as, .cons _ t, h => by
    show valV ((.inl ((x.1 : Nat) : Int), .ref b) :: kvO (as ++ a :: a2) (r ++ g :: g2)) _ = _
    rw [valV_cons, if_neg (fun z => h x List.mem_cons_self (by have := Sum.inl.inj z; omega))]
    exact kvO_old hk t fun x hx => h x (List.mem_cons_of_mem _ hx)
theorem kvO_snoc {F : Addr → Nat × List Int → Prop} {g : Nat × List Int} {a : Addr} : ∀ {gs : List (Nat × List Int)} {as : List Addr}, Paired F as gs → kvO (as ++ [a]) (gs ++ [g]) = kvO as gs ++ [(.inl ((g.1 : Nat) : Int), .ref a)]
  | [], _, .nil => rfl
  | x :: r, b :: as, .cons _ t => by
    show (_ :: kvO (as ++ [a]) (r ++ [g])) = _
    rw [kvO_snoc t]
    rfl
theorem kvO_put {F : Addr → Nat × List Int → Prop} {g : Nat × List Int} {l : List Int} {a : Addr} {g2 : List (Nat × List Int)} {a2 : List Addr} : ∀ {g1 : List (Nat × List Int)} {a1 : List Addr}, Paired F a1 g1 → kvO (a1 ++ a :: a2) (g1 ++ (g.1, l) :: g2) = kvO (a1 ++ a :: a2) (g1 ++ g :: g2)
  | [], _, .nil => rfl
  | x :: r, b :: as, .cons _ t => by
    show (_ :: kvO (as ++ a :: a2) (r ++ (g.1, l) :: g2)) = _
    rw [kvO_put t]
    rfl
theorem kvO_len {F : Addr → Nat × List Int → Prop} : ∀ {gs : List (Nat × List Int)} {as : List Addr}, Paired F as gs → (kvO as gs).length = gs.length
  | [], _, .nil => rfl
  | x :: r, b :: as, .cons _ t => by
    show (_ :: kvO as r).length = _
    rw [List.length_cons, kvO_len t]
    rfl
theorem kvO_at {F : Addr → Nat × List Int → Prop} : ∀ {gs : List (Nat × List Int)} {as : List Addr} {i : Nat} {k : Key} {v : V}, Paired F as gs → (kvO as gs)[i]? = some (k, v) → ∃ a g, as[i]? = some a ∧ gs[i]? = some g ∧ v = .ref a ∧ F a g
  | [], _, _, _, _, .nil, h => by simp [kvO] at h
  | x :: r, b :: as, 0, k, v, .cons f t, h => by
    cases h
    exact ⟨b, x, rfl, rfl, rfl, f⟩
  | x :: r, b :: as, i + 1, k, v, .cons f t, h => kvO_at (i := i) t (by simpa [kvO] using h)
theorem paired_split {α β : Type} {F : α → β → Prop} {g : β} {g2 : List β} : ∀ {g1 : List β} {as : List α}, Paired F as (g1 ++ g :: g2) → ∃ a1 a a2, as = a1 ++ a :: a2 ∧ Paired F a1 g1 ∧ F a g ∧ Paired F a2 g2
  | [], _, .cons f t => ⟨[], _, _, rfl, .nil, f, t⟩
  | _ :: _, _, .cons f t =>
    let ⟨a1, a, a2, e, h1, h2, h3⟩ := paired_split t
    ⟨_ :: a1, a, a2, by rw [e]; rfl, .cons f h1, h2, h3⟩
theorem paired_app {α β : Type} {F : α → β → Prop} {a : α} {g : β} {a2 : List α} {g2 : List β} (f : F a g) (t2 : Paired F a2 g2) : ∀ {g1 : List β} {a1 : List α}, Paired F a1 g1 → Paired F (a1 ++ a :: a2) (g1 ++ g :: g2)
  | [], _, .nil => .cons f t2
  | _ :: _, _, .cons x t => .cons x (paired_app f t2 t)
theorem paired_in {α β : Type} {F G : α → β → Prop} : ∀ {as : List α} {gs : List β}, Paired F as gs → (∀ a ∈ as, ∀ g, F a g → G a g) → Paired G as gs
  | _, _, .nil, _ => .nil
  | _, _, .cons f t, h => .cons (h _ List.mem_cons_self _ f) (paired_in t fun a ha => h a (List.mem_cons_of_mem _ ha))
theorem sum_cast : ∀ xs : List Nat, (xs.map fun x : Nat => ((x : Nat) : Int)).sum = ((xs.sum : Nat) : Int)
  | [] => rfl
  | x :: xs => by rw [List.map_cons, List.sum_cons, List.sum_cons, sum_cast xs, Int.natCast_add]
theorem and_bit (m x : Nat) : (m / 2 ^ x &&& 1) = if m.testBit x then 1 else 0 := by
  rw [Nat.testBit_eq_decide_div_mod_eq, Nat.and_one_is_mod]
  by_cases c : m / 2 ^ x % 2 = 1
  · rw [decide_eq_true c, c]; rfl
  · rw [decide_eq_false c]
    show _ = 0
    omega
theorem div_cast (m x : Nat) : ((((m : Nat) : Int) / 2 ^ x)) = ((m / 2 ^ x : Nat) : Int) := by
  rw [Int.natCast_ediv, PySem.W.kbt_cast]
end K25
set_option Elab.async false
set_option linter.all false
set_option maxRecDepth 100001
set_option maxHeartbeats 3999999
namespace K25
open PySem L2
abbrev sCls : Stmt := topS 29
/-! ### groups -/
section
variable {κ : Type} [DecidableEq κ]
def grp : List (κ × List Int) → κ → Int → List (κ × List Int)
  | [], k, s => [(k, [s])]
  | g :: r, k, s => if g.1 = k then (g.1, g.2 ++ [s]) :: r else g :: grp r k s
theorem grp_new {k : κ} {s : Int} : ∀ {gs : List (κ × List Int)}, (∀ g ∈ gs, g.1 ≠ k) → grp gs k s = gs ++ [(k, [s])]
  | [], _ => rfl
  | g :: r, h => by
    rw [grp, if_neg (h g List.mem_cons_self), grp_new fun x hx => h x (List.mem_cons_of_mem _ hx)]
    rfl
theorem grp_old {k : κ} {s : Int} {g : κ × List Int} {r : List (κ × List Int)} (hg : g.1 = k) : ∀ {gs : List (κ × List Int)}, (∀ g ∈ gs, g.1 ≠ k) → grp (gs ++ g :: r) k s = gs ++ (g.1, g.2 ++ [s]) :: r
  | [], _ => by show grp (g :: r) k s = _; rw [grp, if_pos hg]; rfl
  | x :: gs, h => by
    show grp (x :: (gs ++ g :: r)) k s = _
    rw [grp, if_neg (h x List.mem_cons_self), grp_old hg fun y hy => h y (List.mem_cons_of_mem _ hy)]
    rfl
/-- the numbers below n by their keys, keys as they come -/
def grps (key : Nat → κ) : Nat → List (κ × List Int)
  | 0 => []
  | n + 1 => grp (grps key n) (key n) (n : Nat)
theorem grp_split (k : κ) : ∀ gs : List (κ × List Int), (∀ g ∈ gs, g.1 ≠ k) ∨ ∃ a g b, gs = a ++ g :: b ∧ g.1 = k ∧ ∀ x ∈ a, x.1 ≠ k
  | [] => .inl fun g h => nomatch h
  | g :: r => by
    by_cases c : g.1 = k
    · exact .inr ⟨[], g, r, rfl, c, fun x h => nomatch h⟩
    · rcases grp_split k r with h | ⟨a, x, b, e, h1, h2⟩
      · refine .inl fun y hy => ?_
        rcases List.mem_cons.mp hy with rfl | hy
        · exact c
        · exact h y hy
      · refine .inr ⟨g :: a, x, b, by rw [e]; rfl, h1, fun y hy => ?_⟩
        rcases List.mem_cons.mp hy with rfl | hy
        · exact c
        · exact h2 y hy
theorem grps_key (key : Nat → κ) : ∀ n, ∀ g ∈ grps key n, ∃ r, r < n ∧ g.1 = key r
  | 0, g, h => nomatch h
  | n + 1, g, h => by
    rcases grp_split (key n) (grps key n) with hn | ⟨a, x, b, e, h1, h2⟩
    · rw [grps, grp_new hn] at h
      rcases List.mem_append.mp h with h | h
      · obtain ⟨r, hr, z⟩ := grps_key key n g h
        exact ⟨r, by omega, z⟩
      · rw [List.mem_singleton.mp h]
        exact ⟨n, by omega, rfl⟩
    · rw [grps, e, grp_old h1 h2] at h
      have key0 : ∀ y ∈ grps key n, ∃ r, r < n + 1 ∧ y.1 = key r := fun y hy => by
        obtain ⟨r, hr, z⟩ := grps_key key n y hy
        exact ⟨r, by omega, z⟩
      rcases List.mem_append.mp h with h | h
      · exact key0 g (by rw [e]; exact List.mem_append_left _ h)
      · rcases List.mem_cons.mp h with rfl | h
        · exact key0 x (by rw [e]; exact List.mem_append_right _ List.mem_cons_self)
        · exact key0 g (by rw [e]; exact List.mem_append_right _ (List.mem_cons_of_mem _ h))
theorem grps_len (key : Nat → κ) : ∀ n, (grps key n).length ≤ n
  | 0 => Nat.le_refl _
  | n + 1 => by
    have ih := grps_len key n
    rcases grp_split (key n) (grps key n) with hn | ⟨a, x, b, e, h1, h2⟩
    · rw [grps, grp_new hn, List.length_append]
      simp
      omega
    · rw [grps, e, grp_old h1 h2]
      rw [e] at ih
      simp at ih ⊢
      omega
theorem grps_each (key : Nat → κ) : ∀ n, ∀ g ∈ grps key n, g.2.length ≤ n
  | 0, g, h => nomatch h
  | n + 1, g, h => by
    rcases grp_split (key n) (grps key n) with hn | ⟨a, x, b, e, h1, h2⟩
    · rw [grps, grp_new hn] at h
      rcases List.mem_append.mp h with h | h
      · have := grps_each key n g h
        omega
      · rw [List.mem_singleton.mp h]
        simp
    · rw [grps, e, grp_old h1 h2] at h
      have k0 : ∀ y ∈ grps key n, y.2.length ≤ n := grps_each key n
      rcases List.mem_append.mp h with h | h
      · have := k0 g (by rw [e]; exact List.mem_append_left _ h)
        omega
      · rcases List.mem_cons.mp h with rfl | h
        · have := k0 x (by rw [e]; exact List.mem_append_right _ List.mem_cons_self)
          rw [List.length_append]
          simp
          omega
        · have := k0 g (by rw [e]; exact List.mem_append_right _ (List.mem_cons_of_mem _ h))
          omega
end
/-- the masks of some phrases -/
def msOf (ps : List (Int × List Prs)) : List Nat := ps.flatMap fun p => p.2.map mN
/-- the key that a sign has -/
def keyN (ms : List Nat) (s : Nat) : Nat := ((List.range ms.length).map fun i => if (ms.getD i 0).testBit s then 2 ^ i else 0).sum
/-- classes_of(phrases) -/
def spCls (C CO : Addr) : Sp := fun vs H Q E => ∃ (s : Addr) (ts : List V) (ps : List (Int × List Prs)), vs = [.ref s] ∧ H s = some (.lst ts) ∧ Paired (fun v p => Ph C H v p.1 p.2 ∧ PhOk p.1 p.2) ts ps ∧ 0 < ps.length ∧ ps.length ≤ 10 ∧
  (((∃ p ∈ ps, p.1 ≠ (ps.getD 0 (0, [])).1) ∧ ∀ H', Same H H' → E (.ref CO) none H') ∨
   (∃ n : Nat, (∀ p ∈ ps, p.1 = (n : Nat)) ∧ ∀ t H' vs, Same H H' → H' t = some (.tup vs) → Paired (SpT H') vs ((grps (keyN (msOf ps)) n).map fun g => rngs g.2) → Q (.ref t) H'))
theorem pi_sqAK {X : Cx} (K : PySem.W.Frag) (hK : X.K = K) {tg e : Expr} {te : TE} (he : PE X e te) : PI X tg e (iSqA K te) := by
  subst hK
  exact pi_sqA he
theorem pe_tupleOfK {X : Cx} (K : PySem.W.Frag) (hK : X.K = K) {a : Expr} {ta : TE} {p pos : Pos} (hg : Gl X "tuple") (hm : X.mg "tuple" = none) (ha : PE X a ta) (na : starEach [a] X.env = (false, eval a X.env) :: starEach [] X.env := by rfl) :
    PE X (.Call (.Name "tuple" p) [a] [] pos) (tThen ta (kTup K)) := by
  subst hK
  exact pe_tupleOf hg hm ha na
/-- an inner turn of a comprehension -/
theorem in_it {J : It} {n : Nat} {G : Hp → Prop} {Y : Nat → Hp → V → Hp → Prop} (w : Walk J n G Y) {H0 : Hp} {Qd : Hp → Prop} (P1 : Nat → Hp → Prop) (h0 : P1 0 H0) (hG : ∀ j H, j ≤ n → P1 j H → G H) {Step : V → Hp → (Hp → Prop) → Prop}
    (hs : ∀ j x H H', j < n → P1 j H → Y j H x H' → Step x H' (P1 (j + 1))) (hd : ∀ H, P1 n H → Qd H) :
    ∃ W1 : Nat → Nat → Hp → Prop, (∃ m, W1 0 m H0) ∧ ∀ j k H, W1 j k H → (J.stop j H ∧ Qd H) ∨ (J.go j H ∧ ∃ Nx1 : Hp → Prop, (∀ H', Nx1 H' → ∃ k', k' < k ∧ W1 (j + 1) k' H') ∧ ∀ x H', J.yld j H x H' → Step x H' Nx1) := by
  refine ⟨fun i m H => m = n - i ∧ i ≤ n ∧ P1 i H, ⟨n, by simp, Nat.zero_le _, h0⟩, ?_⟩
  rintro i m H ⟨rfl, hi, p⟩
  have q := hG i H hi p
  by_cases hlt : i < n
  · exact .inr ⟨w.goes i H hlt q, P1 (i + 1), fun H' p' => ⟨n - (i + 1), by omega, rfl, hlt, p'⟩, fun x H' y => hs i x H H' hlt p (w.yields i H x H' hlt q y)⟩
  · have e : i = n := by omega
    subst e
    exact .inl ⟨w.stops H q, hd H p⟩
/-- a comprehension over two -/
theorem lc2W {J : It} {n : Nat} {G : Hp → Prop} {Y : Nat → Hp → V → Hp → Prop} (wk : Walk J n G Y) {g g1 : TG} {wi1 : TI} {te : TE} {vs vs1 : List Nat} {σ : St} {H1 : Hp} {D : Addr} {Qd : Hp → Prop} (Pv : Nat → Hp → Prop) (h0 : Pv 0 (upd H1 D (.lst []))) (hG : ∀ i H, i ≤ n → Pv i H → G H)
    (hs : ∀ i x H H', i < n → Pv i H → Y i H x H' → g x (wipe σ vs) H' fun σ2 H2 => wipe σ2 vs = wipe σ vs ∧ wi1 σ2 H2 fun J1 H4 => ∃ W1 : Nat → Nat → Hp → Prop, (∃ m, W1 0 m H4) ∧ ∀ j k H, W1 j k H →
      (J1.stop j H ∧ Pv (i + 1) H) ∨ (J1.go j H ∧ ∃ Nx1 : Hp → Prop, (∀ H', Nx1 H' → ∃ k', k' < k ∧ W1 (j + 1) k' H') ∧ ∀ x H', J1.yld j H x H' → g1 x (wipe σ2 vs1) H' fun σ3 H5 => wipe σ3 vs1 = wipe σ2 vs1 ∧
        te σ3 H5 fun y H7 => ∃ acc, H7 D = some (.lst acc) ∧ acc.length < sizeLine ∧ Nx1 (upd H7 D (.lst (acc ++ [y]))))) (hd : ∀ H, Pv n H → Qd H) :
    ∃ W : Nat → Nat → Hp → Prop, (∃ m, W 0 m (upd H1 D (.lst []))) ∧ ∀ i m H, W i m H →
      (J.stop i H ∧ Qd H) ∨ (J.go i H ∧ ∃ Nx : Hp → Prop, (∀ H', Nx H' → ∃ m', m' < m ∧ W (i + 1) m' H') ∧ ∀ x H', J.yld i H x H' → g x (wipe σ vs) H' fun σ2 H2 => wipe σ2 vs = wipe σ vs ∧ tYes σ2 H2 fun b H3 =>
        if b = true then wi1 σ2 H3 fun J1 H4 => ∃ W1 : Nat → Nat → Hp → Prop, (∃ m, W1 0 m H4) ∧ ∀ j k H, W1 j k H →
          (J1.stop j H ∧ Nx H) ∨ (J1.go j H ∧ ∃ Nx1 : Hp → Prop, (∀ H', Nx1 H' → ∃ k', k' < k ∧ W1 (j + 1) k' H') ∧ ∀ x H', J1.yld j H x H' → g1 x (wipe σ2 vs1) H' fun σ3 H5 => wipe σ3 vs1 = wipe σ2 vs1 ∧ tYes σ3 H5 fun b H6 =>
            if b = true then te σ3 H6 fun y H7 => ∃ acc, H7 D = some (.lst acc) ∧ acc.length < sizeLine ∧ Nx1 (upd H7 D (.lst (acc ++ [y]))) else Nx1 H6)
        else Nx H3) := by
  refine ⟨fun i m H => m = n - i ∧ i ≤ n ∧ Pv i H, ⟨n, by simp, Nat.zero_le _, h0⟩, ?_⟩
  rintro i m H ⟨rfl, hi, p⟩
  have q := hG i H hi p
  by_cases hlt : i < n
  · refine .inr ⟨wk.goes i H hlt q, Pv (i + 1), fun H' p' => ⟨n - (i + 1), by omega, rfl, hlt, p'⟩, fun x H' y => hs i x H H' hlt p (wk.yields i H x H' hlt q y)⟩
  · have e : i = n := by omega
    subst e
    exact .inl ⟨wk.stops H q, hd H p⟩
section
variable {P : Program} {w : World} {K : PySem.W.Frag} {mg : Str → Option Value} {base : Heap}
abbrev NCl : List Str := ["phrases", "masks", "members", "sign", "phrase", "mask", "place", "signs"]
theorem scCls : FnScope NCl ["phrases"] (defScope sCls) := ⟨rfl, rfl, rfl, by decide +kernel, rfl, by decide +kernel, by decide +kernel⟩
theorem ok_cls {f C CO : Addr} {fd : FuncData} (F : Fun K "classes_of" "classes_of" sCls f fd) (B : Bi mg) (hsum : mg "sum" = none) (T : TxP K C) (cP : Cal (L2.CX P w) P w K mg base 3 "check_phrases" (spChP C CO)) (cR : Cal CX0 P w K mg base 1 "ranges_of" spRngs) : FnOk P w K mg base (L2.CX P w) 4 f fd ["phrases"] (spCls C CO) := by
  refine F.okX scCls (fun vs H Q E h => ?_) (fun cdv A outer s H vs Q E hr h => ?_)
  · obtain ⟨s, ts, ps, rfl, _⟩ := h
    rfl
  · obtain ⟨s0, ts, ps, rfl, hs, pr, l0, l1, out⟩ := h
    refine ⟨_, pss_cons (ps_expr (pe_c cP hr (passes_call (takes_of rfl rfl rfl rfl) fun _ _ _ _ h => h) (pa_cons (pv 0) pa_nil)))
      (pss_cons (ps_setLc2 (i := 1) (own := [("phrase", 4), ("mask", 5)]) (vs1 := [5]) rfl scCls.nd rfl rfl (sw_true rfl rfl rfl (by decide +kernel)) (pi_sqA (pv 0)) (blkOk_by (N := NCl) (sc := defScope sCls) (by decide +kernel)) (by decide)
          (fun _ _ _ _ _ => pg_name (i := 4) scCls.nd rfl (Or.inl rfl)) (fun _ _ _ _ _ => pts_nil) (fun _ _ _ _ _ => pi_sqAK K rfl (pe_fldK K rfl (pv 4) rfl)) (fun _ _ _ _ _ => pg_name (i := 5) scCls.nd rfl (Or.inl rfl)) (fun _ _ _ _ _ => pts_nil) (fun _ _ _ _ _ => pv 5))
      (pss_cons (ps_set (i := 2) scCls.nd rfl (Or.inl rfl) pe_dnewK)
      (pss_cons (ps_for (passes_of rfl) rfl (pi_range1 rfl B.range (pa_cons (pe_fld (pe_ix ix_list (pv 0) pe_int (fun _ _ => rfl)) rfl) pa_nil)) (pg_name (i := 3) scCls.nd rfl (.inr rfl))
        (pss_one (ps_expr (pe_bm PySem.F.plainAttrs_list PySem.F.slot_list_append PySem.F.type_list_append mt_append (pe_dsetd (pv 2) (pe_sum rfl hsum (pa_cons (pe_lc (own := [("place", 6), ("mask", 5)]) rfl scCls.nd (pi_en B.enum (pa_cons (pv 1) pa_nil)) (blkOk_by (N := NCl) (sc := defScope sCls) (by decide +kernel))
            (fun _ _ _ _ _ => pg_pairK K rfl rfl (pg_name (i := 6) scCls.nd rfl (Or.inl rfl) (.inr rfl)) (pg_name (i := 5) scCls.nd rfl (Or.inl rfl) (.inr rfl))) (fun _ _ _ _ _ => pts_nil) (fun _ _ _ _ _ => pe_op op_shlN (pe_op op_andS (pe_op op_shrN (pv 5) (pv 3)) pe_int) (pv 6))) pa_nil)) (pe_lst pa_nil) ⟨rfl, rfl, rfl, rfl⟩) (pa_cons (pv 3) pa_nil)))))
      (pss_one (ps_ret (pe_lock (pe_tupleOf rfl B.tuple (pe_lc (own := [("signs", 7)]) rfl scCls.nd (pi_values (pv 2)) (blkOk_by (N := NCl) (sc := defScope sCls) (by decide +kernel))
          (fun _ _ _ _ _ => pg_name (i := 7) scCls.nd rfl (Or.inl rfl)) (fun _ _ _ _ _ => pts_nil) (fun _ _ _ _ _ => pe_tupleOfK K rfl rfl B.tuple (pe_c cR hr pass0 (pa_cons (pv 7) pa_nil))))))))))), ?_⟩
    have lts := Paired.length pr
    refine ⟨_, rfl, s0, ts, ps, rfl, hs, Paired.mapP pr fun _ _ z => z.1, l0, by omega, ?_⟩
    rcases out with ⟨ne, out⟩ | ⟨n, all, out⟩
    · exact .inr ⟨ne, out⟩
    obtain ⟨p0, hp0⟩ : ∃ p0, ps[0]? = some p0 := ⟨_, List.getElem?_eq_getElem l0⟩
    have d0 : ps.getD 0 (0, []) = p0 := by rw [List.getD_eq_getElem?_getD, hp0]; rfl
    have n0 : p0.1 = (n : Nat) := all p0 (List.mem_of_getElem? hp0)
    refine .inl ⟨fun p hp => by rw [d0, n0, all p hp], fun H1 e1 => ?_⟩
    refine ⟨_, rfl, s0, ts, rfl, .inl (SqL.of (e1 _ _ hs)), fun J G wk hG D nD => lc2W wk (fun i H' => Same H1 H' ∧ H' D = some (.lst ((msOf (ps.take i)).map fun m : Nat => V.int (m : Nat)))) ⟨same_new nD, upd_same⟩ (fun i H' _ z => hG H' fun o w => z.1 _ _ w) ?_ ?_⟩
    · rintro i x H2 H3 hi ⟨e2, hD⟩ ⟨rfl, hx⟩
      obtain ⟨p, hp, ⟨q, rfl, M⟩, O⟩ := paired_get pr hx
      have e12 := e1.trans e2
      obtain ⟨dx, s1, m1, vs1, h1, h2, h3, h4⟩ := M.same e1
      refine ⟨rfl, ?_⟩
      refine ⟨_, rfl, q, C, dx, _, _, rfl, e2 _ _ h1, T.cl, T.m, ph_masks _ _ _ _, m1, _, rfl, .inl (SqL.of (e2 _ _ h4)), fun J1 G1 wk1 hG1 => ?_⟩
      have mD : m1 ≠ D := ne_of_none h4 nD
      have tk : msOf (ps.take (i + 1)) = msOf (ps.take i) ++ p.2.map mN := by
        unfold msOf
        rw [List.take_add_one, hp, List.flatMap_append]
        simp
      have few : (msOf (ps.take i)).length ≤ 100 := by
        have key : ∀ qs : List (Int × List Prs), (∀ p ∈ qs, p.2.length ≤ 10) → (msOf qs).length ≤ 10 * qs.length := by
          intro qs
          induction qs with
          | nil => exact fun _ => Nat.le_refl _
          | cons a r ih =>
            intro h
            have h1 := h a List.mem_cons_self
            have h2 := ih fun p hp => h p (List.mem_cons_of_mem _ hp)
            unfold msOf at h2 ⊢
            rw [List.flatMap_cons, List.length_append, List.length_map, List.length_cons]
            omega
        have := key (ps.take i) fun p hp => by
          obtain ⟨j, hj⟩ := List.getElem?_of_mem (List.mem_of_mem_take hp)
          obtain ⟨v, _, _, O'⟩ := paired_to pr hj
          exact O'.l2
        rw [List.length_take] at this
        omega
      refine in_it wk1 (fun j H' => Same H1 H' ∧ H' D = some (.lst ((msOf (ps.take i) ++ (p.2.take j).map mN).map fun m : Nat => V.int (m : Nat)))) ⟨e2, by rw [List.take_zero, List.map_nil, List.append_nil]; exact hD⟩ (fun j H' _ z => hG1 H' fun o w => ?_) ?_ (fun H' z => ⟨z.1, ?_⟩)
      · rw [e2 _ _ h4] at w
        cases w
        exact z.1 _ _ h4
      · rintro j y H4 H5 hj ⟨e4, hD4⟩ ⟨rfl, hy⟩
        rw [List.length_map] at hj
        rw [List.getElem?_map, List.getElem?_eq_getElem hj] at hy
        have hy : y = .int ((mN p.2[j] : Nat) : Int) := (Option.some.inj hy).symm
        subst hy
        have lp := O.l2
        refine ⟨rfl, _, rfl, _, hD4, ?_, fun b o z => ?_, ?_⟩
        · rw [List.length_map, List.length_append, List.length_map, List.length_take]
          exact small10 (by omega)
        · rw [upd_ne (ne_of_none z nD)]
          exact e4 _ _ z
        · rw [upd_same, List.take_add_one, List.getElem?_eq_getElem hj, List.map_append, List.map_append, List.map_append, List.map_append]
          simp
      · have z2 := z.2
        rw [List.length_map, List.take_length] at z2
        rw [tk]
        exact z2
    · rintro H2 ⟨e2, hD⟩
      rw [lts, List.take_length] at hD
      generalize hms : msOf ps = ms at hD out
      have lms : ms.length ≤ 100 := by
        rw [← hms]
        have key : ∀ qs : List (Int × List Prs), (∀ p ∈ qs, p.2.length ≤ 10) → (msOf qs).length ≤ 10 * qs.length := by
          intro qs
          induction qs with
          | nil => exact fun _ => Nat.le_refl _
          | cons a r ih =>
            intro h
            have h1 := h a List.mem_cons_self
            have h2 := ih fun p hp => h p (List.mem_cons_of_mem _ hp)
            unfold msOf at h2 ⊢
            rw [List.flatMap_cons, List.length_append, List.length_map, List.length_cons]
            omega
        have := key ps fun p hp => by
          obtain ⟨j, hj⟩ := List.getElem?_of_mem hp
          obtain ⟨v, _, _, O'⟩ := paired_to pr hj
          exact O'.l2
        omega
      refine fun Dm nDm => ?_
      have e3 := same_new (o := .dK []) nDm
      have hDm : upd H2 Dm (.dK []) Dm = some (.dK []) := upd_same
      have nDmo : ∀ b o, H2 b = some o → b ≠ Dm := fun b o z => ne_of_none z nDm
      generalize upd H2 Dm (.dK []) = H3 at e3 hDm ⊢
      have e13 := (e1.trans e2).trans e3
      obtain ⟨v0, hv0, ⟨q0, rfl, M0⟩, O0⟩ := paired_to pr hp0
      obtain ⟨dx0, s10, m10, vs10, g1, g2, g3, g4⟩ := M0
      have n2 := O0.n2
      rw [n0] at n2 g1
      have hms3 := e3 _ _ hD
      refine ⟨_, rfl, s0, _, _, _, rfl, rfl, SqL.of (e13 _ _ hs), atI_nat (j := 0) hv0, q0, C, dx0, _, _, rfl, e13 _ _ g1, T.cl, T.s, ph_signs _ _ _ _, _, rfl, by omega, by omega, for_range (lo := 0) (n := ((n : Nat) : Int).toNat) (fun i σ H' => ∃ (x3 : Option V) (as : List Addr), σ = [some (.ref s0), some (.ref D), some (.ref Dm), x3, none, none, none, none] ∧ Same H2 H' ∧ as.Nodup ∧ (∀ a ∈ as, H3 a = none) ∧ (∀ b, H' b = none → H3 b = none) ∧
        H' Dm = some (.dK (kvO as (grps (keyN ms) i))) ∧ Paired (fun (a : Addr) (g : Nat × List Int) => H' a = some (.lst (g.2.map V.int))) as (grps (keyN ms) i)) ⟨none, [], rfl, e3, List.nodup_nil, (fun a h => nomatch h), (fun b h => h), hDm, .nil⟩ ?_ ?_⟩
      · rintro i σ H4 hi ⟨x3, as, rfl, e4, nd, fresh, up, hDm4, pa⟩
        have i0 : (0 : Int) + (i : Nat) = (i : Nat) := by omega
        rw [i0]
        have hi : i < n := by omega
        refine ⟨_, rfl, Dm, rfl, .inl ⟨_, .inl hDm4⟩, ?_⟩
        refine ⟨_, rfl, D, _, rfl, .inl (SqL.of (e4 _ _ hD)), fun J G wk hG D2 nD2 => lcM wk (fun j => .int (((if (ms.getD j 0).testBit i then 2 ^ j else 0 : Nat) : Nat) : Int)) (by rw [List.length_map]; omega) nD2 (fun H' e => hG H' fun o z => e _ _ z) ?_ ?_⟩
        · rintro j x H5 H6 N hj e ⟨T0, y, v, rfl, nT0, rfl, ey, hv⟩ fin
          have ey : y = .int (j : Nat) := (Option.some.inj ey).symm
          subst ey
          rw [List.length_map] at hj
          have hv : (ms.map fun m : Nat => V.int (m : Nat))[j]? = some v := hv
          rw [List.getElem?_map, List.getElem?_eq_getElem hj] at hv
          have hv : v = .int ((ms[j] : Nat) : Int) := (Option.some.inj hv).symm
          subst hv
          have gm : ms.getD j 0 = ms[j] := by rw [List.getD_eq_getElem?_getD, List.getElem?_eq_getElem hj]; rfl
          have f2 := fin _ (same_new (o := .tup [.int (j : Nat), .int ((ms[j] : Nat) : Int)]) nT0)
          rw [gm] at f2
          refine ⟨T0, _, rfl, SqT.of upd_same, rfl, _, _, rfl, _, _, rfl, rfl, rfl, ?_⟩
          refine ⟨_, rfl, _, rfl, _, i, rfl, rfl, ms[j] / 2 ^ i, 1, congrArg V.int (div_cast _ _), rfl, _, rfl, ((ms[j] / 2 ^ i &&& 1 : Nat) : Int), j, rfl, rfl, ?_, ?_⟩
          · rw [and_bit]
            have : ∀ b : Bool, (Builtin.Int.intBits (((if b then 1 else 0 : Nat) : Nat) : Int) : Int) ≤ 1 := by decide
            have := this (ms[j].testBit i)
            exact ⟨by omega, by omega⟩
          · rw [and_bit]
            cases z : ms[j].testBit i with
            | true =>
              rw [z] at f2
              have : (((if true = true then 1 else 0 : Nat) : Nat) : Int) * 2 ^ j = ((if true = true then 2 ^ j else 0 : Nat) : Nat) := by
                rw [if_pos rfl, if_pos rfl, PySem.W.kbt_cast]
                omega
              rw [this]
              exact f2
            | false =>
              rw [z] at f2
              have : (((if false = true then 1 else 0 : Nat) : Nat) : Int) * 2 ^ j = ((if false = true then 2 ^ j else 0 : Nat) : Nat) := by
                rw [if_neg (by decide), if_neg (by decide)]
                omega
              rw [this]
              exact f2
        · intro H5 e5 hD2
          rw [List.length_map] at hD2
          have hD2 : H5 D2 = some (.lst (((List.range ms.length).map fun j => (((if (ms.getD j 0).testBit i then 2 ^ j else 0 : Nat) : Nat) : Int)).map V.int)) := by
            rw [hD2, List.map_map]
            rfl
          have sm : ((List.range ms.length).map fun j => (((if (ms.getD j 0).testBit i then 2 ^ j else 0 : Nat) : Nat) : Int)).sum = ((keyN ms i : Nat) : Int) := by
            unfold keyN
            rw [← sum_cast, List.map_map]
            rfl
          refine ⟨D2, _, rfl, SqL.of hD2, ?_⟩
          rw [sm]
          refine ⟨by show 0 ≤ sizeLine; decide, fun z nz => ?_⟩
          have e6 := same_new (o := .lst []) nz
          have hz : upd H5 z (.lst []) z = some (.lst []) := upd_same
          have up6 : ∀ b, upd H5 z (.lst []) b = none → H3 b = none := fun b h => up b (e5.free (e6.free h))
          have z3 : H3 z = none := up z (e5.free nz)
          generalize upd H5 z (.lst []) = H6 at e6 hz up6 ⊢
          have e46 := e5.trans e6
          have e26 := e4.trans e46
          have hDm6 := e46 _ _ hDm4
          have pa6 : Paired (fun (a : Addr) (g : Nat × List Int) => H6 a = some (.lst (g.2.map V.int))) as (grps (keyN ms) i) := Paired.mapP pa fun a g h => e46 _ _ h
          have zas : z ∉ as := fun h => by
            obtain ⟨j, hj⟩ := List.getElem?_of_mem h
            obtain ⟨g, _, hg⟩ := paired_get pa hj
            rw [e5 _ _ hg] at nz
            cases nz
          have lgs := grps_len (keyN ms) i
          have fin : ∀ (a : Addr) (H7 : Hp) (as' : List Addr), H3 a = none → as'.Nodup → (∀ b ∈ as', H3 b = none) → (∀ b, b ≠ a → b ≠ Dm → H7 b = H6 b) → H7 Dm = some (.dK (kvO as' (grps (keyN ms) (i + 1)))) → (∀ b, H7 b = none → H3 b = none) → Paired (fun (a : Addr) (g : Nat × List Int) => H7 a = some (.lst (g.2.map V.int))) as' (grps (keyN ms) (i + 1)) →
              ∃ (x3 : Option V) (as : List Addr), [some (.ref s0), some (.ref D), some (.ref Dm), some (V.int (i : Nat)), none, none, none, none] = [some (.ref s0), some (.ref D), some (.ref Dm), x3, none, none, none, none] ∧ Same H2 H7 ∧ as.Nodup ∧ (∀ a ∈ as, H3 a = none) ∧ (∀ b, H7 b = none → H3 b = none) ∧
                H7 Dm = some (.dK (kvO as (grps (keyN ms) (i + 1)))) ∧ Paired (fun (a : Addr) (g : Nat × List Int) => H7 a = some (.lst (g.2.map V.int))) as (grps (keyN ms) (i + 1)) := fun a H7 as' ha nd' fr' same7 hd7 up7 pa7 =>
            ⟨_, as', rfl, fun b o h => by rw [same7 b (ne_of_none (e3 _ _ h) ha) (nDmo b o h)]; exact e26 _ _ h, nd', fr', up7, hd7, pa7⟩
          refine ⟨kvO as (grps (keyN ms) i), .inl ((keyN ms i : Nat) : Int), hDm6, rfl, ?_, fun v hv => ?_, fun hn => ?_⟩
          · rw [kvO_len pa]
            exact small10 (by omega)
          · rcases grp_split (keyN ms i) (grps (keyN ms) i) with hno | ⟨g1, g, g2, eg, hk, h2⟩
            · rw [kvO_new pa hno] at hv
              cases hv
            · have lg := grps_each (keyN ms) i g (by rw [eg]; exact List.mem_append_right _ List.mem_cons_self)
              rw [eg] at pa6 hDm6 hv
              obtain ⟨a1, a, a2, ea, p1, hag, p2⟩ := paired_split pa6
              subst ea
              rw [kvO_old hk p1 h2] at hv
              cases hv
              have a3 : H3 a = none := fresh a (by simp)
              have aDm : Dm ≠ a := ne_of_none hDm a3
              have gn : grps (keyN ms) (i + 1) = g1 ++ (g.1, g.2 ++ [((i : Nat) : Int)]) :: g2 := by
                rw [grps, eg, grp_old hk h2]
              refine ⟨.inl ⟨rfl, _, SqL.of hag⟩, _, rfl, a, _, _, rfl, rfl, hag, by rw [List.length_map]; exact small10 (by omega), ?_⟩
              refine fin a _ (a1 ++ a :: a2) a3 nd fresh (fun b h1 _ => upd_ne h1) ?_ (fun b h => ?_) ?_
              · rw [upd_ne aDm, gn, kvO_put p1]
                exact hDm6
              · by_cases c : b = a
                · subst c
                  exact a3
                · rw [upd_ne c] at h
                  exact up6 b h
              · rw [gn]
                have nd2 := List.nodup_append.mp nd
                have nda := (List.nodup_cons.mp nd2.2.1).1
                refine paired_app (by rw [upd_same, List.map_append]; rfl) (paired_in p2 fun b hb g' h => ?_) (paired_in p1 fun b hb g' h => ?_)
                · rw [upd_ne (fun z => nda (by rw [← z]; exact hb))]
                  exact h
                · rw [upd_ne (nd2.2.2 b hb a List.mem_cons_self)]
                  exact h
          · rcases grp_split (keyN ms i) (grps (keyN ms) i) with hno | ⟨g1, g, g2, eg, hk, h2⟩
            · have gn : grps (keyN ms) (i + 1) = grps (keyN ms) i ++ [(keyN ms i, [((i : Nat) : Int)])] := by
                rw [grps, grp_new hno]
              have zDm : Dm ≠ z := ne_of_none hDm z3
              have hz7 : upd H6 Dm (.dK (putK (kvO as (grps (keyN ms) i)) (.inl ((keyN ms i : Nat) : Int)) (.ref z))) z = some (.lst []) := (upd_ne (Ne.symm zDm)).trans hz
              refine ⟨.inl ⟨rfl, _, SqL.of hz7⟩, _, rfl, z, _, _, rfl, rfl, hz7, by show 0 < sizeLine; decide, ?_⟩
              refine fin z _ (as ++ [z]) z3 ?_ (fun b hb => ?_) (fun b h1 h2 => by rw [upd_ne h1, upd_ne h2]) ?_ (fun b h => ?_) ?_
              · rw [List.nodup_append]
                refine ⟨nd, by simp, fun b hb c hc => ?_⟩
                rw [List.mem_singleton.mp hc]
                exact fun e => zas (by rw [← e]; exact hb)
              · rcases List.mem_append.mp hb with hb | hb
                · exact fresh b hb
                · rw [List.mem_singleton.mp hb]
                  exact z3
              · rw [upd_ne zDm, upd_same, putK_new _ hn, gn, kvO_snoc pa]
              · by_cases c : b = z
                · subst c
                  exact z3
                · rw [upd_ne c] at h
                  by_cases c2 : b = Dm
                  · rw [c2, upd_same] at h
                    cases h
                  · rw [upd_ne c2] at h
                    exact up6 b h
              · rw [gn]
                refine paired_app ?_ .nil (paired_in pa6 fun b hb g' h => ?_)
                · rw [upd_same]
                  rfl
                · rw [upd_ne (fun e => zas (by rw [← e]; exact hb)), upd_ne (ne_of_none hDm (fresh b hb)).symm]
                  exact h
            · have pa' := pa
              rw [eg] at pa'
              obtain ⟨a1, a, a2, ea, p1, hag, p2⟩ := paired_split pa'
              rw [ea, eg, kvO_old hk p1 h2] at hn
              cases hn
      · rintro σ H4 ⟨x3, as, rfl, e4, nd, fresh, up, hDm4, pa⟩
        rw [Int.toNat_natCast] at hDm4 pa
        generalize hgs : grps (keyN ms) n = gs at hDm4 pa out
        have lgs : gs.length ≤ n := by rw [← hgs]; exact grps_len _ _
        have each : ∀ g ∈ gs, g.2.length ≤ n := fun g hg => grps_each (keyN ms) n g (by rw [hgs]; exact hg)
        refine ⟨Dm, .dK (kvO as gs), hDm4, True.intro, fun od => ?_⟩
        have asDm : ∀ a ∈ as, a ≠ Dm := fun a ha => (ne_of_none hDm (fresh a ha)).symm
        have paF : Paired (fun (a : Addr) (g : Nat × List Int) => upd H4 Dm (.frz od (.dK (kvO as gs))) a = some (.lst (g.2.map V.int))) as gs := paired_in pa fun a ha g h => (upd_ne (asDm a ha)).trans h
        have hF : upd H4 Dm (.frz od (.dK (kvO as gs))) Dm = some (.frz od (.dK (kvO as gs))) := upd_same
        have oF : ∀ b o, b ≠ Dm → H4 b = some o → upd H4 Dm (.frz od (.dK (kvO as gs))) b = some o := fun b o h z => (upd_ne h).trans z
        generalize upd H4 Dm (.frz od (.dK (kvO as gs))) = HF at paF hF oF ⊢
        refine ⟨_, rfl, Dm, od, kvO as gs, rfl, hF, fun L nL => lc_it walk_values (fun j H' => Same HF H' ∧ ∃ ys, H' L = some (.lst ys) ∧ Paired (SpT H') ys ((gs.take j).map fun g => rngs g.2)) ⟨same_new nL, [], upd_same, .nil⟩ (fun j H' _ z => z.1 _ _ hF) ?_ ?_⟩
        · rintro j x H5 H6 hj ⟨e5, ys, hL, py⟩ ⟨rfl, k, hkv⟩
          obtain ⟨a, g, ha, hg, rfl, hag⟩ := kvO_at paF hkv
          have lg := each g (List.mem_of_getElem? hg)
          have ly : ys.length ≤ 10000 := by
            rw [Paired.length py, List.length_map, List.length_take]
            omega
          refine ⟨rfl, ?_⟩
          unfold tYes
          refine iteT ⟨_, rfl, a, g.2, rfl, e5 _ _ hag, by omega, fun l H7 ts nl e7 hl prs => .inl ⟨l, ts, rfl, SqL.of hl, fun q nq => ?_⟩⟩
          have e8 := same_new (o := .tup ts) nq
          have hq8 : upd H7 q (.tup ts) q = some (.tup ts) := upd_same
          generalize upd H7 q (.tup ts) = H8 at e8 hq8 ⊢
          have hL8 := e8 _ _ (e7 _ _ hL)
          have tL := TT.lst (ys := ys ++ [.ref q]) hL8
          refine ⟨ys, hL8, small10 ly, fun b o z => ?_, _, upd_same, ?_⟩
          · rw [upd_ne (ne_of_none z nL)]
            exact e8 _ _ (e7 _ _ (e5 _ _ z))
          · rw [List.take_add_one, hg, List.map_append]
            exact Paired.snoc (Paired.mapP py fun _ _ z => (z.tt (TT.same (e7.trans e8))).tt tL) ⟨q, ts, rfl, tL _ _ hq8, (prs.tt (TT.same e8)).tt tL⟩
        · rintro H5 ⟨e5, ys, hL, py⟩
          rw [kvO_len pa, List.take_length] at py
          refine .inl ⟨L, ys, rfl, SqL.of hL, fun t nt => ⟨(upd_ne (ne_of_none (e5 _ _ hF) nt)).trans (e5 _ _ hF), ?_⟩⟩
          have tDm : t ≠ Dm := (ne_of_none (e5 _ _ hF) nt).symm
          have h5 := e5 _ _ hF
          have tt : TT H5 (upd (upd H5 t (.tup ys)) Dm (.dK (kvO as gs))) := fun c us z => by
            rw [upd_ne (ne_of z h5 fun y => nomatch y), upd_ne (ne_of_none z nt)]
            exact z
          refine out t _ ys (fun b o z => ?_) ((upd_ne tDm).trans upd_same) (Paired.mapP py fun _ _ z => z.tt tt)
          have z2 := e2 _ _ (e1 _ _ z)
          have bD := nDmo b o z2
          have z4 := e5 _ _ (oF b o bD (e4 _ _ z2))
          rw [upd_ne bD, upd_ne (ne_of_none z4 nt)]
          exact z4
end
end K25
set_option Elab.async false
set_option linter.all false
set_option maxRecDepth 100001
set_option maxHeartbeats 3999999
namespace K25
open PySem L2
abbrev sLRg : Stmt := topS 34
abbrev sHas : Stmt := topS 35
abbrev sLSp : Stmt := topS 36
theorem range_getD {α : Type} (d : α) (xs : List α) : (List.range xs.length).map (fun i => xs.getD i d) = xs := by
  refine List.ext_getElem (by simp) fun i h1 h2 => ?_
  rw [List.getElem_map, List.getElem_range, List.getD_eq_getElem?_getD, List.getElem?_eq_getElem h2]
  rfl
theorem range_any {α : Type} (d : α) (xs : List α) (f : α → Bool) : ((List.range xs.length).map fun i => f (xs.getD i d)).any id = xs.any f := by
  have := range_getD d xs
  rw [show ((List.range xs.length).map fun i => f (xs.getD i d)) = ((List.range xs.length).map fun i => xs.getD i d).map f by rw [List.map_map]; rfl, this, List.any_map]
  rfl
theorem range_all {α : Type} (d : α) (xs : List α) (f : α → Bool) : ((List.range xs.length).map fun i => f (xs.getD i d)).all id = xs.all f := by
  have := range_getD d xs
  rw [show ((List.range xs.length).map fun i => f (xs.getD i d)) = ((List.range xs.length).map fun i => xs.getD i d).map f by rw [List.map_map]; rfl, this, List.all_map]
  rfl
theorem getD_at {α : Type} {d x : α} {xs : List α} {i : Nat} (h : xs[i]? = some x) : xs.getD i d = x := by
  rw [List.getD_eq_getElem?_getD, h]
  rfl
def spHas : Sp := fun vs H Q _ => ∃ (a : Addr) (ts : List V) (ps : Prs) (s : Int), vs = [.ref a, .int s] ∧ LT H a ts ∧ PrAt H ts ps ∧ ps.length ≤ 10000 ∧ ∀ H', Same H H' → Q (.bl (hasP ps s)) H'
/-- ranges that go on from s -/
def rokE (n : Int) (ps : Prs) (s : Int) : Prop := ∀ r, rok n s r → rok n 0 (ps ++ r)
theorem rokE_nil (n : Int) : rokE n [] 0 := fun _ h => h
theorem rokE_snoc {n s f l : Int} {ps : Prs} (h : rokE n ps s) (h1 : s ≤ f) (h2 : f ≤ l) (h3 : l ≤ n - 1) : rokE n (ps ++ [(f, l)]) (l + 2) := fun r hr => by
  rw [List.append_assoc]
  exact h _ ⟨h1, h2, h3, hr⟩
theorem rokE_end {n s : Int} {ps : Prs} (h : rokE n ps s) : rok n 0 ps := by
  have := h [] trivial
  rwa [List.append_nil] at this
/-- some ranges of the law -/
def spLRg : Sp := fun vs H Q _ => ∃ (pn cl : Addr) (n : Int) (b : Nat), vs = [.ref pn, .int n, .int 3] ∧ Pen H pn cl b ∧ b ≤ 900000 ∧ 1 ≤ n ∧ n ≤ 2000 ∧
  ∀ L H' ts ps, But pn H H' → Pen H' pn cl (b + 7) → H L = none → H' L = some (.lst ts) → PrAt H' ts ps → rok n 0 ps → ps ≠ [] → ps.length ≤ 3 → Q (.ref L) H'
theorem PrAt.tl {H H' : Hp} {ts : List V} {ps : Prs} (h : PrAt H ts ps) (e : TL H H') : PrAt H' ts ps := h.tt e.t
section
variable {P : Program} {w : World} {K : PySem.W.Frag} {mg : Str → Option Value} {base : Heap}
abbrev NHa : List Str := ["_law_ranges_here", "_law_sign", "_law_pair"]
theorem scHas : FnScope NHa ["_law_ranges_here", "_law_sign"] (defScope sHas) := ⟨rfl, rfl, rfl, by decide +kernel, rfl, by decide +kernel, by decide +kernel⟩
theorem ok_has {f : Addr} {fd : FuncData} (F : Fun K "_law_has" "_law_has" sHas f fd) (hany : mg "any" = none) : FnOk P w K mg base CX0 1 f fd ["_law_ranges_here", "_law_sign"] spHas := by
  refine F.ok scHas (fun vs H Q E h => ?_) (fun cdv A outer s H vs Q E hr h => ?_)
  · obtain ⟨a, ts, ps, s, rfl, _⟩ := h
    rfl
  · obtain ⟨a, ts, ps, x, rfl, ha, pr, lp, q⟩ := h
    refine ⟨_, pss_one (ps_ret (pe_any rfl hany (pa_cons (pe_lc (own := [("_law_pair", 2)]) rfl scHas.nd (pi_sqA (pv 0)) (blkOk_by (N := NHa) (sc := defScope sHas) (by decide +kernel))
          (fun _ _ _ _ _ => pg_name (i := 2) scHas.nd rfl (Or.inl rfl)) (fun _ _ _ _ _ => pts_nil) (fun _ _ _ _ _ => pe_chain op_le op_le (pe_ix (ix_tupK K rfl) (pv 2) pe_int (fun _ _ => rfl)) (pv 1) (pe_ix (ix_tupK K rfl) (pv 2) pe_int (fun _ _ => rfl)))) pa_nil))), ?_⟩
    have lt := Paired.length pr
    refine ⟨_, rfl, a, ts, rfl, ha.sq, fun J G wk hG D nD => lcM wk (fun i => .bl (decide ((ps.getD i (0, 0)).1 ≤ x) && decide (x ≤ (ps.getD i (0, 0)).2))) (by omega) nD (fun H' e => hG H' fun o z => e _ _ z) ?_ ?_⟩
    · rintro i y H2 H3 N hi e ⟨rfl, hy⟩ fin
      obtain ⟨p, hp, b, rfl, hb⟩ := paired_get pr hy
      rw [getD_at hp] at fin
      have f2 := fin _ (Same.refl _)
      have hb3 := e _ _ hb
      refine ⟨rfl, ?_⟩
      refine ⟨_, rfl, b, _, 0, .int p.1, rfl, rfl, SqT.of hb3, rfl, _, rfl, _, _, rfl, rfl, _, rfl, ?_⟩
      by_cases c : p.1 ≤ x
      · rw [decide_eq_true c] at f2 ⊢
        rw [Bool.true_and] at f2
        exact iteT ⟨_, rfl, b, _, 1, .int p.2, rfl, rfl, SqT.of hb3, rfl, _, _, rfl, rfl, f2⟩
      · rw [decide_eq_false c] at f2 ⊢
        exact iteF f2
    · intro H2 e hD
      rw [map_bl, lt] at hD
      refine ⟨D, _, rfl, SqL.of hD, ?_⟩
      rw [range_any (0, 0) ps fun p => decide (p.1 ≤ x) && decide (x ≤ p.2)]
      exact q _ e
abbrev NLr : List Str := ["_law_pen_here", "_law_signs", "_law_most", "_law_found", "_law_spot", "_law_k", "_law_first", "_law_last"]
theorem scLRg : FnScope NLr ["_law_pen_here", "_law_signs", "_law_most"] (defScope sLRg) := ⟨rfl, rfl, rfl, by decide +kernel, rfl, by decide +kernel, by decide +kernel⟩
theorem ok_lrg {f : Addr} {fd : FuncData} (F : Fun K "_law_ranges" "_law_ranges" sLRg f fd) (B : Bi mg) (cD : Cal CX0 P w K mg base 1 "_law_draw" spDraw) : FnOk P w K mg base CX0 2 f fd ["_law_pen_here", "_law_signs", "_law_most"] spLRg := by
  refine F.ok scLRg (fun vs H Q E h => ?_) (fun cdv A outer s H vs Q E hr h => ?_)
  · obtain ⟨pn, cl, n, b, rfl, _⟩ := h
    rfl
  · obtain ⟨pn, cl, n, b, rfl, pen, hb, n1, n2, q⟩ := h
    refine ⟨_, pss_cons (ps_par (i := 3) (j := 4) rfl scLRg.nd rfl rfl (by decide) rfl rfl (pa_cons (pe_lst pa_nil) (pa_cons pe_int pa_nil)) rfl)
      (pss_cons (ps_for PassesOwn.never rfl (pi_range1 rfl B.range (pa_cons (pe_op op_add pe_int (pe_c cD hr pass0 (pa_cons (pv 0) (pa_cons (pv 2) pa_nil)))) pa_nil)) (pg_name (i := 5) scLRg.nd rfl (.inl rfl))
        (pss_one (ps_if (pt_cmpR op_lt (pv 4) (pv 1) (nomark _))
          (pss_cons (ps_set (i := 6) scLRg.nd rfl (Or.inl rfl) (pe_op op_add (pv 4) (pe_c cD hr pass0 (pa_cons (pv 0) (pa_cons (pe_op op_sub (pv 1) (pv 4)) pa_nil)))))
          (pss_cons (ps_set (i := 7) scLRg.nd rfl (Or.inl rfl) (pe_op op_add (pv 6) (pe_c cD hr pass0 (pa_cons (pv 0) (pa_cons (pe_op op_sub (pv 1) (pv 6)) pa_nil)))))
          (pss_cons (ps_expr (pe_bm PySem.F.plainAttrs_list PySem.F.slot_list_append PySem.F.type_list_append mt_append (pv 3) (pa_cons (pe_tup (pa_cons (pv 6) (pa_cons (pv 7) pa_nil))) pa_nil)))
          (pss_one (ps_set (i := 4) scLRg.nd rfl (Or.inl rfl) (pe_op op_add (pv 7) pe_int)))))) pss_nil)))
      (pss_one (ps_ret (pv 3)))), ?_⟩
    refine ⟨by show 0 ≤ sizeLine; decide, fun L nL => ?_⟩
    have e1 := same_new (o := .lst []) nL
    have hL1 : upd H L (.lst []) L = some (.lst []) := upd_same
    have pL := (pen.off nL).1
    have cL := (pen.off nL).2
    have pen1 := pen.same e1
    have nLo : ∀ b o, H b = some o → b ≠ L := fun b o z => ne_of_none z nL
    generalize upd H L (.lst []) = H1 at e1 hL1 pen1 ⊢
    refine ⟨_, _, rfl, ?_⟩
    refine ⟨_, rfl, _, rfl, pn, cl, 3, b, rfl, pen1, by omega, by decide, by decide, fun d H2 d0 d1 b2 pen2 => ?_⟩
    obtain ⟨d, rfl⟩ := Int.eq_ofNat_of_zero_le d0
    have hL2 := b2 _ _ pL.symm hL1
    have t1 := TL.pen pen1 b2
    refine ⟨_, _, rfl, rfl, _, rfl, by omega, by omega, for_range (lo := 0) (n := ((1 : Int) + (d : Nat)).toNat) (fun i σ H' => ∃ (s : Int) (x5 x6 x7 : Option V) (ts : List V) (ps : Prs), σ = [some (.ref pn), some (.int n), some (.int 3), some (.ref L), some (.int s), x5, x6, x7] ∧ But pn H H' ∧ Pen H' pn cl (b + 1 + 2 * i) ∧ H' L = some (.lst ts) ∧ PrAt H' ts ps ∧ rokE n ps s ∧ 0 ≤ s ∧ ps.length ≤ i ∧ (i = 0 → s = 0) ∧ (0 < i → ps ≠ []))
      ⟨0, none, none, none, [], [], rfl, fun c o m z => b2 c o m (e1 _ _ z), pen2, hL2, .nil, rokE_nil n, by decide, Nat.le_refl _, fun _ => rfl, fun h => absurd h (by decide)⟩ ?_ ?_⟩
    · rintro i σ H3 hi ⟨s, x5, x6, x7, ts, ps, rfl, b3, pen3, hL3, pr, rk, s0, lp, z0, ne⟩
      have hi : i < 3 := by omega
      refine ⟨_, rfl, _, rfl, _, _, rfl, rfl, _, rfl, ?_⟩
      by_cases c : s < n
      · rw [decide_eq_true c]
        refine iteT ?_
        refine ⟨_, rfl, _, rfl, _, rfl, _, rfl, _, _, rfl, rfl, pn, cl, n - s, _, rfl, pen3, by omega, by omega, by omega, fun f H4 f0 f1 b4 pen4 => ?_⟩
        refine ⟨_, _, rfl, rfl, ?_⟩
        refine ⟨_, rfl, _, rfl, _, rfl, _, rfl, _, _, rfl, rfl, pn, cl, n - (s + f), _, rfl, pen4, by omega, by omega, by omega, fun l H5 l0 l1 b5 pen5 => ⟨_, _, rfl, rfl, ?_⟩⟩
        have hL5 := b5 _ _ pL.symm (b4 _ _ pL.symm hL3)
        have pr5 := (pr.tl (TL.pen pen3 b4)).tl (TL.pen pen4 b5)
        have lts := Paired.length pr
        refine ⟨_, rfl, .inl ⟨rfl, _, SqL.of hL5⟩, _, rfl, _, rfl, by show 2 ≤ sizeLine; decide, fun t nt => ?_⟩
        have e6 := same_new (o := .tup [.int (s + f), .int (s + f + l)]) nt
        have ht6 : upd H5 t (.tup [.int (s + f), .int (s + f + l)]) t = some (.tup [.int (s + f), .int (s + f + l)]) := upd_same
        have pen6 := pen5.same e6
        generalize upd H5 t (.tup [.int (s + f), .int (s + f + l)]) = H6 at e6 ht6 pen6 ⊢
        have hL6 := e6 _ _ hL5
        refine ⟨L, ts, _, rfl, rfl, hL6, small10 (by omega), ?_⟩
        refine ⟨_, rfl, _, _, rfl, rfl, s + f + l + 2, _, _, _, ts ++ [.ref t], ps ++ [(s + f, s + f + l)], rfl, fun c o m z => ?_, ?_, upd_same, ?_, rokE_snoc rk (by omega) (by omega) (by omega), by omega, by rw [List.length_append]; simp; omega, fun h => absurd h (by omega), fun _ => by simp⟩
        · rw [upd_ne (nLo c o z)]
          exact e6 _ _ (b5 _ _ m (b4 _ _ m (b3 _ _ m z)))
        · exact (Pen.upd pen6 pL (fun z => by obtain ⟨_, _, _, _, q2, _⟩ := pen; exact nLo _ _ q2 z)).mono (by omega)
        · exact Paired.snoc ((pr5.same e6).put hL6) ⟨t, rfl, (upd_ne (ne_of ht6 hL6 fun z => nomatch z)).trans ht6⟩
      · rw [decide_eq_false c]
        refine iteF ⟨s, _, x6, x7, ts, ps, rfl, b3, pen3.mono (by omega), hL3, pr, rk, s0, by omega, fun h => absurd h (by omega), fun _ z => ?_⟩
        rcases Nat.eq_zero_or_pos i with h | h
        · have := z0 h
          omega
        · exact ne h z
    · rintro σ H3 ⟨s, x5, x6, x7, ts, ps, rfl, b3, pen3, hL3, pr, rk, s0, lp, z0, ne⟩
      refine ⟨_, rfl, q L H3 ts ps b3 (pen3.mono (by omega)) nL hL3 pr (rokE_end rk) (ne (by omega)) (by omega)⟩
end
end K25
set_option Elab.async false
set_option linter.all false
set_option maxRecDepth 100001
set_option maxHeartbeats 3999999
namespace K25
open PySem L2
/-- a spot that is a list -/
def SpL (H : Hp) (v : V) (ps : Prs) : Prop := ∃ a ts, v = .ref a ∧ H a = some (.lst ts) ∧ PrAt H ts ps
theorem SpL.tl {H H' : Hp} {v : V} {ps : Prs} (h : SpL H v ps) (e : TL H H') : SpL H' v ps := let ⟨a, ts, h1, h2, h3⟩ := h; ⟨a, ts, h1, e.l _ _ h2, h3.tl e⟩
theorem SpL.in_ {H : Hp} {v : V} {ps : Prs} (h : SpL H v ps) : SpIn H v ps := let ⟨a, ts, h1, h2, h3⟩ := h; ⟨a, ts, h1, .inl h2, h3⟩
/-- a spot of the law -/
def OkS (n : Int) (ps : Prs) : Prop := ps ≠ [] ∧ rok n 0 ps ∧ ps.length ≤ 3
def spLSp : Sp := fun vs H Q _ => ∃ (pn cl : Addr) (n : Int) (w b : Nat), vs = [.ref pn, .int n, .int (w : Nat)] ∧ Pen H pn cl b ∧ b ≤ 800000 ∧ 1 ≤ n ∧ n ≤ 2000 ∧ w ≤ 10 ∧
  ∀ L H' vs pss, But pn H H' → Pen H' pn cl (b + 80) → H L = none → H' L = some (.lst vs) → Paired (fun v ps => SpL H' v ps ∧ v ≠ .ref L) vs pss → (∀ ps ∈ pss, OkS n ps) → pss.length = w → Q (.ref L) H'
section
variable {P : Program} {w : World} {K : PySem.W.Frag} {mg : Str → Option Value} {base : Heap}
abbrev NLs : List Str := ["_law_pen_here", "_law_signs", "_law_width", "_law_found", "_law_k", "_law_way", "_law_sign"]
theorem scLSp : FnScope NLs ["_law_pen_here", "_law_signs", "_law_width"] (defScope sLSp) := ⟨rfl, rfl, rfl, by decide +kernel, rfl, by decide +kernel, by decide +kernel⟩
theorem ok_lsp {f : Addr} {fd : FuncData} (F : Fun K "_law_spots" "_law_spots" sLSp f fd) (B : Bi mg) (cD : Cal CX0 P w K mg base 1 "_law_draw" spDraw) (cR : Cal CX0 P w K mg base 2 "_law_ranges" spLRg) : FnOk P w K mg base CX0 3 f fd ["_law_pen_here", "_law_signs", "_law_width"] spLSp := by
  refine F.ok scLSp (fun vs H Q E h => ?_) (fun cdv A outer s H vs Q E hr h => ?_)
  · obtain ⟨pn, cl, n, wd, b, rfl, _⟩ := h
    rfl
  · obtain ⟨pn, cl, n, wd, b, rfl, pen, hb, n1, n2, hw, q⟩ := h
    refine ⟨_, pss_cons (ps_set (i := 3) scLSp.nd rfl (Or.inl rfl) (pe_lst pa_nil))
      (pss_cons (ps_for PassesOwn.never rfl (pi_range1 rfl B.range (pa_cons (pv 2) pa_nil)) (pg_name (i := 4) scLSp.nd rfl (.inl rfl))
        (pss_cons (ps_set (i := 5) scLSp.nd rfl (Or.inl rfl) (pe_c cD hr pass0 (pa_cons (pv 0) (pa_cons pe_int pa_nil))))
        (pss_one (ps_if (pt_cmpR op_lt (pv 5) pe_int (nomark _))
          (pss_cons (ps_set (i := 6) scLSp.nd rfl (Or.inl rfl) (pe_c cD hr pass0 (pa_cons (pv 0) (pa_cons (pv 1) pa_nil))))
          (pss_one (ps_expr (pe_bm PySem.F.plainAttrs_list PySem.F.slot_list_append PySem.F.type_list_append mt_append (pv 3) (pa_cons (pe_lst (pa_cons (pe_tup (pa_cons (pv 6) (pa_cons (pv 6) pa_nil))) pa_nil)) pa_nil)))))
          (pss_one (ps_if (pt_cmpR op_lt (pv 5) pe_int (nomark _))
            (pss_one (ps_expr (pe_bm PySem.F.plainAttrs_list PySem.F.slot_list_append PySem.F.type_list_append mt_append (pv 3) (pa_cons (pe_c cR hr pass0 (pa_cons (pv 0) (pa_cons (pv 1) (pa_cons pe_int pa_nil)))) pa_nil))))
            (pss_one (ps_expr (pe_bm PySem.F.plainAttrs_list PySem.F.slot_list_append PySem.F.type_list_append mt_append (pv 3) (pa_cons (pe_lst (pa_cons (pe_tup (pa_cons pe_int (pa_cons (pe_op op_sub (pv 1) pe_int) pa_nil))) pa_nil)) pa_nil))))))))))
      (pss_one (ps_ret (pv 3)))), ?_⟩
    refine ⟨by show 0 ≤ sizeLine; decide, fun L nL => ?_⟩
    have e1 := same_new (o := .lst []) nL
    have hL1 : upd H L (.lst []) L = some (.lst []) := upd_same
    have pL := (pen.off nL).1
    have pen1 := pen.same e1
    have nLo : ∀ b o, H b = some o → b ≠ L := fun b o z => ne_of_none z nL
    have clL : cl ≠ L := (pen.off nL).2
    generalize upd H L (.lst []) = H1 at e1 hL1 pen1 ⊢
    refine ⟨_, rfl, _, rfl, by omega, by omega, for_range (lo := 0) (n := ((wd : Nat) : Int).toNat) (fun i σ H' => ∃ (x4 x5 x6 : Option V) (vs : List V) (pss : List Prs), σ = [some (.ref pn), some (.int n), some (.int (wd : Nat)), some (.ref L), x4, x5, x6] ∧ But pn H H' ∧ Pen H' pn cl (b + 8 * i) ∧ H' L = some (.lst vs) ∧ Paired (fun v ps => SpL H' v ps ∧ v ≠ .ref L) vs pss ∧ (∀ ps ∈ pss, OkS n ps) ∧ pss.length = i)
      ⟨none, none, none, [], [], rfl, fun c o m z => e1 _ _ z, pen1, hL1, .nil, (fun ps h => nomatch h), rfl⟩ ?_ ?_⟩
    · rintro i σ H3 hi ⟨x4, x5, x6, vs, pss, rfl, b3, pen3, hL3, pr, ok, ln⟩
      have hi : i < wd := by omega
      have lvs := Paired.length pr
      refine ⟨_, rfl, pn, cl, 5, _, rfl, pen3, by omega, by decide, by decide, fun d H4 d0 d1 b4 pen4 => ?_⟩
      have hL4 := b4 _ _ pL.symm hL3
      have t4 := TL.pen pen3 b4
      have b4' : But pn H H4 := fun c o m z => b4 _ _ m (b3 _ _ m z)
      have pr4 : Paired (fun v ps => SpL H4 v ps ∧ v ≠ .ref L) vs pss := Paired.mapP pr fun _ _ z => ⟨z.1.tl t4, z.2⟩
      -- what comes of an append
      have fin : ∀ (H5 : Hp) (a : Addr) (ps : Prs) (x4 x5 x6 : Option V) (c : Nat), But pn H H5 → Pen H5 pn cl c → c ≤ b + 8 * (i + 1) → H5 L = some (.lst vs) → a ≠ L → Paired (fun v ps => SpL H5 v ps ∧ v ≠ .ref L) vs pss → SpL H5 (.ref a) ps → OkS n ps →
          ∃ (y4 y5 y6 : Option V) (vs' : List V) (pss' : List Prs), [some (.ref pn), some (.int n), some (.int (wd : Nat)), some (.ref L), x4, x5, x6] = [some (V.ref pn), some (.int n), some (.int (wd : Nat)), some (.ref L), y4, y5, y6] ∧ But pn H (upd H5 L (.lst (vs ++ [.ref a]))) ∧ Pen (upd H5 L (.lst (vs ++ [.ref a]))) pn cl (b + 8 * (i + 1)) ∧ upd H5 L (.lst (vs ++ [.ref a])) L = some (.lst vs') ∧
            Paired (fun v ps => SpL (upd H5 L (.lst (vs ++ [.ref a]))) v ps ∧ v ≠ .ref L) vs' pss' ∧ (∀ ps ∈ pss', OkS n ps) ∧ pss'.length = i + 1 := by
        intro H5 a ps x4 x5 x6 c b5 pen5 cc hL5 aL pr5 sp ok5
        have keep : ∀ v qs, SpL H5 v qs → v ≠ .ref L → SpL (upd H5 L (.lst (vs ++ [.ref a]))) v qs := fun v qs ⟨u, us, h1, h2, h3⟩ ne => by
          subst h1
          exact ⟨u, us, rfl, (upd_ne fun z => ne (by rw [z])).trans h2, h3.tt (TT.lst hL5)⟩
        refine ⟨x4, x5, x6, vs ++ [.ref a], pss ++ [ps], rfl, fun c o m z => (upd_ne (nLo c o z)).trans (b5 _ _ m z), (Pen.upd pen5 pL clL).mono cc, upd_same, Paired.snoc (Paired.mapP pr5 fun v qs z => ⟨keep v qs z.1 z.2, z.2⟩) ⟨keep _ _ sp (fun z => aL (V.ref.inj z)), fun z => aL (V.ref.inj z)⟩, fun qs hq => ?_, by rw [List.length_append]; simp; omega⟩
        rcases List.mem_append.mp hq with h | h
        · exact ok _ h
        · rw [List.mem_singleton.mp h]
          exact ok5
      -- a spot of one pair
      have one : ∀ (H5 : Hp) (c : Nat) (x y : Int) (x4 x5 x6 : Option V), But pn H H5 → Pen H5 pn cl c → c ≤ b + 8 * (i + 1) → H5 L = some (.lst vs) → Paired (fun v ps => SpL H5 v ps ∧ v ≠ .ref L) vs pss → 0 ≤ x → x ≤ y → y ≤ n - 1 → ∀ t, H5 t = none → ∀ a, upd H5 t (.tup [.int x, .int y]) a = none →
          upd (upd H5 t (.tup [.int x, .int y])) a (.lst [.ref t]) L = some (.lst vs) ∧
          ∃ (y4 y5 y6 : Option V) (vs' : List V) (pss' : List Prs), [some (.ref pn), some (.int n), some (.int (wd : Nat)), some (.ref L), x4, x5, x6] = [some (V.ref pn), some (.int n), some (.int (wd : Nat)), some (.ref L), y4, y5, y6] ∧ But pn H (upd (upd (upd H5 t (.tup [.int x, .int y])) a (.lst [.ref t])) L (.lst (vs ++ [.ref a]))) ∧ Pen (upd (upd (upd H5 t (.tup [.int x, .int y])) a (.lst [.ref t])) L (.lst (vs ++ [.ref a]))) pn cl (b + 8 * (i + 1)) ∧
            upd (upd (upd H5 t (.tup [.int x, .int y])) a (.lst [.ref t])) L (.lst (vs ++ [.ref a])) L = some (.lst vs') ∧
            Paired (fun v ps => SpL (upd (upd (upd H5 t (.tup [.int x, .int y])) a (.lst [.ref t])) L (.lst (vs ++ [.ref a]))) v ps ∧ v ≠ .ref L) vs' pss' ∧ (∀ ps ∈ pss', OkS n ps) ∧ pss'.length = i + 1 := by
        intro H5 c x y x4 x5 x6 b5 pen5 cc hL5 pr5 h0 h1 h2 t nt a na
        have e6 := same_new (o := .tup [.int x, .int y]) nt
        have ht : upd H5 t (.tup [.int x, .int y]) t = some (.tup [.int x, .int y]) := upd_same
        generalize upd H5 t (.tup [.int x, .int y]) = H6 at e6 ht na ⊢
        have e7 := same_new (o := .lst [.ref t]) na
        have ha : upd H6 a (.lst [.ref t]) a = some (.lst [.ref t]) := upd_same
        have aL : a ≠ L := (ne_of_none (e6 _ _ hL5) na).symm
        generalize upd H6 a (.lst [.ref t]) = H7 at e7 ha ⊢
        have e57 := e6.trans e7
        refine ⟨e57 _ _ hL5, fin H7 a [(x, y)] x4 x5 x6 c (fun c o m z => e57 _ _ (b5 _ _ m z)) (pen5.same e57) cc (e57 _ _ hL5) aL (Paired.mapP pr5 fun _ _ z => ⟨z.1.tl (TL.same e57), z.2⟩) ⟨a, _, rfl, ha, .cons ⟨t, rfl, e7 _ _ ht⟩ .nil⟩ ⟨by simp, ?_, by simp⟩⟩
        show 0 ≤ x ∧ x ≤ y ∧ y ≤ n - 1 ∧ True
        exact ⟨h0, h1, h2, trivial⟩
      refine ⟨_, rfl, _, _, rfl, rfl, _, rfl, ?_⟩
      by_cases c : d < 2
      · rw [decide_eq_true c]
        refine iteT ⟨_, rfl, _, rfl, pn, cl, n, _, rfl, pen4, by omega, by omega, by omega, fun x H5 x0 x1 b5 pen5 => ?_⟩
        have hL5 := b5 _ _ pL.symm hL4
        refine ⟨_, rfl, .inl ⟨rfl, _, SqL.of hL5⟩, _, rfl, _, rfl, by show 2 ≤ sizeLine; decide, fun t nt => ⟨by show 1 ≤ sizeLine; decide, fun a na => ?_⟩⟩
        obtain ⟨hL7, res⟩ := one H5 _ x x _ _ _ (fun c o m z => b5 _ _ m (b4' _ _ m z)) pen5 (by omega) hL5 (Paired.mapP pr4 fun _ _ z => ⟨z.1.tl (TL.pen pen4 b5), z.2⟩) x0 (Int.le_refl _) (by omega) t nt a na
        exact ⟨L, vs, _, rfl, rfl, hL7, small10 (by omega), res⟩
      · rw [decide_eq_false c]
        refine iteF ⟨_, rfl, _, _, rfl, rfl, _, rfl, ?_⟩
        by_cases c2 : d < 4
        · rw [decide_eq_true c2]
          refine iteT ⟨_, rfl, .inl ⟨rfl, _, SqL.of hL4⟩, _, rfl, _, rfl, pn, cl, n, _, rfl, pen4, by omega, n1, n2, fun a H5 ts ps b5 pen5 na ha pa rk ne l3 => ?_⟩
          have hL5 := b5 _ _ pL.symm hL4
          exact ⟨L, vs, _, rfl, rfl, hL5, small10 (by omega), fin H5 a ps _ _ _ _ (fun c o m z => b5 _ _ m (b4' _ _ m z)) pen5 (by omega) hL5 (ne_of_none hL4 na).symm (Paired.mapP pr4 fun _ _ z => ⟨z.1.tl (TL.pen pen4 b5), z.2⟩) ⟨a, ts, rfl, ha, pa⟩ ⟨ne, rk, l3⟩⟩
        · rw [decide_eq_false c2]
          refine iteF ⟨_, rfl, .inl ⟨rfl, _, SqL.of hL4⟩, _, rfl, _, _, rfl, rfl, by show 2 ≤ sizeLine; decide, fun t nt => ⟨by show 1 ≤ sizeLine; decide, fun a na => ?_⟩⟩
          obtain ⟨hL7, res⟩ := one H4 _ 0 (n - 1) _ _ _ b4' pen4 (by omega) hL4 pr4 (Int.le_refl _) (by omega) (Int.le_refl _) t nt a na
          exact ⟨L, vs, _, rfl, rfl, hL7, small10 (by omega), res⟩
    · rintro σ H3 ⟨x4, x5, x6, vs, pss, rfl, b3, pen3, hL3, pr, ok, ln⟩
      exact ⟨_, rfl, q L H3 vs pss b3 (pen3.mono (by omega)) nL hL3 pr ok (by omega)⟩
end
end K25
set_option Elab.async false
set_option linter.all false
set_option maxRecDepth 100001
set_option maxHeartbeats 3999999
namespace K25
open PySem L2
abbrev sStd : Stmt := topS 37
abbrev sBes : Stmt := topS 38
abbrev sMeet : Stmt := topS 39
abbrev sIsSg : Stmt := topS 42
def spStd : Sp := fun vs H Q _ => ∃ (L r : Addr) (us : List V) (pss : List Prs) (xs : List Int), vs = [.ref L, .ref r, .int 0] ∧ H L = some (.lst us) ∧ Paired (SpL H) us pss ∧ (∀ ps ∈ pss, ps.length ≤ 10000) ∧ H r = some (.lst (xs.map V.int)) ∧ xs.length = pss.length ∧ xs.length ≤ 1000 ∧
  ∀ H', Same H H' → Q (.bl ((List.range xs.length).all fun i => atP pss i (xs.getD i 0))) H'
def spBes : Sp := fun vs H Q _ => ∃ (pn cl L : Addr) (n : Int) (b : Nat) (us : List V) (pss : List Prs), vs = [.ref pn, .int n, .ref L] ∧ Pen H pn cl b ∧ b ≤ 800000 ∧ 1 ≤ n ∧ n ≤ 2000 ∧ H L = some (.lst us) ∧ Paired (SpL H) us pss ∧ (∀ ps ∈ pss, OkS n ps) ∧ pss.length ≤ 10 ∧
  ∀ r H' (xs : List Int), But pn H H' → Pen H' pn cl (b + 30) → H' r = some (.lst (xs.map V.int)) → xs.length ≤ 11 → (∀ x ∈ xs, 0 ≤ x ∧ x ≤ n - 1) → Q (.ref r) H'
section
variable {P : Program} {w : World} {K : PySem.W.Frag} {mg : Str → Option Value} {base : Heap}
abbrev NSt : List Str := ["_law_spots_here", "_law_row", "_law_place", "_law_at"]
theorem scStd : FnScope NSt ["_law_spots_here", "_law_row", "_law_place"] (defScope sStd) := ⟨rfl, rfl, rfl, by decide +kernel, rfl, by decide +kernel, by decide +kernel⟩
theorem ok_std {f : Addr} {fd : FuncData} (F : Fun K "_law_stands" "_law_stands" sStd f fd) (B : Bi mg) (hall : mg "all" = none) (cH : Cal CX0 P w K mg base 1 "_law_has" spHas) : FnOk P w K mg base CX0 2 f fd ["_law_spots_here", "_law_row", "_law_place"] spStd := by
  refine F.ok scStd (fun vs H Q E h => ?_) (fun cdv A outer s H vs Q E hr h => ?_)
  · obtain ⟨L, r, us, pss, xs, rfl, _⟩ := h
    rfl
  · obtain ⟨L, r, us, pss, xs, rfl, hL, pr, l3, hx, le, lx, q⟩ := h
    refine ⟨_, pss_cons (ps_if (PW.pt (pw_or (pt_cmpR op_lt (pv 2) pe_int (nomark _)) (pw_or1 (pt_cmpR op_gt (pe_op op_add (pv 2) (pe_len B.len (pa_cons (pv 0) pa_nil))) (pe_len B.len (pa_cons (pv 1) pa_nil)) (nomark _))))) pss_never pss_nil)
      (pss_one (ps_ret (pe_all rfl hall (pa_cons (pe_lc (own := [("_law_at", 3)]) rfl scStd.nd (pi_range1 rfl B.range (pa_cons (pe_len B.len (pa_cons (pv 0) pa_nil)) pa_nil)) (blkOk_by (N := NSt) (sc := defScope sStd) (by decide +kernel))
          (fun _ _ _ _ _ => pg_name (i := 3) scStd.nd rfl (Or.inl rfl)) (fun _ _ _ _ _ => pts_nil) (fun _ _ _ _ _ => pe_c cH hr pass0 (pa_cons (pe_ix (ix_listK K rfl) (pv 0) (pv 3) (fun _ _ => rfl)) (pa_cons (pe_ix (ix_listK K rfl) (pv 1) (pe_op op_add (pv 2) (pv 3)) (fun _ _ => rfl)) pa_nil)))) pa_nil)))), ?_⟩
    have lu := Paired.length pr
    refine ⟨_, rfl, _, _, rfl, rfl, _, rfl, ?_⟩
    refine iteF ⟨_, rfl, _, rfl, L, us, rfl, .inl (SqL.of hL), _, _, rfl, rfl, _, rfl, r, _, rfl, .inl (SqL.of hx), _, _, rfl, rfl, _, rfl, ?_⟩
    rw [decide_eq_false (show ¬ (((xs.map V.int).length : Nat) : Int) < 0 + ((us.length : Nat) : Int) by rw [List.length_map]; omega)]
    refine iteF ?_
    refine ⟨_, rfl, L, us, rfl, .inl (SqL.of hL), _, rfl, by omega, by omega, fun D nD => lcM walk_range (fun i => .bl (atP pss i (xs.getD i 0))) (by omega) nD (fun H' e => True.intro) ?_ ?_⟩
    · rintro i y H2 H3 N hi e ⟨rfl, rfl⟩ fin
      have hi1 : i < us.length := by omega
      have hi2 : i < pss.length := by omega
      have hi3 : i < xs.length := by omega
      obtain ⟨ps, hps, a, ts, ea, ha, pa⟩ := paired_get pr (List.getElem?_eq_getElem hi1)
      have i0 : (0 : Int) + (i : Nat) = (i : Nat) := by omega
      have gp := getD_at (d := []) hps
      have gx := getD_at (d := 0) (List.getElem?_eq_getElem hi3)
      unfold atP at fin
      rw [gp, gx] at fin
      refine ⟨rfl, ?_⟩
      refine ⟨_, rfl, _, rfl, L, us, _, .ref a, rfl, rfl, SqL.of (e _ _ hL), (by rw [i0]; exact atI_nat ((List.getElem?_eq_getElem hi1).trans (congrArg some ea))), _, rfl, _, rfl, _, rfl, _, _, rfl, rfl, r, _, _, .int xs[i], rfl, rfl, SqL.of (e _ _ hx), ?_, ?_⟩
      · rw [i0, i0]
        exact atI_nat (by rw [List.getElem?_map, List.getElem?_eq_getElem hi3]; rfl)
      · exact ⟨a, ts, ps, xs[i], rfl, .inl (e _ _ ha), pa.same e, l3 ps (List.mem_of_getElem? hps), fun H4 e4 => fin _ e4⟩
    · intro H2 e hD
      rw [map_bl, Int.toNat_natCast, lu, ← le] at hD
      refine ⟨D, _, rfl, SqL.of hD, ?_⟩
      rw [List.all_map]
      exact q _ e
abbrev NBe : List Str := ["_law_pen_here", "_law_signs", "_law_spots_here", "_law_row", "_law_spot", "_law_pair", "_law_sign", "_law_way"]
theorem scBes : FnScope NBe ["_law_pen_here", "_law_signs", "_law_spots_here"] (defScope sBes) := ⟨rfl, rfl, rfl, by decide +kernel, rfl, by decide +kernel, by decide +kernel⟩
theorem ok_bes {f : Addr} {fd : FuncData} (F : Fun K "_law_beside" "_law_beside" sBes f fd) (B : Bi mg) (cD : Cal CX0 P w K mg base 1 "_law_draw" spDraw) (cK : Cal CX0 P w K mg base 2 "_law_pick" spPick) : FnOk P w K mg base CX0 3 f fd ["_law_pen_here", "_law_signs", "_law_spots_here"] spBes := by
  refine F.ok scBes (fun vs H Q E h => ?_) (fun cdv A outer s H vs Q E hr h => ?_)
  · obtain ⟨pn, cl, L, n, b, us, pss, rfl, _⟩ := h
    rfl
  · obtain ⟨pn, cl, L, n, b, us, pss, rfl, pen, hb, n1, n2, hL, pr, ok, l10, q⟩ := h
    refine ⟨_, pss_cons (ps_set (i := 3) scBes.nd rfl (Or.inl rfl) (pe_lst pa_nil))
      (pss_cons (ps_for PassesOwn.never rfl (pi_sqA (pv 2)) (pg_name (i := 4) scBes.nd rfl (.inl rfl))
        (pss_cons (ps_set (i := 5) scBes.nd rfl (Or.inl rfl) (pe_c cK hr pass0 (pa_cons (pv 0) (pa_cons (pv 4) pa_nil))))
        (pss_cons (ps_set (i := 6) scBes.nd rfl (Or.inl rfl) (pe_c cK hr pass0 (pa_cons (pv 0) (pa_cons (pe_lst (pa_cons (pe_ix ix_tup (pv 5) pe_int (fun _ _ => rfl)) (pa_cons (pe_ix ix_tup (pv 5) pe_int (fun _ _ => rfl)) (pa_cons (pe_op op_sub (pe_ix ix_tup (pv 5) pe_int (fun _ _ => rfl)) pe_int) (pa_cons (pe_op op_add (pe_ix ix_tup (pv 5) pe_int (fun _ _ => rfl)) pe_int) (pa_cons (pe_ix ix_tup (pv 5) pe_int (fun _ _ => rfl)) (pa_cons (pe_ix ix_tup (pv 5) pe_int (fun _ _ => rfl)) pa_nil))))))) pa_nil))))
        (pss_one (ps_expr (pe_bm PySem.F.plainAttrs_list PySem.F.slot_list_append PySem.F.type_list_append mt_append (pv 3) (pa_cons (pe_callB (call_max2 rfl) rfl B.max (by decide +kernel) (pa_cons pe_int (pa_cons (pe_callB (call_min2 rfl) rfl B.min (by decide +kernel) (pa_cons (pe_op op_sub (pv 1) pe_int) (pa_cons (pv 6) pa_nil))) pa_nil))) pa_nil)))))))
      (pss_cons (ps_set (i := 7) scBes.nd rfl (Or.inl rfl) (pe_c cD hr pass0 (pa_cons (pv 0) (pa_cons pe_int pa_nil))))
      (pss_one (ps_ret (pe_ifExp (pt_cmpR op_eq (pv 7) pe_int (nomark _)) (pe_slice sl_list (pv 3) po_none (po_some (pe_un un_neg pe_int)))
        (pe_ifExp (pt_cmpR op_eq (pv 7) pe_int (nomark _)) (pe_op op_cat (pv 3) (pe_lst (pa_cons (pe_c cD hr pass0 (pa_cons (pv 0) (pa_cons (pv 1) pa_nil))) pa_nil))) (pv 3))))))), ?_⟩
    have lu := Paired.length pr
    refine ⟨by show 0 ≤ sizeLine; decide, fun R nR => ?_⟩
    have e1 := same_new (o := .lst []) nR
    have hR1 : upd H R (.lst []) R = some (.lst []) := upd_same
    have pR := (pen.off nR).1
    have pen1 := pen.same e1
    have nRo : ∀ b o, H b = some o → b ≠ R := fun b o z => ne_of_none z nR
    have clR : cl ≠ R := (pen.off nR).2
    have Lpn := pen.ne hL fun _ z => nomatch z
    generalize upd H R (.lst []) = H1 at e1 hR1 pen1 ⊢
    have hL1 := e1 _ _ hL
    refine ⟨_, rfl, L, us, rfl, .inl (SqL.of hL1), fun J G wk hG => for_it wk (fun i σ H' => ∃ (x4 x5 x6 : Option V) (xs : List Int), σ = [some (.ref pn), some (.int n), some (.ref L), some (.ref R), x4, x5, x6, none] ∧ But pn H H' ∧ Pen H' pn cl (b + 2 * i) ∧ H' R = some (.lst (xs.map V.int)) ∧ xs.length = i ∧ ∀ x ∈ xs, 0 ≤ x ∧ x ≤ n - 1) ⟨none, none, none, [], rfl, fun c o m z => e1 _ _ z, pen1, hR1, rfl, fun x h => nomatch h⟩
      (fun i σ H' _ ⟨_, _, _, _, _, e, _⟩ => hG H' fun o z => by rw [hL1] at z; cases z; exact e _ _ Lpn hL) ?_ ?_⟩
    · rintro i v σ H2 H3 hi ⟨x4, x5, x6, xs, rfl, b2, pen2, hR2, lx, hx⟩ ⟨rfl, hv⟩
      obtain ⟨ps, hps, a, ts, rfl, ha, pa⟩ := paired_get pr hv
      obtain ⟨ne, rk, l3⟩ := ok ps (List.mem_of_getElem? hps)
      have apn := pen.ne ha fun _ z => nomatch z
      have ha2 := b2 _ _ apn ha
      have t2 := TL.pen pen b2
      have lt := Paired.length pa
      have l0 : 0 < ts.length := by
        cases ps with
        | nil => exact absurd rfl ne
        | cons p r => rw [lt]; simp
      refine ⟨_, rfl, _, rfl, pn, cl, a, ts, _, rfl, pen2, by omega, ha2, l0, by omega, fun x H4 hx4 b4 pen4 => ?_⟩
      obtain ⟨k, hk⟩ := List.getElem?_of_mem hx4
      obtain ⟨p, hp, t, rfl, ht⟩ := paired_get pa hk
      have t4 := TL.pen pen2 b4
      have ht4 := t4.t _ _ (t2.t _ _ ht)
      have hR4 := b4 _ _ pR.symm hR2
      refine ⟨_, rfl, _, rfl, t, _, 0, .int p.1, rfl, rfl, SqT.of ht4, rfl, _, rfl, t, _, 1, .int p.2, rfl, rfl, SqT.of ht4, rfl, _, rfl, t, _, 0, .int p.1, rfl, rfl, SqT.of ht4, rfl, _, _, rfl, rfl, _, rfl, t, _, 1, .int p.2, rfl, rfl, SqT.of ht4, rfl, _, _, rfl, rfl, _, rfl, t, _, 0, .int p.1, rfl, rfl, SqT.of ht4, rfl, _, rfl, t, _, 1, .int p.2, rfl, rfl, SqT.of ht4, rfl, by show 6 ≤ sizeLine; decide, fun l nl => ?_⟩
      have e5 := same_new (o := .lst [.int p.1, .int p.2, .int (p.1 - 1), .int (p.2 + 1), .int p.1, .int p.2]) nl
      have hl5 : upd H4 l (.lst [.int p.1, .int p.2, .int (p.1 - 1), .int (p.2 + 1), .int p.1, .int p.2]) l = some (.lst [.int p.1, .int p.2, .int (p.1 - 1), .int (p.2 + 1), .int p.1, .int p.2]) := upd_same
      have pen5 := pen4.same e5
      generalize upd H4 l (.lst [.int p.1, .int p.2, .int (p.1 - 1), .int (p.2 + 1), .int p.1, .int p.2]) = H5 at e5 hl5 pen5 ⊢
      have hR5 := e5 _ _ hR4
      refine ⟨pn, cl, l, _, _, rfl, pen5, by omega, hl5, (by show 0 < 6; decide), (by show 6 ≤ 1000; decide), fun y H6 hy b6 pen6 => ?_⟩
      have hR6 := b6 _ _ pR.symm hR5
      obtain ⟨y, rfl⟩ : ∃ j : Int, y = .int j := by
        simp only [List.mem_cons, List.not_mem_nil, or_false] at hy
        rcases hy with rfl | rfl | rfl | rfl | rfl | rfl <;> exact ⟨_, rfl⟩
      refine ⟨_, rfl, .inl ⟨rfl, _, SqL.of hR6⟩, _, rfl, _, _, rfl, rfl, _, rfl, n - 1, y, rfl, 0, _, rfl, R, xs.map V.int, _, rfl, rfl, hR6, by rw [List.length_map]; exact small10 (by omega), ?_⟩
      refine ⟨_, _, _, xs ++ [if (if y < n - 1 then y else n - 1) > 0 then (if y < n - 1 then y else n - 1) else 0], rfl, fun c o m z => ?_, (Pen.upd pen6 pR clR).mono (by omega), ?_, by rw [List.length_append, lx]; rfl, fun x hx' => ?_⟩
      · rw [upd_ne (nRo c o z)]
        exact b6 _ _ m (e5 _ _ (b4 _ _ m (b2 _ _ m z)))
      · rw [upd_same, List.map_append]
        rfl
      · rcases List.mem_append.mp hx' with h | h
        · exact hx x h
        · rw [List.mem_singleton.mp h]
          by_cases c1 : y < n - 1
          · rw [if_pos c1]
            by_cases c2 : y > 0
            · rw [if_pos c2]
              omega
            · rw [if_neg c2]
              omega
          · rw [if_neg c1]
            by_cases c2 : n - 1 > 0
            · rw [if_pos c2]
              omega
            · rw [if_neg c2]
              omega
    · rintro σ H2 ⟨x4, x5, x6, xs, rfl, b2, pen2, hR2, lx, hx⟩
      rw [lu] at lx pen2
      refine ⟨_, rfl, pn, cl, 8, _, rfl, pen2, by omega, by decide, by decide, fun d H3 d0 d1 b3 pen3 => ?_⟩
      have hR3 := b3 _ _ pR.symm hR2
      have b3' : But pn H H3 := fun c o m z => b3 _ _ m (b2 _ _ m z)
      have lxs : (xs.map V.int).length ≤ 10 := by rw [List.length_map]; omega
      refine ⟨_, rfl, rfl, _, rfl, ?_⟩
      rw [dec_int, dec_beq]
      by_cases c0 : d = 0
      · rw [decide_eq_true c0]
        refine iteT ?_
        simp only [tNoPart]
        refine ⟨_, rfl, _, rfl, _, rfl, R, _, rfl, SqL.of hR3, fun r nr => ?_⟩
        have ec : cutV (xs.map V.int) none (some (-1)) = (xs.dropLast).map V.int := by
          unfold cutV
          rw [HT.sIx_none, List.length_map, List.drop_zero, Nat.sub_zero, List.dropLast_eq_take, List.map_take]
          congr 1
          show (if (-1 : Int) < 0 then ((-1 : Int) + (xs.length : Nat)).toNat else min (-1 : Int).toNat xs.length) = _
          rw [if_pos (by decide)]
          omega
        rw [ec]
        refine q r _ xs.dropLast (fun c o m z => same_new nr _ _ (b3' _ _ m z)) ((pen3.same (same_new nr)).mono (by omega)) upd_same (by rw [List.length_dropLast]; omega) fun x h => hx x (List.dropLast_subset _ h)
      · rw [decide_eq_false c0]
        refine iteF ⟨_, rfl, rfl, _, rfl, ?_⟩
        rw [dec_int, dec_beq]
        by_cases c1 : d = 1
        · rw [decide_eq_true c1]
          refine iteT ⟨_, rfl, _, rfl, _, rfl, pn, cl, n, _, rfl, pen3, by omega, by omega, by omega, fun x H4 x0 x1 b4 pen4 => ⟨by show 1 ≤ sizeLine; decide, fun l nl => ?_⟩⟩
          have hR4 := b4 _ _ pR.symm hR3
          have e5 := same_new (o := .lst [.int x]) nl
          have hl5 : upd H4 l (.lst [.int x]) l = some (.lst [.int x]) := upd_same
          have pen5 := pen4.same e5
          generalize upd H4 l (.lst [.int x]) = H5 at e5 hl5 pen5 ⊢
          refine ⟨R, l, _, _, rfl, rfl, e5 _ _ hR4, hl5, Nat.le_of_lt (small10 (by show (xs.map V.int).length + 1 ≤ 10000; omega)), fun r nr => ?_⟩
          refine q r _ (xs ++ [x]) (fun c o m z => same_new nr _ _ (e5 _ _ (b4 _ _ m (b3' _ _ m z)))) ((pen5.same (same_new nr)).mono (by omega)) (by rw [upd_same, List.map_append]; rfl) (by rw [List.length_append]; simp; omega) fun y hy => ?_
          rcases List.mem_append.mp hy with h | h
          · exact hx y h
          · rw [List.mem_singleton.mp h]
            omega
        · rw [decide_eq_false c1]
          exact iteF ⟨_, rfl, q R H3 xs b3' (pen3.mono (by omega)) hR3 (by omega) hx⟩
end
end K25
set_option Elab.async false
set_option linter.all false
set_option maxRecDepth 100001
set_option maxHeartbeats 3999999
namespace K25
open PySem L2
def meetP (ps qs : Prs) : Bool := ps.any fun p => qs.any fun q => decide (p.1 ≤ q.2) && decide (q.1 ≤ p.2)
def spMeet : Sp := fun vs H Q _ => ∃ (a b : Addr) (ts us : List V) (ps qs : Prs), vs = [.ref a, .ref b] ∧ LT H a ts ∧ PrAt H ts ps ∧ LT H b us ∧ PrAt H us qs ∧ ps.length ≤ 10000 ∧ qs.length ≤ 10000 ∧ ∀ H', Same H H' → Q (.bl (meetP ps qs)) H'
theorem meetP_iff {n m : Int} {ps qs : Prs} (hp : rok n 0 ps) (hq : rok m 0 qs) : meetP ps qs = meetB ps qs := by
  have w : ∀ {n : Int} {ps : Prs} {l : Int}, 0 ≤ l → rok n l ps → ∀ p ∈ ps, 0 ≤ p.1 ∧ p.1 ≤ p.2 := by
    intro n ps
    induction ps with
    | nil => intro _ _ _ p h; cases h
    | cons x r ih =>
      rintro l l0 ⟨h1, h2, h3, h4⟩ p hp
      rcases List.mem_cons.mp hp with rfl | h
      · omega
      · exact ih (by omega) h4 p h
  rw [Bool.eq_iff_iff]
  unfold meetB
  rw [decide_eq_true_eq, meet_iff hp hq]
  unfold meetP hasP
  simp only [List.any_eq_true, Bool.and_eq_true, decide_eq_true_eq]
  constructor
  · rintro ⟨p, hp', q, hq', h1, h2⟩
    obtain ⟨p0, pl⟩ := w (Int.le_refl 0) hp p hp'
    obtain ⟨q0, ql⟩ := w (Int.le_refl 0) hq q hq'
    refine ⟨(max p.1 q.1).toNat, ⟨p, hp', ?_, ?_⟩, ⟨q, hq', ?_, ?_⟩⟩ <;> omega
  · rintro ⟨s, ⟨p, hp', h1, h2⟩, ⟨q, hq', h3, h4⟩⟩
    exact ⟨p, hp', q, hq', by omega, by omega⟩
theorem pe_anyK {X : Cx} (K : PySem.W.Frag) (hK : X.K = K) {a : Expr} {es : List Expr} {t : TA} {p pos : Pos} (hc : X.calm = true) (hm : X.mg "any" = none) (ha : PA X (a :: es) t) (hg : Gl X "any" := by rfl) (he : starEach (a :: es) X.env = (false, eval a X.env) :: starEach es X.env := by rfl)
    (hpl : (backTo pos (starEach es X.env)).any (·.1) = false := by rfl) :
    PE X (.Call (.Name "any" p) (a :: es) [] pos) (tCB (rAny K) t) := by
  subst hK
  exact pe_any hc hm ha hg he hpl
section
variable {P : Program} {w : World} {K : PySem.W.Frag} {mg : Str → Option Value} {base : Heap}
abbrev NMe : List Str := ["_law_some", "_law_others", "_law_one", "_law_pair"]
theorem scMeet : FnScope NMe ["_law_some", "_law_others"] (defScope sMeet) := ⟨rfl, rfl, rfl, by decide +kernel, rfl, by decide +kernel, by decide +kernel⟩
theorem ok_meet {f : Addr} {fd : FuncData} (F : Fun K "_law_meet" "_law_meet" sMeet f fd) (hany : mg "any" = none) : FnOk P w K mg base CX0 1 f fd ["_law_some", "_law_others"] spMeet := by
  refine F.ok scMeet (fun vs H Q E h => ?_) (fun cdv A outer s H vs Q E hr h => ?_)
  · obtain ⟨a, b, ts, us, ps, qs, rfl, _⟩ := h
    rfl
  · obtain ⟨a, b, ts, us, ps, qs, rfl, ha, pa, hb, pb, l1, l2, q⟩ := h
    refine ⟨_, pss_one (ps_ret (pe_any rfl hany (pa_cons (pe_lc (own := [("_law_one", 2)]) rfl scMeet.nd (pi_sqA (pv 0)) (blkOk_by (N := NMe) (sc := defScope sMeet) (by decide +kernel))
          (fun _ _ _ _ _ => pg_name (i := 2) scMeet.nd rfl (Or.inr rfl)) (fun _ _ _ _ _ => pts_nil)
          (fun _ _ _ _ _ => pe_anyK K rfl rfl hany (pa_cons (pe_lc (own := [("_law_pair", 3)]) rfl scMeet.nd (pi_sqAK K rfl (pv 1)) (blkOk_by (N := NMe) (by kernel_rfl))
            (fun _ _ _ _ _ => pg_name (i := 3) scMeet.nd rfl (Or.inl rfl)) (fun _ _ _ _ _ => pts_nil)
            (fun _ _ _ _ _ => pe_and (pe_cmpR op_le (pe_ix (ix_tupK K rfl) (pv 2) pe_int (fun _ _ => rfl)) (pe_ix (ix_tupK K rfl) (pv 3) pe_int (fun _ _ => rfl)) (nomark _)) (pe_one (pe_cmpR op_le (pe_ix (ix_tupK K rfl) (pv 3) pe_int (fun _ _ => rfl)) (pe_ix (ix_tupK K rfl) (pv 2) pe_int (fun _ _ => rfl)) (nomark _))))) pa_nil))) pa_nil))), ?_⟩
    have la := Paired.length pa
    have lb := Paired.length pb
    refine ⟨_, rfl, a, ts, rfl, ha.sq, fun J G wk hG D nD => lcM wk (fun i => .bl (qs.any fun q => decide ((ps.getD i (0, 0)).1 ≤ q.2) && decide (q.1 ≤ (ps.getD i (0, 0)).2))) (by omega) nD (fun H' e => hG H' fun o z => e _ _ z) ?_ ?_⟩
    · rintro i y H2 H3 N hi e ⟨rfl, hy⟩ fin
      obtain ⟨p, hp, c, rfl, hc⟩ := paired_get pa hy
      rw [getD_at hp] at fin
      refine ⟨rfl, ?_⟩
      refine ⟨_, rfl, b, us, rfl, (hb.same e).sq, fun J1 G1 wk1 hG1 D1 nD1 => lcM wk1 (fun j => .bl (decide (p.1 ≤ (qs.getD j (0, 0)).2) && decide ((qs.getD j (0, 0)).1 ≤ p.2))) (by omega) nD1 (fun H' e => hG1 H' fun o z => e _ _ z) ?_ ?_⟩
      · rintro j y H4 H5 N2 hj e4 ⟨rfl, hy⟩ fin2
        obtain ⟨q', hq', d, rfl, hd⟩ := paired_get pb hy
        rw [getD_at hq'] at fin2
        have f2 := fin2 _ (Same.refl _)
        have hc5 := e4 _ _ (e _ _ hc)
        have hd5 := e4 _ _ (e _ _ hd)
        refine ⟨rfl, ?_⟩
        refine ⟨_, rfl, c, _, 0, .int p.1, rfl, rfl, SqT.of hc5, rfl, _, rfl, d, _, 1, .int q'.2, rfl, rfl, SqT.of hd5, rfl, _, _, rfl, rfl, _, rfl, ?_⟩
        by_cases c1 : p.1 ≤ q'.2
        · rw [decide_eq_true c1] at f2 ⊢
          rw [Bool.true_and] at f2
          exact ⟨_, rfl, d, _, 0, .int q'.1, rfl, rfl, SqT.of hd5, rfl, _, rfl, c, _, 1, .int p.2, rfl, rfl, SqT.of hc5, rfl, _, _, rfl, rfl, f2⟩
        · rw [decide_eq_false c1] at f2 ⊢
          exact f2
      · intro H4 e4 hD
        rw [map_bl, lb] at hD
        refine ⟨D1, _, rfl, SqL.of hD, ?_⟩
        rw [range_any (0, 0) qs fun q' => decide (p.1 ≤ q'.2) && decide (q'.1 ≤ p.2)]
        exact fin _ e4
    · intro H2 e hD
      rw [map_bl, la] at hD
      refine ⟨D, _, rfl, SqL.of hD, ?_⟩
      rw [range_any (0, 0) ps fun p => qs.any fun q' => decide (p.1 ≤ q'.2) && decide (q'.1 ≤ p.2)]
      exact q _ e
def spIsSg : Sp := fun vs H Q _ => ∃ (n : Int) (v : V), vs = [.int n, v] ∧ Kn H v ∧ Q (.bl (btw v 0 (n - 1))) H
theorem scIsSg : FnScope ["_law_signs", "_law_sign"] ["_law_signs", "_law_sign"] (defScope sIsSg) := ⟨rfl, rfl, rfl, by decide +kernel, rfl, by decide +kernel, by decide +kernel⟩
theorem ok_isSg {f : Addr} {fd : FuncData} (F : Fun K "_law_is_sign" "_law_is_sign" sIsSg f fd) (B : Bi mg) : FnOk P w K mg base CX0 1 f fd ["_law_signs", "_law_sign"] spIsSg := by
  refine F.ok scIsSg (fun vs H Q E h => ?_) (fun cdv A outer s H vs Q E hr h => ?_)
  · obtain ⟨n, v, rfl, _⟩ := h
    rfl
  · obtain ⟨n, v, rfl, k, q⟩ := h
    refine ⟨_, pss_one (ps_ret (pe_and (pe_isi B.isi (pa_cons (pv 1) (pa_cons (pe_ty "int" B.int) pa_nil))) (pe_and (pe_not (pe_isi B.isi (pa_cons (pv 1) (pa_cons (pe_ty "bool" B.bool) pa_nil)))) (pe_one (pe_chain op_le op_lt pe_int (pv 1) (pv 0)))))), ?_⟩
    obtain ⟨t, ty, k1, k2, _⟩ := k.kinds K
    refine ⟨v, rfl, v, _, _, _, _, rfl, .ty "int", ty, k1, _, rfl, ?_⟩
    cases v with
    | bl b => exact ⟨_, rfl, _, _, _, _, _, rfl, .ty "bool", ty, k2, _, rfl, _, rfl, q⟩
    | int i =>
      refine ⟨_, rfl, _, _, _, _, _, rfl, .ty "bool", ty, k2, _, rfl, _, rfl, ?_⟩
      refine ⟨_, rfl, _, _, rfl, rfl, _, rfl, ?_⟩
      by_cases c : 0 ≤ i
      · rw [decide_eq_true c]
        refine iteT ⟨_, rfl, _, _, rfl, rfl, ?_⟩
        have : btw (.int i) 0 (n - 1) = decide (i < n) := decide_eq_decide.mpr (by omega)
        rw [this] at q
        exact q
      · rw [decide_eq_false c]
        have : btw (.int i) 0 (n - 1) = false := decide_eq_false (by omega)
        rw [this] at q
        exact iteF q
    | _ => exact q
end
end K25
set_option Elab.async false
set_option linter.all false
set_option maxRecDepth 100001
set_option maxHeartbeats 3999999
namespace K25
open PySem L2
/-! ### runs of numbers -/
def run (f j : Nat) : List Int := (List.range j).map fun i => ((f + i : Nat) : Int)
theorem run_snoc (f j : Nat) : run f (j + 1) = run f j ++ [((f + j : Nat) : Int)] := by
  unfold run
  rw [List.range_succ, List.map_append]
  rfl
/-- a run behind ranges -/
def rgap (acc : Prs) (f l : Int) : Prs := match acc.getLast? with
  | some p => if p.2 = f - 1 then acc.dropLast ++ [(p.1, l)] else acc ++ [(f, l)]
  | none => acc ++ [(f, l)]
theorem rgap_one (acc : Prs) (f : Int) : rgap acc f f = rstep acc f := rfl
theorem rgap_next (acc : Prs) (f l : Int) : rstep (rgap acc f l) (l + 1) = rgap acc f (l + 1) := by
  have e : l = l + 1 - 1 := by omega
  rcases List.eq_nil_or_concat acc with rfl | ⟨a, p, rfl⟩
  · exact rstep_join [] (f, l) (l + 1) e
  · rw [List.concat_eq_append]
    unfold rgap
    rw [List.getLast?_concat]
    by_cases c : p.2 = f - 1
    · show rstep (if p.2 = f - 1 then (a ++ [p]).dropLast ++ [(p.1, l)] else _) (l + 1) = if p.2 = f - 1 then (a ++ [p]).dropLast ++ [(p.1, l + 1)] else _
      rw [if_pos c, if_pos c, List.dropLast_concat]
      exact rstep_join a (p.1, l) (l + 1) e
    · show rstep (if p.2 = f - 1 then _ else a ++ [p] ++ [(f, l)]) (l + 1) = if p.2 = f - 1 then _ else a ++ [p] ++ [(f, l + 1)]
      rw [if_neg c, if_neg c]
      exact rstep_join (a ++ [p]) (f, l) (l + 1) e
theorem rngs_run (xs : List Int) (f : Nat) : ∀ j, rngs (xs ++ run f (j + 1)) = rgap (rngs xs) (f : Nat) ((f + j : Nat) : Int)
  | 0 => by
    show rngs (xs ++ [((f + 0 : Nat) : Int)]) = _
    rw [rngs_snoc]
    rfl
  | j + 1 => by
    rw [run_snoc, ← List.append_assoc, rngs_snoc, rngs_run xs f j]
    have : ((f + (j + 1) : Nat) : Int) = ((f + j : Nat) : Int) + 1 := by omega
    rw [this]
    exact rgap_next _ _ _
section
variable {κ : Type} [DecidableEq κ]
theorem grps_run_new {key : Nat → κ} {f : Nat} {c : κ} (hn : ∀ g ∈ grps key f, g.1 ≠ c) : ∀ j, (∀ i, i ≤ j → key (f + i) = c) → grps key (f + j + 1) = grps key f ++ [(c, run f (j + 1))]
  | 0, h => by
    show grp (grps key (f + 0)) (key (f + 0)) _ = _
    rw [h 0 (Nat.le_refl _)]
    exact grp_new hn
  | j + 1, h => by
    have ih := grps_run_new hn j fun i hi => h i (by omega)
    show grp (grps key (f + j + 1)) (key (f + (j + 1))) _ = _
    rw [ih, h (j + 1) (Nat.le_refl _), run_snoc f (j + 1)]
    exact grp_old (r := []) rfl hn
theorem grps_run_old {key : Nat → κ} {f : Nat} {c : κ} {a b : List (κ × List Int)} {g : κ × List Int} (e : grps key f = a ++ g :: b) (hg : g.1 = c) (ha : ∀ x ∈ a, x.1 ≠ c) : ∀ j, (∀ i, i ≤ j → key (f + i) = c) → grps key (f + j + 1) = a ++ (g.1, g.2 ++ run f (j + 1)) :: b
  | 0, h => by
    show grp (grps key (f + 0)) (key (f + 0)) _ = _
    rw [h 0 (Nat.le_refl _)]
    show grp (grps key f) c _ = _
    rw [e]
    exact grp_old hg ha
  | j + 1, h => by
    have ih := grps_run_old e hg ha j fun i hi => h i (by omega)
    show grp (grps key (f + j + 1)) (key (f + (j + 1))) _ = _
    rw [ih, h (j + 1) (Nat.le_refl _), run_snoc f (j + 1), ← List.append_assoc]
    exact grp_old (g := (g.1, g.2 ++ run f (j + 1))) hg ha
end
/-- keys that part alike make the same groups -/
theorem grps_alike {κ μ : Type} [DecidableEq κ] [DecidableEq μ] {k1 : Nat → κ} {k2 : Nat → μ} {n : Nat} (h : ∀ s t, s < n → t < n → (k1 s = k1 t ↔ k2 s = k2 t)) : ∀ m, m ≤ n → Paired (fun (a : κ × List Int) (b : μ × List Int) => a.2 = b.2 ∧ ∃ r, r < n ∧ a.1 = k1 r ∧ b.1 = k2 r) (grps k1 m) (grps k2 m)
  | 0, _ => .nil
  | m + 1, hm => by
    have ih := grps_alike h m (by omega)
    show Paired _ (grp (grps k1 m) (k1 m) _) (grp (grps k2 m) (k2 m) _)
    generalize grps k1 m = g1 at ih ⊢
    generalize grps k2 m = g2 at ih ⊢
    induction ih with
    | nil => exact .cons ⟨rfl, m, by omega, rfl, rfl⟩ .nil
    | @cons a b as bs hd tl ih =>
      obtain ⟨e, r, hr, ea, eb⟩ := hd
      unfold grp
      by_cases c : a.1 = k1 m
      · have c2 : b.1 = k2 m := by
          rw [eb]
          exact (h r m hr (by omega)).mp (by rw [← ea]; exact c)
        rw [if_pos c, if_pos c2]
        exact .cons ⟨by rw [e], r, hr, ea, eb⟩ tl
      · have c2 : ¬ b.1 = k2 m := fun z => c (by
          rw [ea]
          exact (h r m hr (by omega)).mpr (by rw [← eb]; exact z))
        rw [if_neg c, if_neg c2]
        exact .cons ⟨e, r, hr, ea, eb⟩ ih
theorem paired_snd {κ μ : Type} {R : κ × List Int → μ × List Int → Prop} : ∀ {as : List (κ × List Int)} {bs : List (μ × List Int)}, Paired (fun a b => a.2 = b.2 ∧ R a b) as bs → as.map (·.2) = bs.map (·.2)
  | _, _, .nil => rfl
  | _, _, .cons h t => by rw [List.map_cons, List.map_cons, h.1, paired_snd t]
theorem grps_same {κ μ : Type} [DecidableEq κ] [DecidableEq μ] {k1 : Nat → κ} {k2 : Nat → μ} {n : Nat} (h : ∀ s t, s < n → t < n → (k1 s = k1 t ↔ k2 s = k2 t)) : (grps k1 n).map (fun g => rngs g.2) = (grps k2 n).map (fun g => rngs g.2) := by
  have := paired_snd (grps_alike h n (Nat.le_refl _))
  rw [show (fun g : κ × List Int => rngs g.2) = rngs ∘ (·.2) from rfl, show (fun g : μ × List Int => rngs g.2) = rngs ∘ (·.2) from rfl, ← List.map_map, ← List.map_map, this]
/-! ### columns -/
def colB (sss : List Prs) (s : Nat) : List Bool := sss.map fun ps => hasP ps (s : Nat)
theorem colB_eq {sss : List Prs} {s t : Nat} : colB sss s = colB sss t ↔ ∀ ps ∈ sss, hasP ps (s : Nat) = hasP ps (t : Nat) := by
  unfold colB
  exact List.map_inj_left
/-- the key tells the bits -/
theorem keyN_bit (ms : List Nat) (s : Nat) : ∀ i, i < ms.length → (keyN ms s).testBit i = (ms.getD i 0).testBit s := by
  have key : ∀ (L : Nat) (b : Nat → Bool), ((List.range L).map fun i => if b i then 2 ^ i else 0).sum < 2 ^ L ∧ ∀ i, i < L → (((List.range L).map fun i => if b i then 2 ^ i else 0).sum).testBit i = b i := by
    intro L b
    induction L with
    | zero => exact ⟨by show 0 < 1; decide, fun i h => absurd h (Nat.not_lt_zero _)⟩
    | succ L ih =>
      obtain ⟨lt, bits⟩ := ih
      rw [List.range_succ, List.map_append, List.sum_append]
      generalize ((List.range L).map fun i => if b i then 2 ^ i else 0).sum = x at lt bits
      have es : ([L].map fun i => if b i then 2 ^ i else 0).sum = if b L then 2 ^ L else 0 := by simp
      rw [es]
      cases hb : b L with
      | false =>
        rw [if_neg (by decide), Nat.add_zero]
        refine ⟨Nat.lt_of_lt_of_le lt (Nat.pow_le_pow_right (by decide) (by omega)), fun i hi => ?_⟩
        rcases Nat.lt_succ_iff_lt_or_eq.mp hi with h | rfl
        · exact bits i h
        · rw [Nat.testBit_lt_two_pow lt, hb]
      | true =>
        rw [if_pos rfl, Nat.add_comm]
        have e2 : 2 ^ L + x = 2 ^ L * 1 + x := by rw [Nat.mul_one]
        refine ⟨by rw [Nat.pow_succ]; omega, fun i hi => ?_⟩
        rw [e2, Nat.testBit_two_pow_mul_add _ lt]
        rcases Nat.lt_succ_iff_lt_or_eq.mp hi with h | rfl
        · rw [if_pos h]
          exact bits i h
        · rw [if_neg (Nat.lt_irrefl _), Nat.sub_self, hb]
          decide
  exact (key ms.length fun i => (ms.getD i 0).testBit s).2
theorem keyN_eq {ms : List Nat} {s t : Nat} : keyN ms s = keyN ms t ↔ ∀ m ∈ ms, m.testBit s = m.testBit t := by
  constructor
  · intro h m hm
    obtain ⟨i, hi⟩ := List.getElem?_of_mem hm
    have lt := (List.getElem?_eq_some_iff.mp hi).1
    have g := getD_at (d := 0) hi
    rw [← g, ← keyN_bit ms s i lt, ← keyN_bit ms t i lt, h]
  · intro h
    unfold keyN
    congr 1
    refine List.map_congr_left fun i hi => ?_
    have lt := List.mem_range.mp hi
    have g := getD_at (d := 0) (List.getElem?_eq_getElem lt)
    rw [g, h _ (List.getElem_mem lt)]
/-- the masks of the phrases are those of the spots -/
theorem groups_alike {n : Nat} {ms : List Nat} {sss : List Prs} (ok : ∀ ps ∈ sss, rok (n : Nat) 0 ps) (h1 : ∀ m ∈ ms, ∃ ps ∈ sss, m = mN ps) (h2 : ∀ ps ∈ sss, mN ps ∈ ms) : (grps (keyN ms) n).map (fun g => rngs g.2) = (grps (colB sss) n).map (fun g => rngs g.2) := by
  refine grps_same fun s t _ _ => ?_
  rw [keyN_eq, colB_eq]
  constructor
  · intro h ps hp
    rw [← mN_bit (Int.le_refl 0) (ok ps hp), ← mN_bit (Int.le_refl 0) (ok ps hp)]
    exact h _ (h2 ps hp)
  · intro h m hm
    obtain ⟨ps, hp, rfl⟩ := h1 m hm
    rw [mN_bit (Int.le_refl 0) (ok ps hp), mN_bit (Int.le_refl 0) (ok ps hp)]
    exact h ps hp
/-- between two cuts a column stays -/
theorem colB_const {n : Nat} {sss : List Prs} {f : Nat} {l : Nat} (ok : ∀ ps ∈ sss, rok (n : Nat) 0 ps) (hl : l < n) (cut : ∀ ps ∈ sss, ∀ p ∈ ps, (p.1 ≤ (f : Nat) ∨ ((l : Nat) : Int) < p.1) ∧ (p.2 + 1 ≤ (f : Nat) ∨ ((l : Nat) : Int) < p.2 + 1)) : ∀ s, f ≤ s → s ≤ l → colB sss s = colB sss f := by
  intro s h1 h2
  rw [colB_eq]
  intro ps hp
  unfold hasP
  have : ∀ p ∈ ps, (decide (p.1 ≤ ((s : Nat) : Int)) && decide (((s : Nat) : Int) ≤ p.2)) = (decide (p.1 ≤ ((f : Nat) : Int)) && decide (((f : Nat) : Int) ≤ p.2)) := fun p hpp => by
    obtain ⟨c1, c2⟩ := cut ps hp p hpp
    congr 1 <;> exact decide_eq_decide.mpr (by omega)
  rw [Bool.eq_iff_iff, List.any_eq_true, List.any_eq_true]
  constructor
  · rintro ⟨p, hpp, z⟩
    exact ⟨p, hpp, by rw [← this p hpp]; exact z⟩
  · rintro ⟨p, hpp, z⟩
    exact ⟨p, hpp, by rw [this p hpp]; exact z⟩
end K25
set_option Elab.async false
set_option linter.all false
set_option maxRecDepth 100001
set_option maxHeartbeats 3999999
namespace K25
open PySem L2
abbrev sCR : Stmt := topS 40
/-- classes as they must be -/
def spCR (C : Addr) : Sp := fun vs H Q _ => ∃ (n : Nat) (PL SL : Addr) (ts us : List V) (ps : List (Int × List Prs)) (sss : List Prs), vs = [.int (n : Nat), .ref PL, .ref SL] ∧ 1 ≤ n ∧ n ≤ 2000 ∧ H PL = some (.lst ts) ∧ Paired (fun v p => Ph C H v p.1 p.2 ∧ PhOk p.1 p.2) ts ps ∧ 0 < ps.length ∧ ps.length ≤ 10 ∧ (∀ p ∈ ps, p.1 = (n : Nat)) ∧
  H SL = some (.lst us) ∧ Paired (SpL H) us sss ∧ (∀ ss ∈ sss, OkS (n : Nat) ss) ∧ sss.length ≤ 100 ∧ (∀ m ∈ msOf ps, ∃ ss ∈ sss, m = mN ss) ∧ (∀ ss ∈ sss, mN ss ∈ msOf ps) ∧ ∀ H', Same H H' → Q (.bl true) H'
theorem rok_each {n : Int} : ∀ {ps : Prs} {l : Int}, rok n l ps → ∀ p ∈ ps, l ≤ p.1 ∧ p.1 ≤ p.2 ∧ p.2 ≤ n - 1
  | [], _, _, p, h => nomatch h
  | x :: r, l, ⟨h1, h2, h3, h4⟩, p, hp => by
    rcases List.mem_cons.mp hp with rfl | h
    · omega
    · have := rok_each h4 p h
      omega
def below (n : Nat) (ns : List Int) : List Int := ns.filter fun c : Int => decide (c < ((n : Nat) : Int))
def cutsOf (sss : List Prs) : List Int := 0 :: sss.flatMap fun ss => ss.flatMap fun p => [p.1, p.2 + 1]
theorem cutsOf_snoc (sss : List Prs) (ss : Prs) : cutsOf (sss ++ [ss]) = cutsOf sss ++ ss.flatMap fun p => [p.1, p.2 + 1] := by
  unfold cutsOf
  rw [List.flatMap_append]
  simp
theorem cuts_len : ∀ sss : List Prs, (∀ ss ∈ sss, ss.length ≤ 3) → (cutsOf sss).length ≤ 1 + 6 * sss.length
  | [], _ => by simp [cutsOf]
  | ss :: r, h => by
    have ih := cuts_len r fun x hx => h x (List.mem_cons_of_mem _ hx)
    have h1 := h ss List.mem_cons_self
    have e : (ss.flatMap fun p : Int × Int => [p.1, p.2 + 1]).length = 2 * ss.length := by
      clear ih h h1
      induction ss with
      | nil => rfl
      | cons a t ih => rw [List.flatMap_cons, List.length_append, ih, List.length_cons]; simp; omega
    unfold cutsOf at ih ⊢
    rw [List.flatMap_cons, List.length_cons, List.length_append, e]
    rw [List.length_cons] at ih
    rw [List.length_cons]
    omega
theorem cutS {D : Ends} {t : TS} {σ : St} {H : Hp} (R : St → Hp → Prop) (h1 : ∀ nx : St → Hp → Prop, (∀ σ' H', R σ' H' → nx σ' H') → t { D with nx := nx } σ H) (h2 : ∀ σ' H', R σ' H' → D.nx σ' H') : t D σ H := h1 D.nx h2
theorem cutSeq {D : Ends} {t u : TS} {σ : St} {H : Hp} (R : St → Hp → Prop) (h1 : ∀ nx : St → Hp → Prop, (∀ σ' H', R σ' H' → nx σ' H') → t { D with nx := nx } σ H) (h2 : ∀ σ' H', R σ' H' → u D σ' H') : tSeq t u D σ H := h1 _ h2
theorem last_ok {K : PySem.W.Frag} {σ : St} {H0 : Hp} {Q : VK} {D : Addr} {xs : List Int} {k : Nat} {n : Int} (h0 : σ[0]? = some (some (.int n))) (h3 : σ[3]? = some (some (.ref D))) (h8 : σ[8]? = some (some (.int (k : Nat)))) (hD : H0 D = some (.lst (xs.map V.int))) (h : Q (.int (if k + 1 < xs.length then xs.getD (k + 1) 0 - 1 else n - 1)) H0) :
    tIf (tTest (tOp (rI0 fun i j => V.bl (decide (i < j))) (tOp (rI0 fun i j => V.int (i + j)) (tVar 8) (tC (V.int 1))) (tCB (fun xs H Q => ∃ p ys, xs = [V.ref p] ∧ (SqL K H p ys ∨ SqT K H p ys) ∧ Q (V.int ((ys.length : Nat) : Int)) H) (tCons (tVar 3) tNil))))
      (tOp (rI0 fun i j => V.int (i - j)) (tOp (rIxL K) (tVar 3) (tOp (rI0 fun i j => V.int (i + j)) (tVar 8) (tC (V.int 1)))) (tC (V.int 1))) (tOp (rI0 fun i j => V.int (i - j)) (tVar 0) (tC (V.int 1))) σ H0 Q := by
  refine ⟨_, h8, _, _, rfl, rfl, _, h3, D, _, rfl, .inl (SqL.of hD), _, _, rfl, rfl, _, rfl, ?_⟩
  by_cases c : k + 1 < xs.length
  · rw [if_pos c] at h
    rw [decide_eq_true (show ((k : Nat) : Int) + 1 < (((xs.map V.int).length : Nat) : Int) by rw [List.length_map]; omega)]
    refine iteT ⟨_, h3, _, h8, _, _, rfl, rfl, D, _, _, .int (xs.getD (k + 1) 0), rfl, rfl, SqL.of hD, ?_, _, _, rfl, rfl, h⟩
    have : ((k : Nat) : Int) + 1 = ((k + 1 : Nat) : Int) := by omega
    rw [this]
    exact atI_nat (by rw [List.getElem?_map, List.getElem?_eq_getElem c, getD_at (List.getElem?_eq_getElem c)]; rfl)
  · rw [if_neg c] at h
    rw [decide_eq_false (show ¬ ((k : Nat) : Int) + 1 < (((xs.map V.int).length : Nat) : Int) by rw [List.length_map]; omega)]
    exact iteF ⟨_, h0, _, _, rfl, rfl, h⟩
def dCol (c : List Bool) : PyData := .list (c.map .bool)
theorem enc_col : Enc dCol 1 := enc_bool.lst
theorem dpAll_bl {K : PySem.W.Frag} {H : Hp} : ∀ c : List Bool, DpAll K H (c.map V.bl) (c.map .bool)
  | [] => .nil
  | _ :: c => .cons (.bl _) (dpAll_bl c)
theorem dp_col {K : PySem.W.Frag} {H : Hp} {a : Addr} {c : List Bool} (h : H a = some (.lst (c.map V.bl))) : Dp K H (.ref a) (dCol c) := .lst (SqL.of h) (dpAll_bl c)
abbrev Grp := List Bool × List Int
theorem dp_cols {K : PySem.W.Frag} {H : Hp} : ∀ {as : List Addr} {gs : List Grp}, Paired (fun (a : Addr) (g : Grp) => H a = some (.lst (g.1.map V.bl))) as gs → DpAll K H (as.map V.ref) ((gs.map (·.1)).map dCol)
  | _, _, .nil => .nil
  | _, _, .cons h t => .cons (dp_col h) (dp_cols t)
/-- the state of the law's groups -/
structure Cri (H5 H' : Hp) (A G : Addr) (gr : List Grp) (as hs : List Addr) : Prop where
  a : H' A = some (.lst (as.map V.ref))
  g : H' G = some (.lst (hs.map V.ref))
  pa : Paired (fun (x : Addr) (g : Grp) => H' x = some (.lst (g.1.map V.bl))) as gr
  ph : Paired (fun (x : Addr) (g : Grp) => ∃ ts, H' x = some (.lst ts) ∧ PrAt H' ts (rngs g.2)) hs gr
  fr : ∀ x ∈ as ++ hs, H5 x = none ∧ x ≠ A ∧ x ≠ G
  nd : (as ++ hs).Nodup
  sm : Same H5 H'
theorem Cri.same {H5 H' H2 : Hp} {A G : Addr} {gr : List Grp} {as hs : List Addr} (c : Cri H5 H' A G gr as hs) (e : Same H' H2) : Cri H5 H2 A G gr as hs :=
  ⟨e _ _ c.a, e _ _ c.g, Paired.mapP c.pa fun _ _ z => e _ _ z, Paired.mapP c.ph fun _ _ ⟨ts, z1, z2⟩ => ⟨ts, e _ _ z1, z2.same e⟩, c.fr, c.nd, c.sm.trans e⟩
theorem tYesT {σ : St} {H : Hp} {A B : Hp → Prop} (h : A H) : tYes σ H fun b H3 => if b = true then A H3 else B H3 := by
  show if true = true then A H else B H
  exact iteT h
def dSpL (ps : Prs) : PyData := .list (ps.map dPr)
theorem enc_spl : Enc dSpL 2 := enc_pr.lst
theorem dpAll_spl {K : PySem.W.Frag} {H : Hp} : ∀ {vs : List V} {pss : List Prs}, Paired (SpL H) vs pss → DpAll K H vs (pss.map dSpL)
  | _, _, .nil => .nil
  | _, _, .cons ⟨a, ts, e, h, pr⟩ t => by
    subst e
    exact .cons (.lst (SqL.of h) (dpAll_prs pr)) (dpAll_spl t)
theorem spl_of {H : Hp} : ∀ {hs : List Addr} {gr : List Grp}, Paired (fun (x : Addr) (g : Grp) => ∃ ts, H x = some (.lst ts) ∧ PrAt H ts (rngs g.2)) hs gr → Paired (SpL H) (hs.map V.ref) (gr.map fun g => rngs g.2)
  | _, _, .nil => .nil
  | _, _, .cons ⟨ts, h, pr⟩ t => .cons ⟨_, ts, rfl, h, pr⟩ (spl_of t)
section
variable {P : Program} {w : World} {K : PySem.W.Frag} {mg : Str → Option Value} {base : Heap}
abbrev NCr : List Str := ["_law_signs", "_law_phrases", "_law_spots_here", "_law_cuts", "_law_spot", "_law_pair", "_law_columns", "_law_groups", "_law_k", "_law_first", "_law_last", "_law_column", "_law_group", "_law_cut"]
theorem scCR : FnScope NCr ["_law_signs", "_law_phrases", "_law_spots_here"] (defScope sCR) := ⟨rfl, rfl, rfl, by decide +kernel, rfl, by decide +kernel, by decide +kernel⟩
theorem ok_cr {f C CO : Addr} {fd : FuncData} (F : Fun K "_law_classes_right" "_law_classes_right" sCR f fd) (B : Bi mg) (hsort : mg "sorted" = none) (T : TxP K C) (cH : Cal CX0 P w K mg base 1 "_law_has" spHas) (cC : Cal (L2.CX P w) P w K mg base 4 "classes_of" (spCls C CO)) : FnOk P w K mg base CX0 6 f fd ["_law_signs", "_law_phrases", "_law_spots_here"] (spCR C) := by
  refine F.ok scCR (fun vs H Q E h => ?_) (fun cdv A outer s H vs Q E hr h => ?_)
  · obtain ⟨n, PL, SL, ts, us, ps, sss, rfl, _⟩ := h
    rfl
  · obtain ⟨n, PL, SL, ts, us, ps, sss, rfl, n1, n2, hPL, prP, l0, l1, all, hSL, prS, ok, l20, m1, m2, q⟩ := h
    refine ⟨_, pss_cons (ps_set (i := 3) scCR.nd rfl (Or.inl rfl) (pe_lst (pa_cons pe_int pa_nil)))
      (pss_cons (ps_for PassesOwn.never rfl (pi_sqA (pv 2)) (pg_name (i := 4) scCR.nd rfl (.inl rfl))
        (pss_one (ps_for PassesOwn.never rfl (pi_sqA (pv 4)) (pg_name (i := 5) scCR.nd rfl (.inl rfl))
          (pss_one (ps_expr (pe_bm PySem.F.plainAttrs_list PySem.F.slot_list_extend PySem.F.type_list_extend mt_extend (pv 3) (pa_cons (pe_lst (pa_cons (pe_ix ix_tup (pv 5) pe_int (fun _ _ => rfl)) (pa_cons (pe_op op_add (pe_ix ix_tup (pv 5) pe_int (fun _ _ => rfl)) pe_int) pa_nil))) pa_nil)))))))
      (pss_cons (ps_setLc (i := 3) (own := [("_law_cut", 13)]) rfl scCR.nd rfl rfl (sw_true rfl rfl rfl (by decide +kernel)) (pi_sqA (pe_callB cr_sortedI rfl hsort (by decide +kernel) (pa_cons (pe_lc (own := [("_law_cut", 13)]) rfl scCR.nd (pi_sqA (pv 3)) (blkOk_by (N := NCr) (sc := defScope sCR) (by decide +kernel))
            (fun _ _ _ _ _ => pg_name (i := 13) scCR.nd rfl (Or.inl rfl)) (fun _ _ _ _ _ => pts_nil) (fun _ _ _ _ _ => pe_int1 B.int (pa_cons (pv 13) pa_nil))) pa_nil))) (blkOk_by (N := NCr) (sc := defScope sCR) (by decide +kernel))
          (fun _ _ _ _ _ => pg_name (i := 13) scCR.nd rfl (Or.inl rfl)) (fun _ _ _ _ _ => pts_one (pt_cmpR op_lt (pv 13) (pv 0) (nomark _))) (fun _ _ _ _ _ => pv 13))
      (pss_cons (ps_par (i := 6) (j := 7) rfl scCR.nd rfl rfl (by decide) rfl rfl (pa_cons (pe_lst pa_nil) (pa_cons (pe_lst pa_nil) pa_nil)) rfl)
      (pss_cons (ps_for PassesOwn.never rfl (pi_range1 rfl B.range (pa_cons (pe_len B.len (pa_cons (pv 3) pa_nil)) pa_nil)) (pg_name (i := 8) scCR.nd rfl (.inl rfl))
        (pss_cons (ps_set (i := 9) scCR.nd rfl (Or.inr rfl) (pe_ix ix_list (pv 3) (pv 8) (fun _ _ => rfl)))
        (pss_cons (ps_set (i := 10) scCR.nd rfl (Or.inl rfl) (pe_ifExp (pt_cmpR op_lt (pe_op op_add (pv 8) pe_int) (pe_len B.len (pa_cons (pv 3) pa_nil)) (nomark _)) (pe_op op_sub (pe_ix ix_list (pv 3) (pe_op op_add (pv 8) pe_int) (fun _ _ => rfl)) pe_int) (pe_op op_sub (pv 0) pe_int)))
        (pss_one (ps_if (pt_cmpR op_le (pv 9) (pv 10) (nomark _))
          (pss_cons (ps_setLc (i := 11) (own := [("_law_spot", 4)]) rfl scCR.nd rfl rfl (sw_true rfl rfl rfl (by decide +kernel)) (pi_sqA (pv 2)) (blkOk_by (N := NCr) (sc := defScope sCR) (by decide +kernel))
              (fun _ _ _ _ _ => pg_name (i := 4) scCR.nd rfl (Or.inl rfl)) (fun _ _ _ _ _ => pts_nil) (fun _ _ _ _ _ => pe_c cH hr pass0 (pa_cons (pv 4) (pa_cons (pv 9) pa_nil))))
          (pss_cons (ps_if (pt_cmpR (op_notInD (hu65 hr)) (pv 11) (pv 6) rfl)
            (pss_cons (ps_expr (pe_bm PySem.F.plainAttrs_list PySem.F.slot_list_append PySem.F.type_list_append mt_append (pv 6) (pa_cons (pv 11) pa_nil)))
            (pss_one (ps_expr (pe_bm PySem.F.plainAttrs_list PySem.F.slot_list_append PySem.F.type_list_append mt_append (pv 7) (pa_cons (pe_lst pa_nil) pa_nil))))) pss_nil)
          (pss_cons (ps_set (i := 12) scCR.nd rfl (Or.inl rfl) (pe_ix ix_list (pv 7) (pe_bm PySem.F.plainAttrs_list PySem.F.slot_list_index PySem.F.type_list_index (mt_indexD (hu65 hr)) (pv 6) (pa_cons (pv 11) pa_nil)) (fun _ _ => rfl)))
          (pss_one (ps_if (PW.pt (pw_and (pt_cmpR (op_neE (hu64 hr) enc_pr.lst (by decide)) (pv 12) (pe_lst pa_nil) (nomark _)) (pw_and1 (pt_cmpR op_eq (pe_op op_add (pe_ix ix_tup (pe_ix ix_list (pv 12) (pe_un un_neg pe_int) (fun _ _ => rfl)) pe_int (fun _ _ => rfl)) pe_int) (pv 9) (nomark _)))))
            (pss_one (ps_asg (pe_tup (pa_cons (pe_ix ix_tup (pe_ix ix_list (pv 12) (pe_un un_neg pe_int) (fun _ _ => rfl)) pe_int (fun _ _ => rfl)) (pa_cons (pv 10) pa_nil))) (pg_sub (pv 12) (pe_un un_neg pe_int) set_list)))
            (pss_one (ps_expr (pe_bm PySem.F.plainAttrs_list PySem.F.slot_list_append PySem.F.type_list_append mt_append (pv 12) (pa_cons (pe_tup (pa_cons (pv 9) (pa_cons (pv 10) pa_nil))) pa_nil)))))))))
          pss_nil)))))
      (pss_one (ps_ret (pe_cmpR (op_eqSmD (hu64 hr)) (pe_lc (own := [("_law_group", 12)]) rfl scCR.nd (pi_sqA (pe_c cC hr passL (pa_cons (pv 1) pa_nil))) (blkOk_by (N := NCr) (sc := defScope sCR) (by decide +kernel))
            (fun _ _ _ _ _ => pg_name (i := 12) scCR.nd rfl (Or.inl rfl)) (fun _ _ _ _ _ => pts_nil)
            (fun _ _ _ _ _ => pe_lc (own := [("_law_pair", 5)]) rfl scCR.nd (pi_sqAK K rfl (pv 12)) (blkOk_by (N := NCr) (by kernel_rfl)) (fun _ _ _ _ _ => pg_name (i := 5) scCR.nd rfl (Or.inl rfl)) (fun _ _ _ _ _ => pts_nil) (fun _ _ _ _ _ => pe_tupleOfK K rfl rfl B.tuple (pv 5)))) (pv 7) (nomark _)))))))), ?_⟩
    have luS := Paired.length prS
    refine ⟨by show 1 ≤ sizeLine; decide, fun Cc nC => ?_⟩
    have e1 := same_new (o := .lst [.int 0]) nC
    have hC1 : upd H Cc (.lst [.int 0]) Cc = some (.lst [.int 0]) := upd_same
    have nCo : ∀ b o, H b = some o → b ≠ Cc := fun b o z => ne_of_none z nC
    generalize upd H Cc (.lst [.int 0]) = H1 at e1 hC1 ⊢
    have hSL1 := e1 _ _ hSL
    have small : ∀ sss' : List Prs, (∀ ss ∈ sss', ss ∈ sss) → sss'.length ≤ 100 → (cutsOf sss').length ≤ 601 := fun sss' h l => by
      have := cuts_len sss' fun ss hs => (ok ss (h ss hs)).2.2
      omega
    refine ⟨_, rfl, SL, us, rfl, .inl (SqL.of hSL1), fun J G wk hG => for_it wk (fun i σ H' => ∃ (x4 x5 : Option V), σ = [some (.int (n : Nat)), some (.ref PL), some (.ref SL), some (.ref Cc), x4, x5, none, none, none, none, none, none, none, none] ∧ Same H H' ∧ H' Cc = some (.lst ((cutsOf (sss.take i)).map V.int))) ⟨none, none, rfl, e1, hC1⟩ (fun i σ H' _ ⟨_, _, _, e, _⟩ => hG H' fun o z => by rw [hSL1] at z; cases z; exact e _ _ hSL) ?_ ?_⟩
    · rintro i v σ H2 H3 hi ⟨x4, x5, rfl, e2, hC2⟩ ⟨rfl, hv⟩
      obtain ⟨ss, hss, a, ts', rfl, ha, pa⟩ := paired_get prS hv
      have tk : sss.take (i + 1) = sss.take i ++ [ss] := by rw [List.take_add_one, hss]; rfl
      have la := Paired.length pa
      obtain ⟨_, _, l3⟩ := ok ss (List.mem_of_getElem? hss)
      have ha3 := e2 _ _ ha
      refine ⟨_, rfl, a, ts', rfl, .inl (SqL.of ha3), fun J1 G1 wk1 hG1 => for_it wk1 (fun j σ H' => ∃ (x5 : Option V), σ = [some (.int (n : Nat)), some (.ref PL), some (.ref SL), some (.ref Cc), some (.ref a), x5, none, none, none, none, none, none, none, none] ∧ Same H H' ∧ H' Cc = some (.lst ((cutsOf (sss.take i) ++ (ss.take j).flatMap fun p => [p.1, p.2 + 1]).map V.int))) ⟨x5, rfl, e2, by simp; exact hC2⟩ (fun j σ H' _ ⟨_, _, e, _⟩ => hG1 H' fun o z => by rw [ha3] at z; cases z; exact e _ _ ha) ?_ ?_⟩
      · rintro j y σ H4 H5 hj ⟨x5, rfl, e4, hC4⟩ ⟨rfl, hy⟩
        obtain ⟨p, hp, t, rfl, ht⟩ := paired_get pa hy
        have ht5 := e4 _ _ ht
        refine ⟨_, rfl, .inl ⟨rfl, _, SqL.of hC4⟩, _, rfl, t, _, 0, .int p.1, rfl, rfl, SqT.of ht5, rfl, _, rfl, t, _, 1, .int p.2, rfl, rfl, SqT.of ht5, rfl, _, _, rfl, rfl, by show 2 ≤ sizeLine; decide, fun l nl => ?_⟩
        have e6 := same_new (o := .lst [.int p.1, .int (p.2 + 1)]) nl
        have hl6 : upd H5 l (.lst [.int p.1, .int (p.2 + 1)]) l = some (.lst [.int p.1, .int (p.2 + 1)]) := upd_same
        generalize upd H5 l (.lst [.int p.1, .int (p.2 + 1)]) = H6 at e6 hl6 ⊢
        have lc := small (sss.take i) (fun ss h => List.mem_of_mem_take h) (by rw [List.length_take]; omega)
        have lp : ((ss.take j).flatMap fun p : Int × Int => [p.1, p.2 + 1]).length ≤ 6 := by
          have key : ∀ xs : Prs, (xs.flatMap fun p : Int × Int => [p.1, p.2 + 1]).length = 2 * xs.length := by
            intro xs
            induction xs with
            | nil => rfl
            | cons a r ih => rw [List.flatMap_cons, List.length_append, ih, List.length_cons]; simp; omega
          rw [key, List.length_take]
          omega
        refine ⟨Cc, l, _, _, rfl, rfl, e6 _ _ hC4, hl6, Nat.le_of_lt (small10 (by rw [List.length_map, List.length_append]; show _ + 2 ≤ _; omega)), _, rfl, fun b o z => ?_, ?_⟩
        · rw [upd_ne (nCo b o z)]
          exact e6 _ _ (e4 _ _ z)
        · rw [upd_same, List.take_add_one, hp, List.flatMap_append]
          simp
      · rintro σ H4 ⟨x5, rfl, e4, hC4⟩
        refine ⟨_, _, rfl, e4, ?_⟩
        rw [tk, cutsOf_snoc]
        rw [la, List.take_length] at hC4
        exact hC4
    · rintro σ H2 ⟨x4, x5, rfl, e2, hC2⟩
      rw [luS, List.take_length] at hC2
      have lcs := small sss (fun _ h => h) l20
      generalize hcs : cutsOf sss = cs at hC2 lcs
      refine ⟨_, rfl, Cc, _, rfl, .inl (SqL.of hC2), fun J G wk hG D nD => lcM wk (fun i => .int (cs.getD i 0)) (by rw [List.length_map]; omega) nD (fun H' e => hG H' fun o z => e _ _ z) ?_ ?_⟩
      · rintro i y H3 H4 N hi e ⟨rfl, hy⟩ fin
        obtain ⟨c, hc, rfl⟩ : ∃ c, cs[i]? = some c ∧ y = V.int c := by
          rw [List.getElem?_map] at hy
          cases q2 : cs[i]? with
          | none => rw [q2] at hy; cases hy
          | some n => rw [q2] at hy; exact ⟨n, rfl, (Option.some.inj hy).symm⟩
        rw [getD_at hc] at fin
        exact ⟨rfl, _, rfl, .inl ⟨_, rfl, fin _ (Same.refl _)⟩⟩
      intro H3 e3 hD
      have hD : H3 D = some (.lst (cs.map V.int)) := by
        have ec := range_getD (0 : Int) cs
        rw [hD, List.length_map]
        rw [show (List.range cs.length).map (fun i => V.int (cs.getD i 0)) = ((List.range cs.length).map fun i => cs.getD i 0).map V.int by rw [List.map_map]; rfl, ec]
      refine ⟨D, cs, rfl, SqL.of hD, fun ns p pm srt np => ?_⟩
      have e4 := same_new (o := .lst (ns.map V.int)) np
      have hp4 : upd H3 p (.lst (ns.map V.int)) p = some (.lst (ns.map V.int)) := upd_same
      generalize upd H3 p (.lst (ns.map V.int)) = H4 at e4 hp4 ⊢
      have lns := pm.length_eq
      refine ⟨p, _, rfl, .inl (SqL.of hp4), fun J2 G2 wk2 hG2 D2 nD2 => lc_it wk2 (fun j H' => Same H4 H' ∧ H' D2 = some (.lst ((below n (ns.take j)).map V.int))) ⟨same_new nD2, upd_same⟩ (fun j H' _ z => hG2 H' fun o w => z.1 _ _ w) ?_ ?_⟩
      · rintro j y H5 H6 hj ⟨e5, hD5⟩ ⟨rfl, hy⟩
        obtain ⟨c, hc, rfl⟩ : ∃ c, ns[j]? = some c ∧ y = V.int c := by
          rw [List.getElem?_map] at hy
          cases q2 : ns[j]? with
          | none => rw [q2] at hy; cases hy
          | some n => rw [q2] at hy; exact ⟨n, rfl, (Option.some.inj hy).symm⟩
        refine ⟨rfl, ?_⟩
        refine ⟨_, rfl, _, rfl, _, _, rfl, rfl, _, rfl, ?_⟩
        have ly : ((below n (ns.take j)).map V.int).length < sizeLine := by
          rw [List.length_map]
          have := List.length_filter_le (fun c : Int => decide (c < ((n : Nat) : Int))) (ns.take j)
          rw [List.length_take] at this
          unfold below
          exact small10 (by omega)
        have bs : below n (ns.take (j + 1)) = below n (ns.take j) ++ [c].filter fun c : Int => decide (c < ((n : Nat) : Int)) := by
          unfold below
          rw [List.take_add_one, hc, List.filter_append]
          rfl
        by_cases cn : c < ((n : Nat) : Int)
        · rw [decide_eq_true cn]
          refine iteT ⟨_, rfl, _, hD5, ly, fun b o z => ?_, ?_⟩
          · rw [upd_ne (ne_of_none z nD2)]
            exact e5 _ _ z
          · rw [upd_same, bs, List.filter_cons_of_pos (by exact decide_eq_true cn), List.map_append]
            rfl
        · rw [decide_eq_false cn]
          refine iteF ⟨e5, ?_⟩
          rw [bs, List.filter_cons_of_neg (by rw [decide_eq_false cn]; decide), List.filter_nil, List.append_nil]
          exact hD5
      · rintro H5 ⟨e5, hD5⟩
        rw [List.length_map, List.take_length] at hD5
        -- what the cuts are
        have c0 : ∀ c ∈ cs, 0 ≤ c := fun c hc => by
          rw [← hcs] at hc
          unfold cutsOf at hc
          rcases List.mem_cons.mp hc with rfl | hc
          · exact Int.le_refl _
          · obtain ⟨ss, hss, hc⟩ := List.mem_flatMap.mp hc
            obtain ⟨p, hp, hc⟩ := List.mem_flatMap.mp hc
            have := rok_has (ok ss hss).2.1 p.1
            obtain ⟨i, hi⟩ := List.getElem?_of_mem hp
            have okp := rok_each (ok ss hss).2.1 p hp
            simp only [List.mem_cons, List.not_mem_nil, or_false] at hc
            rcases hc with rfl | rfl <;> omega
        obtain ⟨bn, hbn⟩ : ∃ bn : List Nat, below n ns = bn.map fun x : Nat => ((x : Nat) : Int) := by
          refine ⟨(below n ns).map Int.toNat, ?_⟩
          rw [List.map_map]
          refine (List.map_id' _).symm.trans (List.map_congr_left fun c hc => ?_)
          have hc : c ∈ ns := (List.mem_filter.mp (show c ∈ List.filter _ ns from hc)).1
          have := c0 c (pm.mem_iff.mp hc)
          show c = ((c.toNat : Nat) : Int)
          omega
        have bsrt : bn.Pairwise (· ≤ ·) := by
          have h : (below n ns).Pairwise (· ≤ ·) := srt.filter _
          rw [hbn, List.pairwise_map] at h
          exact h.imp fun h => by omega
        have bmem : ∀ x : Nat, x ∈ bn ↔ ((x : Nat) : Int) ∈ cs ∧ x < n := fun x => by
          have h1 : x ∈ bn ↔ ((x : Nat) : Int) ∈ below n ns := by
            rw [hbn, List.mem_map]
            exact ⟨fun h => ⟨x, h, rfl⟩, fun ⟨y, hy, e⟩ => by have : y = x := by omega
                                                              rw [← this]; exact hy⟩
          rw [h1]
          unfold below
          rw [List.mem_filter, decide_eq_true_eq, pm.mem_iff]
          exact ⟨fun h => ⟨h.1, by omega⟩, fun h => ⟨h.1, by omega⟩⟩
        have lbn : bn.length ≤ 601 := by
          have h1 : (below n ns).length ≤ ns.length := List.length_filter_le _ _
          rw [hbn, List.length_map] at h1
          omega
        rw [hbn] at hD5
        have e05 : Same H H5 := (((e2.trans e3).trans e4).trans e5)
        clear srt pm hbn hp4 e4 e5 e3 hD nD wk2 hG2 wk hG
        have rkS : ∀ ss ∈ sss, rok (n : Nat) 0 ss := fun ss h => (ok ss h).2.1
        have z0 : 0 ∈ bn := (bmem 0).mpr ⟨by rw [← hcs]; exact List.mem_cons_self, by omega⟩
        have far : ∀ (k : Nat) (hk : k < bn.length) (x : Nat), x ∈ bn → x ≤ bn[k] ∨ bn.getD (k + 1) n ≤ x := fun k hk x hx => by
          obtain ⟨i, hi, rfl⟩ := List.getElem_of_mem hx
          rcases Nat.lt_or_ge k i with h | h
          · refine .inr ?_
            have hk1 : k + 1 < bn.length := by omega
            rw [getD_at (List.getElem?_eq_getElem hk1)]
            rcases Nat.eq_or_lt_of_le (show k + 1 ≤ i from h) with e | e
            · subst e; exact Nat.le_refl _
            · exact List.pairwise_iff_getElem.mp bsrt _ _ hk1 hi e
          · refine .inl ?_
            rcases Nat.eq_or_lt_of_le h with e | e
            · subst e; exact Nat.le_refl _
            · exact List.pairwise_iff_getElem.mp bsrt _ _ hi hk e
        have mono : ∀ (k : Nat) (hk : k < bn.length), bn[k] ≤ bn.getD (k + 1) n ∧ bn.getD (k + 1) n ≤ n := fun k hk => by
          have lt := ((bmem bn[k]).mp (List.getElem_mem hk)).2
          by_cases hk1 : k + 1 < bn.length
          · rw [getD_at (List.getElem?_eq_getElem hk1)]
            exact ⟨List.pairwise_iff_getElem.mp bsrt _ _ hk hk1 (Nat.lt_succ_self k), Nat.le_of_lt ((bmem _).mp (List.getElem_mem hk1)).2⟩
          · rw [List.getD_eq_getElem?_getD, List.getElem?_eq_none (by omega)]
            exact ⟨Nat.le_of_lt lt, Nat.le_refl _⟩
        have start : bn.getD 0 n = 0 := by
          obtain ⟨i, hi, e⟩ := List.getElem_of_mem z0
          have h0 : 0 < bn.length := by omega
          rw [getD_at (List.getElem?_eq_getElem h0)]
          rcases Nat.eq_zero_or_pos i with h | h
          · subst h; exact e
          · have := List.pairwise_iff_getElem.mp bsrt _ _ h0 hi h
            omega
        have const : ∀ (k : Nat) (hk : k < bn.length), bn[k] < bn.getD (k + 1) n → ∀ s, bn[k] ≤ s → s ≤ bn.getD (k + 1) n - 1 → colB sss s = colB sss bn[k] := fun k hk lt => by
          refine colB_const rkS (by have := (mono k hk).2; omega) fun ss hss p hp => ?_
          have okp := rok_each (rkS ss hss) p hp
          have inC : ∀ x : Int, x = p.1 ∨ x = p.2 + 1 → x ∈ cs := fun x hx => by
            rw [← hcs]
            refine List.mem_cons_of_mem _ (List.mem_flatMap.mpr ⟨ss, hss, List.mem_flatMap.mpr ⟨p, hp, ?_⟩⟩)
            rcases hx with rfl | rfl <;> simp
          have use : ∀ x : Int, 0 ≤ x → (x = p.1 ∨ x = p.2 + 1) → x < (n : Nat) → x ≤ (bn[k] : Nat) ∨ ((bn.getD (k + 1) n - 1 : Nat) : Int) < x := fun x x0 hx xn => by
            obtain ⟨y, rfl⟩ := Int.eq_ofNat_of_zero_le x0
            have := far k hk y ((bmem y).mpr ⟨inC _ hx, by omega⟩)
            omega
          refine ⟨use _ okp.1 (.inl rfl) (by omega), ?_⟩
          by_cases c : p.2 + 1 < ((n : Nat) : Int)
          · exact use _ (by omega) (.inr rfl) c
          · have := (mono k hk).2
            exact .inr (by omega)
        refine ⟨by show 0 ≤ sizeLine; decide, fun A nA => ?_⟩
        have eA := same_new (o := .lst []) nA
        have hA0 : upd H5 A (.lst []) A = some (.lst []) := upd_same
        generalize upd H5 A (.lst []) = HA at eA hA0 ⊢
        refine ⟨by show 0 ≤ sizeLine; decide, fun G nG => ?_⟩
        have eG := same_new (o := .lst []) nG
        have hG0 : upd HA G (.lst []) G = some (.lst []) := upd_same
        have AG : A ≠ G := ne_of_none hA0 nG
        have hA1 := eG _ _ hA0
        have nG5 : H5 G = none := eA.free nG
        generalize upd HA G (.lst []) = HG at eG hG0 hA1 ⊢
        have e5G := eA.trans eG
        refine ⟨_, _, rfl, ?_⟩
        have lG : (bn.map fun x : Nat => ((x : Nat) : Int)).length = bn.length := List.length_map ..
        have hDG := e5G _ _ hD5
        refine ⟨_, rfl, D2, _, rfl, .inl (SqL.of hDG), _, rfl, by rw [List.length_map, lG]; omega, by rw [List.length_map, lG]; omega, for_range (lo := 0) (n := ((((bn.map fun x : Nat => ((x : Nat) : Int)).map V.int).length : Nat) : Int).toNat) (fun k σ H' => ∃ (x4 x5 x8 x9 x10 x11 x12 : Option V) (as hs : List Addr), σ = [some (.int (n : Nat)), some (.ref PL), some (.ref SL), some (.ref D2), x4, x5, some (.ref A), some (.ref G), x8, x9, x10, x11, x12, none] ∧ Cri H5 H' A G (grps (colB sss) (bn.getD k n)) as hs)
          ⟨x4, x5, none, none, none, none, none, [], [], rfl, by rw [start]; exact ⟨hA1, hG0, .nil, .nil, (fun x h => nomatch h), List.nodup_nil, e5G⟩⟩ ?_ ?_⟩
        · rintro k σ H6 hk ⟨x4, x5, x8, x9, x10, x11, x12, as, hs, rfl, cri⟩
          have hk : k < bn.length := by rw [Int.toNat_natCast, List.length_map, lG] at hk; exact hk
          have k0 : (0 : Int) + (k : Nat) = (k : Nat) := by omega
          rw [k0]
          have hD6 := cri.sm _ _ hD5
          have gk : bn.getD k n = bn[k] := getD_at (List.getElem?_eq_getElem hk)
          have mk := mono k hk
          have fn := ((bmem bn[k]).mp (List.getElem_mem hk)).2
          have cst := const k hk
          rw [gk] at cri
          refine ⟨_, rfl, _, rfl, D2, _, _, .int (bn[k] : Nat), rfl, rfl, SqL.of hD6, atI_nat (by rw [List.getElem?_map, List.getElem?_map, List.getElem?_eq_getElem hk]; rfl), ?_⟩
          generalize hf : bn[k] = f at cri mk cst fn ⊢
          generalize hm : bn.getD (k + 1) n = m at mk cst ⊢
          refine last_ok (k := k) (n := (n : Nat)) (xs := bn.map fun x : Nat => ((x : Nat) : Int)) rfl rfl rfl hD6 ?_
          have eL : (if k + 1 < (bn.map fun x : Nat => ((x : Nat) : Int)).length then (bn.map fun x : Nat => ((x : Nat) : Int)).getD (k + 1) 0 - 1 else ((n : Nat) : Int) - 1) = ((m : Nat) : Int) - 1 := by
            rw [lG]
            by_cases c : k + 1 < bn.length
            · rw [if_pos c, List.getD_eq_getElem?_getD, List.getElem?_map, List.getElem?_eq_getElem c, ← hm, getD_at (List.getElem?_eq_getElem c)]
              rfl
            · rw [if_neg c, ← hm, List.getD_eq_getElem?_getD, List.getElem?_eq_none (by omega)]
              rfl
          rw [eL]
          refine ⟨_, rfl, _, rfl, _, _, rfl, rfl, _, rfl, ?_⟩
          by_cases c : f < m
          · rw [decide_eq_true (show ((f : Nat) : Int) ≤ ((m : Nat) : Int) - 1 by omega)]
            refine iteT ?_
            have hSL6 := cri.sm _ _ (e05 _ _ hSL)
            refine ⟨_, rfl, SL, us, rfl, .inl (SqL.of hSL6), fun J G' wk hG' Dc nDc => lcM wk (fun i => .bl (hasP (sss.getD i []) (f : Nat))) (by omega) nDc (fun H' e => hG' H' fun o z => e _ _ z) ?_ ?_⟩
            · rintro i y H7 H8 N hi e ⟨rfl, hy⟩ fin
              obtain ⟨ss, hss, a, ts', rfl, ha, pa⟩ := paired_get prS hy
              rw [getD_at hss] at fin
              have e78 := (e05.trans cri.sm).trans e
              have l3 := (ok ss (List.mem_of_getElem? hss)).2.2
              exact ⟨rfl, _, rfl, _, rfl, a, ts', ss, (f : Nat), rfl, .inl (e78 _ _ ha), pa.same e78, by omega, fun H9 e9 => fin _ e9⟩
            intro H7 e7 hDc
            rw [map_bl, luS] at hDc
            have ecol : (List.range sss.length).map (fun i => hasP (sss.getD i []) (f : Nat)) = colB sss f := by
              have := range_getD ([] : Prs) sss
              rw [show (List.range sss.length).map (fun i => hasP (sss.getD i []) ((f : Nat) : Int)) = ((List.range sss.length).map fun i => sss.getD i []).map fun ps => hasP ps ((f : Nat) : Int) by rw [List.map_map]; rfl, this]
              rfl
            rw [ecol] at hDc
            have cri7 := cri.same e7
            have d5 : H5 Dc = none := (cri.sm.trans (Same.refl _)).free nDc
            have dA : Dc ≠ A := (ne_of_none cri.a nDc).symm
            have dG : Dc ≠ G := (ne_of_none cri.g nDc).symm
            have dash : Dc ∉ as ++ hs := fun h => by
              rcases List.mem_append.mp h with h | h
              · obtain ⟨i, hi⟩ := List.getElem?_of_mem h
                obtain ⟨g, _, hg⟩ := paired_get cri.pa hi
                rw [nDc] at hg
                cases hg
              · obtain ⟨i, hi⟩ := List.getElem?_of_mem h
                obtain ⟨g, _, ts', hg, _⟩ := paired_get cri.ph hi
                rw [nDc] at hg
                cases hg
            generalize hcol : colB sss f = c0 at hDc cst
            obtain ⟨j, ej⟩ : ∃ j, m = f + j + 1 := ⟨m - f - 1, by omega⟩
            have cst' : ∀ i, i ≤ j → colB sss (f + i) = c0 := fun i hi => by
              rw [cst c (f + i) (by omega) (by omega)]
            -- what stands when the column is among the columns
            dsimp only [gName]
            refine cutSeq (t := tIfS _ _ _) (fun σ' H' => ∃ (as' hs' : List Addr) (a b : List Grp) (xs : List Int), σ' = [some (.int (n : Nat)), some (.ref PL), some (.ref SL), some (.ref D2), x4, x5, some (.ref A), some (.ref G), some (.int (k : Nat)), some (.int (f : Nat)), some (.int ((m : Nat) - 1)), some (.ref Dc), x12, none] ∧
              Cri H5 H' A G (a ++ (c0, xs) :: b) as' hs' ∧ H' Dc = some (.lst (c0.map V.bl)) ∧ (∀ x ∈ a, x.1 ≠ c0) ∧ grps (colB sss) m = a ++ (c0, xs ++ run f (j + 1)) :: b ∧ (a ++ (c0, xs) :: b).length ≤ 3000 ∧ xs.length ≤ 2000) (fun nx hnx => ?_) (fun σ' H' r => ?_)
            · have lgr := grps_len (colB sss) f
              have lgx := grps_each (colB sss) f
              have las := Paired.length cri7.pa
              have lhs := Paired.length cri7.ph
              have run_new := fun hn => grps_run_new (key := colB sss) (f := f) (c := c0) hn j cst'
              have run_old := fun (a b : List Grp) (g : Grp) e hg ha => grps_run_old (key := colB sss) (f := f) (c := c0) (a := a) (b := b) (g := g) e hg ha j cst'
              rw [← ej] at run_new run_old
              generalize hgr : grps (colB sss) f = gr at cri7 lgr lgx las lhs run_new run_old
              have ean : ((gr.map (·.1)).map dCol).any (fun z => PyData.eqv z (dCol c0)) = (gr.map (·.1)).any fun x => decide (x = c0) := by
                rw [List.any_map]
                congr 1
                funext x
                exact enc_col.eqv x c0
              refine ⟨_, rfl, _, rfl, dCol c0, (gr.map (·.1)).map dCol, dp_col hDc, .lst (SqL.of cri7.a) (dp_cols cri7.pa), enc_col.sh (by decide) c0, enc_col.lst.sh (by decide) (gr.map (·.1)), _, rfl, ?_⟩
              rw [ean]
              rcases grp_split c0 gr with hn | ⟨a, g, b, e, hg, ha⟩
              · rw [show (gr.map (·.1)).any (fun x => decide (x = c0)) = false by
                  rw [List.any_eq_false]
                  intro x hx
                  obtain ⟨g, hg, rfl⟩ := List.mem_map.mp hx
                  rw [decide_eq_false (hn g hg)]
                  decide]
                refine iteT ?_
                refine ⟨_, rfl, .inl ⟨rfl, _, SqL.of cri7.a⟩, _, rfl, A, _, _, rfl, rfl, cri7.a, by rw [List.length_map]; exact small10 (by omega), ?_⟩
                have hG8 : upd H7 A (.lst (as.map V.ref ++ [.ref Dc])) G = some (.lst (hs.map V.ref)) := (upd_ne AG.symm).trans cri7.g
                refine ⟨_, rfl, .inl ⟨rfl, _, SqL.of hG8⟩, by show 0 ≤ sizeLine; decide, fun z nz => ?_⟩
                have zA : z ≠ A := fun h => by rw [h, upd_same] at nz; cases nz
                have nz7 : H7 z = none := by rw [upd_ne zA] at nz; exact nz
                have z5 : H5 z = none := cri7.sm.free nz7
                have zG : z ≠ G := (ne_of_none cri7.g nz7).symm
                have zDc : z ≠ Dc := (ne_of_none hDc nz7).symm
                have zash : z ∉ as ++ hs := fun h => by
                  rcases List.mem_append.mp h with h | h
                  · obtain ⟨i, hi⟩ := List.getElem?_of_mem h
                    obtain ⟨g, _, hg⟩ := paired_get cri7.pa hi
                    rw [nz7] at hg
                    cases hg
                  · obtain ⟨i, hi⟩ := List.getElem?_of_mem h
                    obtain ⟨g, _, ts', hg, _⟩ := paired_get cri7.ph hi
                    rw [nz7] at hg
                    cases hg
                refine ⟨G, _, _, rfl, rfl, (upd_ne zG.symm).trans hG8, by rw [List.length_map]; exact small10 (by omega), ?_⟩
                have oth : ∀ b, b ≠ A → b ≠ G → b ≠ z → upd (upd (upd H7 A (.lst (as.map V.ref ++ [.ref Dc]))) z (.lst [])) G (.lst (hs.map V.ref ++ [.ref z])) b = H7 b := fun b h1 h2 h3 => by rw [upd_ne h2, upd_ne h3, upd_ne h1]
                have tt : TT H7 (upd (upd (upd H7 A (.lst (as.map V.ref ++ [.ref Dc]))) z (.lst [])) G (.lst (hs.map V.ref ++ [.ref z]))) := fun b us' h => by rw [oth b (ne_of h cri7.a fun y => nomatch y) (ne_of h cri7.g fun y => nomatch y) (ne_of_none h nz7)]; exact h
                refine hnx _ _ ⟨as ++ [Dc], hs ++ [z], gr, [], [], rfl, ⟨?_, ?_, ?_, ?_, ?_, ?_, ?_⟩, ?_, hn, ?_, ?_, Nat.zero_le _⟩
                · rw [upd_ne AG, upd_ne zA.symm, upd_same, List.map_append]
                  rfl
                · rw [upd_same, List.map_append]
                  rfl
                · refine paired_app ?_ .nil (paired_in cri7.pa fun b hb g' h => ?_)
                  · rw [oth Dc dA dG zDc.symm]
                    exact hDc
                  · have f1 := cri7.fr b (List.mem_append_left _ hb)
                    rw [oth b f1.2.1 f1.2.2 (fun y => zash (by rw [← y]; exact List.mem_append_left _ hb))]
                    exact h
                · refine paired_app ⟨[], (upd_ne zG).trans upd_same, .nil⟩ .nil (paired_in cri7.ph fun b hb g' ⟨ts', h1, h2⟩ => ⟨ts', ?_, h2.tt tt⟩)
                  have f1 := cri7.fr b (List.mem_append_right _ hb)
                  rw [oth b f1.2.1 f1.2.2 (fun y => zash (by rw [← y]; exact List.mem_append_right _ hb))]
                  exact h1
                · intro x hx
                  simp only [List.mem_append, List.mem_singleton] at hx
                  rcases hx with (hx | rfl) | (hx | rfl)
                  · exact cri7.fr x (List.mem_append_left _ hx)
                  · exact ⟨d5, dA, dG⟩
                  · exact cri7.fr x (List.mem_append_right _ hx)
                  · exact ⟨z5, zA, zG⟩
                · have nd := List.nodup_append.mp cri7.nd
                  rw [List.nodup_append]
                  refine ⟨?_, ?_, ?_⟩
                  · rw [List.nodup_append]
                    refine ⟨nd.1, by simp, fun x hx y hy => ?_⟩
                    rw [List.mem_singleton.mp hy]
                    exact fun h => dash (by rw [← h]; exact List.mem_append_left _ hx)
                  · rw [List.nodup_append]
                    refine ⟨nd.2.1, by simp, fun x hx y hy => ?_⟩
                    rw [List.mem_singleton.mp hy]
                    exact fun h => zash (by rw [← h]; exact List.mem_append_right _ hx)
                  · intro x hx y hy
                    rcases List.mem_append.mp hx with hx | hx <;> rcases List.mem_append.mp hy with hy | hy
                    · exact nd.2.2 x hx y hy
                    · rw [List.mem_singleton.mp hy]
                      exact fun h => zash (by rw [← h]; exact List.mem_append_left _ hx)
                    · rw [List.mem_singleton.mp hx]
                      exact fun h => dash (by rw [h]; exact List.mem_append_right _ hy)
                    · rw [List.mem_singleton.mp hx, List.mem_singleton.mp hy]
                      exact zDc.symm
                · intro b o h
                  have h7 := cri7.sm b o h
                  rw [oth b (fun y => by rw [y, nA] at h; cases h) (fun y => by rw [y, nG5] at h; cases h) (ne_of_none h7 nz7)]
                  exact h7
                · rw [oth Dc dA dG zDc.symm]
                  exact hDc
                · rw [run_new hn]
                  rfl
                · rw [List.length_append]
                  show gr.length + 1 ≤ 3000
                  omega
              · rw [show (gr.map (·.1)).any (fun x => decide (x = c0)) = true by
                  rw [List.any_eq_true]
                  exact ⟨g.1, List.mem_map.mpr ⟨g, by rw [e]; exact List.mem_append_right _ List.mem_cons_self, rfl⟩, decide_eq_true hg⟩]
                obtain ⟨gc, gx⟩ := g
                have hg : gc = c0 := hg
                subst hg
                refine iteF (hnx _ _ ⟨as, hs, a, b, gx, rfl, ?_, hDc, ha, ?_, ?_, Nat.le_trans (lgx (gc, gx) (by rw [e]; exact List.mem_append_right _ List.mem_cons_self)) (by omega)⟩)
                · rw [← e]
                  exact cri7
                · exact run_old a b (gc, gx) e rfl ha
                · rw [← e]
                  omega
            · obtain ⟨as', hs', a, b, xs, rfl, cri', hDc', na, eg, lg, lxs0⟩ := r
              have gm : m = bn.getD (k + 1) n := hm.symm
              obtain ⟨a1, a0, a2, ea, pa1, pa0, pa2⟩ := paired_split cri'.pa
              obtain ⟨h1, h0, h2, eh, ph1, ⟨tsg, hh0, prg⟩, ph2⟩ := paired_split cri'.ph
              have la := Paired.length ph1
              have memh : h0 ∈ as' ++ hs' := List.mem_append_right _ (by rw [eh]; exact List.mem_append_right _ List.mem_cons_self)
              obtain ⟨f5, hA, hG⟩ := cri'.fr h0 memh
              have eidx : ((a ++ (c0, xs) :: b).map (·.1)).map dCol = a.map (fun g => dCol g.1) ++ dCol c0 :: b.map (fun g => dCol g.1) := by
                rw [List.map_map, List.map_append]
                rfl
              have hds : (((a ++ (c0, xs) :: b).map (·.1)).map dCol)[a.length]? = some (dCol c0) := by
                rw [eidx, List.getElem?_append_right (by rw [List.length_map]; exact Nat.le_refl _), List.length_map, Nat.sub_self]
                rfl
              refine ⟨_, rfl, _, rfl, .inl ⟨rfl, _, SqL.of cri'.a⟩, _, rfl, A, .ref Dc, dCol c0, ((a ++ (c0, xs) :: b).map (·.1)).map dCol, a.length, dCol c0, rfl, rfl, .lst (SqL.of cri'.a) (dp_cols cri'.pa), dp_col hDc', enc_col.lst.sh (by decide) ((a ++ (c0, xs) :: b).map (·.1)), enc_col.sh (by decide) c0, hds, by rw [enc_col.eqv]; exact decide_eq_true rfl, fun q' z' hq' hz' => ?_, ?_⟩
              · rw [eidx, List.getElem?_append_left (by rw [List.length_map]; exact hq'), List.getElem?_map, List.getElem?_eq_getElem hq'] at hz'
                have hz' : z' = dCol a[q'].1 := (Option.some.inj hz').symm
                rw [hz', enc_col.eqv]
                exact decide_eq_false (na _ (List.getElem_mem hq'))
              refine ⟨G, _, _, .ref h0, rfl, rfl, SqL.of cri'.g, atI_nat ?_, ?_⟩
              · rw [eh, ← la, List.getElem?_map, List.getElem?_append_right (Nat.le_refl _), Nat.sub_self]
                rfl
              have lastE : ((m : Nat) : Int) - 1 = ((f + j : Nat) : Int) := by omega
              have fin : ∀ (Hx : Hp) (ts' : List V) (y12 : Option V), Same H' Hx → PrAt (upd Hx h0 (.lst ts')) ts' (rgap (rngs xs) (f : Nat) ((m : Nat) - 1)) →
                  ∃ (w4 w5 w8 w9 w10 w11 w12 : Option V) (as hs : List Addr), [some (V.int (n : Nat)), some (.ref PL), some (.ref SL), some (.ref D2), x4, x5, some (.ref A), some (.ref G), some (.int (k : Nat)), some (.int (f : Nat)), some (.int ((m : Nat) - 1)), some (.ref Dc), y12, none] = [some (.int (n : Nat)), some (.ref PL), some (.ref SL), some (.ref D2), w4, w5, some (.ref A), some (.ref G), w8, w9, w10, w11, w12, none] ∧ Cri H5 (upd Hx h0 (.lst ts')) A G (grps (colB sss) m) as hs := by
                intro Hx ts' y12 ex prx
                have cx := cri'.same ex
                have nd := cri'.nd
                rw [eh] at nd
                have nd2 := List.nodup_append.mp nd
                have nd3 := List.nodup_append.mp nd2.2.1
                have nd4 := (List.nodup_cons.mp nd3.2.1).1
                have keepA : ∀ x ∈ as', x ≠ h0 := fun x hx => nd2.2.2 x hx h0 (List.mem_append_right _ List.mem_cons_self)
                have tt : TT Hx (upd Hx h0 (.lst ts')) := TT.lst (ex _ _ hh0)
                refine ⟨_, _, _, _, _, _, _, as', hs', rfl, ⟨(upd_ne hA.symm).trans cx.a, (upd_ne hG.symm).trans cx.g, ?_, ?_, cri'.fr, cri'.nd, fun b' o h => ?_⟩⟩
                · rw [eg]
                  have pA := cx.pa
                  rw [ea] at pA keepA ⊢
                  obtain ⟨b1, b0, b2, eb, q1, q0, q2⟩ := paired_split pA
                  have l1 := Paired.length pa1
                  have l2 := Paired.length q1
                  obtain ⟨e1', e2'⟩ := List.append_inj eb (by omega)
                  obtain ⟨e3', e4'⟩ := List.cons.inj e2'
                  subst e1' e3' e4'
                  refine paired_app ?_ (paired_in q2 ?_) (paired_in q1 ?_)
                  · exact (upd_ne (keepA _ (List.mem_append_right _ List.mem_cons_self))).trans q0
                  · intro x hx g' h
                    exact (upd_ne (keepA x (List.mem_append_right _ (List.mem_cons_of_mem _ hx)))).trans h
                  · intro x hx g' h
                    exact (upd_ne (keepA x (List.mem_append_left _ hx))).trans h
                · rw [eg, eh]
                  refine paired_app ⟨ts', upd_same, ?_⟩ (paired_in ph2 fun x hx g' ⟨us', z1, z2⟩ => ⟨us', (upd_ne fun y => nd4 (by rw [← y]; exact hx)).trans (ex _ _ z1), (z2.same ex).tt tt⟩) (paired_in ph1 fun x hx g' ⟨us', z1, z2⟩ => ⟨us', (upd_ne (nd3.2.2 x hx h0 List.mem_cons_self)).trans (ex _ _ z1), (z2.same ex).tt tt⟩)
                  rw [rngs_run xs f j, ← lastE]
                  exact prx
                · rw [upd_ne (fun y => by rw [y, f5] at h; cases h)]
                  exact cx.sm _ _ h
              have lxs : tsg.length ≤ 10000 := by
                rw [Paired.length prg]
                exact Nat.le_trans (rngs_len xs) (by omega)
              refine ⟨_, rfl, by show 0 ≤ sizeLine; decide, fun e0 ne0 => ?_⟩
              have ee := same_new (o := .lst []) ne0
              have he0 : upd H' e0 (.lst []) e0 = some (.lst []) := upd_same
              generalize upd H' e0 (.lst []) = H8 at ee he0 ⊢
              have hh8 := ee _ _ hh0
              have prg8 := prg.same ee
              refine ⟨rngs xs, [], .lst (SqL.of hh8) (dpAll_prs prg8), .lst (SqL.of he0) .nil, _, rfl, ?_⟩
              generalize hrs : rngs xs = rs at prg8 fin ⊢
              -- the pair goes behind
              have back : rgap rs (f : Nat) ((m : Nat) - 1) = rs ++ [(((f : Nat) : Int), ((m : Nat) : Int) - 1)] → ∀ t, H8 t = none → PrAt (upd (upd H8 t (.tup [.int (f : Nat), .int ((m : Nat) - 1)])) h0 (.lst (tsg ++ [.ref t]))) (tsg ++ [.ref t]) (rgap rs (f : Nat) ((m : Nat) - 1)) := fun er t nt => by
                rw [er]
                have tH : t ≠ h0 := (ne_of_none hh8 nt).symm
                have hh9 : upd H8 t (.tup [.int (f : Nat), .int ((m : Nat) - 1)]) h0 = some (.lst tsg) := (upd_ne tH.symm).trans hh8
                exact Paired.snoc ((prg8.same (same_new nt)).put hh9) ⟨t, rfl, (upd_ne tH).trans upd_same⟩
              rcases List.eq_nil_or_concat rs with er | ⟨qs, p, er⟩
              · rw [decide_eq_true er]
                refine iteF (iteF ⟨_, rfl, .inl ⟨rfl, _, SqL.of hh8⟩, _, rfl, _, rfl, by show 2 ≤ sizeLine; decide, fun t nt => ?_⟩)
                refine ⟨h0, tsg, _, rfl, rfl, (upd_ne (ne_of_none hh8 nt)).trans hh8, small10 lxs, ?_⟩
                exact fin _ _ _ (ee.trans (same_new nt)) (back (by rw [er]; rfl) t nt)
              · rw [List.concat_eq_append] at er
                rw [decide_eq_false (show ¬ rs = [] by rw [er]; simp)]
                refine iteT ?_
                have prl := prg8
                rw [er] at prl
                obtain ⟨us0, v0, eu, pu, t0, rfl, ht0⟩ := paired_last prl
                have hh8' := hh8
                rw [eu] at hh8'
                have two : atI [V.int p.1, V.int p.2] 1 = some (V.int p.2) := rfl
                have one : atI [V.int p.1, V.int p.2] 0 = some (V.int p.1) := rfl
                refine ⟨_, rfl, _, rfl, h0, _, _, _, rfl, rfl, SqL.of hh8', atI_last us0 (V.ref t0), t0, _, _, _, rfl, rfl, SqT.of ht0, two, _, _, rfl, rfl, _, rfl, rfl, _, rfl, ?_⟩
                rw [dec_int, dec_beq]
                by_cases cc : p.2 + 1 = ((f : Nat) : Int)
                · rw [decide_eq_true cc]
                  refine iteT ⟨_, rfl, _, rfl, h0, _, _, _, rfl, rfl, SqL.of hh8', atI_last us0 (V.ref t0), t0, _, _, _, rfl, rfl, SqT.of ht0, one, _, rfl, by show 2 ≤ sizeLine; decide, fun t nt => ?_⟩
                  have tH : t ≠ h0 := (ne_of_none hh8 nt).symm
                  refine ⟨_, rfl, _, rfl, h0, _, _, us0.length, rfl, rfl, (upd_ne tH.symm).trans hh8', (by simp [ixN]; omega), ?_⟩
                  refine fin _ _ _ (ee.trans (same_new nt)) ?_
                  have er2 : rgap rs (f : Nat) ((m : Nat) - 1) = qs ++ [(p.1, ((m : Nat) : Int) - 1)] := by
                    rw [er]
                    unfold rgap
                    rw [List.getLast?_concat]
                    show (if p.2 = ((f : Nat) : Int) - 1 then (qs ++ [p]).dropLast ++ _ else _) = _
                    rw [if_pos (by omega), List.dropLast_concat]
                  rw [er2, List.set_append_right _ _ (Nat.le_refl _), Nat.sub_self]
                  have hh9 : upd H8 t (.tup [.int p.1, .int ((m : Nat) - 1)]) h0 = some (.lst (us0 ++ [V.ref t0])) := (upd_ne tH.symm).trans hh8'
                  exact Paired.snoc ((PrAt.same pu (same_new nt)).put hh9) ⟨t, rfl, (upd_ne tH).trans upd_same⟩
                · rw [decide_eq_false cc]
                  refine iteF ⟨_, rfl, .inl ⟨rfl, _, SqL.of hh8⟩, _, rfl, _, rfl, by show 2 ≤ sizeLine; decide, fun t nt => ?_⟩
                  refine ⟨h0, tsg, _, rfl, rfl, (upd_ne (ne_of_none hh8 nt)).trans hh8, small10 lxs, ?_⟩
                  refine fin _ _ _ (ee.trans (same_new nt)) (back ?_ t nt)
                  rw [er]
                  unfold rgap
                  rw [List.getLast?_concat]
                  show (if p.2 = ((f : Nat) : Int) - 1 then _ else qs ++ [p] ++ _) = _
                  rw [if_neg (by omega)]
          · rw [decide_eq_false (show ¬ ((f : Nat) : Int) ≤ ((m : Nat) : Int) - 1 by omega)]
            have : m = f := by omega
            rw [this]
            exact iteF ⟨_, _, _, _, _, _, _, as, hs, rfl, cri⟩
        · rintro σ H6 ⟨x4, x5, x8, x9, x10, x11, x12, as, hs, rfl, cri⟩
          have : bn.getD (((((bn.map fun x : Nat => ((x : Nat) : Int)).map V.int).length : Nat) : Int).toNat) n = n := by
            rw [Int.toNat_natCast, List.length_map, lG, List.getD_eq_getElem?_getD, List.getElem?_eq_none (Nat.le_refl _)]
            rfl
          rw [this] at cri
          have e6 := e05.trans cri.sm
          refine ⟨_, rfl, PL, ts, ps, rfl, e6 _ _ hPL, Paired.mapP prP fun v p ⟨⟨q0, ev, M⟩, O⟩ => ⟨⟨q0, ev, M.same e6⟩, O⟩, l0, l1, .inr ⟨n, all, fun t Ht vsT eT hT pT => ?_⟩⟩
          rw [groups_alike rkS m1 m2] at pT
          generalize hrr : (grps (colB sss) n).map (fun g => rngs g.2) = rr at pT
          have lrr : rr.length ≤ 2000 := by
            rw [← hrr, List.length_map]
            exact Nat.le_trans (grps_len _ _) n2
          have criT := cri.same eT
          refine ⟨t, vsT, rfl, .inr (SqT.of hT), fun J G' wk hG' D nD => lc_it wk (fun j H' => Same Ht H' ∧ ∃ ys, H' D = some (.lst ys) ∧ Paired (fun v ps => SpL H' v ps ∧ v ≠ .ref D) ys (rr.take j)) ⟨same_new nD, [], upd_same, .nil⟩ (fun j H' _ z => hG' H' fun o w => z.1 _ _ w) ?_ ?_⟩
          · rintro j y H7 H8 hj ⟨e7, ys, hD, py⟩ ⟨rfl, hy⟩
            obtain ⟨rs, hrs, a, ts', rfl, ha, pa⟩ := paired_get pT hy
            have ly : ys.length ≤ 10000 := by
              rw [Paired.length py, List.length_take]
              omega
            have lr : rs.length ≤ 10000 := by
              rw [← hrr] at hrs
              obtain ⟨g, hg, eg⟩ := List.mem_map.mp (List.mem_of_getElem? hrs)
              rw [← eg]
              have := grps_each (colB sss) n g hg
              exact Nat.le_trans (rngs_len _) (by omega)
            have lt' := Paired.length pa
            have ha8 := e7 _ _ ha
            refine ⟨rfl, ?_⟩
            refine tYesT ⟨_, rfl, a, ts', rfl, .inr (SqT.of ha8), fun J1 G1 wk1 hG1 D1 nD1 => ?_⟩
            refine lcM wk1 (fun i => ts'.getD i .non) (by omega) nD1 (fun H' e => hG1 H' fun o z => e _ _ z) ?_ ?_
            · rintro i v H9 H10 N hi e ⟨rfl, hv⟩ fin2
              obtain ⟨p, hp, b, rfl, hb⟩ := paired_get pa hv
              rw [getD_at hv] at fin2
              exact ⟨rfl, _, rfl, .inr ⟨b, _, rfl, SqT.of (e _ _ (e7 _ _ hb)), fin2 _ (Same.refl _)⟩⟩
            · intro H9 e9 hD1
              rw [range_getD] at hD1
              have hD9 := e9 _ _ hD
              have D1D : D1 ≠ D := (ne_of_none hD nD1).symm
              have keep : ∀ v qs, SpL H9 v qs → v ≠ .ref D → SpL (upd H9 D (.lst (ys ++ [.ref D1]))) v qs := fun v qs ⟨u, us', h1, h2, h3⟩ ne => by
                subst h1
                exact ⟨u, us', rfl, (upd_ne fun z => ne (by rw [z])).trans h2, h3.tt (TT.lst hD9)⟩
              refine ⟨ys, hD9, small10 ly, fun b o z => ?_, _, upd_same, ?_⟩
              · rw [upd_ne (ne_of_none z nD)]
                exact e9 _ _ (e7 _ _ z)
              · rw [List.take_add_one, hrs]
                exact Paired.snoc (Paired.mapP py fun v qs z => ⟨keep v qs (z.1.tl (TL.same e9)) z.2, z.2⟩) ⟨keep _ _ ⟨D1, ts', rfl, hD1, (pa.same e7).same e9⟩ (fun z => D1D (V.ref.inj z)), fun z => D1D (V.ref.inj z)⟩
          · rintro H7 ⟨e7, ys, hD, py⟩
            rw [Paired.length pT, List.take_length] at py
            have cri7 := criT.same e7
            have pg := spl_of cri7.ph
            rw [hrr] at pg
            refine ⟨_, rfl, .list (rr.map dSpL), .lst (SqL.of hD) (dpAll_spl (Paired.mapP py fun _ _ z => z.1)), .lst (SqL.of cri7.g) (dpAll_spl pg), enc_spl.lst.sh (by decide) rr, ?_⟩
            exact q _ ((e6.trans eT).trans e7)
end
end K25
set_option Elab.async false
set_option linter.all false
set_option maxRecDepth 100001
set_option maxHeartbeats 3999999
namespace K25
open PySem L2
abbrev sCau : Stmt := topS 41
def tC1 (C : Addr) (n f : Str) (o i : Nat) : Addr → Value → Option Addr → TS := fun a cls d => tAsg (tTup (tCons (tC (.str n)) (tCons (tXf a cls d C f (tVar o)) tNil))) (gName i)
def tC3 (C : Addr) (n f g h : Str) (o i : Nat) : Addr → Value → Option Addr → TS := fun a cls d => tAsg (tTup (tCons (tC (.str n)) (tCons (tXf a cls d C f (tVar o)) (tCons (tXf a cls d C g (tVar o)) (tCons (tXf a cls d C h (tVar o)) tNil))))) (gName i)
def tC0 (n : Str) (i : Nat) : TS := tAsg (tTup (tCons (tC (.str n)) tNil)) (gName i)
theorem takes_len {X : Cx} {W : WX} {n : Nat} (e : X.N.length = n) (tk : Takes X W) : Takes X (fun cls d σ H => σ.length = n → W cls d σ H) := fun u s' ⟨a, B, sI, pins, σ, H, cls, d, e1, I, nb, up, sky, na, os, ag, w⟩ =>
  tk u s' ⟨a, B, sI, pins, σ, H, cls, d, e1, I, nb, up, sky, na, os, ag, w (I.len.trans e)⟩
/-- a reading with a stronger end -/
theorem pe_mono {X : Cx} {e : Expr} {te : TE} (h : PE X e te) : PE X e fun σ H Q => ∃ Q' : VK, (∀ x H1, Q' x H1 → Q x H1) ∧ te σ H Q' :=
  ⟨fun pins s σ H Q I ⟨Q', m, k⟩ => wpAny_mono (h.run pins s σ H Q' I k) (fun u s1 ⟨v, H1, I1, r, q⟩ => ⟨v, H1, I1, r, m _ _ q⟩) fun _ _ z => z⟩
/-- what comes of a call that is refused -/
def rC (CS CT CP CG CX : Addr) (Q : VK) : XK := fun cls d H' =>
  (cls = .ref CS ∧ ∃ dd v, d = some dd ∧ H' dd = some (.xd [("signs", v)]) ∧ ∀ t, H' t = none → Q (.ref t) (upd H' t (.tup [.str "signs", v]))) ∨
  (cls = .ref CT ∧ ∃ dd x y z, d = some dd ∧ H' dd = some (.xd [("most", z), ("many", y), ("what", x)]) ∧ ∀ t, H' t = none → Q (.ref t) (upd H' t (.tup [.str "many", x, y, z]))) ∨
  (cls = .ref CP ∧ ∃ dd v, d = some dd ∧ H' dd = some (.xd [("index", v)]) ∧ ∀ t, H' t = none → Q (.ref t) (upd H' t (.tup [.str "spot", v]))) ∨
  (cls = .ref CG ∧ ∃ dd v, d = some dd ∧ H' dd = some (.xd [("index", v)]) ∧ ∀ t, H' t = none → Q (.ref t) (upd H' t (.tup [.str "sign", v]))) ∨
  (cls = .ref CX ∧ ∀ t, H' t = none → Q (.ref t) (upd H' t (.tup [.str "other"])))
def TTc (CS CT CP CG CX : Addr) : (XK → Hp → VK → Prop) → Hp → VK → Prop := fun tl H Q => tl (rC CS CT CP CG CX Q) H fun _ _ => False
/-- the classes that are caught here -/
structure Cts (K : PySem.W.Frag) (mg : Str → Option Value) (CS CT CP CG CX : Addr) : Prop where
  xS : Ct K mg "BadSigns" CS
  xT : Ct K mg "TooMany" CT
  xP : Ct K mg "BadSpot" CP
  xG : Ct K mg "BadSign" CG
  xX : Ct K mg "OtherSigns" CX
  nS_signs : PySem.W.findIn K (.ref CS) "signs" = some none
  nT_what : PySem.W.findIn K (.ref CT) "what" = some none
  nT_many : PySem.W.findIn K (.ref CT) "many" = some none
  nT_most : PySem.W.findIn K (.ref CT) "most" = some none
  nP_index : PySem.W.findIn K (.ref CP) "index" = some none
  nG_index : PySem.W.findIn K (.ref CG) "index" = some none
  e10 : PySem.W.exmOne K (.ref CT) (.ref CS) = some false
  e20 : PySem.W.exmOne K (.ref CP) (.ref CS) = some false
  e21 : PySem.W.exmOne K (.ref CP) (.ref CT) = some false
  e30 : PySem.W.exmOne K (.ref CG) (.ref CS) = some false
  e31 : PySem.W.exmOne K (.ref CG) (.ref CT) = some false
  e32 : PySem.W.exmOne K (.ref CG) (.ref CP) = some false
  e40 : PySem.W.exmOne K (.ref CX) (.ref CS) = some false
  e41 : PySem.W.exmOne K (.ref CX) (.ref CT) = some false
  e42 : PySem.W.exmOne K (.ref CX) (.ref CP) = some false
  e43 : PySem.W.exmOne K (.ref CX) (.ref CG) = some false
theorem scCau : FnScope ["_law_action", "_law_found", "e"] ["_law_action"] (defScope sCau) := ⟨rfl, rfl, rfl, by decide +kernel, rfl, by decide +kernel, by decide +kernel⟩
theorem cau_gives {X : Cx} {g CS CT CP CG CX : Addr} {cdg : Value} {q : Str} (T : Cts X.K X.mg CS CT CP CG CX) : LamX.GivesTo X ["_law_action", "_law_found", "e"] "_law_caught" (defScope sCau) g cdg (defBody sCau) "_law_action" q (TTc CS CT CP CG CX) := by
  intro f c' s H Q tl act hc h
  refine ⟨_, pss_cons (ps_set (i := 1) scCau.nd rfl (Or.inl rfl) pe_non) (pss_cons (ps_try_clauses
      (tb := fun W D σ H => ∃ Ech : XK, (∀ cls d σ' H', Ech cls d H' → σ'.length = 3 → W cls d σ' H') ∧ σ[0]? = some (some (.ref f)) ∧ H c' = some (LamX.CodeO c' q) ∧ tl Ech H fun _ _ => False) (Wout := fun _ _ _ _ => False)
        (l := [(.ref CS, some 2, tC1 CS "signs" "signs" 2 1), (.ref CT, some 2, tC3 CT "many" "what" "many" "most" 2 1), (.ref CP, some 2, tC1 CP "spot" "index" 2 1), (.ref CG, some 2, tC1 CG "sign" "index" 2 1), (.ref CX, none, fun _ _ _ => tC0 "other" 1)]) rfl rfl scCau.nd LamX.takes0
        (fun W pn xe tk _ => ?_)
        (.named ⟨rfl, by decide, .inl T.xS.g⟩ rfl rfl (fun a oe cls d pn hz hf => pss_one (ps_set (i := 1) scCau.nd rfl (Or.inl rfl) (pe_tup (pa_cons pe_str (pa_cons (pe_xf T.xS.T T.nS_signs hz hf (pv 2)) pa_nil)))))
        (.named ⟨rfl, by decide, .inl T.xT.g⟩ rfl rfl (fun a oe cls d pn hz hf => pss_one (ps_set (i := 1) scCau.nd rfl (Or.inl rfl) (pe_tup (pa_cons pe_str (pa_cons (pe_xf T.xT.T T.nT_what hz hf (pv 2)) (pa_cons (pe_xf T.xT.T T.nT_many hz hf (pv 2)) (pa_cons (pe_xf T.xT.T T.nT_most hz hf (pv 2)) pa_nil)))))))
        (.named ⟨rfl, by decide, .inl T.xP.g⟩ rfl rfl (fun a oe cls d pn hz hf => pss_one (ps_set (i := 1) scCau.nd rfl (Or.inl rfl) (pe_tup (pa_cons pe_str (pa_cons (pe_xf T.xP.T T.nP_index hz hf (pv 2)) pa_nil)))))
        (.named ⟨rfl, by decide, .inl T.xG.g⟩ rfl rfl (fun a oe cls d pn hz hf => pss_one (ps_set (i := 1) scCau.nd rfl (Or.inl rfl) (pe_tup (pa_cons pe_str (pa_cons (pe_xf T.xG.T T.nG_index hz hf (pv 2)) pa_nil)))))
        (.plain ⟨rfl, by decide, .inl T.xX.g⟩ (fun a oe cls d pn hz hf => pss_one (ps_set (i := 1) scCau.nd rfl (Or.inl rfl) (pe_tup (pa_cons pe_str pa_nil))))
        .nil))))))
      (pss_one (ps_ret (pv 1)))), ?_⟩
  · refine ⟨fun pins s' σ H' D I h' => ?_⟩
    obtain ⟨Eq, hW, h1, h2, h3⟩ := h'
    have hp := fun p1 p2 => pe_mono (act _ pn xe Eq p1 p2 (takes_len (n := 3) rfl tk) fun cls d σ' H' e => hW cls d σ' H' e)
    refine (pss_one (ps_expr (hp _ _))).run pins s' σ H' D I ?_
    exact ⟨fun _ _ => False, (fun _ _ z => z.elim), h1, h2, h3⟩
  · refine ⟨rC CS CT CP CG CX Q, fun cls d σ' H' e hl => ?_, rfl, hc, h⟩
    match σ', hl with
    | [u0, u1, u2], _ =>
      rcases e with ⟨rfl, dd, v, rfl, hd, k⟩ | ⟨rfl, dd, x, y, z, rfl, hd, k⟩ | ⟨rfl, dd, v, rfl, hd, k⟩ | ⟨rfl, dd, v, rfl, hd, k⟩ | ⟨rfl, k⟩
      · refine ⟨true, T.xS.me, fun _ a na => ?_, fun z => nomatch z⟩
        exact ⟨_, rfl, rfl, rfl, dd, _, _, rfl, hd, rfl, by show 2 ≤ sizeLine; decide, fun t nt => ⟨_, rfl, k t nt⟩⟩
      · refine ⟨false, T.e10, (fun z => nomatch z), fun _ => ⟨true, T.xT.me, fun _ a na => ?_, fun z => nomatch z⟩⟩
        exact ⟨_, rfl, rfl, rfl, dd, _, _, rfl, hd, rfl, _, rfl, rfl, rfl, dd, _, _, rfl, hd, rfl, _, rfl, rfl, rfl, dd, _, _, rfl, hd, rfl, by show 4 ≤ sizeLine; decide, fun t nt => ⟨_, rfl, k t nt⟩⟩
      · refine ⟨false, T.e20, (fun z => nomatch z), fun _ => ⟨false, T.e21, (fun z => nomatch z), fun _ => ⟨true, T.xP.me, fun _ a na => ?_, fun z => nomatch z⟩⟩⟩
        exact ⟨_, rfl, rfl, rfl, dd, _, _, rfl, hd, rfl, by show 2 ≤ sizeLine; decide, fun t nt => ⟨_, rfl, k t nt⟩⟩
      · refine ⟨false, T.e30, (fun z => nomatch z), fun _ => ⟨false, T.e31, (fun z => nomatch z), fun _ => ⟨false, T.e32, (fun z => nomatch z), fun _ => ⟨true, T.xG.me, fun _ a na => ?_, fun z => nomatch z⟩⟩⟩⟩
        exact ⟨_, rfl, rfl, rfl, dd, _, _, rfl, hd, rfl, by show 2 ≤ sizeLine; decide, fun t nt => ⟨_, rfl, k t nt⟩⟩
      · refine ⟨false, T.e40, (fun z => nomatch z), fun _ => ⟨false, T.e41, (fun z => nomatch z), fun _ => ⟨false, T.e42, (fun z => nomatch z), fun _ => ⟨false, T.e43, (fun z => nomatch z), fun _ => ⟨true, T.xX.me, fun _ a na => ?_, fun z => nomatch z⟩⟩⟩⟩⟩
        exact ⟨by show 1 ≤ sizeLine; decide, fun t nt => ⟨_, rfl, k t nt⟩⟩
section
variable {X : Cx}
/-- _law_caught(lambda: ..) -/
theorem pe_cau {Tb : List (Addr × Str)} {g c T CS CT CP CG CX : Addr} {fd : FuncData} {k j : Nat} {params : Arguments} {body : Expr} {scope : Scope} {t : XK → TE} {p lpos pos : Pos} (FA : Fun X.K "_law_caught" "_law_caught" sCau g fd) (bA : Binds X.K fd ["_law_action"] [])
    (gA : X.mg "_law_caught" = some (.ref g)) (C : Cts X.K X.mg CS CT CP CG CX) (TB : LamX.TabB X.base X.mg c T) (hmT : (T, X.env.qual ++ "<lambda>") ∈ Tb) (hu : ∀ p ∈ Tb, p.1 = T → p.2 = X.env.qual ++ "<lambda>") (hr : Room j X.A) (hk : k + 2 ≤ j) (L : LamX.LamS X.env.scope scope)
    (hbody : ∀ (A : Around) (outer : List Env) (s : Shared) (H : Hp) (E : XK) (f c' : Addr), Room k (A.deeper (LamX.lamEnv X scope s.heap.objs.size f c')) → PE (LamX.lamCx X A outer s H E scope f c') body (t E))
    (hg : Gl X "_law_caught" := by rfl) (hcode : X.env.code = .ref c := by rfl) (hdef : defaultsOf params X.env = ([], []) := by rfl)
    (hbind : ∀ (q : Str) (cl : List (Str × Addr)) (pm cv ctv : Value), bindArgs (PySem.W.kla_fn "<lambda>" q params body scope cl pm cv ctv) ⟨[], []⟩ = pure [] := by intros; rfl) :
    PE X (.Call (.Name "_law_caught" p) [.Lambda params body scope lpos] [] pos) (LamX.tLam Tb (TTc CS CT CP CG CX) t) := by
  obtain ⟨oc, od, kV, doc, pm, an, cdv, ct, osl, rfl, lk, hcd⟩ := FA.ex
  exact LamX.pe_lamcall (k := k) hg gA FA.kp lk hcd bA scCau rfl (.inl rfl) (cau_gives C) TB hcode hmT hu (hr.mono hk) L hdef hbind hbody
end
end K25
set_option Elab.async false
set_option linter.all false
set_option maxRecDepth 100001
set_option maxHeartbeats 3999999
namespace K25
open PySem L2
/-! ### odd spots -/
/-- a value that is no spot -/
def OddS (H : Hp) (n : Int) (v : V) : Prop := KnR H v ∧ arB H n v = false
theorem OddS.same {H H' : Hp} {n : Int} {v : V} (h : OddS H n v) (e : Same H H') : OddS H' n v := ⟨h.1.same e, (arB_same h.1 e).trans h.2⟩
theorem knr_of {H : Hp} {a : Addr} {ts : List V} (h : LT H a ts) (k : ∀ x ∈ ts, Kp H x) : KnR H (.ref a) := ⟨h.kn, fun b us e hb => by
  cases e
  cases h.inj hb
  exact k⟩
theorem odd_of {H : Hp} {n : Int} {a : Addr} {ts : List V} (h : LT H a ts) (k : ∀ x ∈ ts, Kp H x) (r : ts = [] ∨ rwrong H n 0 0 ts ≠ none) : OddS H n (.ref a) := by
  refine ⟨knr_of h k, ?_⟩
  rw [arB_lt h]
  rcases r with rfl | r
  · rfl
  · cases z : rwrong H n 0 0 ts with
    | none => exact absurd z r
    | some i => simp
theorem odd_flat {H : Hp} {n : Int} {v : V} (k : Kn H v) (h : isLT H v = false) : OddS H n v :=
  ⟨⟨k, fun a ts e hl => by subst e; rw [hl.is] at h; cases h⟩, arB_no h⟩
theorem kp_tup {H : Hp} {a : Addr} {xs : List V} (h : H a = some (.tup xs)) (k : ∀ x ∈ xs, Kn H x) : Kp H (.ref a) := ⟨.tup h, fun b ys e hb => by
  cases e
  rw [h] at hb
  cases hb
  exact k⟩
theorem kp_flat {H : Hp} {v : V} (k : Kn H v) (h : ∀ a, v ≠ .ref a) : Kp H v := ⟨k, fun a xs e => absurd e (h a)⟩
theorem kp_ints {H : Hp} {a : Addr} {xs : List Int} (h : H a = some (.tup (xs.map V.int))) : Kp H (.ref a) := kp_tup h fun x hx => by
  obtain ⟨i, _, rfl⟩ := List.mem_map.mp hx
  exact .int i
theorem rw_first {H : Hp} {n : Int} {a : Addr} {x y : V} {r : List V} (h : H a = some (.tup [x, y])) (c : btw x 0 (n - 1) = false ∨ ∃ f, x = .int f ∧ btw y f (n - 1) = false) : rwrong H n 0 0 (.ref a :: r) ≠ none := by
  have p := pairOf_tup h
  cases c1 : btw x 0 (n - 1) with
  | false => rw [rwrong_1 p c1]; exact fun z => nomatch z
  | true =>
    rcases c with c | ⟨f, rfl, c2⟩
    · rw [c1] at c; cases c
    · rw [rwrong_2 p c1 c2]; exact fun z => nomatch z
theorem rw_no {H : Hp} {n : Int} {v : V} {r : List V} (h : pairOf H v = none) : rwrong H n 0 0 (v :: r) ≠ none := by
  rw [rwrong_none h]
  exact fun z => nomatch z
theorem rw_second {H : Hp} {n : Int} {a b : Addr} {x y : V} {r : List V} (h : H a = some (.tup [.int 0, .int 0])) (n1 : 1 ≤ n) (h2 : H b = some (.tup [x, y])) (c : btw x 2 (n - 1) = false) : rwrong H n 0 0 (.ref a :: .ref b :: r) ≠ none := by
  rw [rwrong_ok (pairOf_tup h) (decide_eq_true ⟨by omega, by omega⟩) (decide_eq_true ⟨by omega, by omega⟩)]
  show rwrong H n 2 1 _ ≠ none
  rw [rwrong_1 (pairOf_tup h2) c]
  exact fun z => nomatch z
/-! ### repr of what is flat -/
def reprV : V → Str
  | .non => "None"
  | .bl b => if b then "True" else "False"
  | .int i => toString i
  | .str x => reprText x
  | _ => ""
/-- small enough to be told -/
def RpOk : V → Prop
  | .non | .bl _ => True
  | .int i => i.natAbs.log2 < 1920
  | .str x => (reprText x).length ≤ sizeLine
  | _ => False
section
variable {X : Cx}
theorem call_reprF : CallR X (.builtin "repr") (fun xs H Q => ∃ v, xs = [v] ∧ RpOk v ∧ Q (.str (reprV v)) H) := by
  intro pins s σ H xs us Q I r h
  obtain ⟨v, rfl, hv, q⟩ := h
  obtain ⟨u, rfl, ru⟩ := vals1 r
  cases v with
  | non =>
    cases ru
    exact PySem.P.repr_of_none ⟨.str _, H, I.tok _, ⟨_, rfl⟩, q⟩
  | bl b =>
    cases ru
    exact PySem.P.repr_of_bool ⟨.str _, H, I.tok _, ⟨_, rfl⟩, q⟩
  | int i =>
    obtain ⟨t, rfl⟩ := ru
    exact PySem.P.repr_of_int hv ⟨.str _, H, I.tok _, ⟨_, rfl⟩, q⟩
  | str x =>
    obtain ⟨t, rfl⟩ := ru
    exact PySem.P.repr_of_str ⟨.str _, H, I.tok _, ⟨_, rfl⟩, q⟩ hv
  | _ => exact hv.elim
end
end K25
set_option Elab.async false
set_option linter.all false
set_option maxRecDepth 100001
set_option maxHeartbeats 3999999
namespace K25
open PySem L2
section
variable {prog : Program} {w : World} {A : Around} {E : Value → Shared → Prop} {s : Shared} {K : PySem.W.Frag} {x C : Addr} {ox : Obj} {od : Option Obj}
/-- a special method of the class at C that is a slot of object: it is called -/
theorem ifBoundB_K {M : Model} {B : String} {id : String} {name : Str} {args : List Value} {Q : Option Value → Shared → Prop} (X : K.In s.heap) (I : PySem.W.InstAt s.heap x ox C od) (hs : PySem.W.findIn K (.ref C) name = some (some (.builtin id)))
    (S : Slot B name id) (h : wpAny M A (call (.builtin id) (.ref x :: args)) (fun v => Q (some v)) E s) : wpAny M A (callSpecialIfBound? (.ref x) name args) Q E s := by
  simp only [callSpecialIfBound?, bindSpecialIfBound?]
  refine wpAny_holding (wpAny_bind (wpAny_bind (wpAny_bind (I.type.here ((PySem.W.looks_findIn X hs).here ?_)))))
  simp only [S.bind]
  refine wpAny_bind (wpAny_askSetting (wpAny_ite ?_))
  have fin : wpAny M A (call (.builtin id) ([.ref x] ++ args) >>= fun v => pure (some v)) Q E s :=
    wpAny_bind (wpAny_mono h (fun v s' h' => wpAny_pure h') fun _ _ h' => h')
  split
  · exact wpAny_bind (wpAny_pure (wpAny_pure fin))
  · exact wpAny_tryCatch (wpAny_bind (wpAny_pure (wpAny_pure fin)))
end
section
variable {X : Cx}
def rOwnNe (K : PySem.W.Frag) (C : Addr) (sp : Sp) : R2 := fun x y H Q => ∃ a dx fs tb, x = .ref a ∧ H a = some (.ins C dx fs) ∧ TyX K H y tb ∧ PySem.W.notFirst K C tb = true ∧ sp [x, y] H (fun v H' => (∃ b, v = .bl b ∧ Q (.bl (!b)) H')) E0
theorem op_ownNe {CX : CXT} {n j : Nat} {C f : Addr} {fd : FuncData} {ps : List Str} {sp : Sp} (F : FnOk X.prog X.w X.K X.mg X.base CX n f fd ps sp) (hs : PySem.W.findIn X.K (.ref C) "__eq__" = some (some (.ref f))) (hf : PySem.W.isFn X.K (.ref f) = true) (hb : Binds X.K fd ps [])
    (hN : PySem.W.findIn X.K (.ref C) "__ne__" = some (some (.builtin "object.__ne__"))) (hM : PySem.W.mroIn X.K C (.type "object") = some true)
    (hx : Passes CX X E0) (hr : Room j X.A) (hj : n + 1 ≤ j) : OpR X (compareOp .NotEq) (rOwnNe X.K C sp) := by
  intro pins s σ H x y v u Q I rx ry h
  obtain ⟨a, dx, fs, tb, rfl, ha, ty, nf, h⟩ := h
  have hr := (hr.mono hj).in1
  cases (show v = Value.ref a from rx)
  obtain ⟨mA, J, _⟩ := ins_get I.hok ha
  obtain ⟨od, J, _⟩ := J.look
  obtain ⟨Pz, Z, p, _⟩ := kit_of I ry ty
  obtain ⟨m, hF⟩ := I.fr
  have XK := (I.ok.mod.kin).keeps hF.keep
  show wpAny (model X.prog X.w) X.A (richCompare .NotEq (.ref a) u) (EP X pins σ Q) X.xe s
  have hu : X.A.units + 1 < cLine := by have := hr.un; show X.A.units + 1 < cLine; have e : X.A.in1.units = X.A.units + 1 := rfl; omega
  have hl := F.len _ _ _ _ h
  have r2 : Vals [V.ref a, y] [Value.ref a, u] := .cons rfl (.cons ry .nil)
  have own : wpAny (model X.prog X.w) X.A.in1 (call (.ref f) [.ref a, u]) (fun v s' => ∃ b, v = .bool b ∧ EP X pins σ Q (.bool (!b)) s') X.xe s := by
    refine wpAny_call (codeAny_mono (F.run X.A.in1 X.stack s H ⟨[.ref a, u], []⟩ [.ref a, u] [.ref a, y] _ E0 hr I.env0.in1 (by
      have := hb s [.ref a, u] I.kIn (by simpa using hl)
      simpa using this) r2 h) fun r s' hq => ?_)
    cases r with
    | error e => exact hx pins σ H s e s' I hq
    | ok fl =>
      cases fl with
      | ret w =>
        obtain ⟨z, H', I', rz, ⟨b, ez, q⟩⟩ := I.after hq
        subst ez
        cases rz
        exact ⟨b, rfl, .bl (!b), H', I', rfl, q⟩
      | next => exact False.elim hq
      | brk => exact False.elim hq
      | cont => exact False.elim hq
  have one : wpAny (model X.prog X.w) X.A (tryCompare (.ref a) "__ne__" u) (fun r s' => ∃ v, r = some v ∧ EP X pins σ Q v s') X.xe s := by
    unfold tryCompare
    refine wpAny_bind (ifBoundB_K XK J hN PySem.F.cmp_object.ne (wpAny_call (codeAny_call_builtin PySem.F.cmp_object.ne.plain PySem.F.cmpEntry_ne
      (PySem.W.check_slot PySem.F.cmpKind_ne PySem.F.cmpSplit_ne (J.type.andThen (PySem.W.looks_mroIn XK hM)) (PySem.F.cmpArgs_ne _ _) ?_))))
    unfold Builtin.«object.__ne__»
    repeat (first
      | with_reducible refine wpAny_cRoomFor hu ?_
      | (refine wpAny_bind (m := callSpecialIfBound? (.ref a) (Str.ofString "__eq__") [u])
          (PySem.W.ifBound_K XK J hs hf (wpAny_mono own (fun r s' hr => by
            obtain ⟨b, rfl, hq⟩ := hr
            repeat (first | exact ⟨_, rfl, hq⟩ | exact wpAny_truthy_bool ⟨_, rfl, hq⟩ | (refine wpAny_bind (m := truthy (.bool _)) (wpAny_truthy_bool ?_)) | wp_step)) fun _ _ e => e)))
      | wp_step)
  unfold richCompare
  simp only [oneThing_ref]
  refine wpAny_holding (wpAny_bind (wpAny_cRoomFor (Nat.lt_of_succ_lt hu) ?_))
  rw [cmpInfo_NotEq]
  dsimp only
  refine wpAny_bind (J.type.here (wpAny_bind ((Z.ty _ _ I.kIn p).here ?_)))
  split
  · rename_i q
    have e : PySem.W.subIn X.K tb (.ref C) = some false := by
      rcases Bool.or_eq_true_iff.mp nf with e | e
      · rw [beq_iff_eq.mp e] at q; simp at q
      · exact beq_iff_eq.mp e
    refine wpAny_bind ((PySem.W.looks_subIn XK e).here ?_)
    simp only [Bool.false_eq_true, if_false]
    refine wpAny_bind (wpAny_mono one (fun r s' z => ?_) fun _ _ e => e)
    obtain ⟨v, rfl, hq⟩ := z
    exact wpAny_pure hq
  · refine wpAny_bind (wpAny_pure ?_)
    simp only [Bool.false_eq_true, if_false]
    refine wpAny_bind (wpAny_mono one (fun r s' z => ?_) fun _ _ e => e)
    obtain ⟨v, rfl, hq⟩ := z
    exact wpAny_pure hq
end
/-! ### what stays while the pen is written to and tables grow -/
/-- all but dicts and tables stay -/
def Ks (H H' : Hp) : Prop := ∀ b o, H b = some o → (∀ ps, o ≠ .tbl ps) → (∀ kvs, o ≠ .dK kvs) → H' b = some o
theorem Ks.of {H H' : Hp} (e : Same H H') : Ks H H' := fun b o h _ _ => e b o h
theorem Ks.trans {H H1 H2 : Hp} (a : Ks H H1) (b : Ks H1 H2) : Ks H H2 := fun c o h n m => b c o (a c o h n m) n m
theorem Ks.refl (H : Hp) : Ks H H := fun _ _ h _ _ => h
theorem Ks.ext {H H' : Hp} (e : LamX.ExtN H H') : Ks H H' := fun b o h n _ => e b o h n
theorem Ks.pen {H H' : Hp} {pn cl : Addr} {b : Nat} (pen : Pen H pn cl b) (e : But pn H H') : Ks H H' := fun c o h _ m => e c o (pen.ne h m) h
theorem Ks.tl {H H' : Hp} (e : Ks H H') : TL H H' := ⟨fun a xs z => e _ _ z (fun _ y => nomatch y) (fun _ y => nomatch y), fun a xs z => e _ _ z (fun _ y => nomatch y) (fun _ y => nomatch y)⟩
theorem Ks.ins {H H' : Hp} {a C dx : Addr} {fs : List (Str × V)} (e : Ks H H') (h : H a = some (.ins C dx fs)) : H' a = some (.ins C dx fs) := e _ _ h (fun _ y => nomatch y) fun _ y => nomatch y
theorem IsPh.ks {C : Addr} {H H' : Hp} {p : Addr} {n : Int} {pss : List Prs} (h : IsPh C H p n pss) (e : Ks H H') : IsPh C H' p n pss :=
  let ⟨dx, s, m, vs, h1, h2, h3, h4⟩ := h
  ⟨dx, s, m, vs, e.ins h1, e.tl.t _ _ h2, Paired.mapP h3 fun _ _ z => z.tt e.tl.t, e.tl.l _ _ h4⟩
theorem Kn.tl {H H2 : Hp} {v : V} (k : Kn H v) (s : TL H H2) : Kn H2 v := by
  cases k with
  | non => exact .non
  | bl b => exact .bl b
  | int i => exact .int i
  | str x => exact .str x
  | lst e => exact .lst (s.l _ _ e)
  | tup e => exact .tup (s.t _ _ e)
theorem pairOf_tl {H H' : Hp} {v : V} (k : Kn H v) (e : TL H H') : pairOf H' v = pairOf H v := by
  cases k with
  | lst h => simp only [pairOf, h, e.l _ _ h]
  | tup h => simp only [pairOf, h, e.t _ _ h]
  | _ => rfl
theorem rwrong_tl {H H' : Hp} (e : TL H H') {n : Int} : ∀ {ts : List V} {least : Int} {i : Nat}, (∀ v ∈ ts, Kp H v) → rwrong H' n least i ts = rwrong H n least i ts
  | [], _, _, _ => rfl
  | v :: r, least, i, h => by
    have ih : ∀ l i, rwrong H' n l i r = rwrong H n l i r := fun l i => rwrong_tl e fun x hx => h x (List.mem_cons_of_mem _ hx)
    simp only [rwrong, pairOf_tl (h v List.mem_cons_self).kn e, ih]
theorem Kp.tl {H H' : Hp} {v : V} (k : Kp H v) (e : TL H H') : Kp H' v := by
  refine ⟨k.kn.tl e, fun a xs ev h x hx => ?_⟩
  subst ev
  cases k.kn with
  | lst z => rw [e.l _ _ z] at h; cases h
  | tup z =>
    rw [e.t _ _ z] at h
    cases h
    exact (k.items a _ rfl z x hx).tl e
theorem KnR.tl {H H' : Hp} {v : V} (k : KnR H v) (e : TL H H') : KnR H' v := by
  refine ⟨k.1.tl e, fun a ts ev h x hx => ?_⟩
  subst ev
  cases hk : k.1 with
  | lst z => cases h.inj (.inl (e.l _ _ z)); exact (k.2 a _ rfl (.inl z) x hx).tl e
  | tup z => cases h.inj (.inr (e.t _ _ z)); exact (k.2 a _ rfl (.inr z) x hx).tl e
theorem Kn.lt_tl {H H' : Hp} {v : V} (k : Kn H v) (e : TL H H') : isLT H' v = isLT H v := by
  unfold isLT
  cases k with
  | lst h => rw [isL_lst h, isL_lst (e.l _ _ h)]; rfl
  | tup h => rw [isT_tup h, isT_tup (e.t _ _ h), Bool.or_true, Bool.or_true]
  | _ => rfl
theorem arB_tl {H H' : Hp} {v : V} {n : Int} (k : KnR H v) (e : TL H H') : arB H' n v = arB H n v := by
  cases c : isLT H v with
  | false => rw [arB_no c, arB_no (by rw [k.1.lt_tl e]; exact c)]
  | true =>
    obtain ⟨a, ts, rfl, ha⟩ := lt_of c
    rw [arB_lt ha, arB_lt (ha.tl e), rwrong_tl e (k.2 a ts rfl ha)]
theorem OddS.tl {H H' : Hp} {n : Int} {v : V} (h : OddS H n v) (e : TL H H') : OddS H' n v := ⟨h.1.tl e, (arB_tl h.1 e).trans h.2⟩
theorem OddS.ks {H H' : Hp} {n : Int} {v : V} (h : OddS H n v) (e : Ks H H') : OddS H' n v := h.tl e.tl
theorem tabs_at {Tb : List (Addr × Str)} {H H' : Hp} {p : Addr} {o : HO} (t : LamX.Tabs Tb H) (hp : H p = some o) (n1 : ∀ ps, o ≠ .tbl ps) (n2 : ∀ f, o ≠ .ext f) (e : ButI p H H') : LamX.Tabs Tb H' := fun pt hpt => by
  obtain ⟨ps, a1, a2, a3⟩ := t pt hpt
  refine ⟨ps, e _ _ (ne_of a1 hp fun z => n1 _ z.symm) a1, a2, fun pos cv hc => ?_⟩
  obtain ⟨c0, e1, e2⟩ := a3 pos cv hc
  exact ⟨c0, e1, e _ _ (ne_of e2 hp fun z => n2 _ (by unfold LamX.CodeO at z; exact z.symm)) e2⟩
theorem tabs_but {Tb : List (Addr × Str)} {H H' : Hp} {pn cl : Addr} {b : Nat} (tabs : LamX.Tabs Tb H) (pen : Pen H pn cl b) (bt : But pn H H') : LamX.Tabs Tb H' := by
  obtain ⟨k, l, cs, p1, _⟩ := pen
  exact tabs_at tabs p1 (fun _ z => nomatch z) (fun _ z => nomatch z) bt
theorem Pen.ext {H H' : Hp} {pn cl : Addr} {b : Nat} (h : Pen H pn cl b) (e : LamX.ExtN H H') : Pen H' pn cl b := let ⟨k, l, cs, h1, h2, h3, h4⟩ := h; ⟨k, l, cs, e _ _ h1 (fun _ z => nomatch z), e _ _ h2 (fun _ z => nomatch z), h3, h4⟩
/-- the pen and the tables -/
structure PT (Tb : List (Addr × Str)) (H : Hp) (pn cl : Addr) (b : Nat) : Prop where
  pen : Pen H pn cl b
  tabs : LamX.Tabs Tb H
section
variable {Tb : List (Addr × Str)} {H H' : Hp} {pn cl : Addr} {b c : Nat}
theorem PT.same (h : PT Tb H pn cl b) (e : Same H H') : PT Tb H' pn cl b := ⟨h.pen.same e, h.tabs.ext e⟩
theorem PT.but (h : PT Tb H pn cl b) (e : But pn H H') (p : Pen H' pn cl c) : PT Tb H' pn cl c := ⟨p, tabs_but h.tabs h.pen e⟩
theorem PT.ext (h : PT Tb H pn cl b) (e : LamX.ExtN H H') (t : LamX.Tabs Tb H') : PT Tb H' pn cl b := ⟨h.pen.ext e, t⟩
end
/-! ### what a refused call leaves, compared with what is due -/
theorem same_ins {H : Hp} {p dx C : Addr} {fs : List (Str × V)} (np : H p = none) (nd : H dx = none) : Same H (upd (upd H dx (.own p)) p (.ins C dx fs)) := fun b o z => by
  rw [upd_ne (ne_of_none z np), upd_ne (ne_of_none z nd)]
  exact z
theorem butI_same {H H1 H' : Hp} {p : Addr} (e : Same H H1) (np : H p = none) (b : ButI p H1 H') : Same H H' := fun c o z => b c o (ne_of_none z np) (e _ _ z)
theorem odd_eq {H : Hp} {v u : V} {d : PyData} (h : Odd H v d) (e : d = dOf u) (fu : Flat u) : v = u := by
  cases h with
  | flat f => cases v <;> cases u <;> simp_all [dOf, Flat]
  | tup e2 f => cases u <;> simp_all [dOf, Flat]
  | lst e2 f l => cases u <;> simp_all [dOf, Flat]
theorem rSmD_of {K : PySem.W.Frag} {H : Hp} {t t2 : Addr} {us : List V} {Q : VK} (nt : H t = none) (nt2 : upd H t (.tup us) t2 = none) (fl : ∀ v ∈ us, Flat v) (q : ∀ H', Same H H' → Q (.bl false) H') : rSmD K (.ref t) (.ref t2) (upd (upd H t (.tup us)) t2 (.tup us)) Q :=
  ⟨.tuple (us.map dOf), .tup (SqT.of ((upd_ne (ne_of_none (show upd H t (.tup us) t = some (.tup us) from upd_same) nt2)).trans upd_same)) (dpAll_flat fl), .tup (SqT.of upd_same) (dpAll_flat fl), shT_flat fl, q _ ((same_new nt).trans (same_new nt2))⟩
theorem rSmE_of {K : PySem.W.Frag} {H : Hp} {t t2 : Addr} {us : List V} {Q : VK} (nt : H t = none) (nt2 : upd H t (.tup us) t2 = none) (fl : ∀ v ∈ us, Flat v) (q : ∀ H', Same H H' → Q (.bl true) H') : rSmE K (.ref t) (.ref t2) (upd (upd H t (.tup us)) t2 (.tup us)) Q :=
  ⟨.tuple (us.map dOf), .tup (SqT.of ((upd_ne (ne_of_none (show upd H t (.tup us) t = some (.tup us) from upd_same) nt2)).trans upd_same)) (dpAll_flat fl), .tup (SqT.of upd_same) (dpAll_flat fl), shT_flat fl, q _ ((same_new nt).trans (same_new nt2))⟩
theorem fl_si {x : Str} (h : PyData.strOk x = true) (i : Int) : ∀ v ∈ [V.str x, V.int i], Flat v := fun v m => by
  simp only [List.mem_cons, List.not_mem_nil, or_false] at m
  rcases m with rfl | rfl
  · exact h
  · exact True.intro
theorem fl_s {x : Str} (h : PyData.strOk x = true) : ∀ v ∈ [V.str x], Flat v := fun v m => by
  simp only [List.mem_cons, List.not_mem_nil, or_false] at m
  subst m
  exact h
theorem fl_many (n : Int) : ∀ v ∈ [V.str "many", V.str "spots", V.int n, V.int 10], Flat v := fun v m => by
  simp only [List.mem_cons, List.not_mem_nil, or_false] at m
  rcases m with rfl | rfl | rfl | rfl
  · show PyData.strOk _ = true
    decide +kernel
  · show PyData.strOk _ = true
    decide +kernel
  · exact True.intro
  · exact True.intro
end K25
set_option Elab.async false
set_option linter.all false
set_option maxRecDepth 100001
set_option maxHeartbeats 3999999
namespace K25
open PySem L2
abbrev sRf : Stmt := topS 43
abbrev NRf : List Str := ["_law_pen_here", "_law_signs", "_law_spots_here", "_law_phrase", "_law_odd", "_law_at", "_law_told", "_law_wrong_ones", "_law_bad", "_law_bent", "_law_many", "_law_row", "_law_strange", "_law_wrong", "_law_k", "_law_sign"]
theorem scRf : FnScope NRf ["_law_pen_here", "_law_signs", "_law_spots_here", "_law_phrase"] (defScope sRf) := ⟨rfl, rfl, rfl, by decide +kernel, rfl, by decide +kernel, by decide +kernel⟩
/-- _law_refusals_right: it says yes -/
def spRf (C : Addr) (Tb : List (Addr × Str)) : Sp := fun vs H Q _ => ∃ (pn cl s p : Addr) (n : Int) (b : Nat) (ts : List V) (pss : List Prs), vs = [.ref pn, .int n, .ref s, .ref p] ∧ PT Tb H pn cl b ∧ b ≤ 900000 ∧ PhOk n pss ∧ H s = some (.lst ts) ∧ Paired (SpL H) ts pss ∧
  IsPh C H p n pss ∧ ∀ H', Q (.bl true) H'
structure FunL (K : PySem.W.Frag) (base : Heap) (mg : Str → Option Value) (x q : Str) (st : Stmt) (f c T : Addr) (fd : FuncData) : Prop where
  ex : ∃ (oc : Value) (od : Option Addr) (kV doc pm : Value) (an : Option Addr) (ct : Value) (osl : Array (Option Value)),
    fd = PySem.W.fnOf x q (defArgs st) (defBody st) (defScope st) .none kV doc pm an (.ref c) ct ∧ K.lookup f = some ⟨oc, od, .func fd, osl⟩ ∧ PySem.W.codeIn K (.ref c) q = true
  tab : LamX.TabB base mg c T
section
variable {P : Program} {w : World} {K : PySem.W.Frag} {mg : Str → Option Value} {base : Heap}
theorem FunL.okX {CX : CXT} {x q : Str} {st : Stmt} {f c T : Addr} {fd : FuncData} {N ps : List Str} {k : Nat} {sp : Sp} (F : FunL K base mg x q st f c T fd) (S : FnScope N ps (defScope st)) (len : ∀ vs H Q E, sp vs H Q E → vs.length = ps.length)
    (hbody : ∀ (A : Around) (outer : List Env) (s : Shared) (H : Hp) (vs : List V) (Q : VK) (E : XK), Room k (A.deeper (PyProof.Rows.envOfC q (defScope st) s.heap.objs.size f (.ref c))) → sp vs H Q E →
      ∃ t, PSs (cxOf CX P w K mg base N q (defScope st) f (.ref c) A outer s H E).nox (defBody st) t ∧ t { nx := fun _ H' => Q .non H', rt := Q } (L2.start N vs) H) : FnOk P w K mg base CX (k + 1) f fd ps sp := by
  obtain ⟨oc, od, kV, doc, pm, an, ct, osl, rfl, lk, hcd⟩ := F.ex
  refine fn_of lk hcd S len fun A outer s H vs Q E hr hsp => ?_
  obtain ⟨t, h, q⟩ := hbody A outer s H vs Q E hr hsp
  exact ⟨t, h.nox, q⟩
end
/-- what _law_refusals_right stands on -/
structure RfC (P : Program) (w : World) (K : PySem.W.Frag) (mg : Str → Option Value) (base : Heap) (f c T g fe C CS CT CP CG CX : Addr) (fd fdA fdE : FuncData) (Tb : List (Addr × Str)) : Prop where
  F : FunL K base mg "_law_refusals_right" "_law_refusals_right" sRf f c T fd
  B : Bi mg
  hrepr : mg "repr" = none
  T0 : TxP K C
  cD : Cal CX0 P w K mg base 1 "_law_draw" spDraw
  cK : Cal CX0 P w K mg base 2 "_law_pick" spPick
  cI : Cal CX0 P w K mg base 1 "_law_is_sign" spIsSg
  mkP : Mak (L2.CX P w) P w K mg base 6 "Phrase" C (spPhI C CS CT CP)
  cPl : Cal (L2.CX P w) P w K mg base 8 "plain_phrase" (spPlain C CT CG)
  mO : Met (L2.CX P w) P w K mg base 4 C "overlaps_at" (spOver C CX)
  cCl : Cal (L2.CX P w) P w K mg base 4 "classes_of" (spCls C CX)
  FE : FnOk P w K mg base CX0 1 fe fdE ["self", "other"] (spEq C)
  TE : TxE K C
  eN : PySem.W.findIn K (.ref C) "__ne__" = some (some (.builtin "object.__ne__"))
  nf : PySem.W.notFirst K C (.ref C) = true
  eE : PySem.W.findIn K (.ref C) "__eq__" = some (some (.ref fe))
  iE : PySem.W.isFn K (.ref fe) = true
  bE : Binds K fdE ["self", "other"] []
  FA : Fun K "_law_caught" "_law_caught" sCau g fdA
  bA : Binds K fdA ["_law_action"] []
  gA : mg "_law_caught" = some (.ref g)
  Ts : Cts K mg CS CT CP CG CX
  hmT : (T, (("_law_refusals_right.<locals>.<lambda>" : String) : Str)) ∈ Tb
  hu : ∀ p ∈ Tb, p.1 = T → p.2 = (("_law_refusals_right.<locals>.<lambda>" : String) : Str)
end K25
set_option Elab.async false
set_option linter.all false
set_option maxRecDepth 100001
set_option maxHeartbeats 3999999
namespace K25
open PySem L2
theorem ph_over (n : Int) (s : Addr) (w : Int) (m : Addr) : (phF n s w m).lookup ("overlaps_at" : Str) = none := by
  unfold phF
  rw [lookup_putF, if_neg (by decide +kernel), lookup_putF, if_neg (by decide +kernel), lookup_putF, if_neg (by decide +kernel), lookup_putF, if_neg (by decide +kernel)]
  rfl
theorem ok_zero {m : Int} (m1 : 1 ≤ m) (m2 : m ≤ 2000) : PhOk m [[(0, 0)]] := ⟨m1, m2, by decide, by decide, fun ps hps => by
  rw [List.mem_singleton.mp hps]
  refine ⟨by simp, ?_⟩
  show (0 : Int) ≤ 0 ∧ (0 : Int) ≤ 0 ∧ 0 ≤ m - 1 ∧ True
  exact ⟨Int.le_refl _, Int.le_refl _, by omega, trivial⟩⟩
theorem fl_other : ∀ v ∈ [V.str "other"], Flat v := fl_s (by decide +kernel)
section
variable {P : Program} {w : World} {K : PySem.W.Frag} {mg : Str → Option Value} {base : Heap}
theorem rf5 {f c T g fe C CS CT CP CG CX : Addr} {fd fdA fdE : FuncData} {Tb : List (Addr × Str)} (R : RfC P w K mg base f c T g fe C CS CT CP CG CX fd fdA fdE Tb) (A : Around) (outer : List Env) (s : Shared) (H0 : Hp) (E : XK) (hr : Room 11 (A.deeper (PyProof.Rows.envOfC "_law_refusals_right" (defScope sRf) s.heap.objs.size f (.ref c)))) :
    ∃ t, PSs (cxOf CX0 P w K mg base NRf "_law_refusals_right" (defScope sRf) f (.ref c) A outer s H0 E).nox ((defBody sRf).drop 16) t ∧
      ∀ (Q : VK) (H : Hp) (pn s0 p0 : Addr) (n : Int) (pss : List Prs) (o4 o5 o6 o7 o8 o9 o10 o11 o13 : Option V), LamX.Tabs Tb H → PhOk n pss → IsPh C H p0 n pss → (∀ H', Q (.bl true) H') →
        t { nx := fun _ H' => Q .non H', rt := Q } [some (.ref pn), some (.int n), some (.ref s0), some (.ref p0), o4, o5, o6, o7, o8, o9, o10, o11, none, o13, none, none] H := by
  obtain ⟨F, B, hrepr, T0, cD, cK, cI, mk, cPl, mO, cCl, FE, TE, eN, nf, eE, iE, bE, FA, bA, gA, Ts, hmT, hu⟩ := id R
  refine ⟨_, (pss_cons (ps_set (i := 12) scRf.nd rfl (Or.inr rfl) (pe_c cPl hr passL (pa_cons (pe_ifExp (pt_cmpR op_lt (pv 1) pe_int (nomark _)) (pe_op op_add (pv 1) pe_int) pe_int) (pa_cons (pe_lst (pa_cons pe_int pa_nil)) pa_nil))))
      (pss_cons (ps_if (pt_cmpR (op_neSmD (hu64 hr)) (by exact pe_cau (k := 8) (Tb := Tb) FA bA gA Ts F.tab hmT hu hr (by decide) (LamX.lamS_by (sc := defScope sRf) (by decide +kernel)) (fun A outer s H E f c' hr' => pe_mt mO hr' (passes_call (takes_of rfl rfl rfl rfl) fun _ _ _ _ h => h) (pv 3) (pa_cons (pv 12) pa_nil))) (pe_tup (pa_cons pe_str pa_nil)) (nomark _)) (pss_one (ps_ret pe_bl)) pss_nil)
      (pss_one (ps_ret (pe_cmpR (op_eqSmD (hu64 hr)) (by exact pe_cau (k := 8) (Tb := Tb) FA bA gA Ts F.tab hmT hu hr (by decide) (LamX.lamS_by (sc := defScope sRf) (by decide +kernel)) (fun A outer s H E f c' hr' => pe_c cCl hr' (passes_call (takes_of rfl rfl rfl rfl) fun _ _ _ _ h => h) (pa_cons (pe_lst (pa_cons (pv 3) (pa_cons (pv 3) (pa_cons (pv 12) pa_nil)))) pa_nil))) (pe_tup (pa_cons pe_str pa_nil)) (nomark _)))))), ?_⟩
  intro Q H pn s0 p0 n pss o4 o5 o6 o7 o8 o9 o10 o11 o13 tabs ok ph q
  refine cutSeq (fun σ' H' => ∃ (p1 : Addr) (m : Int), σ' = [some (.ref pn), some (.int n), some (.ref s0), some (.ref p0), o4, o5, o6, o7, o8, o9, o10, o11, some (.ref p1), o13, none, none] ∧ LamX.Tabs Tb H' ∧ IsPh C H' p0 n pss ∧ IsPh C H' p1 m [[(0, 0)]] ∧ m ≠ n ∧ 1 ≤ m ∧ m ≤ 2000) (fun nx k => ?_) ?_
  · have n1 := ok.n1
    have n2 := ok.n2
    have fin : ∀ m : Int, m ≠ n → 1 ≤ m → m ≤ 2000 → ∀ a, H a = none → spPlain C CT CG [.int m, .ref a] (upd H a (.lst [.int 0])) (fun v H' => nx [some (.ref pn), some (.int n), some (.ref s0), some (.ref p0), o4, o5, o6, o7, o8, o9, o10, o11, some v, o13, none, none] H') E0 := by
      intro m ne m1 m2 a na
      refine ⟨m, a, [.int 0], rfl, m1, m2, .inl upd_same, fun v hv => by rw [List.mem_singleton.mp hv]; exact .int 0, .inr (.inr ⟨by decide, by decide, [0], rfl, fun x hx => by rw [List.mem_singleton.mp hx]; omega, fun p H' e ph' => ?_⟩)⟩
      have e2 := (same_new (o := .lst [.int 0]) na).trans e
      exact k _ _ ⟨p, m, rfl, tabs.ext e2, ph.same e2, ph', ne, m1, m2⟩
    refine ⟨_, rfl, _, _, rfl, rfl, _, rfl, ?_⟩
    by_cases c : n < 2000
    · rw [decide_eq_true c]
      exact iteT ⟨_, rfl, _, _, rfl, rfl, by show 1 ≤ sizeLine; decide, fun a na => fin (n + 1) (by omega) (by omega) (by omega) a na⟩
    · rw [decide_eq_false c]
      exact iteF ⟨by show 1 ≤ sizeLine; decide, fun a na => fin 1999 (by omega) (by omega) (by omega) a na⟩
  · rintro σ' H1 ⟨p1, m, rfl, tab1, ph1, pm1, ne, m1, m2⟩
    have okm := ok_zero m1 m2
    refine ⟨tab1, fun H2 en2 tab2 => ?_⟩
    have ph2 := ph1.ks (Ks.ext en2)
    have pm2 := pm1.ks (Ks.ext en2)
    obtain ⟨dx, s1, ms, vs1, h1, h2, h3, h4⟩ := id ph2
    refine ⟨_, rfl, p0, dx, _, rfl, h1, ph_over _ _ _ _, _, rfl, p0, p1, n, m, pss, [[(0, 0)]], rfl, ph2, ok, pm2, okm, .inl ⟨ne.symm, fun H3 e3 => .inr (.inr (.inr (.inr ⟨rfl, fun t nt => ?_⟩)))⟩⟩
    refine ⟨by show 1 ≤ sizeLine; decide, fun t2 nt2 => rSmD_of nt nt2 fl_other fun H4 e4 => ⟨_, rfl, iteF ?_⟩⟩
    have e34 := e3.trans e4
    have ph4 := ph2.same e34
    have pm4 := pm2.same e34
    refine ⟨tab2.ext e34, fun H5 en5 tab5 => ?_⟩
    have ph5 := ph4.ks (Ks.ext en5)
    have pm5 := pm4.ks (Ks.ext en5)
    refine ⟨_, rfl, _, rfl, _, rfl, by show 3 ≤ sizeLine; decide, fun a na => ?_⟩
    have ea := same_new (o := .lst [.ref p0, .ref p0, .ref p1]) na
    refine ⟨a, _, [(n, pss), (n, pss), (m, [[(0, 0)]])], rfl, upd_same, .cons ⟨⟨p0, rfl, ph5.same ea⟩, ok⟩ (.cons ⟨⟨p0, rfl, ph5.same ea⟩, ok⟩ (.cons ⟨⟨p1, rfl, pm5.same ea⟩, okm⟩ .nil)), by show 0 < 3; decide, by show 3 ≤ 10; decide, .inl ⟨⟨(m, [[(0, 0)]]), by simp, fun z => ne z⟩, fun H6 e6 => .inr (.inr (.inr (.inr ⟨rfl, fun t nt => ?_⟩)))⟩⟩
    exact ⟨by show 1 ≤ sizeLine; decide, fun t2 nt2 => rSmE_of nt nt2 fl_other fun H7 e7 => q H7⟩
end
end K25
set_option Elab.async false
set_option linter.all false
set_option maxRecDepth 100001
set_option maxHeartbeats 3999999
namespace K25
open PySem L2
/-- the heap of a fresh list leaves the rest as it was; written again it still does -/
theorem ks_put {H0 H' : Hp} {D : Addr} {o : HO} (e : Ks H0 H') (nD : H0 D = none) : Ks H0 (upd H' D o) := fun b u z n m => (upd_ne (ne_of_none z nD)).trans (e b u z n m)
theorem tabs_put {Tb : List (Addr × Str)} {H : Hp} {D : Addr} {xs ys : List V} (t : LamX.Tabs Tb H) (hD : H D = some (.lst xs)) : LamX.Tabs Tb (upd H D (.lst ys)) := tabs_at t hD (fun _ z => nomatch z) (fun _ z => nomatch z) fun c o n z => (upd_ne n).trans z
theorem pt_put {Tb : List (Addr × Str)} {H : Hp} {D pn cl : Addr} {b : Nat} {xs ys : List V} (t : PT Tb H pn cl b) (hD : H D = some (.lst xs)) (n1 : pn ≠ D) (n2 : cl ≠ D) : PT Tb (upd H D (.lst ys)) pn cl b := ⟨t.pen.upd n1 n2, tabs_put t.tabs hD⟩
theorem PT.mono {Tb : List (Addr × Str)} {H : Hp} {pn cl : Addr} {b c : Nat} (h : PT Tb H pn cl b) (l : b ≤ c) : PT Tb H pn cl c := ⟨h.pen.mono l, h.tabs⟩
theorem PT.ks {Tb : List (Addr × Str)} {H H' : Hp} {pn cl : Addr} {b : Nat} (h : PT Tb H pn cl b) (e : But pn H H') : Ks H H' := Ks.pen h.pen e
/-- a phrase whose masks are not at L -/
def PhL (C : Addr) (H : Hp) (p : Addr) (n : Int) (pss : List Prs) (L : Addr) : Prop := ∃ dx s m vs, H p = some (.ins C dx (phF n s (pss.length : Nat) m)) ∧ H s = some (.tup vs) ∧ Paired (SpT H) vs pss ∧ H m = some (.lst (pss.map fun ps => V.int ((mN ps : Nat) : Int))) ∧ m ≠ L
theorem phL_of {C : Addr} {H : Hp} {p L : Addr} {n : Int} {pss : List Prs} (h : IsPh C H p n pss) (nL : H L = none) : PhL C H p n pss L := let ⟨dx, s, m, vs, h1, h2, h3, h4⟩ := h; ⟨dx, s, m, vs, h1, h2, h3, h4, ne_of_none h4 nL⟩
theorem PhL.to {C : Addr} {H : Hp} {p L : Addr} {n : Int} {pss : List Prs} (h : PhL C H p n pss L) : IsPh C H p n pss := let ⟨dx, s, m, vs, h1, h2, h3, h4, _⟩ := h; ⟨dx, s, m, vs, h1, h2, h3, h4⟩
theorem PhL.ks {C : Addr} {H H' : Hp} {p L : Addr} {n : Int} {pss : List Prs} (h : PhL C H p n pss L) (e : Ks H H') : PhL C H' p n pss L :=
  let ⟨dx, s, m, vs, h1, h2, h3, h4, h5⟩ := h
  ⟨dx, s, m, vs, e.ins h1, e.tl.t _ _ h2, Paired.mapP h3 fun _ _ z => z.tt e.tl.t, e.tl.l _ _ h4, h5⟩
theorem PhL.put {C : Addr} {H : Hp} {p L : Addr} {n : Int} {pss : List Prs} {xs ys : List V} (h : PhL C H p n pss L) (hL : H L = some (.lst xs)) : PhL C (upd H L (.lst ys)) p n pss L :=
  let ⟨dx, s, m, vs, h1, h2, h3, h4, h5⟩ := h
  ⟨dx, s, m, vs, (upd_ne (ne_of h1 hL fun y => nomatch y)).trans h1, TT.lst hL _ _ h2, Paired.mapP h3 fun _ _ z => z.tt (TT.lst hL), (upd_ne h5).trans h4, h5⟩
theorem Kn.put {H : Hp} {L : Addr} {xs ys : List V} {v : V} (k : Kn H v) (hL : H L = some (.lst xs)) : Kn (upd H L (.lst ys)) v := by
  cases k with
  | non => exact .non
  | bl b => exact .bl b
  | int i => exact .int i
  | str x => exact .str x
  | @lst a zs e =>
    by_cases c : a = L
    · subst c
      exact .lst upd_same
    · exact .lst ((upd_ne c).trans e)
  | tup e => exact .tup ((upd_ne (ne_of e hL fun y => nomatch y)).trans e)
section
variable {P : Program} {w : World} {K : PySem.W.Frag} {mg : Str → Option Value} {base : Heap}
theorem rf4 {f c T g fe C CS CT CP CG CX : Addr} {fd fdA fdE : FuncData} {Tb : List (Addr × Str)} (R : RfC P w K mg base f c T g fe C CS CT CP CG CX fd fdA fdE Tb) (A : Around) (outer : List Env) (s : Shared) (H0 : Hp) (E : XK) (hr : Room 11 (A.deeper (PyProof.Rows.envOfC "_law_refusals_right" (defScope sRf) s.heap.objs.size f (.ref c)))) :
    ∃ t, PSs (cxOf CX0 P w K mg base NRf "_law_refusals_right" (defScope sRf) f (.ref c) A outer s H0 E).nox ((defBody sRf).drop 11) t ∧
      ∀ (Q : VK) (H : Hp) (pn cl s0 p0 : Addr) (n : Int) (b : Nat) (pss : List Prs) (o4 o5 o6 o7 o8 o9 o10 o13 : Option V), PT Tb H pn cl b → b ≤ 950000 → PhOk n pss → IsPh C H p0 n pss → (∀ H', Q (.bl true) H') →
        t { nx := fun _ H' => Q .non H', rt := Q } [some (.ref pn), some (.int n), some (.ref s0), some (.ref p0), o4, o5, o6, o7, o8, o9, o10, none, none, o13, none, none] H := by
  obtain ⟨F, B, hrepr, T0, cD, cK, cI, mk, cPl, mO, cCl, FE, TE, eN, nf, eE, iE, bE, FA, bA, gA, Ts, hmT, hu⟩ := id R
  obtain ⟨tN, p5, qN⟩ := rf5 R A outer s H0 E hr
  refine ⟨_, (pss_cons (ps_set (i := 11) scRf.nd rfl (Or.inr rfl) (pe_lc (own := [("_law_k", 14)]) rfl scRf.nd (pi_range1 rfl B.range (pa_cons (pe_op op_add pe_int (pe_c cD hr pass0 (pa_cons (pv 0) (pa_cons pe_int pa_nil)))) pa_nil)) (blkOk_by (N := NRf) (sc := defScope sRf) (by decide +kernel)) (fun _ _ _ _ _ => pg_name (i := 14) scRf.nd rfl (Or.inl rfl)) (fun _ _ _ _ _ => pts_nil) (fun _ _ _ _ _ => pe_c cD hr pass0 (pa_cons (pv 0) (pa_cons (pv 1) pa_nil)))))
      (pss_cons (ps_if (pt_cmpR (op_ownNe FE eE iE bE eN TE.mr pass0 hr (by decide)) (pe_c cPl hr passL (pa_cons (pv 1) (pa_cons (pv 11) pa_nil))) (pe_mk mk hr passL (pa_cons (pv 1) (pa_cons (pe_lc (own := [("_law_sign", 15)]) rfl scRf.nd (pi_sqA (pv 11)) (blkOk_by (N := NRf) (sc := defScope sRf) (by decide +kernel)) (fun _ _ _ _ _ => pg_name (i := 15) scRf.nd rfl (Or.inl rfl)) (fun _ _ _ _ _ => pts_nil) (fun _ _ _ _ _ => pe_lst (pa_cons (pe_tup (pa_cons (pv 15) (pa_cons (pv 15) pa_nil))) pa_nil))) pa_nil))) (nomark _)) (pss_one (ps_ret pe_bl)) pss_nil)
      (pss_cons (ps_asg (pe_c cK hr pass0 (pa_cons (pv 0) (pa_cons (pe_lst (pa_cons (pv 1) (pa_cons (pe_un un_neg pe_int) (pa_cons pe_non (pa_cons pe_bl (pa_cons pe_str (pa_cons (pe_tup (pa_cons pe_int pa_nil)) pa_nil))))))) pa_nil))) (pg_sub (pv 11) (pe_c cD hr pass0 (pa_cons (pv 0) (pa_cons (pe_len B.len (pa_cons (pv 11) pa_nil)) pa_nil))) set_list))
      (pss_cons (ps_setLc (i := 7) (own := [("_law_k", 14)]) rfl scRf.nd rfl rfl (sw_true rfl rfl rfl (by decide +kernel)) (pi_range1 rfl B.range (pa_cons (pe_len B.len (pa_cons (pv 11) pa_nil)) pa_nil)) (blkOk_by (N := NRf) (sc := defScope sRf) (by decide +kernel)) (fun _ _ _ _ _ => pg_name (i := 14) scRf.nd rfl (Or.inl rfl)) (fun _ _ _ _ _ => pts_one (pt_not (pt_val (pe_c cI hr pass0 (pa_cons (pv 1) (pa_cons (pe_ix (ix_listK K rfl) (pv 11) (pv 14) (fun _ _ => rfl)) pa_nil)))))) (fun _ _ _ _ _ => pv 14))
      (pss_cons (ps_if (pt_cmpR (op_neSmD (hu64 hr)) (by exact pe_cau (k := 8) (Tb := Tb) FA bA gA Ts F.tab hmT hu hr (by decide) (LamX.lamS_by (sc := defScope sRf) (by decide +kernel)) (fun A outer s H E f c' hr' => pe_c cPl hr' (passes_call (takes_of rfl rfl rfl rfl) fun _ _ _ _ h => h) (pa_cons (pv 1) (pa_cons (pv 11) pa_nil)))) (pe_tup (pa_cons pe_str (pa_cons (pe_ix ix_list (pv 7) pe_int (fun _ _ => rfl)) pa_nil))) (nomark _)) (pss_one (ps_ret pe_bl)) pss_nil)
      p5))))), ?_⟩
  intro Q H pn cl s0 p0 n b pss o4 o5 o6 o7 o8 o9 o10 o13 pt hb ok ph q
  have n1 := ok.n1
  have n2 := ok.n2
  refine cutSeq (fun σ' H' => ∃ (L : Addr) (xs : List Int), σ' = [some (.ref pn), some (.int n), some (.ref s0), some (.ref p0), o4, o5, o6, o7, o8, o9, o10, some (.ref L), none, o13, none, none] ∧ PT Tb H' pn cl (b + 20) ∧ L ≠ cl ∧ PhL C H' p0 n pss L ∧ H' L = some (.lst (xs.map V.int)) ∧ (∀ x ∈ xs, 0 ≤ x ∧ x ≤ n - 1) ∧ 1 ≤ xs.length ∧ xs.length ≤ 10) (fun nx k => ?_) ?_
  · refine ⟨_, rfl, pn, cl, 10, b, rfl, pt.pen, by omega, by decide, by decide, fun r H1 r0 r1 b1 pen1 => ?_⟩
    obtain ⟨r, rfl⟩ := Int.eq_ofNat_of_zero_le r0
    have pt1 := pt.but b1 pen1
    have ph1 := ph.ks (pt.ks b1)
    refine ⟨_, _, rfl, rfl, _, rfl, by omega, by omega, fun D nD => ?_⟩
    have npD := (pen1.off nD).1
    have ncD := (pen1.off nD).2
    refine lc_it walk_range (fun i H' => ∃ xs : List Int, xs.length = i ∧ (∀ x ∈ xs, 0 ≤ x ∧ x ≤ n - 1) ∧ PT Tb H' pn cl (b + 1 + i) ∧ H' D = some (.lst (xs.map V.int)) ∧ Ks H1 H') ⟨[], rfl, (fun _ h => nomatch h), ⟨pen1.upd npD ncD, pt1.tabs.ext (same_new nD)⟩, upd_same, Ks.of (same_new nD)⟩ (fun _ _ _ _ => True.intro) ?_ ?_
    · rintro i x H4 H5 hi ⟨xs, lx, hx, pt4, hD, k4⟩ ⟨rfl, hy⟩
      refine ⟨rfl, ?_⟩
      unfold tYes
      refine iteT ⟨_, rfl, _, rfl, pn, cl, n, _, rfl, pt4.pen, by omega, by omega, by omega, fun u H6 u0 u1 b6 pen6 => ?_⟩
      have pt6 := pt4.but b6 pen6
      have hD6 := (pt4.ks b6).tl.l _ _ hD
      refine ⟨_, hD6, by rw [List.length_map]; exact small10 (by omega), xs ++ [u], by rw [List.length_append, lx]; rfl, fun y hy => ?_, (pt_put pt6 hD6 npD ncD).mono (by omega), ?_, ks_put (k4.trans (pt4.ks b6)) nD⟩
      · rcases List.mem_append.mp hy with h | h
        · exact hx y h
        · rw [List.mem_singleton.mp h]
          omega
      · rw [upd_same, List.map_append]
        rfl
    · rintro H4 ⟨xs, lx, hx, pt4, hD, k4⟩
      exact k _ _ ⟨D, xs, rfl, pt4.mono (by omega), ncD.symm, (phL_of ph1 nD).ks k4, hD, hx, by omega, by omega⟩
  rintro σ' H1 ⟨L, xs, rfl, pt1, Lcl, ph1, hL, hx, l1, l2⟩
  refine cutSeq (fun σ' H' => ∃ xs : List Int, σ' = [some (.ref pn), some (.int n), some (.ref s0), some (.ref p0), o4, o5, o6, o7, o8, o9, o10, some (.ref L), none, o13, none, none] ∧ PT Tb H' pn cl (b + 20) ∧ PhL C H' p0 n pss L ∧ H' L = some (.lst (xs.map V.int)) ∧ (∀ x ∈ xs, 0 ≤ x ∧ x ≤ n - 1) ∧ 1 ≤ xs.length ∧ xs.length ≤ 10) (fun nx k => ?_) ?_
  · have kn : ∀ {H : Hp}, ∀ v ∈ xs.map V.int, Kn H v := fun {H} v hv => by
      obtain ⟨i, _, rfl⟩ := List.mem_map.mp hv
      exact .int i
    refine ⟨_, rfl, _, rfl, n, L, xs.map V.int, rfl, n1, n2, .inl hL, kn, .inr (.inr ⟨by rw [List.length_map]; exact l1, by rw [List.length_map]; exact l2, xs, rfl, hx, fun p2 H2 e12 ph2 => ?_⟩)⟩
    have hs2 := e12 _ _ hL
    refine ⟨_, rfl, _, rfl, L, _, rfl, .inl (SqL.of hs2), fun J G wk hG D nD => lc_it wk (fun j H' => Same H2 H' ∧ ∃ ys, H' D = some (.lst ys) ∧ Paired (fun v ps => SpIn H' v ps ∧ v ≠ .ref D) ys ((xs.take j).map fun x => [(x, x)])) ⟨same_new nD, [], upd_same, .nil⟩ (fun j H' _ z => hG H' fun o w => z.1 _ _ w) ?_ ?_⟩
    · rintro j y H3 H4 hj ⟨e3, ys, hD, po⟩ ⟨rfl, hy⟩
      obtain ⟨x, hx2, rfl⟩ : ∃ x, xs[j]? = some x ∧ y = V.int x := by
        rw [List.getElem?_map] at hy
        cases q2 : xs[j]? with
        | none => rw [q2] at hy; cases hy
        | some n => rw [q2] at hy; exact ⟨n, rfl, (Option.some.inj hy).symm⟩
      have ly : ys.length ≤ 10000 := by
        rw [Paired.length po, List.length_map, List.length_take]
        omega
      refine ⟨rfl, ?_⟩
      unfold tYes
      refine iteT ⟨_, rfl, _, rfl, by show 2 ≤ sizeLine; decide, fun t nt => ⟨by show 1 ≤ sizeLine; decide, fun l nl => ?_⟩⟩
      have et := same_new (o := .tup [.int x, .int x]) nt
      have ht : upd H4 t (.tup [.int x, .int x]) t = some (.tup [.int x, .int x]) := upd_same
      generalize upd H4 t (.tup [.int x, .int x]) = H5 at et ht nl ⊢
      have el := same_new (o := .lst [.ref t]) nl
      have hl : upd H5 l (.lst [.ref t]) l = some (.lst [.ref t]) := upd_same
      have lD : l ≠ D := (ne_of_none (et _ _ hD) nl).symm
      generalize upd H5 l (.lst [.ref t]) = H6 at el hl ⊢
      have hD6 := el _ _ (et _ _ hD)
      have keep : ∀ v ps, SpIn H6 v ps → v ≠ .ref D → SpIn (upd H6 D (.lst (ys ++ [.ref l]))) v ps := fun v ps ⟨a, us, h1, h2, h3⟩ ne => by
        subst h1
        have na : a ≠ D := fun z => ne (by rw [z])
        exact ⟨a, us, rfl, h2.imp (fun h => (upd_ne na).trans h) (fun h => (upd_ne na).trans h), h3.tt (TT.lst hD6)⟩
      refine ⟨_, hD6, small10 ly, fun b o z => ?_, _, upd_same, ?_⟩
      · rw [upd_ne (ne_of_none z nD)]
        exact el _ _ (et _ _ (e3 _ _ z))
      · rw [List.take_add_one, hx2, List.map_append]
        exact Paired.snoc (Paired.mapP po fun v ps ⟨z, ne⟩ => ⟨keep v ps (z.same (et.trans el)) ne, ne⟩) ⟨keep _ _ ⟨l, [.ref t], rfl, .inl hl, .cons ⟨t, rfl, el _ _ ht⟩ .nil⟩ (fun z => lD (V.ref.inj z)), fun z => lD (V.ref.inj z)⟩
    · rintro H3 ⟨e3, ys, hD, po⟩
      rw [List.length_map, List.take_length] at po
      intro p dx np nd ne
      have e4 : Same H3 (upd (upd H3 dx (.own p)) p (.ins C dx [])) := same_ins np nd
      have okx : PhOk n (xs.map fun x => [(x, x)]) := by
        refine ⟨n1, n2, by rw [List.length_map]; exact l1, by rw [List.length_map]; exact l2, fun ps hps => ?_⟩
        obtain ⟨x, hx3, rfl⟩ := List.mem_map.mp hps
        obtain ⟨h1, h2⟩ := hx x hx3
        refine ⟨by simp, ?_⟩
        show 0 ≤ x ∧ x ≤ x ∧ x ≤ n - 1 ∧ True
        exact ⟨h1, Int.le_refl _, h2, trivial⟩
      refine ⟨p, dx, .int n, D, ys, rfl, upd_same, True.intro, .inl (e4 _ _ hD), .inr (.inr (.inr ⟨n, _, rfl, okx, Paired.mapP po fun v ps z => z.1.same e4, fun H' b ph' => ⟨rfl, ?_⟩⟩))⟩
      have e5 : Same H2 H' := e3.trans (butI_same e4 np b)
      have ph3 := ph2.same e5
      obtain ⟨dx2, s2, m2, vs2, g1, g2, g3, g4⟩ := id ph3
      refine ⟨p2, dx2, _, .ref C, rfl, g1, ph'.ty T0 TE, nf, p2, _, n, _, rfl, ph3, .inl ⟨p, n, _, rfl, ph', _, rfl, ?_⟩⟩
      have e6 := e12.trans e5
      rw [show (!(decide (n = n) && decide ((xs.map fun x => [(x, x)]) = (xs.map fun x => [(x, x)])))) = false by simp]
      exact ⟨_, rfl, iteF (k _ _ ⟨xs, rfl, pt1.same e6, ph1.ks (Ks.of e6), e6 _ _ hL, hx, l1, l2⟩)⟩
  rintro σ' H2 ⟨xs, rfl, pt2, ph2, hL2, hx, l1, l2⟩
  clear hL ph1 pt1
  refine cutSeq (fun σ' H' => ∃ (ts : List V) (i : Nat), σ' = [some (.ref pn), some (.int n), some (.ref s0), some (.ref p0), o4, o5, o6, o7, o8, o9, o10, some (.ref L), none, o13, none, none] ∧ PT Tb H' pn cl (b + 22) ∧ IsPh C H' p0 n pss ∧ H' L = some (.lst ts) ∧ (∀ v ∈ ts, Kn H' v) ∧ ts.length ≤ 10 ∧ i < ts.length ∧ ∀ j v, ts[j]? = some v → btw v 0 (n - 1) = decide (j ≠ i)) (fun nx k => ?_) ?_
  · refine ⟨_, rfl, _, rfl, _, rfl, by show 1 ≤ sizeLine; decide, fun t nt => ⟨by show 6 ≤ sizeLine; decide, fun a na => ?_⟩⟩
    have e3 := (same_new (o := .tup [.int 0]) nt).trans (same_new (o := .lst [.int n, .int (-1), .non, .bl true, .str "0", .ref t]) na)
    have ht := same_new (o := .lst [.int n, .int (-1), .non, .bl true, .str "0", .ref t]) na _ _ (show upd H2 t (.tup [.int 0]) t = some (.tup [.int 0]) from upd_same)
    have ha : upd (upd H2 t (.tup [.int 0])) a (.lst [.int n, .int (-1), .non, .bl true, .str "0", .ref t]) a = some (.lst [.int n, .int (-1), .non, .bl true, .str "0", .ref t]) := upd_same
    generalize upd (upd H2 t (.tup [.int 0])) a (.lst [.int n, .int (-1), .non, .bl true, .str "0", .ref t]) = H3 at e3 ht ha ⊢
    have pt3 := pt2.same e3
    refine ⟨pn, cl, a, _, _, rfl, pt3.pen, by omega, ha, by show 0 < 6; decide, by show 6 ≤ 1000; decide, fun x H4 hx4 b4 pen4 => ?_⟩
    have pt4 := pt3.but b4 pen4
    have k4 := pt3.ks b4
    have bad : Kn H4 x ∧ btw x 0 (n - 1) = false := by
      simp only [List.mem_cons, List.not_mem_nil, or_false] at hx4
      rcases hx4 with rfl | rfl | rfl | rfl | rfl | rfl
      · exact ⟨.int _, by unfold btw; exact decide_eq_false (by omega)⟩
      · exact ⟨.int _, by unfold btw; exact decide_eq_false (by omega)⟩
      · exact ⟨.non, rfl⟩
      · exact ⟨.bl _, rfl⟩
      · exact ⟨.str _, rfl⟩
      · exact ⟨.tup (k4.tl.t _ _ ht), rfl⟩
    have hL4 := k4.tl.l _ _ (e3 _ _ hL2)
    have ph4 := ph2.ks ((Ks.of e3).trans k4)
    refine ⟨_, rfl, _, rfl, _, rfl, L, _, rfl, .inl (SqL.of hL4), pn, cl, _, _, rfl, pen4, by omega, by rw [List.length_map]; omega, by rw [List.length_map]; omega, fun r H5 r0 r1 b5 pen5 => ?_⟩
    obtain ⟨r, rfl⟩ := Int.eq_ofNat_of_zero_le r0
    have r1 : r < xs.length := by rw [List.length_map] at r1; omega
    have pt5 := pt4.but b5 pen5
    have k5 := pt4.ks b5
    have hL5 := k5.tl.l _ _ hL4
    have pnL : pn ≠ L := (pen5.ne hL5 fun _ z => nomatch z).symm
    refine ⟨L, _, _, r, rfl, rfl, hL5, ?_, ?_⟩
    · rw [List.length_map]
      unfold ixN
      rw [if_pos (by omega)]
      simp
      omega
    refine k _ _ ⟨(xs.map V.int).set r x, r, rfl, (pt_put pt5 hL5 pnL Lcl.symm).mono (by omega), ((ph4.ks k5).put hL5).to, upd_same, fun v hv => ?_, by rw [List.length_set, List.length_map]; exact l2, by rw [List.length_set, List.length_map]; exact r1, fun j v hv => ?_⟩
    · rcases List.mem_or_eq_of_mem_set hv with h | rfl
      · obtain ⟨i, _, rfl⟩ := List.mem_map.mp h
        exact .int i
      · exact (bad.1.tl k5.tl).put hL5
    · rw [List.getElem?_set] at hv
      by_cases c : r = j
      · subst c
        rw [if_pos rfl, if_pos (by rw [List.length_map]; exact r1)] at hv
        cases hv
        rw [bad.2]
        simp
      · rw [if_neg c, List.getElem?_map] at hv
        cases z : xs[j]? with
        | none => rw [z] at hv; cases hv
        | some y =>
          rw [z] at hv
          cases hv
          have := hx y (List.mem_of_getElem? z)
          rw [decide_eq_true (Ne.symm c)]
          exact decide_eq_true ⟨this.1, by omega⟩
  rintro σ' H3 ⟨ts, i, rfl, pt3, ph3, hL3, kn3, l3, hi, due⟩
  clear hL2 ph2 pt2 hx l1 l2 xs
  refine cutSeq (fun σ' H' => ∃ W : Addr, σ' = [some (.ref pn), some (.int n), some (.ref s0), some (.ref p0), o4, o5, o6, some (.ref W), o8, o9, o10, some (.ref L), none, o13, none, none] ∧ Same H3 H' ∧ H' W = some (.lst [.int (i : Nat)])) (fun nx k => ?_) ?_
  · refine ⟨_, rfl, L, _, rfl, .inl (SqL.of hL3), _, rfl, by omega, by omega, fun D nD => ?_⟩
    refine lc_it walk_range (fun j H' => Same H3 H' ∧ H' D = some (.lst (if i < j then [.int (i : Nat)] else []))) ⟨same_new nD, upd_same⟩ (fun _ _ _ _ => True.intro) ?_ ?_
    · rintro j x H4 H5 hj ⟨e4, hD⟩ ⟨rfl, hy⟩
      subst hy
      have hj : j < ts.length := by omega
      have hv : ts[j]? = some ts[j] := List.getElem?_eq_getElem hj
      have j0 : (0 : Int) + (j : Nat) = (j : Nat) := by omega
      show gName 14 (V.int (0 + (j : Nat))) _ _ _
      rw [j0]
      refine ⟨rfl, _, rfl, _, rfl, _, rfl, L, ts, _, ts[j], rfl, rfl, SqL.of (e4 _ _ hL3), atI_nat hv, n, _, rfl, (kn3 _ (List.mem_of_getElem? hv)).same e4, ?_⟩
      refine ⟨_, rfl, ?_⟩
      rw [due j _ hv]
      by_cases c : j = i
      · subst c
        rw [if_neg (Nat.lt_irrefl j)] at hD
        rw [show decide (j ≠ j) = false by simp]
        refine iteT ⟨_, rfl, _, hD, by show 0 < sizeLine; decide, fun b o z => ?_, ?_⟩
        · rw [upd_ne (ne_of_none z nD)]
          exact e4 _ _ z
        · rw [upd_same, if_pos (Nat.lt_succ_self j)]
          rfl
      · rw [show decide (j ≠ i) = true by simp [c]]
        refine iteF ⟨e4, ?_⟩
        rw [hD]
        congr 2
        by_cases c2 : i < j
        · rw [if_pos c2, if_pos (by omega)]
        · rw [if_neg c2, if_neg (by omega)]
    · rintro H4 ⟨e4, hD⟩
      rw [if_pos (by omega)] at hD
      exact k _ _ ⟨D, rfl, e4, hD⟩
  rintro σ' H4 ⟨W, rfl, e4, hW⟩
  have pt4 := pt3.same e4
  refine ⟨pt4.tabs, fun H5 en5 tab5 => ?_⟩
  have k5 := (Ks.of e4).trans (Ks.ext en5)
  have hL5 := k5.tl.l _ _ hL3
  have hW5 := (Ks.ext en5).tl.l _ _ hW
  have ff : fws n ts = some i := by
    unfold fws
    rw [List.findIdx?_eq_some_iff_getElem]
    have at_ : ∀ j (h : j < ts.length), btw ts[j] 0 (n - 1) = decide (j ≠ i) := fun j h => due j _ (List.getElem?_eq_getElem h)
    refine ⟨hi, ?_, fun j hj => ?_⟩
    · rw [at_ i hi]
      simp
    · rw [at_ j (by omega)]
      have : j ≠ i := by omega
      simp [this]
  refine ⟨_, rfl, _, rfl, n, L, ts, rfl, n1, n2, .inl hL5, fun v hv => (kn3 v hv).tl k5.tl, .inr (.inl ⟨by omega, l3, i, ff, fun d H6 r6 => .inr (.inr (.inr (.inl ?_)))⟩)⟩
  obtain ⟨v', hd, ov⟩ := r6.at_
  have ev : v' = .int (i : Nat) := odd_eq (u := .int (i : Nat)) ov rfl True.intro
  subst ev
  have e6 := r6.same
  refine ⟨rfl, d, _, rfl, hd, fun t nt => ?_⟩
  refine ⟨_, rfl, W, _, _, _, rfl, rfl, SqL.of (same_new nt _ _ (e6 _ _ hW5)), rfl, by show 2 ≤ sizeLine; decide, fun t2 nt2 => rSmD_of nt nt2 (fl_si (by decide +kernel) _) fun H7 e7 => ⟨_, rfl, iteF ?_⟩⟩
  have e57 := e6.trans e7
  exact qN Q H7 pn s0 p0 n pss o4 o5 o6 _ o8 o9 o10 _ o13 (tab5.ext e57) ok ((ph3.ks k5).same e57) q
end
end K25
set_option Elab.async false
set_option linter.all false
set_option maxRecDepth 100001
set_option maxHeartbeats 3999999
namespace K25
open PySem L2
section
variable {P : Program} {w : World} {K : PySem.W.Frag} {mg : Str → Option Value} {base : Heap}
theorem rf3 {f c T g fe C CS CT CP CG CX : Addr} {fd fdA fdE : FuncData} {Tb : List (Addr × Str)} (R : RfC P w K mg base f c T g fe C CS CT CP CG CX fd fdA fdE Tb) (A : Around) (outer : List Env) (s : Shared) (H0 : Hp) (E : XK) (hr : Room 11 (A.deeper (PyProof.Rows.envOfC "_law_refusals_right" (defScope sRf) s.heap.objs.size f (.ref c)))) :
    ∃ t, PSs (cxOf CX0 P w K mg base NRf "_law_refusals_right" (defScope sRf) f (.ref c) A outer s H0 E).nox ((defBody sRf).drop 8) t ∧
      ∀ (Q : VK) (H : Hp) (pn cl s0 p0 : Addr) (n : Int) (b : Nat) (pss : List Prs) (o4 o5 o6 o7 o8 o9 : Option V) (v13 : V), PT Tb H pn cl b → b ≤ 940000 → PhOk n pss → IsPh C H p0 n pss → (∀ H', Q (.bl true) H') →
        t { nx := fun _ H' => Q .non H', rt := Q } [some (.ref pn), some (.int n), some (.ref s0), some (.ref p0), o4, o5, o6, o7, o8, o9, none, none, none, some v13, none, none] H := by
  obtain ⟨F, B, hrepr, T0, cD, cK, cI, mk, cPl, mO, cCl, FE, TE, eN, nf, eE, iE, bE, FA, bA, gA, Ts, hmT, hu⟩ := id R
  obtain ⟨tN, p4, qN⟩ := rf4 R A outer s H0 E hr
  refine ⟨_, (pss_cons (ps_set (i := 10) scRf.nd rfl (Or.inr rfl) (pe_c cK hr pass0 (pa_cons (pv 0) (pa_cons (pe_lst (pa_cons pe_int (pa_cons pe_int (pa_cons pe_int pa_nil)))) pa_nil))))
      (pss_cons (ps_if (pt_cmpR (op_neSmD (hu64 hr)) (by exact pe_cau (k := 8) (Tb := Tb) FA bA gA Ts F.tab hmT hu hr (by decide) (LamX.lamS_by (sc := defScope sRf) (by decide +kernel)) (fun A outer s H E f c' hr' => pe_mk mk hr' (passes_call (takes_of rfl rfl rfl rfl) fun _ _ _ _ h => h) (pa_cons (pv 1) (pa_cons (pe_op op_rep (pe_lst (pa_cons (pv 13) pa_nil)) (pv 10)) pa_nil)))) (pe_tup (pa_cons pe_str (pa_cons pe_str (pa_cons (pv 10) (pa_cons pe_int pa_nil))))) (nomark _)) (pss_one (ps_ret pe_bl)) pss_nil)
      (pss_cons (ps_if (pt_cmpR (op_neSmD (hu64 hr)) (by exact pe_cau (k := 8) (Tb := Tb) FA bA gA Ts F.tab hmT hu hr (by decide) (LamX.lamS_by (sc := defScope sRf) (by decide +kernel)) (fun A outer s H E f c' hr' => pe_c cPl hr' (passes_call (takes_of rfl rfl rfl rfl) fun _ _ _ _ h => h) (pa_cons (pv 1) (pa_cons (pe_op op_rep (pe_lst (pa_cons pe_int pa_nil)) (pv 10)) pa_nil)))) (pe_tup (pa_cons pe_str (pa_cons pe_str (pa_cons (pv 10) (pa_cons pe_int pa_nil))))) (nomark _)) (pss_one (ps_ret pe_bl)) pss_nil)
      p4))), ?_⟩
  intro Q H pn cl s0 p0 n b pss o4 o5 o6 o7 o8 o9 v13 pt hb ok ph q
  have n1 := ok.n1
  have n2 := ok.n2
  refine cutSeq (fun σ' H' => ∃ m : Nat, σ' = [some (.ref pn), some (.int n), some (.ref s0), some (.ref p0), o4, o5, o6, o7, o8, o9, some (.int (m : Nat)), none, none, some v13, none, none] ∧ PT Tb H' pn cl (b + 1) ∧ IsPh C H' p0 n pss ∧ ¬ (1 ≤ m ∧ m ≤ 10) ∧ m ≤ 12) (fun nx k => ?_) ?_
  · refine ⟨_, rfl, by show 3 ≤ sizeLine; decide, fun a na => ?_⟩
    have e1 := same_new (o := .lst [.int 0, .int 11, .int 12]) na
    refine ⟨pn, cl, a, _, b, rfl, (pt.same e1).pen, by omega, upd_same, by show 0 < 3; decide, by show 3 ≤ 1000; decide, fun x H4 hx4 b4 pen4 => ?_⟩
    have pt4 := (pt.same e1).but b4 pen4
    have ph4 := ph.ks ((Ks.of e1).trans ((pt.same e1).ks b4))
    simp only [List.mem_cons, List.not_mem_nil, or_false] at hx4
    rcases hx4 with rfl | rfl | rfl
    · exact k _ _ ⟨0, rfl, pt4, ph4, by omega, by omega⟩
    · exact k _ _ ⟨11, rfl, pt4, ph4, by omega, by omega⟩
    · exact k _ _ ⟨12, rfl, pt4, ph4, by omega, by omega⟩
  rintro σ' H1 ⟨m, rfl, pt1, ph1, hm, m12⟩
  refine ⟨pt1.tabs, fun H2 en2 tab2 => ?_⟩
  have pt2 := pt1.ext en2 tab2
  have ph2 := ph1.ks (Ks.ext en2)
  refine ⟨_, rfl, _, rfl, by show 1 ≤ sizeLine; decide, fun l nl => ?_⟩
  refine ⟨_, rfl, l, (m : Nat), _, rfl, rfl, upd_same, by omega, by omega, Nat.le_of_lt (small10 (by rw [List.length_singleton, Nat.one_mul, Int.toNat_natCast]; omega)), fun p np => ?_⟩
  have e3 := (same_new (o := .lst [v13]) nl).trans (same_new (o := .lst (List.replicate ((m : Nat) : Int).toNat [v13]).flatten) np)
  have hp : upd (upd H2 l (.lst [v13])) p (.lst (List.replicate ((m : Nat) : Int).toNat [v13]).flatten) p = some (.lst (List.replicate m v13)) := by
    rw [upd_same, List.flatten_replicate_singleton, Int.toNat_natCast]
  generalize upd (upd H2 l (.lst [v13])) p (.lst (List.replicate ((m : Nat) : Int).toNat [v13]).flatten) = H3 at e3 hp ⊢
  intro i dx ni nd ne
  have e4 := e3.trans (same_ins (C := C) (fs := []) ni nd)
  have hbt : btw (.int n) 1 2000 = true := decide_eq_true ⟨n1, n2⟩
  refine ⟨i, dx, .int n, p, _, rfl, upd_same, True.intro, .inl (same_ins ni nd _ _ hp), .inr (.inl ⟨hbt, by rw [List.length_replicate]; exact hm, fun d H5 r5 => .inr (.inl ?_)⟩)⟩
  rw [List.length_replicate] at r5
  have e5 : Same H2 H5 := e3.trans (butI_same (same_ins ni nd) ni r5.same)
  refine ⟨rfl, d, _, _, _, rfl, r5.at_, fun t nt => ?_⟩
  refine ⟨_, rfl, by show 4 ≤ sizeLine; decide, fun t2 nt2 => rSmD_of nt nt2 (fl_many _) fun H6 e6 => ⟨_, rfl, iteF ?_⟩⟩
  have pt6 := pt2.same (e5.trans e6)
  have ph6 := ph2.same (e5.trans e6)
  clear e6 e5 r5 e4 hp e3 nt nt2 ni nd ne np nl pt2 ph2 tab2 en2 ph1 pt1 pt ph
  refine ⟨pt6.tabs, fun H7 en7 tab7 => ?_⟩
  have pt7 := pt6.ext en7 tab7
  have ph7 := ph6.ks (Ks.ext en7)
  refine ⟨_, rfl, by show 1 ≤ sizeLine; decide, fun l nl => ?_⟩
  refine ⟨_, rfl, l, (m : Nat), _, rfl, rfl, upd_same, by omega, by omega, Nat.le_of_lt (small10 (by rw [List.length_singleton, Nat.one_mul, Int.toNat_natCast]; omega)), fun p np => ?_⟩
  have e8 := (same_new (o := .lst [.int 0]) nl).trans (same_new (o := .lst (List.replicate ((m : Nat) : Int).toNat [.int 0]).flatten) np)
  have hp : upd (upd H7 l (.lst [.int 0])) p (.lst (List.replicate ((m : Nat) : Int).toNat [.int 0]).flatten) p = some (.lst (List.replicate m (.int 0))) := by
    rw [upd_same, List.flatten_replicate_singleton, Int.toNat_natCast]
  generalize upd (upd H7 l (.lst [.int 0])) p (.lst (List.replicate ((m : Nat) : Int).toNat [.int 0]).flatten) = H8 at e8 hp ⊢
  refine ⟨n, p, _, rfl, n1, n2, .inl hp, fun v hv => by rw [List.eq_of_mem_replicate hv]; exact .int 0, .inl ⟨by rw [List.length_replicate]; exact hm, fun d H9 r9 => .inr (.inl ?_)⟩⟩
  rw [List.length_replicate] at r9
  refine ⟨rfl, d, _, _, _, rfl, r9.at_, fun t nt => ?_⟩
  refine ⟨_, rfl, by show 4 ≤ sizeLine; decide, fun t2 nt2 => rSmD_of nt nt2 (fl_many _) fun H10 e10 => ⟨_, rfl, iteF ?_⟩⟩
  have e := (e8.trans r9.same).trans e10
  exact qN Q H10 pn cl s0 p0 n _ pss o4 o5 o6 o7 o8 o9 _ _ (pt7.same e) (by omega) ok (ph7.same e) q
end
end K25
set_option Elab.async false
set_option linter.all false
set_option maxRecDepth 100001
set_option maxHeartbeats 3999999
namespace K25
open PySem L2
/-- what is picked as no number of signs -/
structure Bd (v : V) : Prop where
  no : btw v 1 2000 = false
  fl : Flat v
  rp : RpOk v
theorem bd_pick {v : V} (h : v ∈ [V.int 0, .int 2001, .int (-1), .non, .bl true, .str "4", .int (10 ^ (30 : Int).toNat)]) : Bd v := by
  simp only [List.mem_cons, List.not_mem_nil, or_false] at h
  rcases h with rfl | rfl | rfl | rfl | rfl | rfl | rfl
  · exact ⟨by decide, True.intro, by show (0 : Int).natAbs.log2 < 1920; decide +kernel⟩
  · exact ⟨by decide, True.intro, by show (2001 : Int).natAbs.log2 < 1920; decide +kernel⟩
  · exact ⟨by decide, True.intro, by show (-1 : Int).natAbs.log2 < 1920; decide +kernel⟩
  · exact ⟨rfl, True.intro, True.intro⟩
  · exact ⟨rfl, True.intro, True.intro⟩
  · exact ⟨rfl, by show PyData.strOk _ = true; decide +kernel, by show (reprText _).length ≤ sizeLine; decide +kernel⟩
  · exact ⟨by decide +kernel, True.intro, by show ((10 : Int) ^ (30 : Int).toNat).natAbs.log2 < 1920; decide +kernel⟩
section
variable {P : Program} {w : World} {K : PySem.W.Frag} {mg : Str → Option Value} {base : Heap}
theorem rf2 {f c T g fe C CS CT CP CG CX : Addr} {fd fdA fdE : FuncData} {Tb : List (Addr × Str)} (R : RfC P w K mg base f c T g fe C CS CT CP CG CX fd fdA fdE Tb) (A : Around) (outer : List Env) (s : Shared) (H0 : Hp) (E : XK) (hr : Room 11 (A.deeper (PyProof.Rows.envOfC "_law_refusals_right" (defScope sRf) s.heap.objs.size f (.ref c)))) :
    ∃ t, PSs (cxOf CX0 P w K mg base NRf "_law_refusals_right" (defScope sRf) f (.ref c) A outer s H0 E).nox ((defBody sRf).drop 5) t ∧
      ∀ (Q : VK) (H : Hp) (pn cl s0 p0 bt : Addr) (n : Int) (b : Nat) (us : List V) (pss : List Prs) (o4 o5 o6 o7 : Option V) (v13 : V), PT Tb H pn cl b → b ≤ 930000 → PhOk n pss → IsPh C H p0 n pss → H bt = some (.lst us) → (∀ H', Q (.bl true) H') →
        t { nx := fun _ H' => Q .non H', rt := Q } [some (.ref pn), some (.int n), some (.ref s0), some (.ref p0), o4, o5, o6, o7, none, some (.ref bt), none, none, none, some v13, none, none] H := by
  obtain ⟨F, B, hrepr, T0, cD, cK, cI, mk, cPl, mO, cCl, FE, TE, eN, nf, eE, iE, bE, FA, bA, gA, Ts, hmT, hu⟩ := id R
  obtain ⟨tN, p3, qN⟩ := rf3 R A outer s H0 E hr
  refine ⟨_, (pss_cons (ps_set (i := 8) scRf.nd rfl (Or.inr rfl) (pe_c cK hr pass0 (pa_cons (pv 0) (pa_cons (pe_lst (pa_cons pe_int (pa_cons pe_int (pa_cons (pe_un un_neg pe_int) (pa_cons pe_non (pa_cons pe_bl (pa_cons pe_str (pa_cons (pe_op op_pow pe_int pe_int) pa_nil)))))))) pa_nil))))
      (pss_cons (ps_set (i := 6) scRf.nd rfl (Or.inl rfl) (by exact pe_cau (k := 8) (Tb := Tb) FA bA gA Ts F.tab hmT hu hr (by decide) (LamX.lamS_by (sc := defScope sRf) (by decide +kernel)) (fun A outer s H E f c' hr' => pe_mk mk hr' (passes_call (takes_of rfl rfl rfl rfl) fun _ _ _ _ h => h) (pa_cons (pv 8) (pa_cons (pv 9) pa_nil)))))
      (pss_cons (ps_if (PW.pt (pw_or (pt_cmpR op_isN (pv 6) pe_non (nomark _)) (pw_or (pt_cmpR op_ne (pe_ix ix_tup (pv 6) pe_int (fun _ _ => rfl)) pe_str (nomark _)) (pw_or1 (pt_cmpR op_ne (pe_callB call_reprF rfl hrepr (by decide +kernel) (pa_cons (pe_ix ix_tup (pv 6) pe_int (fun _ _ => rfl)) pa_nil)) (pe_callB call_reprF rfl hrepr (by decide +kernel) (pa_cons (pv 8) pa_nil)) (nomark _)))))) (pss_one (ps_ret pe_bl)) pss_nil)
      p3))), ?_⟩
  intro Q H pn cl s0 p0 bt n b us pss o4 o5 o6 o7 v13 pt hb ok ph hbt q
  refine cutSeq (fun σ' H' => ∃ v : V, σ' = [some (.ref pn), some (.int n), some (.ref s0), some (.ref p0), o4, o5, o6, o7, some v, some (.ref bt), none, none, none, some v13, none, none] ∧ PT Tb H' pn cl (b + 1) ∧ IsPh C H' p0 n pss ∧ H' bt = some (.lst us) ∧ Bd v) (fun nx k => ?_) ?_
  · refine ⟨_, rfl, _, rfl, _, _, rfl, rfl, ⟨by decide, by decide, by decide⟩, by show 7 ≤ sizeLine; decide, fun a na => ?_⟩
    have e1 := same_new (o := .lst [V.int 0, .int 2001, .int (-1), .non, .bl true, .str "4", .int (10 ^ (30 : Int).toNat)]) na
    refine ⟨pn, cl, a, _, b, rfl, (pt.same e1).pen, by omega, upd_same, by show 0 < 7; decide, by show 7 ≤ 1000; decide, fun x H4 hx4 b4 pen4 => ?_⟩
    have k4 := (Ks.of e1).trans ((pt.same e1).ks b4)
    exact k _ _ ⟨x, rfl, (pt.same e1).but b4 pen4, ph.ks k4, k4.tl.l _ _ hbt, bd_pick hx4⟩
  rintro σ' H1 ⟨v, rfl, pt1, ph1, hbt1, bd⟩
  refine cutSeq (fun σ' H' => ∃ t : Addr, σ' = [some (.ref pn), some (.int n), some (.ref s0), some (.ref p0), o4, o5, some (.ref t), o7, some v, some (.ref bt), none, none, none, some v13, none, none] ∧ PT Tb H' pn cl (b + 1) ∧ IsPh C H' p0 n pss ∧ H' t = some (.tup [.str "signs", v])) (fun nx k => ?_) ?_
  · refine ⟨pt1.tabs, fun H2 en2 tab2 => ?_⟩
    have k2 := Ks.ext en2
    refine ⟨_, rfl, _, rfl, fun i dx ni nd ne => ?_⟩
    refine ⟨i, dx, v, bt, us, rfl, upd_same, bd.fl, .inl (same_ins ni nd _ _ (k2.tl.l _ _ hbt1)), .inl ⟨bd.no, fun d H5 r5 => .inl ?_⟩⟩
    have e5 : Same H2 H5 := butI_same (same_ins ni nd) ni r5.same
    obtain ⟨v', hd, ov⟩ := r5.at_
    have ev : v' = v := odd_eq ov rfl bd.fl
    subst ev
    refine ⟨rfl, d, _, rfl, hd, fun t nt => ?_⟩
    have e6 := e5.trans (same_new (o := .tup [.str "signs", v']) nt)
    exact k _ _ ⟨t, rfl, (pt1.ext en2 tab2).same e6, (ph1.ks k2).same e6, upd_same⟩
  rintro σ' H2 ⟨t, rfl, pt2, ph2, ht⟩
  refine ⟨_, rfl, rfl, _, rfl, ?_⟩
  rw [show decide (V.ref t = V.non) = false from decide_eq_false fun z => nomatch z]
  refine iteF ⟨_, rfl, t, _, _, _, rfl, rfl, SqT.of ht, rfl, rfl, _, rfl, ?_⟩
  rw [show (!decide (V.str "signs" = V.str "signs")) = false by simp]
  refine iteF ⟨_, rfl, t, _, _, _, rfl, rfl, SqT.of ht, rfl, _, rfl, bd.rp, _, rfl, _, rfl, bd.rp, rfl, _, rfl, ?_⟩
  rw [show (!decide (V.str (reprV v) = V.str (reprV v))) = false by simp]
  refine iteF ?_
  exact qN Q H2 pn cl s0 p0 n _ pss o4 o5 _ o7 _ _ v13 pt2 (by omega) ok ph2 q
end
end K25
set_option Elab.async false
set_option linter.all false
set_option maxRecDepth 100001
set_option maxHeartbeats 3999999
namespace K25
open PySem L2
section
variable {P : Program} {w : World} {K : PySem.W.Frag} {mg : Str → Option Value} {base : Heap}
theorem rf1 {f c T g fe C CS CT CP CG CX : Addr} {fd fdA fdE : FuncData} {Tb : List (Addr × Str)} (R : RfC P w K mg base f c T g fe C CS CT CP CG CX fd fdA fdE Tb) (A : Around) (outer : List Env) (s : Shared) (H0 : Hp) (E : XK) (hr : Room 11 (A.deeper (PyProof.Rows.envOfC "_law_refusals_right" (defScope sRf) s.heap.objs.size f (.ref c)))) :
    ∃ t, PSs (cxOf CX0 P w K mg base NRf "_law_refusals_right" (defScope sRf) f (.ref c) A outer s H0 E).nox ((defBody sRf).drop 2) t ∧
      ∀ (Q : VK) (H : Hp) (pn cl s0 p0 ao : Addr) (n : Int) (b : Nat) (ts odd : List V) (pss : List Prs), PT Tb H pn cl b → b ≤ 900000 → PhOk n pss → IsPh C H p0 n pss → H s0 = some (.lst ts) → Paired (SpL H) ts pss → H ao = some (.lst odd) → (∀ v ∈ odd, OddS H n v) → odd.length = 12 → (∀ H', Q (.bl true) H') →
        t { nx := fun _ H' => Q .non H', rt := Q } [some (.ref pn), some (.int n), some (.ref s0), some (.ref p0), some (.ref ao), none, none, none, none, none, none, none, none, none, none, none] H := by
  obtain ⟨F, B, hrepr, T0, cD, cK, cI, mk, cPl, mO, cCl, FE, TE, eN, nf, eE, iE, bE, FA, bA, gA, Ts, hmT, hu⟩ := id R
  obtain ⟨tN, p2, qN⟩ := rf2 R A outer s H0 E hr
  refine ⟨_, (pss_cons (ps_asg (pe_tup (pa_cons (pe_c cD hr pass0 (pa_cons (pv 0) (pa_cons (pe_len B.len (pa_cons (pv 2) pa_nil)) pa_nil))) (pa_cons (pe_c cK hr pass0 (pa_cons (pv 0) (pa_cons (pv 4) pa_nil))) pa_nil))) (pg_tup rfl (pgs_cons (pg_name (i := 5) scRf.nd rfl (.inl rfl)) (pgs_cons (pg_name (i := 13) scRf.nd rfl (.inr rfl)) pgs_nil))))
      (pss_cons (ps_set (i := 9) scRf.nd rfl (Or.inr rfl) (pe_op op_cat (pe_op op_cat (pe_slice sl_list (pv 2) po_none (po_some (pv 5))) (pe_lst (pa_cons (pv 13) pa_nil))) (pe_slice sl_list (pv 2) (po_some (pe_op op_add (pv 5) pe_int)) po_none)))
      (pss_cons (ps_if (pt_cmpR (op_neSmD (hu64 hr)) (by exact pe_cau (k := 8) (Tb := Tb) FA bA gA Ts F.tab hmT hu hr (by decide) (LamX.lamS_by (sc := defScope sRf) (by decide +kernel)) (fun A outer s H E f c' hr' => pe_mk mk hr' (passes_call (takes_of rfl rfl rfl rfl) fun _ _ _ _ h => h) (pa_cons (pv 1) (pa_cons (pv 9) pa_nil)))) (pe_tup (pa_cons pe_str (pa_cons (pv 5) pa_nil))) (nomark _)) (pss_one (ps_ret pe_bl)) pss_nil)
      p2))), ?_⟩
  intro Q H pn cl s0 p0 ao n b ts odd pss pt hb ok ph hs pr hao odds lo q
  have n1 := ok.n1
  have n2 := ok.n2
  have lts := Paired.length pr
  have ln1 := ok.l1
  have ln2 := ok.l2
  refine cutSeq (fun σ' H' => ∃ (i : Nat) (x : V), σ' = [some (.ref pn), some (.int n), some (.ref s0), some (.ref p0), some (.ref ao), some (.int (i : Nat)), none, none, none, none, none, none, none, some x, none, none] ∧ PT Tb H' pn cl (b + 2) ∧ IsPh C H' p0 n pss ∧ H' s0 = some (.lst ts) ∧ Paired (SpL H') ts pss ∧ i < ts.length ∧ OddS H' n x) (fun nx k => ?_) ?_
  · refine ⟨_, rfl, _, rfl, s0, _, rfl, .inl (SqL.of hs), pn, cl, _, b, rfl, pt.pen, by omega, by omega, by omega, fun r H1 r0 r1 b1 pen1 => ?_⟩
    obtain ⟨i, rfl⟩ := Int.eq_ofNat_of_zero_le r0
    have pt1 := pt.but b1 pen1
    have k1 := pt.ks b1
    refine ⟨_, rfl, _, rfl, pn, cl, ao, odd, _, rfl, pen1, by omega, k1.tl.l _ _ hao, by omega, by omega, fun x H2 hx b2 pen2 => ?_⟩
    have pt2 := pt1.but b2 pen2
    have k2 := k1.trans (pt1.ks b2)
    refine ⟨by show 2 ≤ sizeLine; decide, fun t nt => ?_⟩
    have e3 := same_new (o := .tup [.int (i : Nat), x]) nt
    have k3 := k2.trans (Ks.of e3)
    refine ⟨t, _, rfl, SqT.of upd_same, rfl, _, _, rfl, _, _, rfl, rfl, ?_⟩
    exact k _ _ ⟨i, x, rfl, pt2.same e3, ph.ks k3, k3.tl.l _ _ hs, Paired.mapP pr fun _ _ z => z.tl k3.tl, by omega, (odds x hx).ks k3⟩
  rintro σ' H1 ⟨i, x, rfl, pt1, ph1, hs1, pr1, hi, od1⟩
  clear odds hao lo pr hs ph pt
  refine cutSeq (fun σ' H' => ∃ bt : Addr, σ' = [some (.ref pn), some (.int n), some (.ref s0), some (.ref p0), some (.ref ao), some (.int (i : Nat)), none, none, none, some (.ref bt), none, none, none, some x, none, none] ∧ Same H1 H' ∧ H' bt = some (.lst (ts.take i ++ [x] ++ ts.drop (i + 1)))) (fun nx k => ?_) ?_
  · refine ⟨_, rfl, _, rfl, _, rfl, s0, ts, rfl, SqL.of hs1, fun a na => ?_⟩
    rw [cut_to (by omega : i ≤ ts.length)]
    have e2 := same_new (o := .lst (ts.take i)) na
    have h2 : upd H1 a (.lst (ts.take i)) a = some (.lst (ts.take i)) := upd_same
    generalize upd H1 a (.lst (ts.take i)) = H2 at e2 h2 ⊢
    refine ⟨_, rfl, by show 1 ≤ sizeLine; decide, fun c nc => ?_⟩
    have e3 := same_new (o := .lst [x]) nc
    have h3 : upd H2 c (.lst [x]) c = some (.lst [x]) := upd_same
    generalize upd H2 c (.lst [x]) = H3 at e3 h3 ⊢
    refine ⟨a, c, _, _, rfl, rfl, e3 _ _ h2, h3, Nat.le_of_lt (small10 (by rw [List.length_take, List.length_singleton]; omega)), fun d nd => ?_⟩
    have e4 := same_new (o := .lst (ts.take i ++ [x])) nd
    have h4 : upd H3 d (.lst (ts.take i ++ [x])) d = some (.lst (ts.take i ++ [x])) := upd_same
    generalize upd H3 d (.lst (ts.take i ++ [x])) = H4 at e4 h4 ⊢
    have e14 := (e2.trans e3).trans e4
    refine ⟨_, rfl, _, rfl, _, _, rfl, rfl, _, rfl, s0, ts, rfl, SqL.of (e14 _ _ hs1), fun y ny => ?_⟩
    have ec : cutV ts (some ((i : Nat) + 1 : Int)) none = ts.drop (i + 1) := by
      have := cut_from (xs := ts) (k := i + 1) (by omega)
      rw [← this]
      rfl
    rw [ec]
    have e5 := same_new (o := .lst (ts.drop (i + 1))) ny
    have h5 : upd H4 y (.lst (ts.drop (i + 1))) y = some (.lst (ts.drop (i + 1))) := upd_same
    generalize upd H4 y (.lst (ts.drop (i + 1))) = H5 at e5 h5 ⊢
    refine ⟨d, y, _, _, rfl, rfl, e5 _ _ h4, h5, Nat.le_of_lt (small10 (by rw [List.length_append, List.length_take, List.length_singleton, List.length_drop]; omega)), fun z nz => ?_⟩
    exact k _ _ ⟨z, rfl, (e14.trans e5).trans (same_new nz), upd_same⟩
  rintro σ' H2 ⟨bt, rfl, e2, hb2⟩
  have pt2 := pt1.same e2
  have ph2 := ph1.same e2
  refine ⟨pt2.tabs, fun H3 en3 tab3 => ?_⟩
  have k3 := (Ks.of e2).trans (Ks.ext en3)
  have hb3 := (Ks.ext en3).tl.l _ _ hb2
  have pt3 := pt2.ext en3 tab3
  have ph3 := ph2.ks (Ks.ext en3)
  have pr3 : Paired (SpL H3) ts pss := Paired.mapP pr1 fun _ _ z => z.tl k3.tl
  have od3 := od1.ks k3
  refine ⟨_, rfl, _, rfl, fun p dx np nd ne => ?_⟩
  have e4 := same_ins (C := C) (fs := []) np nd
  have len : (ts.take i ++ [x] ++ ts.drop (i + 1)).length = ts.length := by
    rw [List.length_append, List.length_append, List.length_take, List.length_drop, List.length_singleton]
    omega
  have good : ∀ v ∈ ts, KnR H3 v ∧ arB H3 n v = true := fun v hv => by
    obtain ⟨j, hj⟩ := List.getElem?_of_mem hv
    obtain ⟨ps, hps, sp⟩ := paired_get pr3 hj
    obtain ⟨nn, rk⟩ := ok.ok ps (List.mem_of_getElem? hps)
    exact ⟨sp.in_.knr, sp.in_.are nn rk⟩
  refine ⟨p, dx, .int n, bt, _, rfl, upd_same, True.intro, .inl (e4 _ _ hb3), .inr (.inr (.inl ⟨n, rfl, n1, n2, by omega, by omega, fun v hv => ?_, i, x, ?_, ?_, fun j y hj hy => ?_, fun d H5 r5 => .inr (.inr (.inl ?_))⟩))⟩
  · simp only [List.mem_append, List.mem_singleton] at hv
    rcases hv with (h | rfl) | h
    · exact (good v (List.mem_of_mem_take h)).1.same e4
    · exact od3.1.same e4
    · exact (good v (List.mem_of_mem_drop h)).1.same e4
  · rw [List.append_assoc, List.getElem?_append_right (by rw [List.length_take]; omega), List.length_take, Nat.min_eq_left (by omega), Nat.sub_self]
    rfl
  · exact (od3.same e4).2
  · rw [List.append_assoc, List.getElem?_append_left (by rw [List.length_take]; omega), List.getElem?_take_of_lt hj] at hy
    have := good y (List.mem_of_getElem? hy)
    exact (arB_same this.1 e4).trans this.2
  obtain ⟨v', hd, ov⟩ := r5.at_
  have ev : v' = .int (i : Nat) := odd_eq (u := .int (i : Nat)) ov rfl True.intro
  subst ev
  have e5 : Same H3 H5 := butI_same e4 np r5.same
  refine ⟨rfl, d, _, rfl, hd, fun t nt => ?_⟩
  refine ⟨_, rfl, by show 2 ≤ sizeLine; decide, fun t2 nt2 => rSmD_of nt nt2 (fl_si (by decide +kernel) _) fun H7 e7 => ⟨_, rfl, iteF ?_⟩⟩
  have e57 := e5.trans e7
  exact qN Q H7 pn cl s0 p0 bt n _ _ pss _ _ _ _ x (pt3.same e57) (by omega) ok (ph3.same e57) (e57 _ _ hb3) q
end
end K25
set_option Elab.async false
set_option linter.all false
set_option maxRecDepth 100001
set_option maxHeartbeats 3999999
namespace K25
open PySem L2
section
variable {P : Program} {w : World} {K : PySem.W.Frag} {mg : Str → Option Value} {base : Heap}
theorem ok_rf {f c T g fe C CS CT CP CG CX : Addr} {fd fdA fdE : FuncData} {Tb : List (Addr × Str)} (R : RfC P w K mg base f c T g fe C CS CT CP CG CX fd fdA fdE Tb) :
    FnOk P w K mg base CX0 12 f fd ["_law_pen_here", "_law_signs", "_law_spots_here", "_law_phrase"] (spRf C Tb) := by
  refine R.F.okX scRf (fun vs H Q E h => ?_) (fun A outer s H vs Q E hr h => ?_)
  · obtain ⟨pn, cl, s, p, n, b, ts, pss, rfl, _⟩ := h
    rfl
  obtain ⟨pn, cl, s0, p0, n, b, ts, pss, rfl, pt, hb, ok, hs, pr, ph, q⟩ := h
  obtain ⟨F, B, hrepr, T0, cD, cK, cI, mk, cPl, mO, cCl, FE, TE, eN, nf, eE, iE, bE, FA, bA, gA, Ts, hmT, hu⟩ := id R
  obtain ⟨tN, p1, qN⟩ := rf1 R A outer s H E hr
  refine ⟨_, pss_cons (ps_set (i := 4) scRf.nd rfl (Or.inl rfl) (pe_lst (pa_cons (pe_lst pa_nil) (pa_cons (pe_lst (pa_cons (pe_tup (pa_cons pe_int (pa_cons pe_int pa_nil))) (pa_cons (pe_tup (pa_cons pe_int (pa_cons pe_int pa_nil))) pa_nil))) (pa_cons (pe_lst (pa_cons (pe_tup (pa_cons pe_int (pa_cons pe_int pa_nil))) pa_nil)) (pa_cons (pe_lst (pa_cons (pe_tup (pa_cons pe_int (pa_cons (pv 1) pa_nil))) pa_nil)) (pa_cons (pe_lst (pa_cons (pe_tup (pa_cons (pe_un un_neg pe_int) (pa_cons pe_int pa_nil))) pa_nil)) (pa_cons (pe_lst (pa_cons (pe_tup (pa_cons pe_int (pa_cons pe_int pa_nil))) (pa_cons (pe_tup (pa_cons pe_int (pa_cons pe_int pa_nil))) pa_nil))) (pa_cons (pe_lst (pa_cons (pe_tup (pa_cons pe_int pa_nil)) pa_nil)) pa_nil)))))))))
      (pss_cons (ps_set (i := 4) scRf.nd rfl (Or.inl rfl) (pe_op op_cat (pv 4) (pe_lst (pa_cons (pe_lst (pa_cons (pe_tup (pa_cons pe_int (pa_cons pe_int (pa_cons pe_int pa_nil)))) pa_nil)) (pa_cons (pe_tup (pa_cons pe_int (pa_cons pe_int pa_nil))) (pa_cons pe_non (pa_cons pe_str (pa_cons (pe_lst (pa_cons (pe_tup (pa_cons pe_bl (pa_cons pe_bl pa_nil))) pa_nil)) pa_nil))))))))
      p1), ?_⟩
  refine ⟨by show 0 ≤ sizeLine; decide, fun a1 na1 => ?_⟩
  have e1 := same_new (o := .lst []) na1
  have ha1 : upd H a1 (.lst []) a1 = some (.lst []) := upd_same
  generalize upd H a1 (.lst []) = H1 at e1 ha1 ⊢
  refine ⟨by show 2 ≤ sizeLine; decide, fun a2 na2 => ?_⟩
  have e2 := same_new (o := .tup [.int 0, .int 0]) na2
  have ha2 : upd H1 a2 (.tup [.int 0, .int 0]) a2 = some (.tup [.int 0, .int 0]) := upd_same
  generalize upd H1 a2 (.tup [.int 0, .int 0]) = H2 at e2 ha2 ⊢
  refine ⟨by show 2 ≤ sizeLine; decide, fun a3 na3 => ?_⟩
  have e3 := same_new (o := .tup [.int 1, .int 1]) na3
  have ha3 : upd H2 a3 (.tup [.int 1, .int 1]) a3 = some (.tup [.int 1, .int 1]) := upd_same
  generalize upd H2 a3 (.tup [.int 1, .int 1]) = H3 at e3 ha3 ⊢
  refine ⟨by show 2 ≤ sizeLine; decide, fun a4 na4 => ?_⟩
  have e4 := same_new (o := .lst [.ref a2, .ref a3]) na4
  have ha4 : upd H3 a4 (.lst [.ref a2, .ref a3]) a4 = some (.lst [.ref a2, .ref a3]) := upd_same
  generalize upd H3 a4 (.lst [.ref a2, .ref a3]) = H4 at e4 ha4 ⊢
  refine ⟨by show 2 ≤ sizeLine; decide, fun a5 na5 => ?_⟩
  have e5 := same_new (o := .tup [.int 1, .int 0]) na5
  have ha5 : upd H4 a5 (.tup [.int 1, .int 0]) a5 = some (.tup [.int 1, .int 0]) := upd_same
  generalize upd H4 a5 (.tup [.int 1, .int 0]) = H5 at e5 ha5 ⊢
  refine ⟨by show 1 ≤ sizeLine; decide, fun a6 na6 => ?_⟩
  have e6 := same_new (o := .lst [.ref a5]) na6
  have ha6 : upd H5 a6 (.lst [.ref a5]) a6 = some (.lst [.ref a5]) := upd_same
  generalize upd H5 a6 (.lst [.ref a5]) = H6 at e6 ha6 ⊢
  refine ⟨_, rfl, by show 2 ≤ sizeLine; decide, fun a7 na7 => ?_⟩
  have e7 := same_new (o := .tup [.int 0, .int n]) na7
  have ha7 : upd H6 a7 (.tup [.int 0, .int n]) a7 = some (.tup [.int 0, .int n]) := upd_same
  generalize upd H6 a7 (.tup [.int 0, .int n]) = H7 at e7 ha7 ⊢
  refine ⟨by show 1 ≤ sizeLine; decide, fun a8 na8 => ?_⟩
  have e8 := same_new (o := .lst [.ref a7]) na8
  have ha8 : upd H7 a8 (.lst [.ref a7]) a8 = some (.lst [.ref a7]) := upd_same
  generalize upd H7 a8 (.lst [.ref a7]) = H8 at e8 ha8 ⊢
  refine ⟨_, rfl, by show 2 ≤ sizeLine; decide, fun a9 na9 => ?_⟩
  have e9 := same_new (o := .tup [.int (-1), .int 0]) na9
  have ha9 : upd H8 a9 (.tup [.int (-1), .int 0]) a9 = some (.tup [.int (-1), .int 0]) := upd_same
  generalize upd H8 a9 (.tup [.int (-1), .int 0]) = H9 at e9 ha9 ⊢
  refine ⟨by show 1 ≤ sizeLine; decide, fun a10 na10 => ?_⟩
  have e10 := same_new (o := .lst [.ref a9]) na10
  have ha10 : upd H9 a10 (.lst [.ref a9]) a10 = some (.lst [.ref a9]) := upd_same
  generalize upd H9 a10 (.lst [.ref a9]) = H10 at e10 ha10 ⊢
  refine ⟨by show 2 ≤ sizeLine; decide, fun a11 na11 => ?_⟩
  have e11 := same_new (o := .tup [.int 0, .int 0]) na11
  have ha11 : upd H10 a11 (.tup [.int 0, .int 0]) a11 = some (.tup [.int 0, .int 0]) := upd_same
  generalize upd H10 a11 (.tup [.int 0, .int 0]) = H11 at e11 ha11 ⊢
  refine ⟨by show 2 ≤ sizeLine; decide, fun a12 na12 => ?_⟩
  have e12 := same_new (o := .tup [.int 0, .int 0]) na12
  have ha12 : upd H11 a12 (.tup [.int 0, .int 0]) a12 = some (.tup [.int 0, .int 0]) := upd_same
  generalize upd H11 a12 (.tup [.int 0, .int 0]) = H12 at e12 ha12 ⊢
  refine ⟨by show 2 ≤ sizeLine; decide, fun a13 na13 => ?_⟩
  have e13 := same_new (o := .lst [.ref a11, .ref a12]) na13
  have ha13 : upd H12 a13 (.lst [.ref a11, .ref a12]) a13 = some (.lst [.ref a11, .ref a12]) := upd_same
  generalize upd H12 a13 (.lst [.ref a11, .ref a12]) = H13 at e13 ha13 ⊢
  refine ⟨by show 1 ≤ sizeLine; decide, fun a14 na14 => ?_⟩
  have e14 := same_new (o := .tup [.int 0]) na14
  have ha14 : upd H13 a14 (.tup [.int 0]) a14 = some (.tup [.int 0]) := upd_same
  generalize upd H13 a14 (.tup [.int 0]) = H14 at e14 ha14 ⊢
  refine ⟨by show 1 ≤ sizeLine; decide, fun a15 na15 => ?_⟩
  have e15 := same_new (o := .lst [.ref a14]) na15
  have ha15 : upd H14 a15 (.lst [.ref a14]) a15 = some (.lst [.ref a14]) := upd_same
  generalize upd H14 a15 (.lst [.ref a14]) = H15 at e15 ha15 ⊢
  refine ⟨by show 7 ≤ sizeLine; decide, fun a16 na16 => ?_⟩
  have e16 := same_new (o := .lst [.ref a1, .ref a4, .ref a6, .ref a8, .ref a10, .ref a13, .ref a15]) na16
  have ha16 : upd H15 a16 (.lst [.ref a1, .ref a4, .ref a6, .ref a8, .ref a10, .ref a13, .ref a15]) a16 = some (.lst [.ref a1, .ref a4, .ref a6, .ref a8, .ref a10, .ref a13, .ref a15]) := upd_same
  generalize upd H15 a16 (.lst [.ref a1, .ref a4, .ref a6, .ref a8, .ref a10, .ref a13, .ref a15]) = H16 at e16 ha16 ⊢
  refine ⟨_, rfl, by show 3 ≤ sizeLine; decide, fun a17 na17 => ?_⟩
  have e17 := same_new (o := .tup [.int 0, .int 0, .int 0]) na17
  have ha17 : upd H16 a17 (.tup [.int 0, .int 0, .int 0]) a17 = some (.tup [.int 0, .int 0, .int 0]) := upd_same
  generalize upd H16 a17 (.tup [.int 0, .int 0, .int 0]) = H17 at e17 ha17 ⊢
  refine ⟨by show 1 ≤ sizeLine; decide, fun a18 na18 => ?_⟩
  have e18 := same_new (o := .lst [.ref a17]) na18
  have ha18 : upd H17 a18 (.lst [.ref a17]) a18 = some (.lst [.ref a17]) := upd_same
  generalize upd H17 a18 (.lst [.ref a17]) = H18 at e18 ha18 ⊢
  refine ⟨by show 2 ≤ sizeLine; decide, fun a19 na19 => ?_⟩
  have e19 := same_new (o := .tup [.int 0, .int 0]) na19
  have ha19 : upd H18 a19 (.tup [.int 0, .int 0]) a19 = some (.tup [.int 0, .int 0]) := upd_same
  generalize upd H18 a19 (.tup [.int 0, .int 0]) = H19 at e19 ha19 ⊢
  refine ⟨by show 2 ≤ sizeLine; decide, fun a20 na20 => ?_⟩
  have e20 := same_new (o := .tup [.bl true, .bl true]) na20
  have ha20 : upd H19 a20 (.tup [.bl true, .bl true]) a20 = some (.tup [.bl true, .bl true]) := upd_same
  generalize upd H19 a20 (.tup [.bl true, .bl true]) = H20 at e20 ha20 ⊢
  refine ⟨by show 1 ≤ sizeLine; decide, fun a21 na21 => ?_⟩
  have e21 := same_new (o := .lst [.ref a20]) na21
  have ha21 : upd H20 a21 (.lst [.ref a20]) a21 = some (.lst [.ref a20]) := upd_same
  generalize upd H20 a21 (.lst [.ref a20]) = H21 at e21 ha21 ⊢
  refine ⟨by show 5 ≤ sizeLine; decide, fun a22 na22 => ?_⟩
  have e22 := same_new (o := .lst [.ref a18, .ref a19, .non, .str "00", .ref a21]) na22
  have ha22 : upd H21 a22 (.lst [.ref a18, .ref a19, .non, .str "00", .ref a21]) a22 = some (.lst [.ref a18, .ref a19, .non, .str "00", .ref a21]) := upd_same
  generalize upd H21 a22 (.lst [.ref a18, .ref a19, .non, .str "00", .ref a21]) = H22 at e22 ha22 ⊢
  refine ⟨a16, a22, _, _, rfl, rfl, (e17.trans (e18.trans (e19.trans (e20.trans (e21.trans (e22)))))) _ _ ha16, ha22, by show 7 + 5 ≤ sizeLine; decide, fun a23 na23 => ?_⟩
  have e23 := same_new (o := .lst ([.ref a1, .ref a4, .ref a6, .ref a8, .ref a10, .ref a13, .ref a15] ++ [.ref a18, .ref a19, .non, .str "00", .ref a21])) na23
  have hodd : upd H22 a23 (.lst ([.ref a1, .ref a4, .ref a6, .ref a8, .ref a10, .ref a13, .ref a15] ++ [.ref a18, .ref a19, .non, .str "00", .ref a21])) a23 = some (.lst ([.ref a1, .ref a4, .ref a6, .ref a8, .ref a10, .ref a13, .ref a15] ++ [.ref a18, .ref a19, .non, .str "00", .ref a21])) := upd_same
  generalize upd H22 a23 (.lst ([.ref a1, .ref a4, .ref a6, .ref a8, .ref a10, .ref a13, .ref a15] ++ [.ref a18, .ref a19, .non, .str "00", .ref a21])) = H23 at e23 hodd ⊢
  have n1 := ok.n1
  have od0 : OddS H23 n (.ref a1) := by
    refine odd_of (.inl ((e2.trans (e3.trans (e4.trans (e5.trans (e6.trans (e7.trans (e8.trans (e9.trans (e10.trans (e11.trans (e12.trans (e13.trans (e14.trans (e15.trans (e16.trans (e17.trans (e18.trans (e19.trans (e20.trans (e21.trans (e22.trans (e23)))))))))))))))))))))) _ _ ha1)) (fun x hx => nomatch hx) (.inl rfl)
  have od1 : OddS H23 n (.ref a4) := by
    refine odd_of (.inl ((e5.trans (e6.trans (e7.trans (e8.trans (e9.trans (e10.trans (e11.trans (e12.trans (e13.trans (e14.trans (e15.trans (e16.trans (e17.trans (e18.trans (e19.trans (e20.trans (e21.trans (e22.trans (e23))))))))))))))))))) _ _ ha4)) (?_) (.inr (rw_second ((e3.trans (e4.trans (e5.trans (e6.trans (e7.trans (e8.trans (e9.trans (e10.trans (e11.trans (e12.trans (e13.trans (e14.trans (e15.trans (e16.trans (e17.trans (e18.trans (e19.trans (e20.trans (e21.trans (e22.trans (e23))))))))))))))))))))) _ _ ha2) n1 ((e4.trans (e5.trans (e6.trans (e7.trans (e8.trans (e9.trans (e10.trans (e11.trans (e12.trans (e13.trans (e14.trans (e15.trans (e16.trans (e17.trans (e18.trans (e19.trans (e20.trans (e21.trans (e22.trans (e23)))))))))))))))))))) _ _ ha3) (by unfold btw; exact decide_eq_false (by omega))))
    intro x hx
    simp only [List.mem_cons, List.not_mem_nil, or_false] at hx
    rcases hx with rfl | rfl
    · exact kp_tup ((e3.trans (e4.trans (e5.trans (e6.trans (e7.trans (e8.trans (e9.trans (e10.trans (e11.trans (e12.trans (e13.trans (e14.trans (e15.trans (e16.trans (e17.trans (e18.trans (e19.trans (e20.trans (e21.trans (e22.trans (e23))))))))))))))))))))) _ _ ha2) (fun x hx => by simp only [List.mem_cons, List.not_mem_nil, or_false] at hx; rcases hx with rfl | rfl <;> constructor)
    · exact kp_tup ((e4.trans (e5.trans (e6.trans (e7.trans (e8.trans (e9.trans (e10.trans (e11.trans (e12.trans (e13.trans (e14.trans (e15.trans (e16.trans (e17.trans (e18.trans (e19.trans (e20.trans (e21.trans (e22.trans (e23)))))))))))))))))))) _ _ ha3) (fun x hx => by simp only [List.mem_cons, List.not_mem_nil, or_false] at hx; rcases hx with rfl | rfl <;> constructor)
  have od2 : OddS H23 n (.ref a6) := by
    refine odd_of (.inl ((e7.trans (e8.trans (e9.trans (e10.trans (e11.trans (e12.trans (e13.trans (e14.trans (e15.trans (e16.trans (e17.trans (e18.trans (e19.trans (e20.trans (e21.trans (e22.trans (e23))))))))))))))))) _ _ ha6)) (?_) (.inr (rw_first ((e6.trans (e7.trans (e8.trans (e9.trans (e10.trans (e11.trans (e12.trans (e13.trans (e14.trans (e15.trans (e16.trans (e17.trans (e18.trans (e19.trans (e20.trans (e21.trans (e22.trans (e23)))))))))))))))))) _ _ ha5) (.inr ⟨1, rfl, by unfold btw; exact decide_eq_false (by omega)⟩)))
    intro x hx
    simp only [List.mem_cons, List.not_mem_nil, or_false] at hx
    rcases hx with rfl
    · exact kp_tup ((e6.trans (e7.trans (e8.trans (e9.trans (e10.trans (e11.trans (e12.trans (e13.trans (e14.trans (e15.trans (e16.trans (e17.trans (e18.trans (e19.trans (e20.trans (e21.trans (e22.trans (e23)))))))))))))))))) _ _ ha5) (fun x hx => by simp only [List.mem_cons, List.not_mem_nil, or_false] at hx; rcases hx with rfl | rfl <;> constructor)
  have od3 : OddS H23 n (.ref a8) := by
    refine odd_of (.inl ((e9.trans (e10.trans (e11.trans (e12.trans (e13.trans (e14.trans (e15.trans (e16.trans (e17.trans (e18.trans (e19.trans (e20.trans (e21.trans (e22.trans (e23))))))))))))))) _ _ ha8)) (?_) (.inr (rw_first ((e8.trans (e9.trans (e10.trans (e11.trans (e12.trans (e13.trans (e14.trans (e15.trans (e16.trans (e17.trans (e18.trans (e19.trans (e20.trans (e21.trans (e22.trans (e23)))))))))))))))) _ _ ha7) (.inr ⟨0, rfl, by unfold btw; exact decide_eq_false (by omega)⟩)))
    intro x hx
    simp only [List.mem_cons, List.not_mem_nil, or_false] at hx
    rcases hx with rfl
    · exact kp_tup ((e8.trans (e9.trans (e10.trans (e11.trans (e12.trans (e13.trans (e14.trans (e15.trans (e16.trans (e17.trans (e18.trans (e19.trans (e20.trans (e21.trans (e22.trans (e23)))))))))))))))) _ _ ha7) (fun x hx => by simp only [List.mem_cons, List.not_mem_nil, or_false] at hx; rcases hx with rfl | rfl <;> constructor)
  have od4 : OddS H23 n (.ref a10) := by
    refine odd_of (.inl ((e11.trans (e12.trans (e13.trans (e14.trans (e15.trans (e16.trans (e17.trans (e18.trans (e19.trans (e20.trans (e21.trans (e22.trans (e23))))))))))))) _ _ ha10)) (?_) (.inr (rw_first ((e10.trans (e11.trans (e12.trans (e13.trans (e14.trans (e15.trans (e16.trans (e17.trans (e18.trans (e19.trans (e20.trans (e21.trans (e22.trans (e23)))))))))))))) _ _ ha9) (.inl (by unfold btw; exact decide_eq_false (by omega)))))
    intro x hx
    simp only [List.mem_cons, List.not_mem_nil, or_false] at hx
    rcases hx with rfl
    · exact kp_tup ((e10.trans (e11.trans (e12.trans (e13.trans (e14.trans (e15.trans (e16.trans (e17.trans (e18.trans (e19.trans (e20.trans (e21.trans (e22.trans (e23)))))))))))))) _ _ ha9) (fun x hx => by simp only [List.mem_cons, List.not_mem_nil, or_false] at hx; rcases hx with rfl | rfl <;> constructor)
  have od5 : OddS H23 n (.ref a13) := by
    refine odd_of (.inl ((e14.trans (e15.trans (e16.trans (e17.trans (e18.trans (e19.trans (e20.trans (e21.trans (e22.trans (e23)))))))))) _ _ ha13)) (?_) (.inr (rw_second ((e12.trans (e13.trans (e14.trans (e15.trans (e16.trans (e17.trans (e18.trans (e19.trans (e20.trans (e21.trans (e22.trans (e23)))))))))))) _ _ ha11) n1 ((e13.trans (e14.trans (e15.trans (e16.trans (e17.trans (e18.trans (e19.trans (e20.trans (e21.trans (e22.trans (e23))))))))))) _ _ ha12) (by unfold btw; exact decide_eq_false (by omega))))
    intro x hx
    simp only [List.mem_cons, List.not_mem_nil, or_false] at hx
    rcases hx with rfl | rfl
    · exact kp_tup ((e12.trans (e13.trans (e14.trans (e15.trans (e16.trans (e17.trans (e18.trans (e19.trans (e20.trans (e21.trans (e22.trans (e23)))))))))))) _ _ ha11) (fun x hx => by simp only [List.mem_cons, List.not_mem_nil, or_false] at hx; rcases hx with rfl | rfl <;> constructor)
    · exact kp_tup ((e13.trans (e14.trans (e15.trans (e16.trans (e17.trans (e18.trans (e19.trans (e20.trans (e21.trans (e22.trans (e23))))))))))) _ _ ha12) (fun x hx => by simp only [List.mem_cons, List.not_mem_nil, or_false] at hx; rcases hx with rfl | rfl <;> constructor)
  have od6 : OddS H23 n (.ref a15) := by
    refine odd_of (.inl ((e16.trans (e17.trans (e18.trans (e19.trans (e20.trans (e21.trans (e22.trans (e23)))))))) _ _ ha15)) (?_) (.inr (rw_no (by simp only [pairOf, (e15.trans (e16.trans (e17.trans (e18.trans (e19.trans (e20.trans (e21.trans (e22.trans (e23))))))))) _ _ ha14])))
    intro x hx
    simp only [List.mem_cons, List.not_mem_nil, or_false] at hx
    rcases hx with rfl
    · exact kp_tup ((e15.trans (e16.trans (e17.trans (e18.trans (e19.trans (e20.trans (e21.trans (e22.trans (e23))))))))) _ _ ha14) (fun x hx => by simp only [List.mem_cons, List.not_mem_nil, or_false] at hx; rcases hx with rfl <;> constructor)
  have od7 : OddS H23 n (.ref a18) := by
    refine odd_of (.inl ((e19.trans (e20.trans (e21.trans (e22.trans (e23))))) _ _ ha18)) (?_) (.inr (rw_no (by simp only [pairOf, (e18.trans (e19.trans (e20.trans (e21.trans (e22.trans (e23)))))) _ _ ha17])))
    intro x hx
    simp only [List.mem_cons, List.not_mem_nil, or_false] at hx
    rcases hx with rfl
    · exact kp_tup ((e18.trans (e19.trans (e20.trans (e21.trans (e22.trans (e23)))))) _ _ ha17) (fun x hx => by simp only [List.mem_cons, List.not_mem_nil, or_false] at hx; rcases hx with rfl | rfl | rfl <;> constructor)
  have od8 : OddS H23 n (.ref a19) := odd_of (.inr ((e20.trans (e21.trans (e22.trans (e23)))) _ _ ha19)) (fun x hx => by simp only [List.mem_cons, List.not_mem_nil, or_false] at hx; rcases hx with rfl | rfl <;> exact kp_flat (.int _) (fun _ z => nomatch z)) (.inr (rw_no rfl))
  have od9 : OddS H23 n .non := odd_flat .non rfl
  have od10 : OddS H23 n (.str "00") := odd_flat (.str _) rfl
  have od11 : OddS H23 n (.ref a21) := by
    refine odd_of (.inl ((e22.trans (e23)) _ _ ha21)) (?_) (.inr (rw_first ((e21.trans (e22.trans (e23))) _ _ ha20) (.inl rfl)))
    intro x hx
    simp only [List.mem_cons, List.not_mem_nil, or_false] at hx
    rcases hx with rfl
    · exact kp_tup ((e21.trans (e22.trans (e23))) _ _ ha20) (fun x hx => by simp only [List.mem_cons, List.not_mem_nil, or_false] at hx; rcases hx with rfl | rfl <;> constructor)
  have odds : ∀ v ∈ [.ref a1, .ref a4, .ref a6, .ref a8, .ref a10, .ref a13, .ref a15] ++ [.ref a18, .ref a19, .non, .str "00", .ref a21], OddS H23 n v := fun v hv => by
    simp only [List.mem_append, List.mem_cons, List.not_mem_nil, or_false] at hv
    rcases hv with (rfl | rfl | rfl | rfl | rfl | rfl | rfl) | (rfl | rfl | rfl | rfl | rfl)
    · exact od0
    · exact od1
    · exact od2
    · exact od3
    · exact od4
    · exact od5
    · exact od6
    · exact od7
    · exact od8
    · exact od9
    · exact od10
    · exact od11
  have eO : Same H H23 := e1.trans (e2.trans (e3.trans (e4.trans (e5.trans (e6.trans (e7.trans (e8.trans (e9.trans (e10.trans (e11.trans (e12.trans (e13.trans (e14.trans (e15.trans (e16.trans (e17.trans (e18.trans (e19.trans (e20.trans (e21.trans (e22.trans (e23))))))))))))))))))))))
  have lodd : ([.ref a1, .ref a4, .ref a6, .ref a8, .ref a10, .ref a13, .ref a15] ++ [.ref a18, .ref a19, .non, .str "00", .ref a21] : List V).length = 12 := rfl
  clear na23 na22 na21 na20 na19 na18 na17 na16 na15 na14 na13 na12 na11 na10 na9 na8 na7 na6 na5 na4 na3 na2 na1 ha22 ha21 ha20 ha19 ha18 ha17 ha16 ha15 ha14 ha13 ha12 ha11 ha10 ha9 ha8 ha7 ha6 ha5 ha4 ha3 ha2 ha1 e23 e22 e21 e20 e19 e18 e17 e16 e15 e14 e13 e12 e11 e10 e9 e8 e7 e6 e5 e4 e3 e2 e1 od11 od10 od9 od8 od7 od6 od5 od4 od3 od2 od1 od0
  generalize ([.ref a1, .ref a4, .ref a6, .ref a8, .ref a10, .ref a13, .ref a15] ++ [.ref a18, .ref a19, .non, .str "00", .ref a21] : List V) = odd at hodd odds lodd ⊢
  generalize H23 = G at hodd odds eO ⊢
  generalize a23 = ao at hodd ⊢
  exact qN Q G pn cl s0 p0 ao n b ts odd pss (pt.same eO) hb ok (ph.same eO) (eO _ _ hs) (Paired.mapP pr fun _ _ z => z.tl (TL.same eO)) hodd odds lodd q
end
end K25
set_option Elab.async false
set_option linter.all false
set_option maxRecDepth 100001
set_option maxHeartbeats 3999999
namespace K25
open PySem L2
abbrev sLaw : Stmt := topS 44
abbrev NLaw : List Str := ["_law_script", "_law_pen_here", "_law_signs", "_law_spots_here", "_law_others", "_law_given", "_law_one", "_law_other", "_law_turn", "_law_row", "_law_told", "_law_due", "_law_at", "_law_size", "_law_spot", "_law_k"]
theorem scLaw : FnScope NLaw ["_law_script"] (defScope sLaw) := ⟨rfl, rfl, rfl, by decide +kernel, rfl, by decide +kernel, by decide +kernel⟩
def spLaw (K : PySem.W.Frag) (Tb : List (Addr × Str)) : Sp := fun vs H Q _ => ∃ (a : Addr) (is : List Int), vs = [.ref a] ∧ SqL K H a (is.map V.int) ∧ LamX.Tabs Tb H ∧ ∀ H', Q (.bl true) H'
/-- what the law stands on -/
structure LwC (P : Program) (w : World) (K : PySem.W.Frag) (mg : Str → Option Value) (base : Heap) (f fe C CS CT CP CX : Addr) (fd fdE : FuncData) (Tb : List (Addr × Str)) : Prop where
  F : Fun K "law" "law" sLaw f fd
  B : Bi mg
  hall : mg "all" = none
  T0 : TxP K C
  TE : TxE K C
  eN : PySem.W.findIn K (.ref C) "__ne__" = some (some (.builtin "object.__ne__"))
  nf : PySem.W.notFirst K C (.ref C) = true
  nfL : PySem.W.notFirst K C (.type "list") = true
  FE : FnOk P w K mg base CX0 1 fe fdE ["self", "other"] (spEq C)
  eE : PySem.W.findIn K (.ref C) "__eq__" = some (some (.ref fe))
  iE : PySem.W.isFn K (.ref fe) = true
  bE : Binds K fdE ["self", "other"] []
  cPn : Cal CX0 P w K mg base 1 "_law_pen" (spPen K)
  cD : Cal CX0 P w K mg base 1 "_law_draw" spDraw
  cK : Cal CX0 P w K mg base 2 "_law_pick" spPick
  cS : Cal CX0 P w K mg base 3 "_law_spots" spLSp
  mkP : Mak (L2.CX P w) P w K mg base 6 "Phrase" C (spPhI C CS CT CP)
  mF : Met CX0 P w K mg base 3 C "fits_row" (spFit C)
  cT : Cal CX0 P w K mg base 2 "_law_stands" spStd
  cM : Cal CX0 P w K mg base 1 "_law_meet" spMeet
  cB : Cal CX0 P w K mg base 3 "_law_beside" spBes
  mO : Met (L2.CX P w) P w K mg base 4 C "overlaps_at" (spOver C CX)
  cCR : Cal CX0 P w K mg base 6 "_law_classes_right" (spCR C)
  cRf : Cal CX0 P w K mg base 12 "_law_refusals_right" (spRf C Tb)
/-- what is known of the law's numbers and spots -/
structure LwN (n : Nat) (pss qss : List Prs) : Prop where
  n1 : 1 ≤ n
  n2 : n ≤ 2000
  okP : ∀ ps ∈ pss, OkS (n : Nat) ps
  okQ : ∀ ps ∈ qss, OkS (n : Nat) ps
  p1 : 1 ≤ pss.length
  p2 : pss.length ≤ 10
  q1 : 1 ≤ qss.length
  q2 : qss.length ≤ 10
theorem LwN.ph {n : Nat} {pss qss : List Prs} (h : LwN n pss qss) : PhOk (n : Nat) pss := ⟨by have := h.n1; omega, by have := h.n2; omega, h.p1, h.p2, fun ps m => ⟨(h.okP ps m).1, (h.okP ps m).2.1⟩⟩
theorem LwN.qh {n : Nat} {pss qss : List Prs} (h : LwN n pss qss) : PhOk (n : Nat) qss := ⟨by have := h.n1; omega, by have := h.n2; omega, h.q1, h.q2, fun ps m => ⟨(h.okQ ps m).1, (h.okQ ps m).2.1⟩⟩
/-- what the heap holds -/
structure LwH (C : Addr) (Tb : List (Addr × Str)) (H : Hp) (pn cl S O p q : Addr) (n b : Nat) (us vs : List V) (pss qss : List Prs) : Prop where
  pt : PT Tb H pn cl b
  hS : H S = some (.lst us)
  prS : Paired (SpL H) us pss
  hO : H O = some (.lst vs)
  prO : Paired (SpL H) vs qss
  one : IsPh C H p (n : Nat) pss
  two : IsPh C H q (n : Nat) qss
section
variable {C : Addr} {Tb : List (Addr × Str)} {H H' : Hp} {pn cl S O p q : Addr} {n b c : Nat} {us vs : List V} {pss qss : List Prs}
theorem LwH.ks (h : LwH C Tb H pn cl S O p q n b us vs pss qss) (e : Ks H H') (t : PT Tb H' pn cl c) : LwH C Tb H' pn cl S O p q n c us vs pss qss :=
  ⟨t, e.tl.l _ _ h.hS, Paired.mapP h.prS fun _ _ z => z.tl e.tl, e.tl.l _ _ h.hO, Paired.mapP h.prO fun _ _ z => z.tl e.tl, h.one.ks e, h.two.ks e⟩
theorem LwH.same (h : LwH C Tb H pn cl S O p q n b us vs pss qss) (e : Same H H') : LwH C Tb H' pn cl S O p q n b us vs pss qss := h.ks (Ks.of e) (h.pt.same e)
theorem LwH.but (h : LwH C Tb H pn cl S O p q n b us vs pss qss) (e : But pn H H') (t : Pen H' pn cl c) : LwH C Tb H' pn cl S O p q n c us vs pss qss := h.ks (h.pt.ks e) (h.pt.but e t)
theorem LwH.mono (h : LwH C Tb H pn cl S O p q n b us vs pss qss) (l : b ≤ c) : LwH C Tb H pn cl S O p q n c us vs pss qss := h.ks (Ks.refl _) (h.pt.mono l)
end
/-! ### lists as data -/
theorem enc_ints : Enc (fun xs : List Int => PyData.tuple (xs.map PyData.int)) 1 := enc_int.tup
theorem enc_all : Enc (fun p : Int × Int × List Prs => PyData.tuple [.int p.1, .int p.2.1, dSps p.2.2]) 4 := (enc_int.mono (by decide : 0 ≤ 3)).three (enc_int.mono (by decide : 0 ≤ 3)) enc_sps
def dLp (ps : Prs) : PyData := .list (ps.map dPr)
def dLps (pss : List Prs) : PyData := .list (pss.map dLp)
theorem enc_lp : Enc dLp 2 := enc_pr.lst
theorem enc_lps : Enc dLps 3 := enc_lp.lst
section
variable {K : PySem.W.Frag} {H : Hp}
theorem dp_lp {v : V} {ps : Prs} (h : SpL H v ps) : Dp K H v (dLp ps) := by
  obtain ⟨a, ts, rfl, ha, pr⟩ := h
  exact .lst (SqL.of ha) (dpAll_prs pr)
theorem dpAll_lps : ∀ {vs : List V} {pss : List Prs}, Paired (SpL H) vs pss → DpAll K H vs (pss.map dLp)
  | _, _, .nil => .nil
  | _, _, .cons h t => .cons (dp_lp h) (dpAll_lps t)
theorem dp_lps {a : Addr} {vs : List V} {pss : List Prs} (h : H a = some (.lst vs)) (p : Paired (SpL H) vs pss) : Dp K H (.ref a) (dLps pss) := .lst (SqL.of h) (dpAll_lps p)
theorem dp_ints {a : Addr} {xs : List Int} (h : H a = some (.tup (xs.map V.int))) : Dp K H (.ref a) (.tuple (xs.map PyData.int)) := by
  refine .tup (SqT.of h) ?_
  clear h
  induction xs with
  | nil => exact .nil
  | cons x xs ih => exact .cons (.int _) ih
end
theorem pe_listK {X : Cx} (K : PySem.W.Frag) (hK : X.K = K) {a : Expr} {ta : TE} {p pos : Pos} (hg : Gl X "list") (hm : X.mg "list" = none) (ha : PE X a ta) (na : starEach [a] X.env = (false, eval a X.env) :: starEach [] X.env := by rfl) :
    PE X (.Call (.Name "list" p) [a] [] pos) (tCB (fun xs H Q => ∃ p ys, xs = [.ref p] ∧ (SqL K H p ys ∨ SqT K H p ys) ∧ ∀ l, H l = none → Q (.ref l) (upd H l (.lst ys))) (tCons ta tNil)) := by
  subst hK
  exact pe_callTy call_list_of hg hm (by decide +kernel) (pa_cons ha pa_nil na) (he := na)
theorem rok_up {n m : Int} (h : n ≤ m) : ∀ {ps : Prs} {l : Int}, rok n l ps → rok m l ps
  | [], _, _ => trivial
  | _ :: _, _, ⟨h1, h2, h3, h4⟩ => ⟨h1, h2, by omega, rok_up h h4⟩
end K25
set_option Elab.async false
set_option linter.all false
set_option maxRecDepth 100001
set_option maxHeartbeats 3999999
namespace K25
open PySem L2
theorem paired_join {α β : Type} {F : α → β → Prop} {a2 : List α} {g2 : List β} (t2 : Paired F a2 g2) : ∀ {g1 : List β} {a1 : List α}, Paired F a1 g1 → Paired F (a1 ++ a2) (g1 ++ g2)
  | [], _, .nil => t2
  | _ :: _, _, .cons x t => .cons x (paired_join t2 t)
section
variable {P : Program} {w : World} {K : PySem.W.Frag} {mg : Str → Option Value} {base : Heap}
theorem lg5 {f fe C CS CT CP CX : Addr} {fd fdE : FuncData} {Tb : List (Addr × Str)} (R : LwC P w K mg base f fe C CS CT CP CX fd fdE Tb) (cdv : Value) (A : Around) (outer : List Env) (s : Shared) (H0 : Hp) (E : XK) (hr : Room 13 (A.deeper (PyProof.Rows.envOfC "law" (defScope sLaw) s.heap.objs.size f cdv))) :
    ∃ t, PSs (cxOf CX0 P w K mg base NLaw "law" (defScope sLaw) f cdv A outer s H0 E).nox ((defBody sLaw).drop 13) t ∧
      ∀ (Q : VK) (H : Hp) (a0 pn cl S O p q Du : Addr) (n b : Nat) (us vs : List V) (pss qss : List Prs) (o5 o8 o9 o10 o12 o13 : Option V), LwH C Tb H pn cl S O p q n b us vs pss qss → LwN n pss qss → b ≤ 900000 → H Du = some (.lst ((ovs pss qss pss.length).map fun i : Nat => V.int (i : Nat))) → (∀ H', Q (.bl true) H') →
        t { nx := fun _ H' => Q .non H', rt := Q } [some (.ref a0), some (.ref pn), some (.int (n : Nat)), some (.ref S), some (.ref O), o5, some (.ref p), some (.ref q), o8, o9, o10, some (.ref Du), o12, o13, none, none] H := by
  obtain ⟨F, B, hall, T0, TE, eN, nf, nfL, FE, eE, iE, bE, cPn, cD, cK, cS, mkP, mF, cT, cM, cB, mO, cCR, cRf⟩ := id R
  refine ⟨_, (pss_cons (ps_if (pt_cmpR (op_neE (hu64 hr) enc_ints (by decide)) (pe_mt mO hr passL (pv 6) (pa_cons (pv 7) pa_nil)) (pe_tupleOf rfl B.tuple (pv 11)) (nomark _)) (pss_one (ps_ret pe_bl)) pss_nil)
      (pss_cons (ps_if (pt_not (pt_val (pe_c cCR hr pass0 (pa_cons (pv 2) (pa_cons (pe_lst (pa_cons (pv 6) (pa_cons (pv 7) (pa_cons (pv 6) pa_nil)))) (pa_cons (pe_op op_cat (pv 3) (pv 4)) pa_nil)))))) (pss_one (ps_ret pe_bl)) pss_nil)
      (pss_cons (ps_if (pt_not (pt_val (pe_c cCR hr pass0 (pa_cons (pv 2) (pa_cons (pe_lst (pa_cons (pv 7) pa_nil)) (pa_cons (pv 4) pa_nil)))))) (pss_one (ps_ret pe_bl)) pss_nil)
      (pss_one (ps_ret (pe_c cRf hr pass0 (pa_cons (pv 1) (pa_cons (pv 2) (pa_cons (pv 3) (pa_cons (pv 6) pa_nil)))))))))), ?_⟩
  intro Q H a0 pn cl S O p q Du n b us vs pss qss o5 o8 o9 o10 o12 o13 h N hb hD qq
  have P1 := N.ph
  have Q1 := N.qh
  have n1 := N.n1
  have n2 := N.n2
  have p2 := N.p2
  have q2 := N.q2
  obtain ⟨dx, s1, m1, w1, h1, h2, h3, h4⟩ := id h.one
  refine ⟨_, rfl, p, dx, _, rfl, h1, ph_over _ _ _ _, _, rfl, p, q, _, _, pss, qss, rfl, h.one, P1, h.two, Q1, .inr ⟨rfl, fun t H1 e1 ht => ?_⟩⟩
  have hD1 := e1 _ _ hD
  have ez : (ovs pss qss pss.length).map (fun i : Nat => V.int (i : Nat)) = ((ovs pss qss pss.length).map fun i : Nat => ((i : Nat) : Int)).map V.int := by
    rw [List.map_map]
    rfl
  rw [ez] at ht hD1
  generalize ((ovs pss qss pss.length).map fun i : Nat => ((i : Nat) : Int)) = zs at ht hD1
  refine ⟨_, rfl, .inl ⟨Du, _, rfl, SqL.of hD1, fun t2 nt2 => ?_⟩⟩
  have e2 := e1.trans (same_new (o := .tup (zs.map V.int)) nt2)
  refine ⟨zs, zs, dp_ints (same_new nt2 _ _ ht), dp_ints upd_same, _, rfl, ?_⟩
  rw [show (!decide (zs = zs)) = false by simp]
  refine iteF ?_
  have g := h.same e2
  generalize upd H1 t2 (.tup (zs.map V.int)) = H2 at e2 g ⊢
  clear ht hD1 e1 h1 h2 h3 h4 ez hD h
  -- all classes
  refine ⟨_, rfl, _, rfl, _, rfl, _, rfl, by show 3 ≤ sizeLine; decide, fun l nl => ?_⟩
  have e3 := same_new (o := .lst [.ref p, .ref q, .ref p]) nl
  have hl : upd H2 l (.lst [.ref p, .ref q, .ref p]) l = some (.lst [.ref p, .ref q, .ref p]) := upd_same
  generalize upd H2 l (.lst [.ref p, .ref q, .ref p]) = H3 at e3 hl ⊢
  have g3 := g.same e3
  have lu := Paired.length g3.prS
  have lv := Paired.length g3.prO
  refine ⟨_, rfl, _, rfl, S, O, _, _, rfl, rfl, g3.hS, g3.hO, Nat.le_of_lt (small10 (by omega)), fun c nc => ?_⟩
  have e4 := same_new (o := .lst (us ++ vs)) nc
  have hc : upd H3 c (.lst (us ++ vs)) c = some (.lst (us ++ vs)) := upd_same
  generalize upd H3 c (.lst (us ++ vs)) = H4 at e4 hc ⊢
  have g4 := g3.same e4
  refine ⟨n, l, c, _, _, [((n : Nat), pss), ((n : Nat), qss), ((n : Nat), pss)], pss ++ qss, rfl, n1, n2, e4 _ _ hl, .cons ⟨⟨p, rfl, g4.one⟩, P1⟩ (.cons ⟨⟨q, rfl, g4.two⟩, Q1⟩ (.cons ⟨⟨p, rfl, g4.one⟩, P1⟩ .nil)), by show 0 < 3; decide, by show 3 ≤ 10; decide, fun x hx => ?_, hc, paired_join g4.prO g4.prS, fun ss hs => ?_, by rw [List.length_append]; omega, fun m hm => ?_, fun ss hs => ?_, fun H5 e5 => ⟨_, rfl, iteF ?_⟩⟩
  · simp only [List.mem_cons, List.not_mem_nil, or_false] at hx
    rcases hx with rfl | rfl | rfl <;> rfl
  · rcases List.mem_append.mp hs with z | z
    · exact N.okP _ z
    · exact N.okQ _ z
  · simp only [msOf, List.flatMap_cons, List.flatMap_nil, List.append_nil, List.mem_append, List.mem_map] at hm
    rcases hm with ⟨a, ha, rfl⟩ | ⟨a, ha, rfl⟩ | ⟨a, ha, rfl⟩
    · exact ⟨a, List.mem_append.mpr (.inl ha), rfl⟩
    · exact ⟨a, List.mem_append.mpr (.inr ha), rfl⟩
    · exact ⟨a, List.mem_append.mpr (.inl ha), rfl⟩
  · simp only [msOf, List.flatMap_cons, List.flatMap_nil, List.append_nil, List.mem_append, List.mem_map]
    rcases List.mem_append.mp hs with z | z
    · exact .inl ⟨_, z, rfl⟩
    · exact .inr (.inl ⟨_, z, rfl⟩)
  have g5 := g4.same e5
  clear g4 g3 g hc hl e4 e3 e5 nl nc
  refine ⟨_, rfl, _, rfl, by show 1 ≤ sizeLine; decide, fun l nl => ?_⟩
  have e6 := same_new (o := .lst [.ref q]) nl
  have hl : upd H5 l (.lst [.ref q]) l = some (.lst [.ref q]) := upd_same
  generalize upd H5 l (.lst [.ref q]) = H6 at e6 hl ⊢
  have g6 := g5.same e6
  refine ⟨_, rfl, n, l, O, _, _, [((n : Nat), qss)], qss, rfl, n1, n2, hl, .cons ⟨⟨q, rfl, g6.two⟩, Q1⟩ .nil, by show 0 < 1; decide, by show 1 ≤ 10; decide, fun x hx => ?_, g6.hO, g6.prO, N.okQ, by omega, fun m hm => ?_, fun ss hs => ?_, fun H7 e7 => ⟨_, rfl, iteF ?_⟩⟩
  · rw [List.mem_singleton.mp hx]
  · simp only [msOf, List.flatMap_cons, List.flatMap_nil, List.append_nil, List.mem_map] at hm
    obtain ⟨a, ha, rfl⟩ := hm
    exact ⟨a, ha, rfl⟩
  · simp only [msOf, List.flatMap_cons, List.flatMap_nil, List.append_nil, List.mem_map]
    exact ⟨_, hs, rfl⟩
  have g7 := g6.same e7
  exact ⟨_, rfl, _, rfl, _, rfl, _, rfl, pn, cl, S, p, _, b, us, pss, rfl, g7.pt, hb, P1, g7.hS, g7.prS, g7.one, fun H' => qq H'⟩
end
end K25
set_option Elab.async false
set_option linter.all false
set_option maxRecDepth 100001
set_option maxHeartbeats 3999999
namespace K25
open PySem L2
section
variable {P : Program} {w : World} {K : PySem.W.Frag} {mg : Str → Option Value} {base : Heap}
theorem lg4 {f fe C CS CT CP CX : Addr} {fd fdE : FuncData} {Tb : List (Addr × Str)} (R : LwC P w K mg base f fe C CS CT CP CX fd fdE Tb) (cdv : Value) (A : Around) (outer : List Env) (s : Shared) (H0 : Hp) (E : XK) (hr : Room 13 (A.deeper (PyProof.Rows.envOfC "law" (defScope sLaw) s.heap.objs.size f cdv))) :
    ∃ t, PSs (cxOf CX0 P w K mg base NLaw "law" (defScope sLaw) f cdv A outer s H0 E).nox ((defBody sLaw).drop 11) t ∧
      ∀ (Q : VK) (H : Hp) (a0 pn cl S O p q : Addr) (n b : Nat) (us vs : List V) (pss qss : List Prs) (o5 o8 o9 o10 : Option V), LwH C Tb H pn cl S O p q n b us vs pss qss → LwN n pss qss → b ≤ 900000 → (∀ H', Q (.bl true) H') →
        t { nx := fun _ H' => Q .non H', rt := Q } [some (.ref a0), some (.ref pn), some (.int (n : Nat)), some (.ref S), some (.ref O), o5, some (.ref p), some (.ref q), o8, o9, o10, none, none, none, none, none] H := by
  obtain ⟨F, B, hall, T0, TE, eN, nf, nfL, FE, eE, iE, bE, cPn, cD, cK, cS, mkP, mF, cT, cM, cB, mO, cCR, cRf⟩ := id R
  obtain ⟨tN, p5, qN⟩ := lg5 R cdv A outer s H0 E hr
  refine ⟨_, (pss_cons (ps_set (i := 11) scLaw.nd rfl (Or.inl rfl) (pe_lst pa_nil))
      (pss_cons (ps_for PassesOwn.never rfl (pi_range1 rfl B.range (pa_cons (pe_len B.len (pa_cons (pv 3) pa_nil)) pa_nil)) (pg_name (i := 12) scLaw.nd rfl (.inr rfl)) (pss_cons (ps_set (i := 13) scLaw.nd rfl (Or.inl rfl) (pe_callB (call_min2 rfl) rfl B.min (by decide +kernel) (pa_cons (pe_op op_sub (pe_len B.len (pa_cons (pv 3) pa_nil)) (pv 12)) (pa_cons (pe_len B.len (pa_cons (pv 4) pa_nil)) pa_nil)))) (pss_one (ps_if (pt_val (pe_all rfl hall (pa_cons (pe_lc (own := [("_law_k", 15)]) rfl scLaw.nd (pi_range1 rfl B.range (pa_cons (pv 13) pa_nil)) (blkOk_by (N := NLaw) (sc := defScope sLaw) (by decide +kernel)) (fun _ _ _ _ _ => pg_name (i := 15) scLaw.nd rfl (Or.inl rfl)) (fun _ _ _ _ _ => pts_nil) (fun _ _ _ _ _ => pe_c cM hr pass0 (pa_cons (pe_ix (ix_listK K rfl) (pv 3) (pe_op op_add (pv 12) (pv 15)) (fun _ _ => rfl)) (pa_cons (pe_ix (ix_listK K rfl) (pv 4) (pv 15) (fun _ _ => rfl)) pa_nil)))) pa_nil))) (pss_one (ps_expr (pe_bm PySem.F.plainAttrs_list PySem.F.slot_list_append PySem.F.type_list_append mt_append (pv 11) (pa_cons (pv 12) pa_nil)))) pss_nil))))
      p5)), ?_⟩
  intro Q H a0 pn cl S O p q n b us vs pss qss o5 o8 o9 o10 h N hb qq
  have p2 := N.p2
  have q2 := N.q2
  have lu := Paired.length h.prS
  have lv := Paired.length h.prO
  refine ⟨by show 0 ≤ sizeLine; decide, fun Du nD => ?_⟩
  have pnD := (h.pt.pen.off nD).1
  have clD := (h.pt.pen.off nD).2
  refine ⟨_, rfl, S, us, rfl, .inl (SqL.of (same_new nD _ _ h.hS)), _, rfl, by omega, by omega, for_range (lo := 0) (n := ((us.length : Nat) : Int).toNat) (fun i σ H' => ∃ (x12 x13 : Option V), σ = [some (.ref a0), some (.ref pn), some (.int (n : Nat)), some (.ref S), some (.ref O), o5, some (.ref p), some (.ref q), o8, o9, o10, some (.ref Du), x12, x13, none, none] ∧ Ks H H' ∧ PT Tb H' pn cl b ∧ H' Du = some (.lst ((ovs pss qss i).map fun i : Nat => V.int (i : Nat))))
      ⟨none, none, rfl, Ks.of (same_new nD), h.pt.same (same_new nD), upd_same⟩ ?_ ?_⟩
  · rintro i σ H3 hi ⟨x12, x13, rfl, k3, pt3, hD3⟩
    have hi : i < us.length := by omega
    have i0 : (0 : Int) + (i : Nat) = (i : Nat) := by omega
    show gName 12 (V.int (0 + (i : Nat))) _ _ _
    rw [i0]
    have g3 := h.ks k3 pt3
    refine ⟨_, rfl, S, us, rfl, .inl (SqL.of g3.hS), _, rfl, _, _, rfl, rfl, _, rfl, O, vs, rfl, .inl (SqL.of g3.hO), _, _, rfl, ?_⟩
    have es : (if ((vs.length : Nat) : Int) < ((us.length : Nat) : Int) - (i : Nat) then ((vs.length : Nat) : Int) else ((us.length : Nat) : Int) - (i : Nat)) = ((min (pss.length - i) qss.length : Nat) : Int) := by
      split <;> omega
    rw [es]
    refine ⟨_, rfl, _, rfl, by omega, by omega, fun D nD2 => lcM walk_range (fun k => .bl (meetB (pss.getD (i + k) []) (qss.getD k []))) (by omega) nD2 (fun _ _ => True.intro) ?_ ?_⟩
    · rintro k y H5 H6 N2 hk e ⟨rfl, rfl⟩ fin
      have k1 : i + k < pss.length := by omega
      have k2 : k < qss.length := by omega
      have k0 : (0 : Int) + (k : Nat) = (k : Nat) := by omega
      obtain ⟨v1, hv1, a1, ts1, rfl, ha1, pa1⟩ := paired_to g3.prS (List.getElem?_eq_getElem k1)
      obtain ⟨v2, hv2, a2, ts2, rfl, ha2, pa2⟩ := paired_to g3.prO (List.getElem?_eq_getElem k2)
      have gp : pss.getD (i + k) [] = pss[i + k] := by rw [List.getD_eq_getElem?_getD, List.getElem?_eq_getElem k1]; rfl
      have gq : qss.getD k [] = qss[k] := by rw [List.getD_eq_getElem?_getD, List.getElem?_eq_getElem k2]; rfl
      obtain ⟨ne1, r1, l1⟩ := N.okP _ (List.getElem_mem k1)
      obtain ⟨ne2, r2, l2⟩ := N.okQ _ (List.getElem_mem k2)
      have fin : ∀ H4, Same H6 H4 → N2 (.bl (meetB (pss.getD (i + k) []) (qss.getD k []))) H4 := fin
      rw [gp, gq, ← meetP_iff r1 r2] at fin
      show gName 15 (V.int (0 + (k : Nat))) _ _ _
      rw [k0]
      refine ⟨rfl, ?_⟩
      refine ⟨_, rfl, _, rfl, _, rfl, _, _, rfl, rfl, S, us, _, .ref a1, rfl, rfl, SqL.of (e _ _ g3.hS), atI_nat hv1, _, rfl, _, rfl, O, vs, _, .ref a2, rfl, rfl, SqL.of (e _ _ g3.hO), atI_nat hv2, a1, a2, ts1, ts2, _, _, rfl, .inl (e _ _ ha1), pa1.same e, .inl (e _ _ ha2), pa2.same e, by omega, by omega, fun H4 e4 => fin _ e4⟩
    · intro H5 e5 hD
      rw [map_bl, Int.toNat_natCast] at hD
      have os : ovs pss qss (i + 1) = ovs pss qss i ++ [i].filter (ovB pss qss) := by
        unfold ovs
        rw [List.range_succ, List.filter_append]
      have eo : ((List.range (min (pss.length - i) qss.length)).map fun k => meetB (pss.getD (i + k) []) (qss.getD k [])).all id = ovB pss qss i := by
        rw [List.all_map]
        rfl
      refine ⟨D, _, rfl, SqL.of hD, _, rfl, ?_⟩
      rw [eo]
      have lo : ((ovs pss qss i).map fun i : Nat => V.int (i : Nat)).length ≤ 10000 := by
        rw [List.length_map]
        have := List.length_filter_le (ovB pss qss) (List.range i)
        rw [List.length_range] at this
        unfold ovs
        omega
      have hD5 := e5 _ _ hD3
      have pt5 := pt3.same e5
      have k5 := k3.trans (Ks.of e5)
      cases c : ovB pss qss i with
      | true =>
        refine iteT ⟨_, rfl, .inl ⟨rfl, _, SqL.of hD5⟩, _, rfl, Du, _, _, rfl, rfl, hD5, small10 lo, _, _, rfl, ks_put k5 nD, pt_put pt5 hD5 pnD clD, ?_⟩
        rw [upd_same, os, List.filter_cons_of_pos c, List.map_append]
        rfl
      | false =>
        refine iteF ⟨_, _, rfl, k5, pt5, ?_⟩
        rw [os, List.filter_cons_of_neg (by rw [c]; decide), List.filter_nil, List.append_nil]
        exact hD5
  · rintro σ H3 ⟨x12, x13, rfl, k3, pt3, hD3⟩
    rw [Int.toNat_natCast, lu] at hD3
    exact qN Q H3 a0 pn cl S O p q Du n b us vs pss qss o5 o8 o9 o10 x12 x13 (h.ks k3 pt3) N hb hD3 qq
end
end K25
set_option Elab.async false
set_option linter.all false
set_option maxRecDepth 100001
set_option maxHeartbeats 3999999
namespace K25
open PySem L2
theorem ph_fits (n : Int) (s : Addr) (w : Int) (m : Addr) : (phF n s w m).lookup ("fits_row" : Str) = none := by
  unfold phF
  rw [lookup_putF, if_neg (by decide +kernel), lookup_putF, if_neg (by decide +kernel), lookup_putF, if_neg (by decide +kernel), lookup_putF, if_neg (by decide +kernel)]
  rfl
theorem iteF' {b : Bool} {p q : Prop} (h : b = false) (k : q) : if b = true then p else q := by
  rw [h]
  exact iteF k
section
variable {P : Program} {w : World} {K : PySem.W.Frag} {mg : Str → Option Value} {base : Heap}
theorem lg3 {f fe C CS CT CP CX : Addr} {fd fdE : FuncData} {Tb : List (Addr × Str)} (R : LwC P w K mg base f fe C CS CT CP CX fd fdE Tb) (cdv : Value) (A : Around) (outer : List Env) (s : Shared) (H0 : Hp) (E : XK) (hr : Room 13 (A.deeper (PyProof.Rows.envOfC "law" (defScope sLaw) s.heap.objs.size f cdv))) :
    ∃ t, PSs (cxOf CX0 P w K mg base NLaw "law" (defScope sLaw) f cdv A outer s H0 E).nox ((defBody sLaw).drop 10) t ∧
      ∀ (Q : VK) (H : Hp) (a0 pn cl S O p q : Addr) (n b : Nat) (us vs : List V) (pss qss : List Prs) (o5 : Option V), LwH C Tb H pn cl S O p q n b us vs pss qss → LwN n pss qss → b ≤ 700000 → (∀ H', Q (.bl true) H') →
        t { nx := fun _ H' => Q .non H', rt := Q } [some (.ref a0), some (.ref pn), some (.int (n : Nat)), some (.ref S), some (.ref O), o5, some (.ref p), some (.ref q), none, none, none, none, none, none, none, none] H := by
  obtain ⟨F, B, hall, T0, TE, eN, nf, nfL, FE, eE, iE, bE, cPn, cD, cK, cS, mkP, mF, cT, cM, cB, mO, cCR, cRf⟩ := id R
  obtain ⟨tN, p4, qN⟩ := lg4 R cdv A outer s H0 E hr
  refine ⟨_, (pss_cons (ps_for PassesOwn.never rfl (pi_range1 rfl B.range (pa_cons pe_int pa_nil)) (pg_name (i := 8) scLaw.nd rfl (.inl rfl)) (pss_cons (ps_set (i := 9) scLaw.nd rfl (Or.inl rfl) (pe_c cB hr pass0 (pa_cons (pv 1) (pa_cons (pv 2) (pa_cons (pv 3) pa_nil))))) (pss_cons (ps_set (i := 10) scLaw.nd rfl (Or.inl rfl) (pe_mt mF hr pass0 (pv 6) (pa_cons (pv 9) pa_nil))) (pss_one (ps_if (PW.pt (pw_or (pt_not (pt_val (pe_isi B.isi (pa_cons (pv 10) (pa_cons (pe_ty "bool" B.bool) pa_nil))))) (pw_or1 (pt_cmpR op_ne (pv 10) (pe_and (pe_cmpR op_eq (pe_len B.len (pa_cons (pv 9) pa_nil)) (pe_len B.len (pa_cons (pv 3) pa_nil)) (nomark _)) (pe_one (pe_c cT hr pass0 (pa_cons (pv 3) (pa_cons (pv 9) (pa_cons pe_int pa_nil)))))) (nomark _))))) (pss_one (ps_ret pe_bl)) pss_nil)))))
      p4), ?_⟩
  intro Q H a0 pn cl S O p q n b us vs pss qss o5 h N hb qq
  have n1 := N.n1
  have n2 := N.n2
  have P1 := N.ph
  have p2 := N.p2
  have lu := Paired.length h.prS
  refine ⟨_, rfl, by omega, by omega, for_range (lo := 0) (n := (6 : Int).toNat) (fun i σ H' => ∃ (x8 x9 x10 : Option V), σ = [some (.ref a0), some (.ref pn), some (.int (n : Nat)), some (.ref S), some (.ref O), o5, some (.ref p), some (.ref q), x8, x9, x10, none, none, none, none, none] ∧ LwH C Tb H' pn cl S O p q n (b + 30 * i) us vs pss qss)
      ⟨none, none, none, rfl, h⟩ ?_ ?_⟩
  · rintro i σ H1 hi ⟨x8, x9, x10, rfl, g⟩
    have hi : i < 6 := hi
    refine ⟨_, rfl, _, rfl, _, rfl, pn, cl, S, _, _, us, pss, rfl, g.pt.pen, by omega, by omega, by omega, g.hS, g.prS, N.okP, p2, fun r H2 xs b2 pen2 hr2 l2 hx => ?_⟩
    have g2 := g.but b2 pen2
    obtain ⟨dx, s1, m1, w1, h1, _, _, _⟩ := id g2.one
    refine ⟨_, rfl, p, dx, _, rfl, h1, ph_fits _ _ _ _, _, rfl, p, r, _, pss, xs, rfl, g2.one, P1, hr2, by omega, hx, fun H3 e3 => ?_⟩
    have g3 := g2.same e3
    have hr3 := e3 _ _ hr2
    have dl : decide (V.int ((xs.map V.int).length : Nat) = V.int (us.length : Nat)) = decide (xs.length = pss.length) := by
      rw [dec_int, dec_beq, List.length_map, lu]
      exact decide_eq_decide.mpr (by omega)
    have fin : ∀ H4, Same H3 H4 → LwH C Tb H4 pn cl S O p q n (b + 30 * (i + 1)) us vs pss qss := fun H4 e4 => (g3.same e4).mono (by omega)
    have next : ∀ (tb : Bool) (y10 : Option V) (H4 : Hp), Same H3 H4 → ∃ (x8 x9 x10 : Option V), [some (V.ref a0), some (.ref pn), some (.int (n : Nat)), some (.ref S), some (.ref O), o5, some (.ref p), some (.ref q), some (V.int (0 + (i : Nat))), some (V.ref r), y10, none, none, none, none, none] = [some (V.ref a0), some (.ref pn), some (.int (n : Nat)), some (.ref S), some (.ref O), o5, some (.ref p), some (.ref q), x8, x9, x10, none, none, none, none, none] ∧ LwH C Tb H4 pn cl S O p q n (b + 30 * (i + 1)) us vs pss qss := fun tb y10 H4 e4 => ⟨_, _, _, rfl, fin H4 e4⟩
    obtain ⟨t, ty, _, k2, _⟩ := (Kn.bl (decide (xs.length = pss.length) && (List.range xs.length).all fun i => atP pss i (xs.getD i 0)) : Kn H3 _).kinds K
    refine ⟨_, rfl, _, _, _, _, _, rfl, .ty "bool", ty, k2, _, rfl, iteF ?_⟩
    refine ⟨_, rfl, _, rfl, r, _, rfl, .inl (SqL.of hr3), _, rfl, S, us, rfl, .inl (SqL.of g3.hS), rfl, _, rfl, ?_⟩
    rw [dl]
    by_cases c : xs.length = pss.length
    · rw [decide_eq_true c]
      refine ⟨_, rfl, _, rfl, S, r, us, pss, xs, rfl, g3.hS, g3.prS, fun ps m => by have := (N.okP ps m).2.2; omega, hr3, c, by omega, fun H4 e4 => ⟨rfl, _, rfl, ?_⟩⟩
      rw [Bool.true_and]
      refine iteF' ?_ (next true _ H4 e4)
      simp
    · rw [decide_eq_false c]
      refine ⟨rfl, _, rfl, ?_⟩
      rw [Bool.false_and]
      refine iteF' ?_ (next true _ H3 (Same.refl _))
      simp
  · rintro σ H3 ⟨x8, x9, x10, rfl, g⟩
    exact qN Q H3 a0 pn cl S O p q n _ us vs pss qss o5 x8 x9 x10 g N (by show b + 30 * 6 ≤ 900000; omega) qq
end
end K25
set_option Elab.async false
set_option linter.all false
set_option maxRecDepth 100001
set_option maxHeartbeats 3999999
namespace K25
open PySem L2
/-- tuple(spot) for each spot -/
theorem sps_it {K : PySem.W.Frag} {o0 o1 o2 o3 o4 o5 o6 o7 o8 o9 o10 o11 o12 o13 : Option V} {J : It} {G : Hp → Prop} {us : List V} {pss : List Prs} {H1 : Hp} {D : Addr} {Qd : Hp → Prop} (wk : Walk J us.length G (YAt us)) (hG : ∀ H', Same H1 H' → G H') (pr : Paired (SpL H1) us pss) (l : us.length ≤ 100) (nD : H1 D = none)
    (q : ∀ H' ys, Same H1 H' → H' D = some (.lst ys) → Paired (SpT H') ys pss → Qd H') :
    ∃ W : Nat → Nat → Hp → Prop, (∃ m, W 0 m (upd H1 D (.lst []))) ∧ ∀ i m H, W i m H →
      (J.stop i H ∧ Qd H) ∨ (J.go i H ∧ ∃ Nx : Hp → Prop, (∀ H', Nx H' → ∃ m', m' < m ∧ W (i + 1) m' H') ∧ ∀ x H', J.yld i H x H' → gName 14 x (wipe [o0, o1, o2, o3, o4, o5, o6, o7, o8, o9, o10, o11, o12, o13, none, none] [14]) H' fun σ2 H2 => wipe σ2 [14] = wipe [o0, o1, o2, o3, o4, o5, o6, o7, o8, o9, o10, o11, o12, o13, none, none] [14] ∧ tYes σ2 H2 fun b H3 =>
        if b = true then (tThen (tVar 14) (kTup K)) σ2 H3 fun y H4 => ∃ acc, H4 D = some (.lst acc) ∧ acc.length < sizeLine ∧ Nx (upd H4 D (.lst (acc ++ [y]))) else Nx H3) := by
  refine lc_it wk (fun j H' => Same H1 H' ∧ ∃ ys, H' D = some (.lst ys) ∧ Paired (SpT H') ys (pss.take j)) ⟨same_new nD, [], upd_same, .nil⟩ (fun j H' _ z => hG H' z.1) ?_ ?_
  · rintro j y H2 H3 hj ⟨e, ys, hD, po⟩ ⟨rfl, hy⟩
    obtain ⟨ps, hps, a, ts, rfl, ha, pa⟩ := paired_get pr hy
    refine ⟨rfl, ?_⟩
    unfold tYes
    refine iteT ⟨_, rfl, .inl ⟨a, ts, rfl, SqL.of (e _ _ ha), fun t nt => ?_⟩⟩
    have et := same_new (o := .tup ts) nt
    have ht : upd H3 t (.tup ts) t = some (.tup ts) := upd_same
    generalize upd H3 t (.tup ts) = H4 at et ht ⊢
    have hD4 := et _ _ hD
    refine ⟨ys, hD4, ?_, fun b o z => ?_, ys ++ [.ref t], upd_same, ?_⟩
    · have := Paired.length po
      rw [List.length_take] at this
      exact small10 (by omega)
    · rw [upd_ne (ne_of_none z nD)]
      exact et _ _ (e _ _ z)
    · rw [List.take_add_one, hps]
      exact Paired.snoc (Paired.mapP po fun _ _ z => (z.tt (TT.same et)).tt (TT.lst hD4)) ⟨t, ts, rfl, TT.lst hD4 _ _ ht, (pa.same (e.trans et)).tt (TT.lst hD4)⟩
  · rintro H2 ⟨e, ys, hD, po⟩
    rw [Paired.length pr, List.take_length] at po
    exact q _ _ e hD po
section
variable {P : Program} {w : World} {K : PySem.W.Frag} {mg : Str → Option Value} {base : Heap}
theorem lg2 {f fe C CS CT CP CX : Addr} {fd fdE : FuncData} {Tb : List (Addr × Str)} (R : LwC P w K mg base f fe C CS CT CP CX fd fdE Tb) (cdv : Value) (A : Around) (outer : List Env) (s : Shared) (H0 : Hp) (E : XK) (hr : Room 13 (A.deeper (PyProof.Rows.envOfC "law" (defScope sLaw) s.heap.objs.size f cdv))) :
    ∃ t, PSs (cxOf CX0 P w K mg base NLaw "law" (defScope sLaw) f cdv A outer s H0 E).nox ((defBody sLaw).drop 7) t ∧
      ∀ (Q : VK) (H : Hp) (a0 pn cl S O p q : Addr) (n b : Nat) (us vs : List V) (pss qss : List Prs) (o5 : Option V), LwH C Tb H pn cl S O p q n b us vs pss qss → LwN n pss qss → b ≤ 700000 → (∀ H', Q (.bl true) H') →
        t { nx := fun _ H' => Q .non H', rt := Q } [some (.ref a0), some (.ref pn), some (.int (n : Nat)), some (.ref S), some (.ref O), o5, some (.ref p), some (.ref q), none, none, none, none, none, none, none, none] H := by
  obtain ⟨F, B, hall, T0, TE, eN, nf, nfL, FE, eE, iE, bE, cPn, cD, cK, cS, mkP, mF, cT, cM, cB, mO, cCR, cRf⟩ := id R
  obtain ⟨tN, p3, qN⟩ := lg3 R cdv A outer s H0 E hr
  refine ⟨_, (pss_cons (ps_if (pt_cmpR (op_neE (hu64 hr) enc_all (by decide)) (pe_tup (pa_cons (pe_fld (pv 6) rfl) (pa_cons (pe_fld (pv 6) rfl) (pa_cons (pe_fld (pv 6) rfl) pa_nil)))) (pe_tup (pa_cons (pv 2) (pa_cons (pe_len B.len (pa_cons (pv 3) pa_nil)) (pa_cons (pe_tupleOf rfl B.tuple (pe_lc (own := [("_law_spot", 14)]) rfl scLaw.nd (pi_sqA (pv 3)) (blkOk_by (N := NLaw) (sc := defScope sLaw) (by decide +kernel)) (fun _ _ _ _ _ => pg_name (i := 14) scLaw.nd rfl (Or.inl rfl)) (fun _ _ _ _ _ => pts_nil) (fun _ _ _ _ _ => (pe_tupleOfK K rfl rfl B.tuple (pv 14))))) pa_nil)))) (nomark _)) (pss_one (ps_ret pe_bl)) pss_nil)
      (pss_cons (ps_if (PW.pt (pw_or (pt_cmpR (op_ownNe FE eE iE bE eN TE.mr pass0 hr (by decide)) (pv 6) (pe_mk mkP hr passL (pa_cons (pv 2) (pa_cons (pv 3) pa_nil))) (nomark _)) (pw_or (pt_cmpR op_ne (pe_cmpR (op_ownEq FE eE iE bE pass0 hr (by decide)) (pv 6) (pv 7) (nomark _)) (pe_cmpR (op_eqE (hu64 hr) enc_lps (by decide)) (pv 3) (pv 4) (nomark _)) (nomark _)) (pw_or1 (pt_cmpR (op_ownEq FE eE iE bE pass0 hr (by decide)) (pv 6) (pv 3) (nomark _)))))) (pss_one (ps_ret pe_bl)) pss_nil)
      (pss_cons (ps_if (PW.pt (pw_and (pt_cmpR op_lt (pv 2) pe_int (nomark _)) (pw_and1 (pt_cmpR (op_ownEq FE eE iE bE pass0 hr (by decide)) (pv 6) (pe_mk mkP hr passL (pa_cons (pe_op op_add (pv 2) pe_int) (pa_cons (pv 3) pa_nil))) (nomark _))))) (pss_one (ps_ret pe_bl)) pss_nil)
      p3))), ?_⟩
  intro Q H a0 pn cl S O p q n b us vs pss qss o5 h N hb qq
  have n1 := N.n1
  have n2 := N.n2
  have P1 := N.ph
  have p2 := N.p2
  have lu := Paired.length h.prS
  obtain ⟨dx, s1, m1, w1, h1, h2, h3, h4⟩ := id h.one
  refine ⟨_, rfl, p, C, dx, _, _, rfl, h1, T0.cl, T0.s, ph_signs _ _ _ _, _, rfl, p, C, dx, _, _, rfl, h1, T0.cl, T0.w, ph_width _ _ _ _, _, rfl, p, C, dx, _, _, rfl, h1, T0.cl, T0.p, ph_spots _ _ _ _, by show 3 ≤ sizeLine; decide, fun t nt => ?_⟩
  have et := same_new (o := .tup [.int (n : Nat), .int (pss.length : Nat), .ref s1]) nt
  have ht : upd H t (.tup [.int (n : Nat), .int (pss.length : Nat), .ref s1]) t = some (.tup [.int (n : Nat), .int (pss.length : Nat), .ref s1]) := upd_same
  generalize upd H t (.tup [.int (n : Nat), .int (pss.length : Nat), .ref s1]) = H1 at et ht ⊢
  have g1 := h.same et
  refine ⟨_, rfl, _, rfl, S, us, rfl, .inl (SqL.of g1.hS), _, rfl, S, us, rfl, .inl (SqL.of g1.hS), fun J G wk hG D nD => sps_it wk (fun H' e => hG H' fun o w => e _ _ w) g1.prS (by omega) nD fun H2 ys e2 hD po => ?_⟩
  refine .inl ⟨D, ys, rfl, SqL.of hD, fun t2 nt2 => ⟨by show 3 ≤ sizeLine; decide, fun t3 nt3 => ?_⟩⟩
  have e3 := same_new (o := .tup ys) nt2
  have ht2 : upd H2 t2 (.tup ys) t2 = some (.tup ys) := upd_same
  generalize upd H2 t2 (.tup ys) = H3 at e3 ht2 nt3 ⊢
  have e4 := same_new (o := .tup [.int (n : Nat), .int (us.length : Nat), .ref t2]) nt3
  have ht3 : upd H3 t3 (.tup [.int (n : Nat), .int (us.length : Nat), .ref t2]) t3 = some (.tup [.int (n : Nat), .int (us.length : Nat), .ref t2]) := upd_same
  generalize upd H3 t3 (.tup [.int (n : Nat), .int (us.length : Nat), .ref t2]) = H4 at e4 ht3 ⊢
  have e14 := (e2.trans e3).trans e4
  have g4 := g1.same e14
  refine ⟨((n : Nat), (pss.length : Nat), pss), ((n : Nat), (us.length : Nat), pss), .tup (SqT.of (e14 _ _ ht)) (.cons (.int _) (.cons (.int _) (.cons (dp_sps ((et.trans e14) _ _ h2) (Paired.mapP h3 fun _ _ z => z.tt (TT.same (et.trans e14)))) .nil))), .tup (SqT.of ht3) (.cons (.int _) (.cons (.int _) (.cons (dp_sps (e4 _ _ ht2) (Paired.mapP po fun _ _ z => z.tt (TT.same (e3.trans e4)))) .nil))), _, rfl, ?_⟩
  rw [lu, show (!decide ((((n : Nat) : Int), ((pss.length : Nat) : Int), pss) = (((n : Nat) : Int), ((pss.length : Nat) : Int), pss))) = false by simp]
  refine iteF ?_
  clear ht3 e4 ht2 e3 hD po e2 ht et nt nt2 nt3 e14 g1 h1 h2 h3 h4 h
  refine ⟨_, rfl, _, rfl, _, rfl, fun i dx ni nd ne => ?_⟩
  have es := same_ins (C := C) (fs := []) ni nd
  refine ⟨i, dx, .int (n : Nat), S, us, rfl, upd_same, True.intro, .inl (es _ _ g4.hS), .inr (.inr (.inr ⟨_, pss, rfl, P1, Paired.mapP g4.prS fun _ _ z => (z.tl (TL.same es)).in_, fun H5 bi ph5 => ⟨rfl, ?_⟩⟩))⟩
  have e5 : Same H4 H5 := butI_same es ni bi
  have g5 := g4.same e5
  clear bi es ni nd ne g4
  obtain ⟨d1, s1, m1, w1, h1, h2, h3, h4⟩ := id g5.one
  refine ⟨p, d1, _, .ref C, rfl, h1, ph5.ty T0 TE, nf, p, _, _, pss, rfl, g5.one, .inl ⟨i, _, pss, rfl, ph5, _, rfl, ?_⟩⟩
  rw [show (!(decide (((n : Nat) : Int) = ((n : Nat) : Int)) && decide (pss = pss))) = false by simp]
  refine ⟨_, rfl, iteF ?_⟩
  refine ⟨_, rfl, _, rfl, p, d1, _, .ref C, rfl, h1, g5.two.ty T0 TE, nf, p, _, _, pss, rfl, g5.one, .inl ⟨q, _, qss, rfl, g5.two, ⟨_, rfl⟩, ?_⟩⟩
  refine ⟨_, rfl, _, rfl, pss, qss, dp_lps g5.hS g5.prS, dp_lps g5.hO g5.prO, rfl, _, rfl, ?_⟩
  rw [show (!decide (V.bl (decide (((n : Nat) : Int) = ((n : Nat) : Int)) && decide (pss = qss)) = V.bl (decide (pss = qss)))) = false by simp]
  refine iteF ⟨_, rfl, _, rfl, p, d1, _, .type "list", rfl, h1, .base (.lst g5.hS), nfL, p, _, _, pss, rfl, g5.one, .inr ⟨S, us, rfl, g5.hS, ⟨_, rfl⟩, _, rfl, iteF ?_⟩⟩
  refine ⟨_, rfl, _, _, rfl, rfl, _, rfl, ?_⟩
  by_cases c : n < 2000
  · rw [decide_eq_true (show ((n : Nat) : Int) < 2000 by omega)]
    refine iteT ⟨_, rfl, _, rfl, _, _, rfl, rfl, _, rfl, fun i dx ni nd ne => ?_⟩
    have es := same_ins (C := C) (fs := []) ni nd
    have P2 : PhOk (((n : Nat) : Int) + 1) pss := ⟨by omega, by omega, P1.l1, P1.l2, fun ps m => ⟨(P1.ok ps m).1, rok_up (by omega) (P1.ok ps m).2⟩⟩
    refine ⟨i, dx, .int (((n : Nat) : Int) + 1), S, us, rfl, upd_same, True.intro, .inl (es _ _ g5.hS), .inr (.inr (.inr ⟨_, pss, rfl, P2, Paired.mapP g5.prS fun _ _ z => (z.tl (TL.same es)).in_, fun H6 bi ph6 => ⟨rfl, ?_⟩⟩))⟩
    have e6 : Same H5 H6 := butI_same es ni bi
    have g6 := g5.same e6
    refine ⟨p, d1, _, .ref C, rfl, e6 _ _ h1, ph6.ty T0 TE, nf, p, _, _, pss, rfl, g6.one, .inl ⟨i, _, pss, rfl, ph6, ⟨_, rfl⟩, _, rfl, ?_⟩⟩
    rw [show (decide (((n : Nat) : Int) = ((n : Nat) : Int) + 1) && decide (pss = pss)) = false by
      rw [decide_eq_false (show ¬ ((n : Nat) : Int) = ((n : Nat) : Int) + 1 by omega)]
      rfl]
    exact iteF (qN Q H6 a0 pn cl S O p q n b us vs pss qss o5 g6 N hb qq)
  · rw [decide_eq_false (show ¬ ((n : Nat) : Int) < 2000 by omega)]
    exact iteF (iteF (qN Q H5 a0 pn cl S O p q n b us vs pss qss o5 g5 N hb qq))
end
end K25
set_option Elab.async false
set_option linter.all false
set_option maxRecDepth 100001
set_option maxHeartbeats 3999999
namespace K25
open PySem L2
theorem phL_in {C : Addr} {H : Hp} {p L : Addr} {n : Int} {pss : List Prs} {a : Addr} {ts : List V} (h : IsPh C H p n pss) (hL : H L = some (.lst (.ref a :: ts))) : PhL C H p n pss L := by
  obtain ⟨dx, s, m, vs, h1, h2, h3, h4⟩ := h
  refine ⟨dx, s, m, vs, h1, h2, h3, h4, fun z => ?_⟩
  subst z
  rw [h4] at hL
  cases pss with
  | nil => cases hL
  | cons x r => cases hL
section
variable {P : Program} {w : World} {K : PySem.W.Frag} {mg : Str → Option Value} {base : Heap}
theorem lg1 {f fe C CS CT CP CX : Addr} {fd fdE : FuncData} {Tb : List (Addr × Str)} (R : LwC P w K mg base f fe C CS CT CP CX fd fdE Tb) (cdv : Value) (A : Around) (outer : List Env) (s : Shared) (H0 : Hp) (E : XK) (hr : Room 13 (A.deeper (PyProof.Rows.envOfC "law" (defScope sLaw) s.heap.objs.size f cdv))) :
    ∃ t, PSs (cxOf CX0 P w K mg base NLaw "law" (defScope sLaw) f cdv A outer s H0 E).nox ((defBody sLaw).drop 4) t ∧
      ∀ (Q : VK) (H : Hp) (a0 pn cl S O : Addr) (n b : Nat) (us vs : List V) (pss qss : List Prs), PT Tb H pn cl b → H S = some (.lst us) → Paired (SpL H) us pss → H O = some (.lst vs) → Paired (SpL H) vs qss → LwN n pss qss → b ≤ 700000 → (∀ H', Q (.bl true) H') →
        t { nx := fun _ H' => Q .non H', rt := Q } [some (.ref a0), some (.ref pn), some (.int (n : Nat)), some (.ref S), some (.ref O), none, none, none, none, none, none, none, none, none, none, none] H := by
  obtain ⟨F, B, hall, T0, TE, eN, nf, nfL, FE, eE, iE, bE, cPn, cD, cK, cS, mkP, mF, cT, cM, cB, mO, cCR, cRf⟩ := id R
  obtain ⟨tN, p2, qN⟩ := lg2 R cdv A outer s H0 E hr
  refine ⟨_, (pss_cons (ps_setLc (i := 5) (own := [("_law_spot", 14)]) rfl scLaw.nd rfl rfl (sw_true rfl rfl rfl (by decide +kernel)) (pi_sqA (pv 3)) (blkOk_by (N := NLaw) (sc := defScope sLaw) (by decide +kernel)) (fun _ _ _ _ _ => pg_name (i := 14) scLaw.nd rfl (Or.inl rfl)) (fun _ _ _ _ _ => pts_nil) (fun _ _ _ _ _ => pe_listK K rfl rfl B.list (pv 14)))
      (pss_cons (ps_par (i := 6) (j := 7) rfl scLaw.nd rfl rfl (by decide) rfl rfl (pa_cons (pe_mk mkP hr passL (pa_cons (pv 2) (pa_cons (pv 5) pa_nil))) (pa_cons (pe_mk mkP hr passL (pa_cons (pv 2) (pa_cons (pe_tupleOf rfl B.tuple (pe_lc (own := [("_law_spot", 14)]) rfl scLaw.nd (pi_sqA (pv 4)) (blkOk_by (N := NLaw) (sc := defScope sLaw) (by decide +kernel)) (fun _ _ _ _ _ => pg_name (i := 14) scLaw.nd rfl (Or.inl rfl)) (fun _ _ _ _ _ => pts_nil) (fun _ _ _ _ _ => (pe_tupleOfK K rfl rfl B.tuple (pv 14))))) pa_nil))) pa_nil)) rfl)
      (pss_cons (ps_expr (pe_bm PySem.F.plainAttrs_list PySem.F.slot_list_append PySem.F.type_list_append mt_append (pe_ix ix_list (pv 5) pe_int (fun _ _ => rfl)) (pa_cons (pe_tup (pa_cons pe_int (pa_cons pe_int pa_nil))) pa_nil)))
      p2))), ?_⟩
  intro Q H a0 pn cl S O n b us vs pss qss pt hS prS hO prO N hb qq
  have n1 := N.n1
  have n2 := N.n2
  have P1 := N.ph
  have Q1 := N.qh
  have p1 := N.p1
  have p2 := N.p2
  have q2 := N.q2
  have lu := Paired.length prS
  have lv := Paired.length prO
  refine cutSeq (fun σ' H' => ∃ (G : Addr) (ys : List V), σ' = [some (.ref a0), some (.ref pn), some (.int (n : Nat)), some (.ref S), some (.ref O), some (.ref G), none, none, none, none, none, none, none, none, none, none] ∧ Same H H' ∧ H' G = some (.lst ys) ∧ Paired (fun v ps => SpL H' v ps ∧ ∀ a, v = .ref a → H a = none) ys pss) (fun nx k => ?_) ?_
  · refine ⟨_, rfl, S, us, rfl, .inl (SqL.of hS), fun J G wk hG D nD => lc_it wk (fun j H' => Same H H' ∧ ∃ ys, H' D = some (.lst ys) ∧ Paired (fun v ps => SpL H' v ps ∧ ∀ a, v = .ref a → H a = none ∧ a ≠ D) ys (pss.take j)) ⟨same_new nD, [], upd_same, .nil⟩ (fun j H' _ z => hG H' fun o w => z.1 _ _ w) ?_ ?_⟩
    · rintro j y H2 H3 hj ⟨e, ys, hD, po⟩ ⟨rfl, hy⟩
      obtain ⟨ps, hps, a, ts, rfl, ha, pa⟩ := paired_get prS hy
      refine ⟨rfl, ?_⟩
      unfold tYes
      refine iteT ⟨_, rfl, a, ts, rfl, .inl (SqL.of (e _ _ ha)), fun l nl => ?_⟩
      have et := same_new (o := .lst ts) nl
      have hl : upd H3 l (.lst ts) l = some (.lst ts) := upd_same
      have lD : l ≠ D := (ne_of_none hD nl).symm
      have l0 : H l = none := e.free nl
      generalize upd H3 l (.lst ts) = H4 at et hl ⊢
      have hD4 := et _ _ hD
      have keep : ∀ v ps, SpL H4 v ps → (∀ a, v = .ref a → H a = none ∧ a ≠ D) → SpL (upd H4 D (.lst (ys ++ [.ref l]))) v ps := fun v ps ⟨a, us, h1, h2, h3⟩ ne => by
        subst h1
        exact ⟨a, us, rfl, (upd_ne (ne a rfl).2).trans h2, h3.tt (TT.lst hD4)⟩
      refine ⟨ys, hD4, ?_, fun b o z => ?_, ys ++ [.ref l], upd_same, ?_⟩
      · have := Paired.length po
        rw [List.length_take] at this
        exact small10 (by omega)
      · rw [upd_ne (ne_of_none z nD)]
        exact et _ _ (e _ _ z)
      · rw [List.take_add_one, hps]
        refine Paired.snoc (Paired.mapP po fun v ps z => ⟨keep v ps (z.1.tl (TL.same et)) z.2, z.2⟩) ⟨keep _ _ ⟨l, ts, rfl, hl, pa.same (e.trans et)⟩ (fun a z => ?_), fun a z => ?_⟩
        · cases z
          exact ⟨l0, lD⟩
        · cases z
          exact ⟨l0, lD⟩
    · rintro H2 ⟨e, ys, hD, po⟩
      rw [Paired.length prS, List.take_length] at po
      exact k _ _ ⟨D, ys, rfl, e, hD, Paired.mapP po fun v ps z => ⟨z.1, fun a h => (z.2 a h).1⟩⟩
  rintro σ' H1 ⟨G, ys, rfl, e1, hG1, prG⟩
  refine cutSeq (fun σ' H' => ∃ p q : Addr, σ' = [some (.ref a0), some (.ref pn), some (.int (n : Nat)), some (.ref S), some (.ref O), some (.ref G), some (.ref p), some (.ref q), none, none, none, none, none, none, none, none] ∧ Same H1 H' ∧ IsPh C H' p (n : Nat) pss ∧ IsPh C H' q (n : Nat) qss) (fun nx k => ?_) ?_
  · refine ⟨_, rfl, _, rfl, fun i dx ni nd ne => ?_⟩
    have es := same_ins (C := C) (fs := []) ni nd
    refine ⟨i, dx, .int (n : Nat), G, ys, rfl, upd_same, True.intro, .inl (es _ _ hG1), .inr (.inr (.inr ⟨_, pss, rfl, P1, Paired.mapP prG fun _ _ z => (z.1.tl (TL.same es)).in_, fun H2 bi ph2 => ⟨rfl, ?_⟩⟩))⟩
    have e2 : Same H1 H2 := butI_same es ni bi
    have e12 := e1.trans e2
    clear bi es ni nd ne
    refine ⟨_, rfl, _, rfl, O, vs, rfl, .inl (SqL.of (e12 _ _ hO)), fun J G wk hG D nD => sps_it wk (fun H' e => hG H' fun o w => e _ _ w) (Paired.mapP prO fun _ _ z => z.tl (TL.same e12)) (by omega) nD fun H3 zs e3 hD po => .inl ⟨D, zs, rfl, SqL.of hD, fun t nt => ?_⟩⟩
    have e4 := same_new (o := .tup zs) nt
    have ht : upd H3 t (.tup zs) t = some (.tup zs) := upd_same
    generalize upd H3 t (.tup zs) = H4 at e4 ht ⊢
    intro i2 dx ni nd ne
    have es := same_ins (C := C) (fs := []) ni nd
    refine ⟨i2, dx, .int (n : Nat), t, zs, rfl, upd_same, True.intro, .inr (es _ _ ht), .inr (.inr (.inr ⟨_, qss, rfl, Q1, Paired.mapP po fun _ _ z => ?_, fun H5 bi ph5 => ⟨rfl, ?_⟩⟩))⟩
    · obtain ⟨a, ts, h1, h2, h3⟩ := z
      exact ⟨a, ts, h1, .inr (es _ _ (e4 _ _ h2)), h3.same (e4.trans es)⟩
    have e5 : Same H2 H5 := (e3.trans e4).trans (butI_same es ni bi)
    exact ⟨_, _, rfl, k _ _ ⟨i, i2, rfl, e2.trans e5, ph2.same e5, ph5⟩⟩
  rintro σ' H2 ⟨p, q, rfl, e2, ph, qh⟩
  have prG2 : Paired (fun v ps => SpL H2 v ps ∧ ∀ a, v = .ref a → H a = none) ys pss := Paired.mapP prG fun _ _ z => ⟨z.1.tl (TL.same e2), z.2⟩
  have hG2 := e2 _ _ hG1
  obtain ⟨ps0, hps0⟩ : ∃ ps0, pss[0]? = some ps0 := ⟨_, List.getElem?_eq_getElem p1⟩
  obtain ⟨v0, hv0, ⟨g0, ts0, rfl, hg0, pa0⟩, fr⟩ := paired_to prG2 hps0
  have ng0 := fr g0 rfl
  obtain ⟨ne0, rk0, l0⟩ := N.okP ps0 (List.mem_of_getElem? hps0)
  obtain ⟨x0, xs0, rfl⟩ : ∃ x xs, ts0 = .ref x :: xs := by
    cases pa0 with
    | nil => exact absurd rfl ne0
    | cons h t =>
      obtain ⟨a, rfl, _⟩ := h
      exact ⟨_, _, rfl⟩
  have lt0 := Paired.length pa0
  refine ⟨_, rfl, G, ys, 0, .ref g0, rfl, rfl, SqL.of hG2, ?_, .inl ⟨rfl, _, SqL.of hg0⟩, by show 2 ≤ sizeLine; decide, fun t nt => ?_⟩
  · exact atI_nat (j := 0) hv0
  have e3 := same_new (o := .tup [.int 0, .int 0]) nt
  generalize upd H2 t (.tup [.int 0, .int 0]) = H3 at e3 ⊢
  have hg3 := e3 _ _ hg0
  refine ⟨g0, _, _, rfl, rfl, hg3, small10 (by omega), ?_⟩
  have e13 := (e1.trans e2).trans e3
  have pt3 := pt.same e13
  have pn0 := (pt.pen.off ng0).1
  have cl0 := (pt.pen.off ng0).2
  have kk := ks_put (o := .lst ((.ref x0 :: xs0) ++ [.ref t])) (Ks.of e13) ng0
  refine qN Q _ a0 pn cl S O p q n b us vs pss qss (some (.ref G)) ⟨pt_put pt3 hg3 pn0 cl0, kk.tl.l _ _ hS, Paired.mapP prS fun _ _ z => z.tl kk.tl, kk.tl.l _ _ hO, Paired.mapP prO fun _ _ z => z.tl kk.tl, ((phL_in (ph.same e3) hg3).put hg3).to, ((phL_in (qh.same e3) hg3).put hg3).to⟩ N hb qq
end
end K25
set_option Elab.async false
set_option linter.all false
set_option maxRecDepth 100001
set_option maxHeartbeats 3999999
namespace K25
open PySem L2
section
variable {P : Program} {w : World} {K : PySem.W.Frag} {mg : Str → Option Value} {base : Heap}
theorem lg0 {f fe C CS CT CP CX : Addr} {fd fdE : FuncData} {Tb : List (Addr × Str)} (R : LwC P w K mg base f fe C CS CT CP CX fd fdE Tb) (cdv : Value) (A : Around) (outer : List Env) (s : Shared) (H0 : Hp) (E : XK) (hr : Room 13 (A.deeper (PyProof.Rows.envOfC "law" (defScope sLaw) s.heap.objs.size f cdv))) :
    ∃ t, PSs (cxOf CX0 P w K mg base NLaw "law" (defScope sLaw) f cdv A outer s H0 E).nox ((defBody sLaw).drop 0) t ∧
      ∀ (Q : VK) (H : Hp) (a0 : Addr) (is : List Int), SqL K H a0 (is.map V.int) → LamX.Tabs Tb H → (∀ H', Q (.bl true) H') →
        t { nx := fun _ H' => Q .non H', rt := Q } [some (.ref a0), none, none, none, none, none, none, none, none, none, none, none, none, none, none, none] H := by
  obtain ⟨F, B, hall, T0, TE, eN, nf, nfL, FE, eE, iE, bE, cPn, cD, cK, cS, mkP, mF, cT, cM, cB, mO, cCR, cRf⟩ := id R
  obtain ⟨tN, p1, qN⟩ := lg1 R cdv A outer s H0 E hr
  refine ⟨_, (pss_cons (ps_set (i := 1) scLaw.nd rfl (Or.inl rfl) (pe_c cPn hr pass0 (pa_cons (pv 0) pa_nil)))
      (pss_cons (ps_set (i := 2) scLaw.nd rfl (Or.inl rfl) (pe_c cK hr pass0 (pa_cons (pv 1) (pa_cons (pe_lst (pa_cons pe_int (pa_cons pe_int (pa_cons pe_int (pa_cons pe_int (pa_cons pe_int (pa_cons pe_int (pa_cons (pe_op op_add pe_int (pe_c cD hr pass0 (pa_cons (pv 1) (pa_cons pe_int pa_nil)))) pa_nil)))))))) pa_nil))))
      (pss_cons (ps_set (i := 3) scLaw.nd rfl (Or.inr rfl) (pe_c cS hr pass0 (pa_cons (pv 1) (pa_cons (pv 2) (pa_cons (pe_c cK hr pass0 (pa_cons (pv 1) (pa_cons (pe_lst (pa_cons pe_int (pa_cons pe_int (pa_cons pe_int (pa_cons pe_int (pa_cons pe_int (pa_cons pe_int (pa_cons pe_int pa_nil)))))))) pa_nil))) pa_nil)))))
      (pss_cons (ps_set (i := 4) scLaw.nd rfl (Or.inr rfl) (pe_c cS hr pass0 (pa_cons (pv 1) (pa_cons (pv 2) (pa_cons (pe_op op_add pe_int (pe_c cD hr pass0 (pa_cons (pv 1) (pa_cons pe_int pa_nil)))) pa_nil)))))
      p1)))), ?_⟩
  intro Q H a0 is hs tabs qq
  refine cutSeq (fun σ' H' => ∃ pn cl : Addr, σ' = [some (.ref a0), some (.ref pn), none, none, none, none, none, none, none, none, none, none, none, none, none, none] ∧ PT Tb H' pn cl 0) (fun nx k => ?_) ?_
  · exact ⟨_, rfl, a0, is, rfl, hs, fun pn cl H1 np nc e1 pen1 => k _ _ ⟨pn, cl, rfl, ⟨pen1, tabs.ext e1⟩⟩⟩
  rintro σ' H1 ⟨pn, cl, rfl, pt1⟩
  have pen1 := pt1.pen
  -- how many signs
  refine cutSeq (fun σ' H' => ∃ n : Nat, σ' = [some (.ref a0), some (.ref pn), some (.int (n : Nat)), none, none, none, none, none, none, none, none, none, none, none, none, none] ∧ PT Tb H' pn cl 2 ∧ 1 ≤ n ∧ n ≤ 2000) (fun nx k => ?_) ?_
  · refine ⟨_, rfl, _, rfl, pn, cl, 1999, 0, rfl, pen1, by decide, by decide, by decide, fun r H2 r0 r1 b2 pen2 => ?_⟩
    obtain ⟨r, rfl⟩ := Int.eq_ofNat_of_zero_le r0
    have pt2 := pt1.but b2 pen2
    refine ⟨_, _, rfl, rfl, by show 7 ≤ sizeLine; decide, fun a na => ?_⟩
    have e3 := same_new (o := .lst [.int 1, .int 2, .int 3, .int 4, .int 6, .int 2000, .int (2 + (r : Nat))]) na
    refine ⟨pn, cl, a, _, _, rfl, (pt2.same e3).pen, by decide, upd_same, by show 0 < 7; decide, by show 7 ≤ 1000; decide, fun x H4 hx b4 pen4 => ?_⟩
    have pt4 := (pt2.same e3).but b4 pen4
    simp only [List.mem_cons, List.not_mem_nil, or_false] at hx
    rcases hx with rfl | rfl | rfl | rfl | rfl | rfl | rfl
    · exact k _ _ ⟨1, rfl, pt4, by decide, by decide⟩
    · exact k _ _ ⟨2, rfl, pt4, by decide, by decide⟩
    · exact k _ _ ⟨3, rfl, pt4, by decide, by decide⟩
    · exact k _ _ ⟨4, rfl, pt4, by decide, by decide⟩
    · exact k _ _ ⟨6, rfl, pt4, by decide, by decide⟩
    · exact k _ _ ⟨2000, rfl, pt4, by decide, by decide⟩
    · exact k _ _ ⟨2 + r, by rw [Int.natCast_add]; rfl, pt4, by omega, by omega⟩
  rintro σ' H2 ⟨n, rfl, pt2, n1, n2⟩
  clear pt1 pen1 hs tabs
  refine cutSeq (fun σ' H' => ∃ (S : Addr) (us : List V) (pss : List Prs), σ' = [some (.ref a0), some (.ref pn), some (.int (n : Nat)), some (.ref S), none, none, none, none, none, none, none, none, none, none, none, none] ∧ PT Tb H' pn cl 83 ∧ H' S = some (.lst us) ∧ Paired (SpL H') us pss ∧ (∀ ps ∈ pss, OkS (n : Nat) ps) ∧ 1 ≤ pss.length ∧ pss.length ≤ 10) (fun nx k => ?_) ?_
  · refine ⟨_, rfl, _, rfl, _, rfl, by show 7 ≤ sizeLine; decide, fun a na => ?_⟩
    have e3 := same_new (o := .lst [.int 1, .int 2, .int 3, .int 4, .int 2, .int 3, .int 10]) na
    refine ⟨pn, cl, a, _, _, rfl, (pt2.same e3).pen, by decide, upd_same, by show 0 < 7; decide, by show 7 ≤ 1000; decide, fun x H4 hx b4 pen4 => ?_⟩
    have pt4 := (pt2.same e3).but b4 pen4
    have fin : ∀ w : Nat, 1 ≤ w → w ≤ 10 → spLSp [.ref pn, .int (n : Nat), .int (w : Nat)] H4 (fun v H' => nx [some (.ref a0), some (.ref pn), some (.int (n : Nat)), some v, none, none, none, none, none, none, none, none, none, none, none, none] H') E0 := by
      intro w w1 w2
      refine ⟨pn, cl, _, w, _, rfl, pen4, by decide, by omega, by omega, w2, fun L H5 vs pss b5 pen5 nL hL pr ok ln => ?_⟩
      exact k _ _ ⟨L, vs, pss, rfl, pt4.but b5 pen5, hL, Paired.mapP pr fun _ _ z => z.1, ok, by omega, by omega⟩
    simp only [List.mem_cons, List.not_mem_nil, or_false] at hx
    rcases hx with rfl | rfl | rfl | rfl | rfl | rfl | rfl
    · exact fin 1 (by decide) (by decide)
    · exact fin 2 (by decide) (by decide)
    · exact fin 3 (by decide) (by decide)
    · exact fin 4 (by decide) (by decide)
    · exact fin 2 (by decide) (by decide)
    · exact fin 3 (by decide) (by decide)
    · exact fin 10 (by decide) (by decide)
  rintro σ' H3 ⟨S, us, pss, rfl, pt3, hS, prS, okS, p1, p2⟩
  refine ⟨_, rfl, _, rfl, _, rfl, pn, cl, 4, _, rfl, pt3.pen, by decide, by decide, by decide, fun r H4 r0 r1 b4 pen4 => ?_⟩
  obtain ⟨r, rfl⟩ := Int.eq_ofNat_of_zero_le r0
  have pt4 := pt3.but b4 pen4
  have k4 := pt3.ks b4
  refine ⟨_, _, rfl, rfl, pn, cl, _, 1 + r, _, by rw [Int.natCast_add]; rfl, pen4, by decide, by omega, by omega, by omega, fun L H5 vs qss b5 pen5 nL hL pr okL ln => ?_⟩
  have k5 := k4.trans (pt4.ks b5)
  exact qN Q H5 a0 pn cl S L n _ us vs pss qss (pt4.but b5 pen5) (k5.tl.l _ _ hS) (Paired.mapP prS fun _ _ z => z.tl k5.tl) hL (Paired.mapP pr fun _ _ z => z.1) ⟨n1, n2, okS, okL, p1, p2, by omega, by omega⟩ (by decide) qq
end
end K25
set_option Elab.async false
set_option linter.all false
set_option maxRecDepth 100001
set_option maxHeartbeats 3999999
namespace K25
open PySem L2
section
variable {P : Program} {w : World} {K : PySem.W.Frag} {mg : Str → Option Value} {base : Heap}
theorem ok_law {f fe C CS CT CP CX : Addr} {fd fdE : FuncData} {Tb : List (Addr × Str)} (R : LwC P w K mg base f fe C CS CT CP CX fd fdE Tb) : FnOk P w K mg base CX0 14 f fd ["_law_script"] (spLaw K Tb) := by
  refine R.F.ok scLaw (fun vs H Q E h => ?_) (fun cdv A outer s H vs Q E hr h => ?_)
  · obtain ⟨a, is, rfl, _⟩ := h
    rfl
  · obtain ⟨a, is, rfl, hs, tabs, q⟩ := h
    obtain ⟨t, h, z⟩ := lg0 R cdv A outer s H E hr
    exact ⟨t, h, z Q H a is hs tabs q⟩
end
end K25
set_option Elab.async false
set_option linter.all false
set_option maxRecDepth 100001
set_option maxHeartbeats 3999999
namespace K25
open PySem L2
/-! ### what the top leaves -/
/-- an own exception class as the rules want it -/
def oexB (K : PySem.W.Frag) (C : Addr) : Bool := (match K.lookup C with
  | some ⟨.type "type", _, .cls cd, sl⟩ => (match sl.toList, cd.mro with
    | [_, _, _, _, some (.builtin nw), _], .ref D :: bm => decide (D = C) && (decide (nw = "ValueError.__new__") && (!cd.hasDel && (cd.hasDict && PySem.HandSPX.refsVE bm)))
    | _, _ => false)
  | _ => false) && (He.eqO (PySem.W.findIn K (.ref C) "__setattr__") (some (some (.builtin "object.__setattr__"))) && (decide (PySem.W.subIn K (.ref C) (.type "BaseException") = some true) && (decide (PySem.W.typeIn K (.ref C) = some (.type "type")) && PySem.W.keepIn K (.ref C))))
theorem oexB_ok {K : PySem.W.Frag} {C : Addr} (h : oexB K C = true) : OexC K C := by
  obtain ⟨h1, h⟩ := He.ba h
  obtain ⟨h2, h⟩ := He.ba h
  obtain ⟨h3, h⟩ := He.ba h
  obtain ⟨h4, h5⟩ := He.ba h
  refine ⟨?_, He.eqO_ok h2, of_decide_eq_true h3, of_decide_eq_true h4, h5⟩
  split at h1
  · rename_i dd cd sl ho
    split at h1
    · rename_i x0 x1 x2 x3 nw x5 D bm hs hm
      obtain ⟨g1, g⟩ := He.ba h1
      obtain ⟨g2, g⟩ := He.ba g
      obtain ⟨g3, g⟩ := He.ba g
      obtain ⟨g4, g5⟩ := He.ba g
      have e1 := of_decide_eq_true g1
      have e2 := of_decide_eq_true g2
      subst e1 e2
      obtain ⟨nm, bs, mro, ns, qn, hd, sn, sub, ab, col, del⟩ := cd
      dsimp only at hm g3 g4
      subst hm g4
      have e3 : del = false := by
        cases del with
        | false => rfl
        | true => cases g3
      subst e3
      have hsl : sl = #[x0, x1, x2, x3, some (.builtin "ValueError.__new__"), x5] := by
        obtain ⟨l⟩ := sl
        have h' : l = _ := hs
        rw [h']
      subst hsl
      exact ⟨nm, qn, ns, bs, bm, sn, sub, ab, col, dd, x0, x1, x2, x3, x5, ho, g5⟩
    · cases h1
  · cases h1
def fa0 : List He.Fa := [.glo "is_whole", .glo "is_between", .glo "is_list", .glo "is_tuple_of", .glo "first_wrong_sign", .glo "copied", .glo "frozen", .glo "first_wrong_range", .glo "ranges_of", .glo "plain_phrase", .glo "check_size", .glo "check_phrases", .glo "are_ranges", .glo "mask_of", .glo "classes_of", .glo "_law_pen", .glo "_law_draw", .glo "_law_pick", .glo "_law_ranges", .glo "_law_has", .glo "_law_spots", .glo "_law_stands", .glo "_law_beside", .glo "_law_meet", .glo "_law_classes_right", .glo "_law_caught", .glo "_law_is_sign", .glo "_law_refusals_right", .glo "law", .glo "BadSigns"]
def fa1 : List He.Fa := [.glo "TooMany", .glo "BadSpot", .glo "BadSign", .glo "OtherSigns", .glo "Phrase", .free "isinstance", .free "int", .free "bool", .free "tuple", .free "list", .free "dict", .free "len", .free "enumerate", .free "range", .free "abs", .free "max", .free "min", .free "any", .free "all", .free "sum", .free "zip", .free "sorted", .free "repr", .int "MOST_SIGNS" 2000, .int "MOST_SPOTS" 10, .cls "Phrase", .mkr "Phrase", .noat "BadSigns" "signs", .noat "TooMany" "what", .noat "TooMany" "many"]
def fa2 : List He.Fa := [.noat "TooMany" "most", .noat "BadSpot" "index", .noat "BadSign" "index", .noat "Phrase" "signs", .noat "Phrase" "spots", .noat "Phrase" "width", .noat "Phrase" "masks", .meth "BadSigns" "__init__", .meth "TooMany" "__init__", .meth "BadSpot" "__init__", .meth "BadSign" "__init__", .meth "OtherSigns" "__init__", .meth "Phrase" "__init__", .meth "Phrase" "__eq__", .meth "Phrase" "fits_row", .meth "Phrase" "overlaps_at", .exm "BadSigns" "BadSigns" true, .exm "TooMany" "TooMany" true, .exm "BadSpot" "BadSpot" true, .exm "BadSign" "BadSign" true, .exm "OtherSigns" "OtherSigns" true, .exm "TooMany" "BadSigns" false, .exm "BadSpot" "BadSigns" false, .exm "BadSpot" "TooMany" false, .exm "BadSign" "BadSigns" false, .exm "BadSign" "TooMany" false, .exm "BadSign" "BadSpot" false, .exm "OtherSigns" "BadSigns" false, .exm "OtherSigns" "TooMany" false, .exm "OtherSigns" "BadSpot" false]
def fa3 : List He.Fa := [.exm "OtherSigns" "BadSign" false]
def faA : List He.Fa := fa0 ++ fa1 ++ fa2 ++ fa3
def dd0 : He.DefD := ⟨("is_whole", none), "is_whole", "is_whole", defArgs sWhole, defBody sWhole, defScope sWhole, [], []⟩
def dd1 : He.DefD := ⟨("is_between", none), "is_between", "is_between", defArgs sBetween, defBody sBetween, defScope sBetween, [], []⟩
def dd2 : He.DefD := ⟨("is_list", none), "is_list", "is_list", defArgs sIsList, defBody sIsList, defScope sIsList, [], []⟩
def dd3 : He.DefD := ⟨("is_tuple_of", none), "is_tuple_of", "is_tuple_of", defArgs sTupOf, defBody sTupOf, defScope sTupOf, [], []⟩
def dd4 : He.DefD := ⟨("first_wrong_sign", none), "first_wrong_sign", "first_wrong_sign", defArgs sFWS, defBody sFWS, defScope sFWS, [], []⟩
def dd5 : He.DefD := ⟨("copied", none), "copied", "copied", defArgs sCopied, defBody sCopied, defScope sCopied, [], []⟩
def dd6 : He.DefD := ⟨("frozen", none), "frozen", "frozen", defArgs sFrz, defBody sFrz, defScope sFrz, [], []⟩
def dd7 : He.DefD := ⟨("first_wrong_range", none), "first_wrong_range", "first_wrong_range", defArgs sFWR, defBody sFWR, defScope sFWR, [], []⟩
def dd8 : He.DefD := ⟨("ranges_of", none), "ranges_of", "ranges_of", defArgs sRanges, defBody sRanges, defScope sRanges, [], []⟩
def dd9 : He.DefD := ⟨("plain_phrase", none), "plain_phrase", "plain_phrase", defArgs sPlain, defBody sPlain, defScope sPlain, [], []⟩
def dd10 : He.DefD := ⟨("check_size", none), "check_size", "check_size", defArgs sChk, defBody sChk, defScope sChk, [], []⟩
def dd11 : He.DefD := ⟨("check_phrases", none), "check_phrases", "check_phrases", defArgs sChP, defBody sChP, defScope sChP, [], []⟩
def dd12 : He.DefD := ⟨("are_ranges", none), "are_ranges", "are_ranges", defArgs sAre, defBody sAre, defScope sAre, [], []⟩
def dd13 : He.DefD := ⟨("mask_of", none), "mask_of", "mask_of", defArgs sMask, defBody sMask, defScope sMask, [], []⟩
def dd14 : He.DefD := ⟨("classes_of", none), "classes_of", "classes_of", defArgs sCls, defBody sCls, defScope sCls, [], []⟩
def dd15 : He.DefD := ⟨("_law_pen", none), "_law_pen", "_law_pen", defArgs sPen, defBody sPen, defScope sPen, [], []⟩
def dd16 : He.DefD := ⟨("_law_draw", none), "_law_draw", "_law_draw", defArgs sDraw, defBody sDraw, defScope sDraw, [], []⟩
def dd17 : He.DefD := ⟨("_law_pick", none), "_law_pick", "_law_pick", defArgs sPick, defBody sPick, defScope sPick, [], []⟩
def dd18 : He.DefD := ⟨("_law_ranges", none), "_law_ranges", "_law_ranges", defArgs sLRg, defBody sLRg, defScope sLRg, [], []⟩
def dd19 : He.DefD := ⟨("_law_has", none), "_law_has", "_law_has", defArgs sHas, defBody sHas, defScope sHas, [], []⟩
def dd20 : He.DefD := ⟨("_law_spots", none), "_law_spots", "_law_spots", defArgs sLSp, defBody sLSp, defScope sLSp, [], []⟩
def dd21 : He.DefD := ⟨("_law_stands", none), "_law_stands", "_law_stands", defArgs sStd, defBody sStd, defScope sStd, [], []⟩
def dd22 : He.DefD := ⟨("_law_beside", none), "_law_beside", "_law_beside", defArgs sBes, defBody sBes, defScope sBes, [], []⟩
def dd23 : He.DefD := ⟨("_law_meet", none), "_law_meet", "_law_meet", defArgs sMeet, defBody sMeet, defScope sMeet, [], []⟩
def dd24 : He.DefD := ⟨("_law_classes_right", none), "_law_classes_right", "_law_classes_right", defArgs sCR, defBody sCR, defScope sCR, [], []⟩
def dd25 : He.DefD := ⟨("_law_caught", none), "_law_caught", "_law_caught", defArgs sCau, defBody sCau, defScope sCau, [], []⟩
def dd26 : He.DefD := ⟨("_law_is_sign", none), "_law_is_sign", "_law_is_sign", defArgs sIsSg, defBody sIsSg, defScope sIsSg, [], []⟩
def dd27 : He.DefD := ⟨("_law_refusals_right", none), "_law_refusals_right", "_law_refusals_right", defArgs sRf, defBody sRf, defScope sRf, [], []⟩
def dd28 : He.DefD := ⟨("law", none), "law", "law", defArgs sLaw, defBody sLaw, defScope sLaw, [], []⟩
def dd29 : He.DefD := ⟨("BadSigns", some "__init__"), "__init__", "BadSigns.__init__", defArgs sBadSigns, defBody sBadSigns, defScope sBadSigns, [], []⟩
def dd30 : He.DefD := ⟨("TooMany", some "__init__"), "__init__", "TooMany.__init__", defArgs sTMany, defBody sTMany, defScope sTMany, [], []⟩
def dd31 : He.DefD := ⟨("BadSpot", some "__init__"), "__init__", "BadSpot.__init__", defArgs sBadSpot, defBody sBadSpot, defScope sBadSpot, [], []⟩
def dd32 : He.DefD := ⟨("BadSign", some "__init__"), "__init__", "BadSign.__init__", defArgs sBadSign, defBody sBadSign, defScope sBadSign, [], []⟩
def dd33 : He.DefD := ⟨("OtherSigns", some "__init__"), "__init__", "OtherSigns.__init__", defArgs sOSg, defBody sOSg, defScope sOSg, [], []⟩
def dd34 : He.DefD := ⟨("Phrase", some "__init__"), "__init__", "Phrase.__init__", defArgs sPhI, defBody sPhI, defScope sPhI, [], []⟩
def dd35 : He.DefD := ⟨("Phrase", some "__eq__"), "__eq__", "Phrase.__eq__", defArgs sPhE, defBody sPhE, defScope sPhE, [], []⟩
def dd36 : He.DefD := ⟨("Phrase", some "fits_row"), "fits_row", "Phrase.fits_row", defArgs sFit, defBody sFit, defScope sFit, [], []⟩
def dd37 : He.DefD := ⟨("Phrase", some "overlaps_at"), "overlaps_at", "Phrase.overlaps_at", defArgs sOver, defBody sOver, defScope sOver, [], []⟩
def fnA : List He.DefD := [dd0, dd1, dd2, dd3, dd4, dd5, dd6, dd7, dd8, dd9, dd10, dd11, dd12, dd13, dd14, dd15, dd16, dd17, dd18, dd19, dd20, dd21, dd22, dd23, dd24, dd25, dd26, dd27, dd28, dd29, dd30, dd31, dd32, dd33, dd34, dd35, dd36, dd37]
abbrev refD : Str × Option Str := ("_law_refusals_right", none)
/-- what else is asked of K, and of the tables ts -/
def exA (K : PySem.W.Frag) (ts : List Addr) : Bool := ((oexB K (He.ga K "BadSigns") && xfB K (He.ga K "BadSigns")) && ((oexB K (He.ga K "TooMany") && xfB K (He.ga K "TooMany")) && ((oexB K (He.ga K "BadSpot") && xfB K (He.ga K "BadSpot")) && ((oexB K (He.ga K "BadSign") && xfB K (He.ga K "BadSign")) && ((oexB K (He.ga K "OtherSigns") && xfB K (He.ga K "OtherSigns")) && (He.eqO (PySem.W.findIn K (.ref (He.ga K "Phrase")) "__class__") (some (some (.builtin "object.__class__"))) && (He.eqO (PySem.W.specialIn K (.builtin "object.__class__") "__get__") (some (some (.builtin "getset_descriptor.__get__"))) && (decide (PySem.W.takesIn K (.builtin "object.__class__") = some true) && (decide (PySem.W.mroIn K (He.ga K "Phrase") (.type "object") = some true) && (decide (PySem.W.kitOne K (.type "list") (.ref (He.ga K "Phrase")) = some false) && (PySem.W.notFirst K (He.ga K "Phrase") (.ref (He.ga K "Phrase")) && (PySem.W.notFirst K (He.ga K "Phrase") (.type "list") && (He.eqO (PySem.W.findIn K (.ref (He.ga K "Phrase")) "__ne__") (some (some (.builtin "object.__ne__"))) && (decide ((He.cT K refD).2 ∈ ts) && (PySem.W.codeHdIn K (He.cT K refD).1 (He.cT K refD).2 && (K.lookup (He.cT K refD).2).isNone)))))))))))))))
theorem fun_ofD {K : PySem.W.Frag} {x qual : Str} {st : Stmt} {f : Addr} {fd : FuncData} (F : FunD K x qual (defArgs st) (defBody st) (defScope st) [] [] f fd) : Fun K x qual st f fd := by
  obtain ⟨oc, od, dV, kV, doc, pm, an, cdv, ct, osl, e, lk, hcd, dv, _⟩ := F.ex
  rcases dv with ⟨_, rfl⟩ | ⟨h, _⟩
  · exact ⟨⟨oc, od, kV, doc, pm, an, cdv, ct, osl, e, lk, hcd⟩, F.kp⟩
  · exact absurd rfl h
theorem funL_of {K : PySem.W.Frag} {base : Heap} {mg : Str → Option Value} {x q : Str} {kq : Str × Option Str} {st : Stmt} {fd : FuncData} (F : Fun K x q st (He.fAd K kq) fd) (T : LamX.TabB base mg (He.cT K kq).1 (He.cT K kq).2) :
    FunL K base mg x q st (He.fAd K kq) (He.cT K kq).1 (He.cT K kq).2 fd := by
  obtain ⟨oc, od, kV, doc, pm, an, cdv, ct, osl, e, lk, hcd⟩ := F.ex
  obtain ⟨c, rfl⟩ := He.codeIn_ref hcd
  have e2 : (He.cT K kq).1 = c := by
    refine He.codeOf_eq lk ?_
    rw [e] <;> rfl
  exact ⟨⟨oc, od, kV, doc, pm, an, ct, osl, by rw [e2]; exact e, lk, by rw [e2]; exact hcd⟩, T⟩
theorem isNone_of {α : Type} {o : Option α} (h : o.isNone = true) : o = none := by
  cases o with
  | none => rfl
  | some _ => cases h
abbrev TbK (K : PySem.W.Frag) : List (Addr × Str) := [((He.cT K refD).2, (("_law_refusals_right.<locals>.<lambda>" : String) : Str))]
/-- the law's promise, of what the top leaves -/
theorem at_law {l : PySem.W.OpenLaw} {w : World} {K : PySem.W.Frag} {h : Heap} {mg : Str → Option Value} {fl : Addr} {ts : List Addr} (KX : K.In h) (G : h.Ns mainGlobals mg) (hfl : mg ("law" : Str) = some (.ref fl)) (c : He.SaysD faA fnA K) (ex : exA K ts = true) (hT : ∀ P ∈ ts, h.get? P = some { cls := .none, data := .fields #[] }) :
    LamX.LawAtS l w K CX0 14 63 "_law_script" mg fl h := by
  obtain ⟨x0, ex⟩ := He.ba ex
  obtain ⟨x1, ex⟩ := He.ba ex
  obtain ⟨x2, ex⟩ := He.ba ex
  obtain ⟨x3, ex⟩ := He.ba ex
  obtain ⟨x4, ex⟩ := He.ba ex
  obtain ⟨x5, ex⟩ := He.ba ex
  obtain ⟨x6, ex⟩ := He.ba ex
  obtain ⟨x7, ex⟩ := He.ba ex
  obtain ⟨x8, ex⟩ := He.ba ex
  obtain ⟨x9, ex⟩ := He.ba ex
  obtain ⟨x10, ex⟩ := He.ba ex
  obtain ⟨x11, ex⟩ := He.ba ex
  obtain ⟨x12, ex⟩ := He.ba ex
  obtain ⟨x13, ex⟩ := He.ba ex
  obtain ⟨x14, ex⟩ := He.ba ex
  have x15 := ex
  obtain ⟨o0, f0⟩ := He.ba x0
  obtain ⟨o1, f1⟩ := He.ba x1
  obtain ⟨o2, f2⟩ := He.ba x2
  obtain ⟨o3, f3⟩ := He.ba x3
  obtain ⟨o4, f4⟩ := He.ba x4
  have B : Bi mg := ⟨He.free_ok KX G (c.fact 35 (f := .free "isinstance") rfl), He.free_ok KX G (c.fact 36 (f := .free "int") rfl), He.free_ok KX G (c.fact 37 (f := .free "bool") rfl), He.free_ok KX G (c.fact 38 (f := .free "tuple") rfl), He.free_ok KX G (c.fact 39 (f := .free "list") rfl), He.free_ok KX G (c.fact 40 (f := .free "dict") rfl), He.free_ok KX G (c.fact 41 (f := .free "len") rfl), He.free_ok KX G (c.fact 42 (f := .free "enumerate") rfl), He.free_ok KX G (c.fact 43 (f := .free "range") rfl), He.free_ok KX G (c.fact 44 (f := .free "abs") rfl), He.free_ok KX G (c.fact 45 (f := .free "max") rfl), He.free_ok KX G (c.fact 46 (f := .free "min") rfl)⟩
  have hany : mg "any" = none := He.free_ok KX G (c.fact 47 (f := .free "any") rfl)
  have hall : mg "all" = none := He.free_ok KX G (c.fact 48 (f := .free "all") rfl)
  have hsum : mg "sum" = none := He.free_ok KX G (c.fact 49 (f := .free "sum") rfl)
  have hzip : mg "zip" = none := He.free_ok KX G (c.fact 50 (f := .free "zip") rfl)
  have hsorted : mg "sorted" = none := He.free_ok KX G (c.fact 51 (f := .free "sorted") rfl)
  have hrepr : mg "repr" = none := He.free_ok KX G (c.fact 52 (f := .free "repr") rfl)
  obtain ⟨u2, g2⟩ := He.int_ok KX G (c.fact 53 (f := .int "MOST_SIGNS" 2000) rfl)
  obtain ⟨u3, g3⟩ := He.int_ok KX G (c.fact 54 (f := .int "MOST_SPOTS" 10) rfl)
  have MM : Cm mg := ⟨⟨_, g2, ⟨_, rfl⟩⟩, ⟨_, g3, ⟨_, rfl⟩⟩⟩
  obtain ⟨d0, D0⟩ := c.def_ 0 (d := dd0) rfl
  have F0 : Fun K "is_whole" "is_whole" sWhole (He.ga K "is_whole") d0 := fun_ofD D0
  have b0 : Binds K d0 ["value"] [] := F0.binds fun _ _ _ _ _ _ us hl => match us, hl with | [_], _ => rfl
  obtain ⟨d1, D1⟩ := c.def_ 1 (d := dd1) rfl
  have F1 : Fun K "is_between" "is_between" sBetween (He.ga K "is_between") d1 := fun_ofD D1
  have b1 : Binds K d1 ["value", "low", "high"] [] := F1.binds fun _ _ _ _ _ _ us hl => match us, hl with | [_, _, _], _ => rfl
  obtain ⟨d2, D2⟩ := c.def_ 2 (d := dd2) rfl
  have F2 : Fun K "is_list" "is_list" sIsList (He.ga K "is_list") d2 := fun_ofD D2
  have b2 : Binds K d2 ["value"] [] := F2.binds fun _ _ _ _ _ _ us hl => match us, hl with | [_], _ => rfl
  obtain ⟨d3, D3⟩ := c.def_ 3 (d := dd3) rfl
  have F3 : Fun K "is_tuple_of" "is_tuple_of" sTupOf (He.ga K "is_tuple_of") d3 := fun_ofD D3
  have b3 : Binds K d3 ["value", "size"] [] := F3.binds fun _ _ _ _ _ _ us hl => match us, hl with | [_, _], _ => rfl
  obtain ⟨d4, D4⟩ := c.def_ 4 (d := dd4) rfl
  have F4 : Fun K "first_wrong_sign" "first_wrong_sign" sFWS (He.ga K "first_wrong_sign") d4 := fun_ofD D4
  have b4 : Binds K d4 ["row", "signs"] [] := F4.binds fun _ _ _ _ _ _ us hl => match us, hl with | [_, _], _ => rfl
  obtain ⟨d5, D5⟩ := c.def_ 5 (d := dd5) rfl
  have F5 : Fun K "copied" "copied" sCopied (He.ga K "copied") d5 := fun_ofD D5
  have b5 : Binds K d5 ["value"] [] := F5.binds fun _ _ _ _ _ _ us hl => match us, hl with | [_], _ => rfl
  obtain ⟨d6, D6⟩ := c.def_ 6 (d := dd6) rfl
  have F6 : Fun K "frozen" "frozen" sFrz (He.ga K "frozen") d6 := fun_ofD D6
  have b6 : Binds K d6 ["value"] [] := F6.binds fun _ _ _ _ _ _ us hl => match us, hl with | [_], _ => rfl
  obtain ⟨d7, D7⟩ := c.def_ 7 (d := dd7) rfl
  have F7 : Fun K "first_wrong_range" "first_wrong_range" sFWR (He.ga K "first_wrong_range") d7 := fun_ofD D7
  have b7 : Binds K d7 ["ranges", "many"] [] := F7.binds fun _ _ _ _ _ _ us hl => match us, hl with | [_, _], _ => rfl
  obtain ⟨d8, D8⟩ := c.def_ 8 (d := dd8) rfl
  have F8 : Fun K "ranges_of" "ranges_of" sRanges (He.ga K "ranges_of") d8 := fun_ofD D8
  have b8 : Binds K d8 ["numbers"] [] := F8.binds fun _ _ _ _ _ _ us hl => match us, hl with | [_], _ => rfl
  obtain ⟨d9, D9⟩ := c.def_ 9 (d := dd9) rfl
  have F9 : Fun K "plain_phrase" "plain_phrase" sPlain (He.ga K "plain_phrase") d9 := fun_ofD D9
  have b9 : Binds K d9 ["signs", "row"] [] := F9.binds fun _ _ _ _ _ _ us hl => match us, hl with | [_, _], _ => rfl
  obtain ⟨d10, D10⟩ := c.def_ 10 (d := dd10) rfl
  have F10 : Fun K "check_size" "check_size" sChk (He.ga K "check_size") d10 := fun_ofD D10
  have b10 : Binds K d10 ["signs", "spots"] [] := F10.binds fun _ _ _ _ _ _ us hl => match us, hl with | [_, _], _ => rfl
  obtain ⟨d11, D11⟩ := c.def_ 11 (d := dd11) rfl
  have F11 : Fun K "check_phrases" "check_phrases" sChP (He.ga K "check_phrases") d11 := fun_ofD D11
  have b11 : Binds K d11 ["phrases"] [] := F11.binds fun _ _ _ _ _ _ us hl => match us, hl with | [_], _ => rfl
  obtain ⟨d12, D12⟩ := c.def_ 12 (d := dd12) rfl
  have F12 : Fun K "are_ranges" "are_ranges" sAre (He.ga K "are_ranges") d12 := fun_ofD D12
  have b12 : Binds K d12 ["value", "signs"] [] := F12.binds fun _ _ _ _ _ _ us hl => match us, hl with | [_, _], _ => rfl
  obtain ⟨d13, D13⟩ := c.def_ 13 (d := dd13) rfl
  have F13 : Fun K "mask_of" "mask_of" sMask (He.ga K "mask_of") d13 := fun_ofD D13
  have b13 : Binds K d13 ["ranges"] [] := F13.binds fun _ _ _ _ _ _ us hl => match us, hl with | [_], _ => rfl
  obtain ⟨d14, D14⟩ := c.def_ 14 (d := dd14) rfl
  have F14 : Fun K "classes_of" "classes_of" sCls (He.ga K "classes_of") d14 := fun_ofD D14
  have b14 : Binds K d14 ["phrases"] [] := F14.binds fun _ _ _ _ _ _ us hl => match us, hl with | [_], _ => rfl
  obtain ⟨d15, D15⟩ := c.def_ 15 (d := dd15) rfl
  have F15 : Fun K "_law_pen" "_law_pen" sPen (He.ga K "_law_pen") d15 := fun_ofD D15
  have b15 : Binds K d15 ["_law_script"] [] := F15.binds fun _ _ _ _ _ _ us hl => match us, hl with | [_], _ => rfl
  obtain ⟨d16, D16⟩ := c.def_ 16 (d := dd16) rfl
  have F16 : Fun K "_law_draw" "_law_draw" sDraw (He.ga K "_law_draw") d16 := fun_ofD D16
  have b16 : Binds K d16 ["_law_pen_here", "_law_many"] [] := F16.binds fun _ _ _ _ _ _ us hl => match us, hl with | [_, _], _ => rfl
  obtain ⟨d17, D17⟩ := c.def_ 17 (d := dd17) rfl
  have F17 : Fun K "_law_pick" "_law_pick" sPick (He.ga K "_law_pick") d17 := fun_ofD D17
  have b17 : Binds K d17 ["_law_pen_here", "_law_some"] [] := F17.binds fun _ _ _ _ _ _ us hl => match us, hl with | [_, _], _ => rfl
  obtain ⟨d18, D18⟩ := c.def_ 18 (d := dd18) rfl
  have F18 : Fun K "_law_ranges" "_law_ranges" sLRg (He.ga K "_law_ranges") d18 := fun_ofD D18
  have b18 : Binds K d18 ["_law_pen_here", "_law_signs", "_law_most"] [] := F18.binds fun _ _ _ _ _ _ us hl => match us, hl with | [_, _, _], _ => rfl
  obtain ⟨d19, D19⟩ := c.def_ 19 (d := dd19) rfl
  have F19 : Fun K "_law_has" "_law_has" sHas (He.ga K "_law_has") d19 := fun_ofD D19
  have b19 : Binds K d19 ["_law_ranges_here", "_law_sign"] [] := F19.binds fun _ _ _ _ _ _ us hl => match us, hl with | [_, _], _ => rfl
  obtain ⟨d20, D20⟩ := c.def_ 20 (d := dd20) rfl
  have F20 : Fun K "_law_spots" "_law_spots" sLSp (He.ga K "_law_spots") d20 := fun_ofD D20
  have b20 : Binds K d20 ["_law_pen_here", "_law_signs", "_law_width"] [] := F20.binds fun _ _ _ _ _ _ us hl => match us, hl with | [_, _, _], _ => rfl
  obtain ⟨d21, D21⟩ := c.def_ 21 (d := dd21) rfl
  have F21 : Fun K "_law_stands" "_law_stands" sStd (He.ga K "_law_stands") d21 := fun_ofD D21
  have b21 : Binds K d21 ["_law_spots_here", "_law_row", "_law_place"] [] := F21.binds fun _ _ _ _ _ _ us hl => match us, hl with | [_, _, _], _ => rfl
  obtain ⟨d22, D22⟩ := c.def_ 22 (d := dd22) rfl
  have F22 : Fun K "_law_beside" "_law_beside" sBes (He.ga K "_law_beside") d22 := fun_ofD D22
  have b22 : Binds K d22 ["_law_pen_here", "_law_signs", "_law_spots_here"] [] := F22.binds fun _ _ _ _ _ _ us hl => match us, hl with | [_, _, _], _ => rfl
  obtain ⟨d23, D23⟩ := c.def_ 23 (d := dd23) rfl
  have F23 : Fun K "_law_meet" "_law_meet" sMeet (He.ga K "_law_meet") d23 := fun_ofD D23
  have b23 : Binds K d23 ["_law_some", "_law_others"] [] := F23.binds fun _ _ _ _ _ _ us hl => match us, hl with | [_, _], _ => rfl
  obtain ⟨d24, D24⟩ := c.def_ 24 (d := dd24) rfl
  have F24 : Fun K "_law_classes_right" "_law_classes_right" sCR (He.ga K "_law_classes_right") d24 := fun_ofD D24
  have b24 : Binds K d24 ["_law_signs", "_law_phrases", "_law_spots_here"] [] := F24.binds fun _ _ _ _ _ _ us hl => match us, hl with | [_, _, _], _ => rfl
  obtain ⟨d25, D25⟩ := c.def_ 25 (d := dd25) rfl
  have F25 : Fun K "_law_caught" "_law_caught" sCau (He.ga K "_law_caught") d25 := fun_ofD D25
  have b25 : Binds K d25 ["_law_action"] [] := F25.binds fun _ _ _ _ _ _ us hl => match us, hl with | [_], _ => rfl
  obtain ⟨d26, D26⟩ := c.def_ 26 (d := dd26) rfl
  have F26 : Fun K "_law_is_sign" "_law_is_sign" sIsSg (He.ga K "_law_is_sign") d26 := fun_ofD D26
  have b26 : Binds K d26 ["_law_signs", "_law_sign"] [] := F26.binds fun _ _ _ _ _ _ us hl => match us, hl with | [_, _], _ => rfl
  obtain ⟨d27, D27⟩ := c.def_ 27 (d := dd27) rfl
  have F27 : Fun K "_law_refusals_right" "_law_refusals_right" sRf (He.ga K "_law_refusals_right") d27 := fun_ofD D27
  have b27 : Binds K d27 ["_law_pen_here", "_law_signs", "_law_spots_here", "_law_phrase"] [] := F27.binds fun _ _ _ _ _ _ us hl => match us, hl with | [_, _, _, _], _ => rfl
  obtain ⟨d28, D28⟩ := c.def_ 28 (d := dd28) rfl
  have F28 : Fun K "law" "law" sLaw (He.ga K "law") d28 := fun_ofD D28
  have b28 : Binds K d28 ["_law_script"] [] := F28.binds fun _ _ _ _ _ _ us hl => match us, hl with | [_], _ => rfl
  obtain ⟨d29, D29⟩ := c.def_ 29 (d := dd29) rfl
  have F29 : Fun K "__init__" "BadSigns.__init__" sBadSigns (He.ma K (He.ga K "BadSigns") "__init__") d29 := fun_ofD D29
  have b29 : Binds K d29 ["self", "signs"] [] := F29.binds fun _ _ _ _ _ _ us hl => match us, hl with | [_, _], _ => rfl
  have m29 : Meth K (He.ga K "BadSigns") "__init__" (He.ma K (He.ga K "BadSigns") "__init__") := He.meth_ok (c.fact 67 (f := .meth "BadSigns" "__init__") rfl)
  obtain ⟨d30, D30⟩ := c.def_ 30 (d := dd30) rfl
  have F30 : Fun K "__init__" "TooMany.__init__" sTMany (He.ma K (He.ga K "TooMany") "__init__") d30 := fun_ofD D30
  have b30 : Binds K d30 ["self", "what", "many", "most"] [] := F30.binds fun _ _ _ _ _ _ us hl => match us, hl with | [_, _, _, _], _ => rfl
  have m30 : Meth K (He.ga K "TooMany") "__init__" (He.ma K (He.ga K "TooMany") "__init__") := He.meth_ok (c.fact 68 (f := .meth "TooMany" "__init__") rfl)
  obtain ⟨d31, D31⟩ := c.def_ 31 (d := dd31) rfl
  have F31 : Fun K "__init__" "BadSpot.__init__" sBadSpot (He.ma K (He.ga K "BadSpot") "__init__") d31 := fun_ofD D31
  have b31 : Binds K d31 ["self", "index"] [] := F31.binds fun _ _ _ _ _ _ us hl => match us, hl with | [_, _], _ => rfl
  have m31 : Meth K (He.ga K "BadSpot") "__init__" (He.ma K (He.ga K "BadSpot") "__init__") := He.meth_ok (c.fact 69 (f := .meth "BadSpot" "__init__") rfl)
  obtain ⟨d32, D32⟩ := c.def_ 32 (d := dd32) rfl
  have F32 : Fun K "__init__" "BadSign.__init__" sBadSign (He.ma K (He.ga K "BadSign") "__init__") d32 := fun_ofD D32
  have b32 : Binds K d32 ["self", "index"] [] := F32.binds fun _ _ _ _ _ _ us hl => match us, hl with | [_, _], _ => rfl
  have m32 : Meth K (He.ga K "BadSign") "__init__" (He.ma K (He.ga K "BadSign") "__init__") := He.meth_ok (c.fact 70 (f := .meth "BadSign" "__init__") rfl)
  obtain ⟨d33, D33⟩ := c.def_ 33 (d := dd33) rfl
  have F33 : Fun K "__init__" "OtherSigns.__init__" sOSg (He.ma K (He.ga K "OtherSigns") "__init__") d33 := fun_ofD D33
  have b33 : Binds K d33 ["self"] [] := F33.binds fun _ _ _ _ _ _ us hl => match us, hl with | [_], _ => rfl
  have m33 : Meth K (He.ga K "OtherSigns") "__init__" (He.ma K (He.ga K "OtherSigns") "__init__") := He.meth_ok (c.fact 71 (f := .meth "OtherSigns" "__init__") rfl)
  obtain ⟨d34, D34⟩ := c.def_ 34 (d := dd34) rfl
  have F34 : Fun K "__init__" "Phrase.__init__" sPhI (He.ma K (He.ga K "Phrase") "__init__") d34 := fun_ofD D34
  have b34 : Binds K d34 ["self", "signs", "spots"] [] := F34.binds fun _ _ _ _ _ _ us hl => match us, hl with | [_, _, _], _ => rfl
  have m34 : Meth K (He.ga K "Phrase") "__init__" (He.ma K (He.ga K "Phrase") "__init__") := He.meth_ok (c.fact 72 (f := .meth "Phrase" "__init__") rfl)
  obtain ⟨d35, D35⟩ := c.def_ 35 (d := dd35) rfl
  have F35 : Fun K "__eq__" "Phrase.__eq__" sPhE (He.ma K (He.ga K "Phrase") "__eq__") d35 := fun_ofD D35
  have b35 : Binds K d35 ["self", "other"] [] := F35.binds fun _ _ _ _ _ _ us hl => match us, hl with | [_, _], _ => rfl
  have m35 : Meth K (He.ga K "Phrase") "__eq__" (He.ma K (He.ga K "Phrase") "__eq__") := He.meth_ok (c.fact 73 (f := .meth "Phrase" "__eq__") rfl)
  obtain ⟨d36, D36⟩ := c.def_ 36 (d := dd36) rfl
  have F36 : Fun K "fits_row" "Phrase.fits_row" sFit (He.ma K (He.ga K "Phrase") "fits_row") d36 := fun_ofD D36
  have b36 : Binds K d36 ["self", "row"] [] := F36.binds fun _ _ _ _ _ _ us hl => match us, hl with | [_, _], _ => rfl
  have m36 : Meth K (He.ga K "Phrase") "fits_row" (He.ma K (He.ga K "Phrase") "fits_row") := He.meth_ok (c.fact 74 (f := .meth "Phrase" "fits_row") rfl)
  obtain ⟨d37, D37⟩ := c.def_ 37 (d := dd37) rfl
  have F37 : Fun K "overlaps_at" "Phrase.overlaps_at" sOver (He.ma K (He.ga K "Phrase") "overlaps_at") d37 := fun_ofD D37
  have b37 : Binds K d37 ["self", "other"] [] := F37.binds fun _ _ _ _ _ _ us hl => match us, hl with | [_, _], _ => rfl
  have m37 : Meth K (He.ga K "Phrase") "overlaps_at" (He.ma K (He.ga K "Phrase") "overlaps_at") := He.meth_ok (c.fact 75 (f := .meth "Phrase" "overlaps_at") rfl)
  have q_BadSigns_signs : PySem.W.findIn K (.ref (He.ga K "BadSigns")) "signs" = some none := He.noat_ok (c.fact 57 (f := .noat "BadSigns" "signs") rfl)
  have q_TooMany_what : PySem.W.findIn K (.ref (He.ga K "TooMany")) "what" = some none := He.noat_ok (c.fact 58 (f := .noat "TooMany" "what") rfl)
  have q_TooMany_many : PySem.W.findIn K (.ref (He.ga K "TooMany")) "many" = some none := He.noat_ok (c.fact 59 (f := .noat "TooMany" "many") rfl)
  have q_TooMany_most : PySem.W.findIn K (.ref (He.ga K "TooMany")) "most" = some none := He.noat_ok (c.fact 60 (f := .noat "TooMany" "most") rfl)
  have q_BadSpot_index : PySem.W.findIn K (.ref (He.ga K "BadSpot")) "index" = some none := He.noat_ok (c.fact 61 (f := .noat "BadSpot" "index") rfl)
  have q_BadSign_index : PySem.W.findIn K (.ref (He.ga K "BadSign")) "index" = some none := He.noat_ok (c.fact 62 (f := .noat "BadSign" "index") rfl)
  have q_Phrase_signs : PySem.W.findIn K (.ref (He.ga K "Phrase")) "signs" = some none := He.noat_ok (c.fact 63 (f := .noat "Phrase" "signs") rfl)
  have q_Phrase_spots : PySem.W.findIn K (.ref (He.ga K "Phrase")) "spots" = some none := He.noat_ok (c.fact 64 (f := .noat "Phrase" "spots") rfl)
  have q_Phrase_width : PySem.W.findIn K (.ref (He.ga K "Phrase")) "width" = some none := He.noat_ok (c.fact 65 (f := .noat "Phrase" "width") rfl)
  have q_Phrase_masks : PySem.W.findIn K (.ref (He.ga K "Phrase")) "masks" = some none := He.noat_ok (c.fact 66 (f := .noat "Phrase" "masks") rfl)
  have TP : TxP K (He.ga K "Phrase") := ⟨He.cls_ok (c.fact 55 (f := .cls "Phrase") rfl), q_Phrase_signs, q_Phrase_spots, q_Phrase_width, q_Phrase_masks⟩
  have TE : TxE K (He.ga K "Phrase") := ⟨He.eqO_ok x5, He.eqO_ok x6, of_decide_eq_true x7, of_decide_eq_true x8, of_decide_eq_true x9⟩
  have MK : Mk K (He.ga K "Phrase") (He.ma K (He.ga K "Phrase") "__init__") := He.mkr_ok (c.fact 56 (f := .mkr "Phrase") rfl)
  have ct_BadSigns : Ct K mg "BadSigns" (He.ga K "BadSigns") := ⟨(He.glo_ok KX G (c.fact 29 (f := .glo "BadSigns") rfl)), xfB_ok f0, He.exm_ok (c.fact 76 (f := .exm "BadSigns" "BadSigns" true) rfl)⟩
  have ct_TooMany : Ct K mg "TooMany" (He.ga K "TooMany") := ⟨(He.glo_ok KX G (c.fact 30 (f := .glo "TooMany") rfl)), xfB_ok f1, He.exm_ok (c.fact 77 (f := .exm "TooMany" "TooMany" true) rfl)⟩
  have ct_BadSpot : Ct K mg "BadSpot" (He.ga K "BadSpot") := ⟨(He.glo_ok KX G (c.fact 31 (f := .glo "BadSpot") rfl)), xfB_ok f2, He.exm_ok (c.fact 78 (f := .exm "BadSpot" "BadSpot" true) rfl)⟩
  have ct_BadSign : Ct K mg "BadSign" (He.ga K "BadSign") := ⟨(He.glo_ok KX G (c.fact 32 (f := .glo "BadSign") rfl)), xfB_ok f3, He.exm_ok (c.fact 79 (f := .exm "BadSign" "BadSign" true) rfl)⟩
  have ct_OtherSigns : Ct K mg "OtherSigns" (He.ga K "OtherSigns") := ⟨(He.glo_ok KX G (c.fact 33 (f := .glo "OtherSigns") rfl)), xfB_ok f4, He.exm_ok (c.fact 80 (f := .exm "OtherSigns" "OtherSigns" true) rfl)⟩
  have Ts : Cts K mg (He.ga K "BadSigns") (He.ga K "TooMany") (He.ga K "BadSpot") (He.ga K "BadSign") (He.ga K "OtherSigns") := ⟨ct_BadSigns, ct_TooMany, ct_BadSpot, ct_BadSign, ct_OtherSigns, q_BadSigns_signs, q_TooMany_what, q_TooMany_many, q_TooMany_most, q_BadSpot_index, q_BadSign_index, He.exm_ok (c.fact 81 (f := .exm "TooMany" "BadSigns" false) rfl), He.exm_ok (c.fact 82 (f := .exm "BadSpot" "BadSigns" false) rfl), He.exm_ok (c.fact 83 (f := .exm "BadSpot" "TooMany" false) rfl), He.exm_ok (c.fact 84 (f := .exm "BadSign" "BadSigns" false) rfl), He.exm_ok (c.fact 85 (f := .exm "BadSign" "TooMany" false) rfl), He.exm_ok (c.fact 86 (f := .exm "BadSign" "BadSpot" false) rfl), He.exm_ok (c.fact 87 (f := .exm "OtherSigns" "BadSigns" false) rfl), He.exm_ok (c.fact 88 (f := .exm "OtherSigns" "TooMany" false) rfl), He.exm_ok (c.fact 89 (f := .exm "OtherSigns" "BadSpot" false) rfl), He.exm_ok (c.fact 90 (f := .exm "OtherSigns" "BadSign" false) rfl)⟩
  have nT : PySem.W.findIn K (.ref (He.ga K "TooMany")) "what" = some none ∧ PySem.W.findIn K (.ref (He.ga K "TooMany")) "many" = some none ∧ PySem.W.findIn K (.ref (He.ga K "TooMany")) "most" = some none := ⟨q_TooMany_what, q_TooMany_many, q_TooMany_most⟩
  have el : fl = He.ga K "law" := by
    have e := hfl.symm.trans (He.glo_ok KX G (c.fact 28 (f := .glo "law") rfl))
    cases e
    rfl
  subst el
  refine ⟨d28, [He.cT K refD], spLaw K (TbK K), ?_, ?_, ?_, ?_, ?_, ?_⟩
  · intro p hp
    rw [List.mem_singleton.mp hp]
    exact hT _ (of_decide_eq_true x13)
  · intro p hp
    rw [List.mem_singleton.mp hp]
    exact isNone_of x15
  · intro p hp
    rw [List.mem_singleton.mp hp]
    exact PySem.W.codeHd_of_K KX x14
  · exact fun s u => FunD.bindsA (ps := ["_law_script"]) D28 (fun _ _ _ _ _ _ us hl => match us, hl with | [_], _ => rfl) s [u] rfl
  · intro H a ns hl hb hH hS
    refine ⟨a, ns, rfl, hS, fun p hp => ?_, fun _ => rfl⟩
    rw [List.mem_singleton.mp hp]
    exact LamX.TabS.nil (hH (He.cT K refD) List.mem_cons_self)
  · intro base KB GB TB
    have cWh : Cal CX0 l.prog w K mg base 1 "is_whole" spWhole := ⟨_, d0, _, ok_whole F0 B, (He.glo_ok KX G (c.fact 0 (f := .glo "is_whole") rfl)), F0.kp, b0⟩
    have cB : Cal CX0 l.prog w K mg base 2 "is_between" spBetween := ⟨_, d1, _, ok_between F1 cWh, (He.glo_ok KX G (c.fact 1 (f := .glo "is_between") rfl)), F1.kp, b1⟩
    have cTu : Cal CX0 l.prog w K mg base 1 "is_tuple_of" spTupOf := ⟨_, d3, _, ok_tupOf F3 B, (He.glo_ok KX G (c.fact 3 (f := .glo "is_tuple_of") rfl)), F3.kp, b3⟩
    have cIL : Cal CX0 l.prog w K mg base 1 "is_list" spIsL := ⟨_, d2, _, ok_isL F2 B, (He.glo_ok KX G (c.fact 2 (f := .glo "is_list") rfl)), F2.kp, b2⟩
    have cFR : Cal CX0 l.prog w K mg base 3 "first_wrong_range" (spFWR K) := ⟨_, d7, _, ok_fwr F7 B cTu cB, (He.glo_ok KX G (c.fact 7 (f := .glo "first_wrong_range") rfl)), F7.kp, b7⟩
    have cRg : Cal CX0 l.prog w K mg base 1 "ranges_of" spRngs := ⟨_, d8, _, ok_ranges F8, (He.glo_ok KX G (c.fact 8 (f := .glo "ranges_of") rfl)), F8.kp, b8⟩
    have cC1 : Cal CX0 l.prog w K mg base 1 "copied" spCopied := ⟨_, d5, _, ok_copied F5 B, (He.glo_ok KX G (c.fact 5 (f := .glo "copied") rfl)), F5.kp, b5⟩
    have cC : Cal CX0 l.prog w K mg base 2 "copied" spCopy2 := ⟨_, d5, _, ok_copy2 F5 B cC1, (He.glo_ok KX G (c.fact 5 (f := .glo "copied") rfl)), F5.kp, b5⟩
    have fz0 : Cal CX0 l.prog w K mg base 1 "frozen" (spFz In0 In0) := ⟨_, d6, _, ok_fz0 F6 B, (He.glo_ok KX G (c.fact 6 (f := .glo "frozen") rfl)), F6.kp, b6⟩
    have fz1 : Cal CX0 l.prog w K mg base 2 "frozen" (spFz (InS In0) (OutS In0)) := ⟨_, d6, _, ok_fzS stb0 stt0 F6 B fz0, (He.glo_ok KX G (c.fact 6 (f := .glo "frozen") rfl)), F6.kp, b6⟩
    have fz2 : Cal CX0 l.prog w K mg base 3 "frozen" (spFz (InS (InS In0)) (OutS (OutS In0))) := ⟨_, d6, _, ok_fzS (stbS stb0) (sttO stt0) F6 B fz1, (He.glo_ok KX G (c.fact 6 (f := .glo "frozen") rfl)), F6.kp, b6⟩
    have fz3 : Cal CX0 l.prog w K mg base 4 "frozen" (spFz (InS (InS (InS In0))) (OutS (OutS (OutS In0)))) := ⟨_, d6, _, ok_fzS (stbS (stbS stb0)) (sttO (sttO stt0)) F6 B fz2, (He.glo_ok KX G (c.fact 6 (f := .glo "frozen") rfl)), F6.kp, b6⟩
    have cAr : Cal CX0 l.prog w K mg base 4 "are_ranges" spAre := ⟨_, d12, _, ok_are F12 B cIL cFR, (He.glo_ok KX G (c.fact 12 (f := .glo "are_ranges") rfl)), F12.kp, b12⟩
    have cMk : Cal CX0 l.prog w K mg base 1 "mask_of" spMask := ⟨_, d13, _, ok_mask F13 hsum, (He.glo_ok KX G (c.fact 13 (f := .glo "mask_of") rfl)), F13.kp, b13⟩
    have xTooMany : Xc l.prog w K mg base 2 "TooMany" (He.ga K "TooMany") (spX3 K "what" "many" "most") := ⟨oexB_ok o1, (He.glo_ok KX G (c.fact 30 (f := .glo "TooMany") rfl)), _, d30, _, m30.at_, beq_iff_eq.mp m30.fn, ok_TMany F30 cC1, b30⟩
    have xBadSigns : Xc l.prog w K mg base 3 "BadSigns" (He.ga K "BadSigns") (spXO K "signs") := ⟨oexB_ok o0, (He.glo_ok KX G (c.fact 29 (f := .glo "BadSigns") rfl)), _, d29, _, m29.at_, beq_iff_eq.mp m29.fn, ok_badSigns F29 cC, b29⟩
    have xBadSpot : Xc l.prog w K mg base 3 "BadSpot" (He.ga K "BadSpot") (spXO K "index") := ⟨oexB_ok o2, (He.glo_ok KX G (c.fact 31 (f := .glo "BadSpot") rfl)), _, d31, _, m31.at_, beq_iff_eq.mp m31.fn, ok_badSpot F31 cC, b31⟩
    have xBadSign : Xc l.prog w K mg base 3 "BadSign" (He.ga K "BadSign") (spXO K "index") := ⟨oexB_ok o3, (He.glo_ok KX G (c.fact 32 (f := .glo "BadSign") rfl)), _, d32, _, m32.at_, beq_iff_eq.mp m32.fn, ok_badSign F32 cC, b32⟩
    have xOtherSigns : Xc l.prog w K mg base 1 "OtherSigns" (He.ga K "OtherSigns") spX0 := ⟨oexB_ok o4, (He.glo_ok KX G (c.fact 33 (f := .glo "OtherSigns") rfl)), _, d33, _, m33.at_, beq_iff_eq.mp m33.fn, ok_OSg F33, b33⟩
    have cK : Cal (L2.CX l.prog w) l.prog w K mg base 5 "check_size" (spChk (He.ga K "BadSigns") (He.ga K "TooMany")) := ⟨_, d10, _, ok_chk F10 B MM cB xBadSigns q_BadSigns_signs xTooMany nT, (He.glo_ok KX G (c.fact 10 (f := .glo "check_size") rfl)), F10.kp, b10⟩
    have mk : Mak (L2.CX l.prog w) l.prog w K mg base 6 "Phrase" (He.ga K "Phrase") (spPhI (He.ga K "Phrase") (He.ga K "BadSigns") (He.ga K "TooMany") (He.ga K "BadSpot")) := ⟨_, d34, _, MK, ok_phI F34 B TP cK cAr fz3 cMk xBadSpot q_BadSpot_index, (He.glo_ok KX G (c.fact 34 (f := .glo "Phrase") rfl)), b34⟩
    have cFS : Cal CX0 l.prog w K mg base 3 "first_wrong_sign" (spFws K) := ⟨_, d4, _, ok_fws F4 B cB, (He.glo_ok KX G (c.fact 4 (f := .glo "first_wrong_sign") rfl)), F4.kp, b4⟩
    have cPl : Cal (L2.CX l.prog w) l.prog w K mg base 8 "plain_phrase" (spPlain (He.ga K "Phrase") (He.ga K "TooMany") (He.ga K "BadSign")) := ⟨_, d9, _, ok_plain F9 cK cFS xBadSign q_BadSign_index mk, (He.glo_ok KX G (c.fact 9 (f := .glo "plain_phrase") rfl)), F9.kp, b9⟩
    have cCP : Cal (L2.CX l.prog w) l.prog w K mg base 3 "check_phrases" (spChP (He.ga K "Phrase") (He.ga K "OtherSigns")) := ⟨_, d11, _, ok_chP F11 hany TP xOtherSigns, (He.glo_ok KX G (c.fact 11 (f := .glo "check_phrases") rfl)), F11.kp, b11⟩
    have mF : Met CX0 l.prog w K mg base 3 (He.ga K "Phrase") "fits_row" (spFit (He.ga K "Phrase")) := ⟨_, d36, _, TP.cl, m36, ok_fit F36 B hall TP cB, b36⟩
    have mO : Met (L2.CX l.prog w) l.prog w K mg base 4 (He.ga K "Phrase") "overlaps_at" (spOver (He.ga K "Phrase") (He.ga K "OtherSigns")) := ⟨_, d37, _, TP.cl, m37, ok_over F37 B hall hzip TP cCP, b37⟩
    have cCl : Cal (L2.CX l.prog w) l.prog w K mg base 4 "classes_of" (spCls (He.ga K "Phrase") (He.ga K "OtherSigns")) := ⟨_, d14, _, ok_cls F14 B hsum TP cCP cRg, (He.glo_ok KX G (c.fact 14 (f := .glo "classes_of") rfl)), F14.kp, b14⟩
    have cPn : Cal CX0 l.prog w K mg base 1 "_law_pen" (spPen K) := ⟨_, d15, _, ok_pen F15 B, (He.glo_ok KX G (c.fact 15 (f := .glo "_law_pen") rfl)), F15.kp, b15⟩
    have cD : Cal CX0 l.prog w K mg base 1 "_law_draw" spDraw := ⟨_, d16, _, ok_draw F16 B, (He.glo_ok KX G (c.fact 16 (f := .glo "_law_draw") rfl)), F16.kp, b16⟩
    have cPk : Cal CX0 l.prog w K mg base 2 "_law_pick" spPick := ⟨_, d17, _, ok_pick F17 B cD, (He.glo_ok KX G (c.fact 17 (f := .glo "_law_pick") rfl)), F17.kp, b17⟩
    have cLR : Cal CX0 l.prog w K mg base 2 "_law_ranges" spLRg := ⟨_, d18, _, ok_lrg F18 B cD, (He.glo_ok KX G (c.fact 18 (f := .glo "_law_ranges") rfl)), F18.kp, b18⟩
    have cHs : Cal CX0 l.prog w K mg base 1 "_law_has" spHas := ⟨_, d19, _, ok_has F19 hany, (He.glo_ok KX G (c.fact 19 (f := .glo "_law_has") rfl)), F19.kp, b19⟩
    have cS : Cal CX0 l.prog w K mg base 3 "_law_spots" spLSp := ⟨_, d20, _, ok_lsp F20 B cD cLR, (He.glo_ok KX G (c.fact 20 (f := .glo "_law_spots") rfl)), F20.kp, b20⟩
    have cT : Cal CX0 l.prog w K mg base 2 "_law_stands" spStd := ⟨_, d21, _, ok_std F21 B hall cHs, (He.glo_ok KX G (c.fact 21 (f := .glo "_law_stands") rfl)), F21.kp, b21⟩
    have cBe : Cal CX0 l.prog w K mg base 3 "_law_beside" spBes := ⟨_, d22, _, ok_bes F22 B cD cPk, (He.glo_ok KX G (c.fact 22 (f := .glo "_law_beside") rfl)), F22.kp, b22⟩
    have cMe : Cal CX0 l.prog w K mg base 1 "_law_meet" spMeet := ⟨_, d23, _, ok_meet F23 hany, (He.glo_ok KX G (c.fact 23 (f := .glo "_law_meet") rfl)), F23.kp, b23⟩
    have cCR : Cal CX0 l.prog w K mg base 6 "_law_classes_right" (spCR (He.ga K "Phrase")) := ⟨_, d24, _, ok_cr F24 B hsorted TP cHs cCl, (He.glo_ok KX G (c.fact 24 (f := .glo "_law_classes_right") rfl)), F24.kp, b24⟩
    have cIS : Cal CX0 l.prog w K mg base 1 "_law_is_sign" spIsSg := ⟨_, d26, _, ok_isSg F26 B, (He.glo_ok KX G (c.fact 26 (f := .glo "_law_is_sign") rfl)), F26.kp, b26⟩
    have FE : FnOk l.prog w K mg base CX0 1 (He.ma K (He.ga K "Phrase") "__eq__") d35 ["self", "other"] (spEq (He.ga K "Phrase")) := ok_eq F35 B TP TE (He.glo_ok KX G (c.fact 34 (f := .glo "Phrase") rfl))
    have LF : FunL K base mg "_law_refusals_right" "_law_refusals_right" sRf (He.ga K "_law_refusals_right") (He.cT K refD).1 (He.cT K refD).2 d27 := funL_of (kq := refD) F27 (TB _ List.mem_cons_self)
    have hu : ∀ p ∈ TbK K, p.1 = (He.cT K refD).2 → p.2 = (("_law_refusals_right.<locals>.<lambda>" : String) : Str) := fun p hp e => by
      rw [List.mem_singleton.mp hp]
    have eN := He.eqO_ok x12
    have cRf : Cal CX0 l.prog w K mg base 12 "_law_refusals_right" (spRf (He.ga K "Phrase") (TbK K)) := ⟨_, d27, _, ok_rf ⟨LF, B, hrepr, TP, cD, cPk, cIS, mk, cPl, mO, cCl, FE, TE, eN, x10, m35.at_, m35.fn, b35, F25, b25, (He.glo_ok KX G (c.fact 25 (f := .glo "_law_caught") rfl)), Ts, List.mem_cons_self, hu⟩, (He.glo_ok KX G (c.fact 27 (f := .glo "_law_refusals_right") rfl)), F27.kp, b27⟩
    exact ok_law ⟨F28, B, hall, TP, TE, eN, x10, x11, FE, m35.at_, m35.fn, b35, cPn, cD, cPk, cS, mk, mF, cT, cMe, cBe, mO, cCR, cRf⟩
end K25
set_option Elab.async false
open PySem.W PySem PyProof.Rows in
set_option maxRecDepth 100001 in
set_option maxHeartbeats 0 in
theorem PySem.Challenge.cw_wordvault_k25_phrases_and_their_classes_holds : PySem.Challenge.rw_wordvault_k25_phrases_and_their_classes.Holds := by
  w_on; o_law
  k_head
  case hw => w_witness2
  k_fill
  refine LamX.walk_ofTs (l := PySem.Challenge.rw_wordvault_k25_phrases_and_their_classes) (n := 63) (k := 14) (x := "_law_script") (CX := fun _ => L2.CX0) rfl (by decide) rfl ⟨rfl, by decide, by decide⟩ (fun w h Y => PySem.W.km_in_of Y) ?F (fun _ _ _ _ _ z => z)
  case F =>
    intro w mg fa h Y KX G hmg
    refine K25.at_law KX G hmg ?c ?e (PySem.W.km_tabs_of Y)
    case c =>
      show He.obsD K25.faA K25.fnA _ = He.valD K25.fnA
      kernel_rfl
    case e => kernel_rfl
