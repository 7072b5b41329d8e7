import PyProof.Rows.All
import Wide.All
import OpenK.AllK
import Wide.FinOn
import KE.GoesEnum
import HandS.ForMost
import HandS.Walk
import HandS.ForExc
import HandS.ExcInit
import HandS.TryMany
import HandS.Lambda
import HandS.SortKw
import KE.KSortKey
import PyProof.Rows.SortStr
import PyProof.Rows.SortKeyStr
import HandS.Text
import KE.LtSeq
import KE.KRevSl
import PyProof.ListStr
import PyProof.StrOps2
import PyProof.SliceStr2
import PyProof.Rows.StrJoinStr
import HandS.DictComp
import HandS.NoneIn
import HandS.IsInst
import HandS.Conv
import HandS.Flow
import HandS.Deep
import HandS.Codes
import HandS.Wide
import HandS.TupAny
import HandS.EndTab
import HandS.ExcField
import HandS.Strs
import HandS.SortInts
import HandS.WideBits
import HandS.Zip
import HandS.HeadWalk
import PyProof.ReprRoads
import HandS.ExcIs
import HandS.TupMul
import HandS.Iter
import HandS.HeadHook4
import KE.KNestM
import PySem.Challenge.RW_wordvault_k50_whole_remainders
set_option Elab.async false
set_option maxRecDepth 100001
set_option maxHeartbeats 1999999
/-! enumerate over a tuple. -/
namespace PySem
theorem enumT_new {v : Value} {o : Obj} {G : Heap → Prop} (B : Begins v o G) : Meets (Builtin.«enumerate.__new__» ⟨[.type "enumerate", v], []⟩)
    (fun _ R z => G z.heap ∧ R (.ok (.ret (.ref (z.heap.push o).objs.size)))
      { z with heap := (z.heap.push o).push { cls := .type "enumerate", data := .fields #[.none, .bool false, .ref z.heap.objs.size, rawInt 0, .none, .none] } }) :=
  .of_wp fun P W A R z hz => by
    obtain ⟨hp, gs, dr, tk, os⟩ := z
    obtain ⟨g0, r0⟩ := hz
    have su := sub_enumerate
    have it0 : ∀ {A' : Around} {E : Value → Shared → Prop} {Q : Value → Shared → Prop}, Q (.ref hp.objs.size) ⟨hp.push o, gs, dr, tk, os⟩ → wpAny (model P W) A' (pyIter v) Q E ⟨hp, gs, dr, tk, os⟩ :=
      fun q => B.iter P W _ _ ⟨hp, gs, dr, tk, os⟩ _ g0 q
    wp_walk using it0
    refine wpAny_stack_any fun sk => wpAny_pure ?_
    split
    next c _ _ _ _ _ =>
      cases (c == Value.type "enumerate") <;> (wp_walk using it0; exact ⟨_, rfl, r0⟩)
    next => wp_walk using it0; exact ⟨_, rfl, r0⟩
theorem enumT_call {P : Program} {W : World} {A : Around} {E : Value → Shared → Prop} {z : Shared} {v : Value} {o : Obj} {G : Heap → Prop} {Q : Value → Shared → Prop} (B : Begins v o G) (g0 : G z.heap)
    (k : ∀ h2, IsEnum h2 (z.heap.objs.size + 1) z.heap.objs.size 0 .none → h2.get? z.heap.objs.size = some o → (∀ b u, z.heap.get? b = some u → h2.get? b = some u) → Q (.ref (z.heap.objs.size + 1)) { z with heap := h2 }) :
    wpAny (model P W) A (call (.type "enumerate") [v]) Q E z := by
  refine callType_new F.called_enumerate (by decide) (F.typeCall_enumerate_1 _) (F.newCall_enumerate_1 _) (fun ob => F.args_object_init_2 ob _) F.entry_enumerate_new (enumT_new B) ⟨g0, ?_⟩
  have sz : (z.heap.push o).objs.size = z.heap.objs.size + 1 := Heap.size_push ..
  show _ ∧ _
  rw [sz]
  have en : IsEnum ((z.heap.push o).push { cls := .type "enumerate", data := .fields #[.none, .bool false, .ref z.heap.objs.size, rawInt 0, .none, .none] }) (z.heap.objs.size + 1) z.heap.objs.size 0 .none := by
    have q := Heap.get?_push_size (z.heap.push o) (o := { cls := .type "enumerate", data := .fields #[.none, .bool false, .ref z.heap.objs.size, rawInt 0, .none, .none] }) rfl
    rw [sz] at q
    exact q
  exact ⟨⟨_, en, rfl⟩, k _ en (Heap.get?_push_of_some _ (Heap.get?_push_size _ B.free)) fun b u e => Heap.get?_push_of_some _ (Heap.get?_push_of_some _ e)⟩
end PySem
namespace L2
open PySem.Spec PySem PyProof.Rows
/-- the tuple at a, each item in a new pair behind its number -/
def ItEnT (K : PySem.W.Frag) (a : Addr) : It where
  go := fun i H => ∃ (xs : List V) (x : V), SqT K H a xs ∧ xs[i]? = some x
  yld := fun i H v H2 => ∃ p x, v = .ref p ∧ H p = none ∧ H2 = upd H p (.tup [.int (i : Nat), x]) ∧ ∀ xs, SqT K H a xs → xs[i]? = some x
  stop := fun i H => ∃ xs : List V, SqT K H a xs ∧ xs.length ≤ i
theorem two_of {b e d : Addr} (h : b ∈ [e, d]) : b = e ∨ b = d := by simpa using h
theorem turn_enT {P : Program} {W : World} {K : PySem.W.Frag} {es : List Expr} {kk : Nat} {tp : Pos} (a e d : Addr) :
    Turn P W K (.Tuple es kk tp) (ItEnT K a) [e, d] e (fun i h => (∃ was, IsEnum h e d ((i : Nat) : Int) was) ∧ h.IsTupleIter d a i ∧ e ≠ d) where
  mem := List.mem_cons_self
  obj := fun i h st b hb => by
    obtain ⟨⟨was, he⟩, ⟨o, ho, hc, hd⟩, _⟩ := st
    rcases two_of hb with rfl | rfl
    · exact ⟨_, he, fun _ q => nomatch q⟩
    · exact ⟨o, ho, fun _ q => by rw [hd] at q; cases q⟩
  keep := fun i h h2 st k => ⟨let ⟨was, he⟩ := st.1; ⟨was, k e (by simp) _ he⟩, st.2.1.at fun o q => k d (by simp) o q, st.2.2⟩
  item := by
    intro X hP hW hK hc i pins s σ H E I hf st hg
    subst hP hW hK
    obtain ⟨⟨was, he⟩, hit, hne⟩ := st
    obtain ⟨xs, x, hq, hx⟩ := hg
    obtain ⟨its, rv, p, hz⟩ := I.tuple hq
    obtain ⟨u, hu, ru⟩ := rv.get hx
    have le : e < s.heap.objs.size := Heap.lt_size he
    have ld : d < s.heap.objs.size := let ⟨_, q, _⟩ := hit; Heap.lt_size q
    have la : a < s.heap.objs.size := p.lt
    have had : a ≠ d := fun z => by
      obtain ⟨o1, h1, c1, _⟩ := hit
      obtain ⟨o2, h2, c2, _⟩ := p
      rw [z, h1] at h2
      have := Option.some.inj h2
      subst this
      rw [c1] at c2
      exact absurd c2 (by decide)
    have hae : a ≠ e := fun z => by
      obtain ⟨o2, h2, c2, _⟩ := p
      have h1 : s.heap.get? e = some _ := he
      rw [z, h1] at h2
      have := Option.some.inj h2
      subst this
      exact absurd (show Value.type "enumerate" = Value.type "tuple" from c2) (by decide)
    have hi : i < its.toArray.size := by
      have := (List.getElem?_eq_some_iff.mp hu).1
      simpa using this
    have D := Draws.tuple (prog := X.prog) (w := X.w) (A := X.A.in1) (I.ok.hd hc) d a had its.toArray
    refine wpAny_pyNext_enum_itemD (n := its.toArray.size) (i := i) D he ⟨hit, p⟩ hi hne (fun m => ?_) fun y h2 tk hy ho hs2 hT hsz hk => ?_
    · rcases two_of m with z | z
      · exact hne z
      · exact hae z.symm
    have ey : y = u := by
      have q : its.toArray[i]? = some u := by simpa using hu
      rw [hy] at q
      exact Option.some.inj q
    subst ey
    refine ⟨_, rfl, wpAny_letOwnedTupleGo_enum (s := { s with heap := h2, toks := tk + 1 }) ho fun h3 he3 sb => ?_⟩
    have hT3 : h3.get? s.heap.objs.size = some { cls := .type "tuple", data := .seq #[.int i tk, y] } := (sb.2 _ (Nat.ne_of_gt le)).trans hT
    have new : ObjOk X.prog X.w (upd H s.heap.objs.size (.tup [.int (i : Nat), x])) h3 s.heap.objs.size (.tup [.int (i : Nat), x]) :=
      ⟨by show 2 ≤ sizeLine; decide, [.int i tk, y], .cons ⟨_, rfl⟩ (.cons ru .nil), ⟨_, hT3, rfl, _, rfl⟩⟩
    have J : Inv X pins σ (upd H s.heap.objs.size (.tup [.int (i : Nat), x])) { s with heap := h3, toks := tk + 1 } :=
      I.turnedNew (ch := [e, d]) (fun b o hb q => (sb.2 b fun z => hb (by simp [z])).trans (hk b o (fun z => hb (by simp [z])) (fun z => hb (by simp [z])) q)) hf (Nat.le_refl _) new
    refine ⟨.ref s.heap.objs.size, _, J, rfl, ⟨_, x, rfl, I.hok.fresh (Nat.le_refl _), rfl, fun ys hy2 => by rw [I.tuple_inj hy2 hq]; exact hx⟩, ⟨⟨y, ?_⟩, hs2.1.at fun o q => (sb.2 d (Ne.symm hne)).trans q, hne⟩, fun b hb => ?_⟩
    · have e1 : ((i + 1 : Nat) : Int) = (i : Int) + 1 := by omega
      rw [e1]
      exact he3
    · have lb : b < s.heap.objs.size := by
        rcases two_of hb with z | z
        · rw [z]; exact le
        · rw [z]; exact ld
      rw [upd_ne (Nat.ne_of_lt lb)]
      exact (hf b hb).1
  done := by
    intro X hP hW hK hc i pins s σ H E I hf st hg
    subst hP hW hK
    obtain ⟨⟨was, he⟩, hit, hne⟩ := st
    obtain ⟨xs, hq, hx⟩ := hg
    obtain ⟨its, rv, p, hz⟩ := I.tuple hq
    obtain ⟨f0, f1, f2, f3, f4, f5⟩ := hf d (by simp)
    have hl := rv.length
    unfold pyNext
    refine wpAny_bind (wpAny_attempt (wpAny_callSpecial?_slot (name := Str.ofString "__next__") ⟨_, he, rfl⟩ F.slot_enumerate_next
      (wpAny_call_entry F.slot_enumerate_next ⟨_, he, rfl⟩ F.entry_enumerate_next ?_ (F.args_enumerate_next_1 _))))
    show wpAny _ _ (field (.ref e) 2 >>= _) _ _ _
    refine wpAny_bind (wpAny_field he rfl (x := .ref d) rfl ?_)
    refine wpAny_bind (wpAny_nextOf_tuple_end (I.ok.hd hc) hit p (by simp; omega) fun h2 x eb hx2 => ?_)
    obtain ⟨o, ho, hcl⟩ := hx2
    refine wpAny_bind (wpAny_isInstance (T := "StopIteration") (b := true) ⟨o, ho, hcl⟩ isSubtype_stop ?_)
    exact wpAny_pure ⟨rfl, I.turned (t' := s.toks) (fun b o hb q => eb b o hb q) f0 f1 f3 f4 f5⟩
  self := fun A i s Q E st h => let ⟨⟨_, he⟩, _⟩ := st; wpAny_pyIter_enum he h
def iEnT (K : PySem.W.Frag) (ta : TA) : TI := fun σ H R => ta σ H fun vs H1 => ∃ a xs, vs = [.ref a] ∧ SqT K H1 a xs ∧ R (ItEnT K a) H1
theorem pi_enT {X : Cx} {e : Expr} {ta : TA} {p pos tp : Pos} {es : List Expr} {kk : Nat} (hg : Gl X "enumerate") (hm : X.mg "enumerate" = none) (ha : PA X [e] ta) (hs : starEach [e] X.env = [(false, eval e X.env)] := by rfl) :
    PI X (.Tuple es kk tp) (.Call (.Name "enumerate" p) [e] [] pos) (iEnT X.K ta) := by
  constructor
  intro pins s σ H R I h
  refine Call_ (ld_blt I hg hm boot_enumerate (PyProof.Rows.callWith_type1 (thn (ha.run pos pins s σ H _ I h) fun us s1 hh => ?_) hs rfl))
  obtain ⟨vs, H1, I1, r1, a, xs, ex, hq, q⟩ := hh
  subst ex
  cases r1 with
  | cons r rr =>
    cases rr
    cases r
    obtain ⟨its, rv, p2, hz⟩ := I1.tuple hq
    refine enumT_call (begins_tuple a its.toArray) p2 fun h2 he hd hk => wpAny_pyIter_enum he ?_
    have I2 : Inv X pins σ H1 { s1 with heap := h2 } := I1.kept (t' := s1.toks) hk
    refine ⟨s1.heap.objs.size + 1, [s1.heap.objs.size + 1, s1.heap.objs.size], _, _, H1, rfl, I2, turn_enT a (s1.heap.objs.size + 1) s1.heap.objs.size, ⟨⟨.none, he⟩, ⟨_, hd, rfl, rfl⟩, Nat.succ_ne_self _⟩, fun b hb => ?_, q⟩
    have ge : s1.heap.objs.size ≤ b := by
      rcases two_of hb with z | z
      · rw [z]; exact Nat.le_add_right _ _
      · rw [z]; exact Nat.le_refl _
    exact I1.fpOk ge (I1.hok.fresh ge)
theorem walk_enT {K : PySem.W.Frag} {a : Addr} {xs : List V} : Walk (ItEnT K a) xs.length (fun H => SqT K H a xs) (YPair (fun i => some (.int (i : Nat))) (fun i => xs[i]?)) where
  goes := fun i _ hi q => ⟨xs, xs[i], q, by simp [hi]⟩
  stops := fun _ q => ⟨xs, q, Nat.le_refl _⟩
  yields := fun i H v H2 _ q y => let ⟨p, x, h1, h2, h3, h4⟩ := y; ⟨p, .int (i : Nat), x, h1, h2, h3, rfl, h4 xs q⟩
end L2
set_option Elab.async false
set_option linter.all false
set_option maxRecDepth 100001
set_option maxHeartbeats 1999999
/-! enumerate over a text. -/
namespace L2
open PySem.Spec PySem PyProof.Rows
def ItEnS (x : Str) : It where
  go := fun i _ => i < x.cps.size
  yld := fun i H v H2 => ∃ p c, v = .ref p ∧ H p = none ∧ H2 = upd H p (.tup [.int (i : Nat), .str ⟨#[c]⟩]) ∧ x.cps[i]? = some c
  stop := fun i _ => x.cps.size ≤ i
theorem strIter_at {h h' : Heap} {a : Addr} {ty : String} {x : Str} {t : Tok} {i : Nat} (y : h.IsStrIter a ty x t i) (k : ∀ o, h.get? a = some o → h'.get? a = some o) : h'.IsStrIter a ty x t i := let ⟨o, ho, r⟩ := y; ⟨o, k o ho, r⟩
theorem text_end {prog : Program} {w : World} {A : Around} {E : Value → Shared → Prop} {s : Shared} {it : Addr} {x : Str} {t : Tok} {i : Nat} {Q : Value → Shared → Prop} (hh : A.handled = none) (hit : s.heap.IsStrIter it (strIterType x) x t i) (hx : x.cps[i]? = none)
    (hE : ∀ h' e, Heap.ExtBut it s.heap h' → (∃ o, h'.get? e = some o ∧ o.cls = .type "StopIteration") → E (.ref e) { s with heap := h' }) : wpAny (model prog w) A (Builtin.SmallTypes.nextOf (.ref it)) Q E s := by
  cases ha : x.cps.all (· < 128)
  · simp only [strIterType, ha, Bool.false_eq_true, if_false] at hit
    exact wpAny_nextOf_wide_end hh hit hx hE
  · simp only [strIterType, ha, if_true] at hit
    exact wpAny_nextOf_ascii_end hh hit hx hE
theorem turn_enS {P : Program} {W : World} {K : PySem.W.Frag} {es : List Expr} {kk : Nat} {tp : Pos} (x : Str) (t : Tok) (e d : Addr) :
    Turn P W K (.Tuple es kk tp) (ItEnS x) [e, d] e (fun i h => (∃ was, IsEnum h e d ((i : Nat) : Int) was) ∧ h.IsStrIter d (strIterType x) x t i ∧ e ≠ d) where
  mem := List.mem_cons_self
  obj := fun i h st b hb => by
    obtain ⟨⟨was, he⟩, ⟨o, ho, hc, hd⟩, _⟩ := st
    rcases two_of hb with rfl | rfl
    · exact ⟨_, he, fun _ q => nomatch q⟩
    · exact ⟨o, ho, fun _ q => by rw [hd] at q; cases q⟩
  keep := fun i h h2 st k => ⟨let ⟨was, he⟩ := st.1; ⟨was, k e (by simp) _ he⟩, strIter_at st.2.1 fun o q => k d (by simp) o q, st.2.2⟩
  item := by
    intro X hP hW hK hc i pins s σ H E I hf st hg
    subst hP hW hK
    obtain ⟨⟨was, he⟩, hit, hne⟩ := st
    have hi : i < x.cps.size := hg
    have le : e < s.heap.objs.size := Heap.lt_size he
    have ld : d < s.heap.objs.size := let ⟨_, q, _⟩ := hit; Heap.lt_size q
    have D := Draws.text (prog := X.prog) (w := X.w) (A := X.A.in1) (I.ok.hd hc) d x t
    refine wpAny_pyNext_enum_itemD (n := x.cps.size) (i := i) D he hit hi hne (fun m => ?_) fun y h2 tk hy ho hs2 hT hsz hk => ?_
    · exact hne (by simpa using m)
    obtain ⟨c, u, hcx, rfl⟩ := hy
    refine ⟨_, rfl, wpAny_letOwnedTupleGo_enum (s := { s with heap := h2, toks := tk + 1 }) ho fun h3 he3 sb => ?_⟩
    have hT3 : h3.get? s.heap.objs.size = some { cls := .type "tuple", data := .seq #[.int i tk, .str ⟨#[c]⟩ u] } := (sb.2 _ (Nat.ne_of_gt le)).trans hT
    have new : ObjOk X.prog X.w (upd H s.heap.objs.size (.tup [.int (i : Nat), .str ⟨#[c]⟩])) h3 s.heap.objs.size (.tup [.int (i : Nat), .str ⟨#[c]⟩]) :=
      ⟨by show 2 ≤ sizeLine; decide, [.int i tk, .str ⟨#[c]⟩ u], .cons ⟨_, rfl⟩ (.cons ⟨_, rfl⟩ .nil), ⟨_, hT3, rfl, _, rfl⟩⟩
    have J : Inv X pins σ (upd H s.heap.objs.size (.tup [.int (i : Nat), .str ⟨#[c]⟩])) { s with heap := h3, toks := tk + 1 } :=
      I.turnedNew (ch := [e, d]) (fun b o hb q => (sb.2 b fun z => hb (by simp [z])).trans (hk b o (fun z => hb (by simp [z])) (fun z => hb (by simp [z])) q)) hf (Nat.le_refl _) new
    refine ⟨.ref s.heap.objs.size, _, J, rfl, ⟨_, c, rfl, I.hok.fresh (Nat.le_refl _), rfl, hcx⟩, ⟨⟨.str ⟨#[c]⟩ u, ?_⟩, strIter_at hs2 fun o q => (sb.2 d (Ne.symm hne)).trans q, hne⟩, fun b hb => ?_⟩
    · have e1 : ((i + 1 : Nat) : Int) = (i : Int) + 1 := by omega
      rw [e1]
      exact he3
    · have lb : b < s.heap.objs.size := by
        rcases two_of hb with z | z
        · rw [z]; exact le
        · rw [z]; exact ld
      rw [upd_ne (Nat.ne_of_lt lb)]
      exact (hf b hb).1
  done := by
    intro X hP hW hK hc i pins s σ H E I hf st hg
    subst hP hW hK
    obtain ⟨⟨was, he⟩, hit, hne⟩ := st
    have hx : x.cps.size ≤ i := hg
    obtain ⟨f0, f1, f2, f3, f4, f5⟩ := hf d (by simp)
    unfold pyNext
    refine wpAny_bind (wpAny_attempt (wpAny_callSpecial?_slot (name := Str.ofString "__next__") ⟨_, he, rfl⟩ F.slot_enumerate_next
      (wpAny_call_entry F.slot_enumerate_next ⟨_, he, rfl⟩ F.entry_enumerate_next ?_ (F.args_enumerate_next_1 _))))
    show wpAny _ _ (field (.ref e) 2 >>= _) _ _ _
    refine wpAny_bind (wpAny_field he rfl (x := .ref d) rfl ?_)
    have none : x.cps[i]? = none := by simp [hx]
    refine wpAny_bind (text_end (I.ok.hd hc) hit none fun h2 ex eb hx2 => ?_)
    obtain ⟨o, ho, hcl⟩ := hx2
    refine wpAny_bind (wpAny_isInstance (T := "StopIteration") (b := true) ⟨o, ho, hcl⟩ isSubtype_stop ?_)
    exact wpAny_pure ⟨rfl, I.turned (t' := s.toks) (fun b o hb q => eb b o hb q) f0 f1 f3 f4 f5⟩
  self := fun A i s Q E st h => let ⟨⟨_, he⟩, _⟩ := st; wpAny_pyIter_enum he h
def iEnS (ta : TA) : TI := fun σ H R => ta σ H fun vs H1 => ∃ x, vs = [.str x] ∧ R (ItEnS x) H1
theorem pi_enS {X : Cx} {e : Expr} {ta : TA} {p pos tp : Pos} {es : List Expr} {kk : Nat} (hg : Gl X "enumerate") (hm : X.mg "enumerate" = none) (ha : PA X [e] ta) (hs : starEach [e] X.env = [(false, eval e X.env)] := by rfl) :
    PI X (.Tuple es kk tp) (.Call (.Name "enumerate" p) [e] [] pos) (iEnS ta) := by
  constructor
  intro pins s σ H R I h
  refine Call_ (ld_blt I hg hm boot_enumerate (PyProof.Rows.callWith_type1 (thn (ha.run pos pins s σ H _ I h) fun us s1 hh => ?_) hs rfl))
  obtain ⟨vs, H1, I1, r1, x, ex, q⟩ := hh
  subst ex
  cases r1 with
  | cons r rr =>
    cases rr
    obtain ⟨t, rfl⟩ := r
    refine enumT_call (begins_text x t) trivial fun h2 he hd hk => wpAny_pyIter_enum he ?_
    have I2 : Inv X pins σ H1 { s1 with heap := h2 } := I1.kept (t' := s1.toks) hk
    refine ⟨s1.heap.objs.size + 1, [s1.heap.objs.size + 1, s1.heap.objs.size], _, _, H1, rfl, I2, turn_enS x t (s1.heap.objs.size + 1) s1.heap.objs.size, ⟨⟨.none, he⟩, ⟨_, hd, rfl, rfl⟩, Nat.succ_ne_self _⟩, fun b hb => ?_, q⟩
    have ge : s1.heap.objs.size ≤ b := by
      rcases two_of hb with z | z
      · rw [z]; exact Nat.le_add_right _ _
      · rw [z]; exact Nat.le_refl _
    exact I1.fpOk ge (I1.hok.fresh ge)
theorem walk_enS {x : Str} : Walk (ItEnS x) x.cps.size (fun _ => True) (YPair (fun i => some (.int (i : Nat))) (fun i => (x.cps[i]?).map fun c => V.str ⟨#[c]⟩)) where
  goes := fun i _ hi _ => hi
  stops := fun _ _ => Nat.le_refl _
  yields := fun i H v H2 _ _ y => let ⟨p, c, h1, h2, h3, h4⟩ := y; ⟨p, .int (i : Nat), .str ⟨#[c]⟩, h1, h2, h3, rfl, by show Option.map _ _ = _; rw [h4]; rfl⟩
end L2
set_option Elab.async false
set_option maxRecDepth 100001
set_option maxHeartbeats 3999999
/-! raise C(), C an own class whose own __init__ stores nothing. -/
namespace L2
open PySem.Spec PySem PyProof.Rows
section
variable {X : Cx}
theorem mk_bare {pins : List (Addr × Obj)} {σ : St} {H1 H2 : Hp} {Q : XK} {hp hp2 h2 : Heap} {g1 g2 : Array GenState} {d1 d2 : Drawn} {t1 t2 : Nat} {o1 o2 : OsState} {a C : Addr} (T : Raises X (.ref C))
    (I1 : Inv X pins σ H1 ⟨hp, g1, d1, t1, o1⟩) (big : hp.objs.size ≤ a) (k : ∀ b o, hp.get? b = some o → hp2.get? b = some o) (un : Un (frs X.stack) [] (upd H1 a (exo a C none)) H2 hp2 h2)
    (hok : HOk X.prog X.w H2 h2) (ho : o2 = o1) (hb : AllBare g2) (ea : H2 a = some (exo a C none)) (q : Q (.ref C) none (del H2 a)) : MkP X pins σ Q (.ref a) ⟨h2, g2, d2, t2, o2⟩ := by
  obtain ⟨t0, he⟩ := exo_at hok ea
  have na : H1 a = none := I1.hok.fresh big
  obtain ⟨G, gyes, gno⟩ := restrict h2 fun b => decide (b ≠ a)
  have gk : ∀ b, b ≠ a → G.get? b = h2.get? b := fun b z => gyes b (decide_eq_true z)
  have ga : G.get? a = none := gno a (by simp)
  have ne : ∀ {b : Addr} {o : Obj}, hp.get? b = some o → b ≠ a := fun z => Nat.ne_of_lt (Nat.lt_of_lt_of_le (Heap.lt_size z) big)
  have free : ∀ {b : Addr}, b ≠ a → H1 b = none → upd H1 a (exo a C none) b = none := fun z n => (upd_ne z).trans n
  have U : Un (frs X.stack) [] H1 (del H2 a) hp G := {
    keep := fun b o z n hf hx => (gk b (ne z)).trans (un.keep b o (k b o z) (free (ne z) n) hf hx)
    slot := fun b o z n hf hx => let ⟨sl, e⟩ := un.slot b o (k b o z) (free (ne z) n) hf hx; ⟨sl, (gk b (ne z)).trans e⟩
    free := fun b o z n hx => (del_ne (ne z)).trans (un.free b o (k b o z) (free (ne z) n) hx)
    there := fun b o z hx => let ⟨o', e⟩ := un.there b o (k b o z) hx; ⟨o', (gk b (ne z)).trans e⟩
    tups := fun b xs z => (del_ne (ne_of_none z na)).trans (un.tups b xs ((upd_ne (ne_of_none z na)).trans z))
    frzs := fun b o v z => (del_ne (ne_of_none z na)).trans (un.frzs b o v ((upd_ne (ne_of_none z na)).trans z))
    tbls := fun b ps z => let ⟨m, e⟩ := un.tbls b ps ((upd_ne (ne_of_none z na)).trans z); ⟨m, (del_ne (ne_of_none z na)).trans e⟩ }
  have hG : HOk X.prog X.w (del H2 a) G := fun b o z => by
    have hba : b ≠ a := fun e => by
      rw [e, del_same] at z
      cases z
    rw [del_ne hba] at z
    have own : ∀ {c : Addr}, H2 c = some (.own b) → c ≠ a := fun hc => at_ne ea hc exo_own
    refine (hok b o z).stay (fun c v hc y => ?_) (fun c hc => (del_ne (own hc)).trans hc) fun c xs hc => (del_ne (at_ne ea hc exo_tup)).trans hc
    refine (gk c ?_).trans y
    rcases hc with rfl | hc
    · exact hba
    · exact own hc
  have J : Inv X pins σ (del H2 a) ⟨G, g2, d2, t2, o2⟩ := I1.call' (ch := []) ho U hG hb fun b z => absurd z (by simp)
  refine ⟨a, _, _, ⟨G, g2, d2, t2, o2⟩, _, .ref C, none, rfl, J, fun b o z => ?_, ga, he, ⟨rfl, rfl⟩, rfl, rfl, del_same, rfl, hb, T, q⟩
  have hba : b ≠ a := fun e => by
    rw [e] at z
    have z' : G.get? a = some o := z
    rw [ga] at z'
    cases z'
  exact (gk b hba).symm.trans z
/-- C(): what its __init__ keeps, at the fresh exception -/
def tMkO0 (C : Addr) (sp : Sp) : St → Hp → XK → Prop := fun _ H Q => ∀ a, H a = none → sp [.ref a] (upd H a (exo a C none)) (fun v H2 => v = .non ∧ H2 a = some (exo a C none) ∧ Q (.ref C) none (del H2 a)) (fun _ _ _ => False)
theorem pmk_oex0 {CX : CXT} {x : Str} {p pos : Pos} {C fI : Addr} {k : Nat} {fd : FuncData} {ps : List Str} {sp : Sp} (T : OexC X.K C) (iC : PySem.W.findIn X.K (.ref C) "__init__" = some (some (.ref fI))) (tI : PySem.W.typeIn X.K (.ref fI) = some (.type "function"))
    (F1 : FnOk X.prog X.w X.K X.mg X.base CX k fI fd ps sp) (hr : Room (k + 1) X.A) (hb : Binds X.K fd ps []) (hx : Passes CX X (fun _ _ _ => False)) (hg : Gl X x) (hm : X.mg x = some (.ref C)) (hdb : (x == ("__debug__" : Str)) = false := by decide) :
    PMk X (.Call (.Name x p) [] [] pos) (tMkO0 C sp) := by
  intro pins s σ H Q I h
  obtain ⟨nm, qn, N, bs, bm, sn, sb, ab, col, dd, j0, j1, j2, j3, j5, hC, hbm⟩ := T.cls
  refine wpAny_Call_Name_kw (ld_glob I hg hm ?_ hdb)
  refine PySem.W.callWith_K0 I.kIn T.kC ?_
  show wpAny _ _ (call (.ref C) []) _ _ _
  obtain ⟨hp, g, dr, tk, os⟩ := s
  have big : hp.objs.size ≤ hp.objs.size + 1 := Nat.le_succ _
  have hn : H (hp.objs.size + 1) = none := I.hok.fresh big
  have hq := h (hp.objs.size + 1) hn
  have kk : ∀ b o, hp.get? b = some o → ((hp.push (PySem.W.kdv_tup [])).push (PySem.HandSPX.excO C hp.objs.size)).get? b = some o := fun b o e => Heap.get?_push_of_some _ (Heap.get?_push_of_some _ e)
  have hget : ((hp.push (PySem.W.kdv_tup [])).push (PySem.HandSPX.excO C hp.objs.size)).get? (hp.objs.size + 1) = some (PySem.HandSPX.excO C hp.objs.size) := by heap_get
  have I2 : Inv X pins σ (upd H (hp.objs.size + 1) (exo (hp.objs.size + 1) C none)) ⟨(hp.push (PySem.W.kdv_tup [])).push (PySem.HandSPX.excO C hp.objs.size), g, dr, tk, os⟩ := I.laid (t' := tk) kk big (exo_ok hget)
  have r2 : Vals [V.ref (hp.objs.size + 1)] [Value.ref (hp.objs.size + 1)] := .cons rfl .nil
  have hl : ([Value.ref (hp.objs.size + 1)] ++ ([] : List Value)).length = ps.length := (F1.len _ _ _ _ hq)
  refine wpAny_call (PySem.HandSPX.call_own F.excBase_ValueError (fun Y => PySem.HandSPX.refsVE_contains Y bm hbm) (I.kIn _ _ hC) (PySem.W.looks_findIn I.kIn iC) (fun self => PySem.W.bind_fn I.kIn self tI) (by show 0 ≤ sizeLine; exact Nat.zero_le _)
    (codeAny_mono (F1.run _ X.stack _ _ ⟨[Value.ref (hp.objs.size + 1)], []⟩ [Value.ref (hp.objs.size + 1)] _ _ (fun _ _ _ => False) (hr.make C [] []) (I2.env0.make C [] []) (hb _ [Value.ref (hp.objs.size + 1)] I2.kIn hl) r2 hq) fun r s2 hq2 => ?_))
  cases r with
  | error er => exact hx pins σ _ _ er s2 I2 hq2
  | ok fl =>
    cases fl with
    | ret u =>
      obtain ⟨v, H2, os2, bare2, un2, hok2, rv, ev, ea, q2⟩ := hq2
      subst ev
      obtain ⟨h2, g2, d2, t2, o2⟩ := s2
      exact ⟨rv, mk_bare (raises_own T.exC T.tyC) I big kk un2 hok2 os2 bare2 ea q2⟩
    | next => exact hq2.elim
    | brk => exact hq2.elim
    | cont => exact hq2.elim
end
end L2
set_option Elab.async false
set_option maxRecDepth 100001
set_option maxHeartbeats 3999999
/-! try with several clauses, some of which name the exception. -/
namespace L2
open PySem.Spec PySem PyProof.Rows
/-- a clause: its class, the slot of its name, its suite's reading -/
abbrev Clause := Value × Option Nat × (Addr → Value → Option Addr → TS)
def endsOf : Option Nat → Ends → Ends
  | none, D => D
  | some i, D => ⟨fun σ H => D.nx (σ.set i none) H, D.rt, fun σ H => D.bk (σ.set i none) H, fun σ H => D.ct (σ.set i none) H⟩
def slotOf : Option Nat → Addr → St → St
  | none, _, σ => σ
  | some i, a, σ => σ.set i (some (.ref a))
def wClauses (K : PySem.W.Frag) (Wout : WX) (D : Ends) : List Clause → WX
  | [], cls, d, σ, H => Wout cls d σ H
  | (c, i, ts) :: r, cls, d, σ, H => ∃ b, PySem.W.exmOne K cls c = some b ∧ (b = true → ∀ a, H a = none → ts a cls d (endsOf i D) (slotOf i a σ) H) ∧ (b = false → wClauses K Wout D r cls d σ H)
def SuiteOk (X : Cx) (sts : List Stmt) (ts : Addr → Value → Option Addr → TS) : Prop :=
  ∀ (a : Addr) (oe : Obj) (cls : Value) (d : Option Addr) (pn : List (Addr × Obj)), Zc cls d oe → (∃ vs, oe.data = .fields vs) → PSs (X.suite a ((a, oe) :: pn)) sts (ts a cls d)
inductive ClausesOk (X : Cx) : List ExceptHandler → List Clause → Prop
  | nil : ClausesOk X [] []
  | plain {x c ts b₀ su np p2 hds l} (hc : Names X x c) (ok : SuiteOk X (b₀ :: su) ts) (r : ClausesOk X hds l) : ClausesOk X (.ExceptHandler (some (.Name x np)) none (b₀ :: su) p2 :: hds) ((c, none, ts) :: l)
  | named {x c ts b₀ su np p2 hds l n i} (hc : Names X x c) (hi : X.N[i]? = some n) (hn : X.env.kindOf n = some .local) (ok : SuiteOk X (b₀ :: su) ts) (r : ClausesOk X hds l) :
      ClausesOk X (.ExceptHandler (some (.Name x np)) (some n) (b₀ :: su) p2 :: hds) ((c, some i, ts) :: l)
section
variable {X : Cx} {pins : List (Addr × Obj)} {σ : St} {H : Hp} {z sI : Shared} {a : Addr} {cls : Value} {d : Option Addr} {B h : Heap} {D : Ends}
/-- an exception that has come to its try: what is known there -/
structure Come (X : Cx) (pins : List (Addr × Obj)) (σ : St) (H : Hp) (sI z : Shared) (a : Addr) (cls : Value) (d : Option Addr) (B h : Heap) : Prop where
  hs : X.stack = X.env :: X.outer
  hf : X.env.frame = some X.env.locals
  J : Inv X pins σ H sI
  nb : ∀ b o, sI.heap.get? b = some o → b ∉ frs X.stack → B.get? b = some o
  fl : HandSPX.FlyingZ B (X.env :: X.outer) a (Zc cls d) h
  up : sI.heap.UpToSlots h
  na : H a = none
  os : z.os = sI.os
  ag : AllBare z.gens
theorem Come.inv (C : Come X pins σ H sI z a cls d B h) : Inv X pins σ H { z with heap := h } := C.J.landed C.nb C.fl.1 C.up C.os C.ag
theorem Come.apart (C : Come X pins σ H sI z a cls d B h) : a ≠ X.env.locals ∧ a ∉ X.fs := by
  obtain ⟨oe, vs, he, _, hd⟩ := C.fl.there
  have no : a ∉ frs (X.env :: X.outer) := fun m => by
    obtain ⟨_, o, e, q⟩ := C.fl.2.2.1.mem m
    rw [he] at e
    cases e
    exact q _ hd
  refine ⟨fun e => no (List.mem_filterMap.mpr ⟨X.env, List.mem_cons_self, by rw [C.hf, e]⟩), fun m => ?_⟩
  obtain ⟨e, he, q⟩ := List.mem_filterMap.mp m
  exact no (List.mem_filterMap.mpr ⟨e, List.mem_cons_of_mem _ he, q⟩)
theorem Come.suite (C : Come X pins σ H sI z a cls d B h) : ∃ oe, Zc cls d oe ∧ (∃ vs, oe.data = .fields vs) ∧ h.get? a = some oe ∧ Inv (X.suite a ((a, oe) :: (X.pn ++ pins))) [] σ H { z with heap := h } := by
  obtain ⟨oe, vs, he, hz, hd⟩ := C.fl.there
  exact ⟨oe, hz, ⟨vs, hd⟩, he, C.inv.suite he hd C.na C.apart.1 C.apart.2⟩
theorem Come.step (C : Come X pins σ H sI z a cls d B h) {h2 : Heap} (fl : HandSPX.FlyingZ B (X.env :: X.outer) a (Zc cls d) h2) (up : h.UpToSlots h2) : Come X pins σ H sI z a cls d B h2 :=
  ⟨C.hs, C.hf, C.J, C.nb, fl, C.up.trans up, C.na, C.os, C.ag⟩
/-- the class of a clause is looked at -/
theorem Come.test (C : Come X pins σ H sI z a cls d B h) {x : Str} {c : Value} {np : Pos} {b : Bool} (hc : Names X x c) (hb : PySem.W.exmOne X.K cls c = some b) {Q : Bool → Shared → Prop} {E E2 : Value → Shared → Prop} (q : Q b { z with heap := h }) :
    wpAny (model X.prog X.w) (X.A.mark (some (.ref a))) (eval (.Name x np) X.env) (fun u s1 => wpAny (model X.prog X.w) (X.A.mark (some (.ref a))) (excMatches (.ref a) u) Q E2 s1) E { z with heap := h } := by
  obtain ⟨oe, hz, _, he, S⟩ := C.suite
  have LT : PySem.W.Looks (model X.prog X.w) h (typeOf (.ref a)) cls := fun _ _ _ _ k q2 => wpAny_typeOf_ref (k _ _ he) (by rw [hz.1]; exact q2)
  have LM := (PySem.W.exm_one (M := model X.prog X.w) C.inv.kIn LT hb).here (A := X.A.mark (some (.ref a))) (Q := Q) (E := E2) (s := { z with heap := h }) q
  obtain ⟨hg, hdb, hm | ⟨hm, hv, hnn⟩⟩ := hc
  · exact ld_glob (X := X.suite a ((a, oe) :: (X.pn ++ pins))) S hg hm LM hdb
  · exact ld_blt (X := X.suite a ((a, oe) :: (X.pn ++ pins))) S hg hm hv LM hnn hdb
/-- no clause is left: it goes on -/
theorem Come.on {Wout : WX} (C : Come X pins σ H sI z a cls d B h) (tk : Takes X Wout) (wo : Wout cls d σ H) :
    wpAny (model X.prog X.w) X.A (handleBy (.ref a) X.env []) (SP X pins D) X.xe { z with heap := h } := by
  refine wpAny_handleBy_nil ?_
  obtain ⟨_, _, _, oe, vs, T, oT, ts, he, _, hd, h1, _⟩ := id C.fl
  unfold PySem.passOn
  refine wpAny_bind (wpAny_field he hd h1 ?_)
  rw [if_neg (show ¬ ((Value.ref T == Value.none) = true) from by simp)]
  have fin : wpAny (model X.prog X.w) X.A (setFlight (.ref a) X.env.frame) (fun _ s4 => wpAny (model X.prog X.w) X.A (throw (.ref a) : Sem Flow) (SP X pins D) X.xe s4) X.xe { z with heap := h } := by
    rw [C.hf]
    refine HandSPX.setFlight_upZ C.fl fun h4 hh4 up4 => wpAny_throw (tk _ _ ?_)
    exact ⟨a, B, sI, pins, σ, H, cls, d, rfl, C.J, C.nb, C.up.trans up4, .inr (.inr (by rw [C.hs]; exact hh4)), C.na, C.os, C.ag, wo⟩
  first | exact wpAny_bind (wpAny_pure (wpAny_bind fin)) | exact wpAny_bind fin
theorem Come.run {Wout : WX} {hds : List ExceptHandler} {l : List Clause} (hN : X.N.Nodup) (tk : Takes X Wout) (ok : ClausesOk X hds l) : ∀ {h : Heap}, Come X pins σ H sI z a cls d B h → wClauses X.K Wout D l cls d σ H →
    wpAny (model X.prog X.w) X.A (handleBy (.ref a) X.env hds) (SP X pins D) X.xe { z with heap := h } := by
  induction ok with
  | nil => exact fun C w => C.on tk w
  | plain hc su r ih =>
    intro h C w
    obtain ⟨b, hb, yes, no⟩ := w
    refine wpAny_handleBy_cons (codeAny_handlers_test (C.test hc hb ?_)) (by intro q; cases q)
    cases b with
    | false => exact ih C (no rfl)
    | true =>
      refine codeAny_handlers_suite ?_
      refine HandSPX.lands_againZ C.fl fun h4 fl4 up4 => ?_
      have C4 := C.step fl4 up4
      obtain ⟨oe, hz, hd, he, S⟩ := C4.suite
      refine wpAny_mono ((su a oe cls d (X.pn ++ pins) hz hd).run [] _ _ H _ S (yes rfl a C.na)) (fun f s6 hsp => ?_) (fun _ _ q => False.elim q)
      cases f with
      | next => exact let ⟨_, _, S6, q6⟩ := hsp; ⟨_, _, S6.unsuite C.J.ok, q6⟩
      | brk => exact let ⟨_, _, S6, q6⟩ := hsp; ⟨_, _, S6.unsuite C.J.ok, q6⟩
      | cont => exact let ⟨_, _, S6, q6⟩ := hsp; ⟨_, _, S6.unsuite C.J.ok, q6⟩
      | ret u => exact let ⟨_, _, _, S6, r6, q6⟩ := hsp; ⟨_, _, _, S6.unsuite C.J.ok, r6, q6⟩
  | @named x c ts b₀ suite np p2 hds l n i hc hi hn su r ih =>
    intro h C w
    obtain ⟨b, hb, yes, no⟩ := w
    refine wpAny_handleBy_cons (codeAny_handlers_test (C.test hc hb ?_)) (by intro q; cases q)
    cases b with
    | false => exact ih C (no rfl)
    | true =>
      refine codeAny_handlers_suite_as ?_
      refine HandSPX.lands_againZ C.fl fun h4 fl4 up4 => ?_
      have C4 := C.step fl4 up4
      obtain ⟨oe, hz, hd, he, S⟩ := C4.suite
      refine store_ok (X := X.suite a ((a, oe) :: (X.pn ++ pins))) (v := .ref a) S hN hi (.inl hn) rfl (fun s5 S5 => ?_) (.inr hn)
      refine wpAny_mono ((su a oe cls d (X.pn ++ pins) hz hd).run [] s5 _ H _ S5 (yes rfl a C.na)) (fun f s6 hsp => ?_) (fun _ _ q => False.elim q)
      have away : ∀ {σ6 : St} {H6 : Hp} {Q : Shared → Prop}, Inv (X.suite a ((a, oe) :: (X.pn ++ pins))) [] σ6 H6 s6 → (∀ s7, Inv X pins (σ6.set i none) H6 s7 → Q s7) →
          wpAny (model X.prog X.w) X.A (do bindName X.env n .none; unbindBehindTheSuite X.env n p2) (fun _ s7 => Q s7) X.xe s6 := fun S6 hq => gone_ok (S6.unsuite C.J.ok) hN hi hn hq
      cases f with
      | next => exact let ⟨_, _, S6, q6⟩ := hsp; away S6 fun s7 J7 => ⟨_, _, J7, q6⟩
      | brk => exact let ⟨_, _, S6, q6⟩ := hsp; away S6 fun s7 J7 => ⟨_, _, J7, q6⟩
      | cont => exact let ⟨_, _, S6, q6⟩ := hsp; away S6 fun s7 J7 => ⟨_, _, J7, q6⟩
      | ret u => exact let ⟨_, _, _, S6, r6, q6⟩ := hsp; away S6 fun s7 J7 => ⟨_, _, _, J7, r6, q6⟩
end
/-- try: body / except C1 as n: .. / except C2: .. -/
theorem ps_try_clauses {X : Cx} {body : List Stmt} {hd₀ : ExceptHandler} {hds : List ExceptHandler} {l : List Clause} {pos : Pos} {tb : WX → TS} {Wout : WX} (hs : X.stack = X.env :: X.outer) (hf : X.env.frame = some X.env.locals) (hN : X.N.Nodup) (tk : Takes X Wout)
    (hb : ∀ (W : WX) (pn : List (Addr × Obj)) (xe : Value → Shared → Prop), Takes (X.tr pn xe) W → PassesOwn (model X.prog X.w) X.A X.env xe → PSs (X.tr pn xe) body (tb W)) (ok : ClausesOk X (hd₀ :: hds) l) :
    PS X (.Try body (hd₀ :: hds) [] [] pos) (fun D σ H => tb (wClauses X.K Wout D l) D σ H) := by
  constructor
  intro pins s σ H D I h
  have oX := I.ok
  have fr : X.A.frames = some (X.env :: X.outer) := by rw [oX.frames, hs]
  refine wpAny_Try_except ?_
  refine wpAny_mono ((hb (wClauses X.K Wout D l) (X.pn ++ pins) (fun e s₁ => wpAny (model X.prog X.w) X.A (noteFrame e X.env) (fun _ s₂ => wpAny (model X.prog X.w) X.A (setFlight e none) (fun _ s₃ =>
    wpAny (model X.prog X.w) X.A (handleBy e X.env (hd₀ :: hds)) (SP X pins D) X.xe s₃) X.xe s₂) X.xe s₁) (fun u s1 xx => ?_) PassesOwn.looking).run [] s σ H D (I.toTry _) h) (fun f s1 hsp => ?_) fun _ _ he => he
  · obtain ⟨a, B, sI, pins', σ', H', cls, d, rfl, J', nb, up, sky, na, os, ag, w⟩ := xx
    have sky' : Sky B (X.env :: X.outer) a (Zc cls d) X.env.locals s1.heap := by rw [← hs]; exact sky
    show wpAny (model X.prog X.w) X.A (noteFrame (.ref a) X.env) _ _ _
    refine Sky.land Zc.steady fr hf sky' fun h3 fl3 up3 => ?_
    exact Come.run (z := s1) hN tk ok ⟨hs, hf, J'.ofTry oX, nb, fl3, up.trans up3, na, os, ag⟩ w
  · cases f with
    | next => exact let ⟨σ', H', J', q⟩ := hsp; wpAny_execs_nil ⟨σ', H', J'.ofTry oX, q⟩
    | brk => exact let ⟨σ', H', J', q⟩ := hsp; ⟨σ', H', J'.ofTry oX, q⟩
    | cont => exact let ⟨σ', H', J', q⟩ := hsp; ⟨σ', H', J'.ofTry oX, q⟩
    | ret u => exact let ⟨v, σ', H', J', r, q⟩ := hsp; ⟨v, σ', H', J'.ofTry oX, r, q⟩
end L2
set_option Elab.async false
set_option linter.all false
set_option maxRecDepth 100001
set_option maxHeartbeats 3999999
/-! sorted(xs, key=lambda x: ..): any order of the keys that the sort can tell. -/
namespace SrtL
open PySem PyProof.Rows Srt SrtO
theorem zip_list (ks vs : List Value) : (ks.toArray.zip vs.toArray).toList = ks.zip vs := by
  rw [ksk_zip]
section
variable {prog : Program} {w : World} {A : Around} {E : Value → Shared → Prop} {s : Shared} {a kS : Addr} {e1 ek : Nat} {vs ks : List Value} {ltv : Value → Value → Bool} {R : PySem.Fin → Shared → Prop}
/-- what is left when the list is sorted -/
def doneHeap (h : Heap) (kS a : Addr) (out : Array Value) : Heap := (h.update kS (Obj.mapSeq fun _ => (#[] : Array Value))).update a (Obj.mapSeq fun _ => out)
theorem tail_ord {st : SortSt} (hk : s.heap.get? kS = some (seqObj "list" ks.toArray ek)) (ha : s.heap.get? a = some (seqObj "list" #[] e1)) (ne : kS ≠ a) (hz : vs.length ≤ sizeLine) (hl : ks.length = vs.length) (hsz : (arrOf st).size = vs.length) (hfl : failedOf st = none)
    (h : R (.done (.ret .none)) { s with heap := doneHeap s.heap kS a ((arrOf st).map (·.2)) }) : wpAny (model prog w) A (ksk_tail a false e1 (.ref kS) st) R E s := by
  have s1 := Heap.SameBut.update s.heap kS (Obj.mapSeq fun _ => (#[] : Array Value))
  have na1 : (s.heap.update kS (Obj.mapSeq fun _ => (#[] : Array Value))).get? a = some (seqObj "list" #[] e1) := (s1.2 a ne.symm).trans ha
  unfold ksk_tail
  try dsimp only
  refine wpAny_bind (listUpdate_at hk rfl ?_ (by rw [List.size_toArray]; omega) (Nat.zero_le _))
  refine wpAny_bind (wpAny_letGo ?_)
  refine wpAny_bind (seqEpoch_at na1 rfl ?_)
  refine wpAny_bind (listUpdate_at na1 rfl ?_ (Nat.zero_le _) (by simp only [Bool.false_eq_true, if_false, Array.size_map]; omega))
  rw [hfl]
  simp only [bne_self_eq_false, Bool.false_eq_true, if_false]
  exact wpAny_pure h
theorem end_ord (O : Swo ltv) (hk : s.heap.get? kS = some (seqObj "list" ks.toArray ek)) (ha : s.heap.get? a = some (seqObj "list" #[] e1)) (ne : kS ≠ a) (hz : vs.length ≤ sizeLine) (hl : ks.length = vs.length)
    (hS : 2 ≤ vs.length → ∃ κ, (∀ (Q : SortKind → Shared → Prop) (E : Value → Shared → Prop), Q κ s → wpAny (model prog w) A (keyKind' ks.toArray) Q E s) ∧ Cmp prog w A s κ (fun p => p.1 ∈ ks) (lt2 ltv))
    (h : ∀ ps : List Keyed, Srtd (lt2 ltv) ps → Stb (lt2 ltv) ps (ks.zip vs) → R (.done (.ret .none)) { s with heap := doneHeap s.heap kS a (ps.map (·.2)).toArray }) :
    wpAny (model prog w) A (ksk_end a false vs.toArray e1 (.ref kS) ks.toArray) R E s := by
  have hzs : (ks.toArray.zip vs.toArray).size = vs.length := by rw [Array.size_zip, List.size_toArray, List.size_toArray, hl, Nat.min_self]
  have fin : ∀ st : SortSt, Srtd (lt2 ltv) (arrOf st).toList → Stb (lt2 ltv) (arrOf st).toList (ks.toArray.zip vs.toArray).toList → R (.done (.ret .none)) { s with heap := doneHeap s.heap kS a ((arrOf st).map (·.2)) } := by
    intro st h1 h2
    rw [zip_list] at h2
    have h3 := h _ h1 h2
    have e : ((arrOf st).toList.map (·.2)).toArray = (arrOf st).map (·.2) := by
      rw [← Array.toList_map, Array.toArray_toList]
    rw [e] at h3
    exact h3
  have size : ∀ st : SortSt, Stb (lt2 ltv) (arrOf st).toList (ks.toArray.zip vs.toArray).toList → (arrOf st).size = vs.length := by
    intro st h2
    have := h2.perm.length_eq
    rw [Array.length_toList, Array.length_toList, hzs] at this
    exact this
  unfold ksk_end
  try dsimp only
  simp only [Bool.false_eq_true, if_false]
  by_cases h2 : vs.toArray.size < 2
  · rw [if_pos h2, if_pos h2]
    refine wpAny_bind (wpAny_pure ?_)
    rw [StateT.run_pure]
    refine wpAny_bind (wpAny_pure ?_)
    try dsimp only
    rw [List.size_toArray] at h2
    refine tail_ord (st := SortSt.mk' general' (ks.toArray.zip vs.toArray) #[] 7 none) hk ha ne hz hl hzs rfl (fin (SortSt.mk' general' (ks.toArray.zip vs.toArray) #[] 7 none) ?_ (Stb.refl _))
    show Srtd (lt2 ltv) (ks.toArray.zip vs.toArray).toList
    have hlz : (ks.toArray.zip vs.toArray).toList.length < 2 := by rw [Array.length_toList, hzs]; exact h2
    revert hlz
    generalize (ks.toArray.zip vs.toArray).toList = l
    intro hlz
    match l, hlz with
    | [], _ => exact List.Pairwise.nil
    | [v], _ => exact List.pairwise_singleton _ _
    | _ :: _ :: l, h => exact absurd h (by rw [List.length_cons, List.length_cons]; omega)
  · rw [if_neg h2, if_neg h2]
    rw [List.size_toArray] at h2
    obtain ⟨κ, hkind, hT⟩ := hS (by omega)
    refine wpAny_bind (hkind _ _ ?_)
    have hall : AllL (fun p : Keyed => p.1 ∈ ks) (ks.toArray.zip vs.toArray).toList := fun p hm => by
      rw [zip_list] at hm
      obtain ⟨x, y⟩ := p
      exact (List.of_mem_zip hm).1
    refine wpAny_bind (wpAny_mono (wpS_sortO (st0 := SortSt.mk' κ (ks.toArray.zip vs.toArray) #[] 7 none)
      (Q := fun _ st' => Srtd (lt2 ltv) (arrOf st').toList ∧ Stb (lt2 ltv) (arrOf st').toList (ks.toArray.zip vs.toArray).toList ∧ failedOf st' = none) (swo2 O) hT rfl hall rfl rfl fun st' a1 a2 a3 => ⟨a1, a2, a3⟩) ?_ fun _ _ e => e)
    rintro ⟨⟨⟩, st'⟩ s' ⟨rfl, hp1, hp2, hf⟩
    try dsimp only
    exact tail_ord hk ha ne hz hl (size st' hp2) hf (fin st' hp1 hp2)
/-- what is asked of the keys' making: J of the keys so far -/
structure Keys (prog : Program) (w : World) (A : Around) (f : Value) (vs : List Value) (ltv : Value → Value → Bool) (R : PySem.Fin → Shared → Prop) (a kS : Addr) (e1 : Nat) (J : List Value → Shared → Prop) : Prop where
  obj : ∀ ks s, J ks s → (∃ ek, s.heap.get? kS = some (seqObj "list" ks.toArray ek)) ∧ s.heap.get? a = some (seqObj "list" #[] e1)
  turn : ∀ (ks : List Value) (v : Value) (s : Shared), J ks s → vs[ks.length]? = some v → wpAny (model prog w) A (call f [v]) (fun k s' => (∃ ek, s'.heap.get? kS = some (seqObj "list" ks.toArray ek)) ∧ J (ks ++ [k]) { s' with heap := s'.heap.update kS (Obj.mapSeq (·.push k)) }) (fun _ _ => False) s
  kind : ∀ ks s, J ks s → ks.length = vs.length → 2 ≤ vs.length → ∃ κ, (∀ (Q : SortKind → Shared → Prop) (E : Value → Shared → Prop), Q κ s → wpAny (model prog w) A (keyKind' ks.toArray) Q E s) ∧ Cmp prog w A s κ (fun p => p.1 ∈ ks) (lt2 ltv)
  fin : ∀ ks s, J ks s → ks.length = vs.length → ∀ ps : List Keyed, Srtd (lt2 ltv) ps → Stb (lt2 ltv) ps (ks.zip vs) → R (.done (.ret .none)) { s with heap := doneHeap s.heap kS a (ps.map (·.2)).toArray }
theorem rest_ord {f : Value} {J : List Value → Shared → Prop} (O : Swo ltv) (ne : kS ≠ a) (hz : vs.length ≤ sizeLine) (h0 : J [] s) (Y : Keys prog w A f vs ltv R a kS e1 J) : wpAny (model prog w) A (ksk_rest a f false vs.toArray e1 (.ref kS)) R E s := by
  unfold ksk_rest
  refine wpAny_bind (wpAny_rule ?_)
  first
    | rw [List.forIn_toArray]
    | (rw [← Array.forIn_toList]; simp only [List.toList_toArray])
    | rw [← Array.forIn_toList]
  refine wpAny_bind (ksk_fold (fun i s' => ∃ ks, J ks s' ∧ ks.length = i) vs 0 s ⟨[], h0, rfl⟩ ?step ?done)
  case step =>
    rintro j x s' hx ⟨ks, hJ, lk⟩
    simp only [Nat.zero_add] at lk ⊢
    have hj : j < vs.length := (List.getElem?_eq_some_iff.mp hx).1
    refine wpAny_bind (wpAny_attempt (wpAny_mono (Y.turn ks x s' hJ (by rw [lk]; exact hx)) (fun k s'' he => ?_) fun _ _ hF => hF.elim))
    obtain ⟨⟨ek, hk⟩, hJ2⟩ := he
    try dsimp only
    refine wpAny_bind (listUpdate_at hk rfl ?_ (by rw [List.size_toArray]; omega) (Nat.le_trans (Nat.le_of_eq (Array.size_push ..)) (by rw [List.size_toArray]; omega)))
    exact wpAny_pure ⟨rfl, _, hJ2, by rw [List.length_append, lk]; rfl⟩
  case done =>
    rintro s' ⟨ks, hJ, lk⟩
    rw [Nat.zero_add] at lk
    obtain ⟨⟨ek, hk⟩, ha⟩ := Y.obj ks s' hJ
    try dsimp only
    refine wpAny_bind (listItems_at hk rfl ?_)
    exact end_ord O hk ha ne hz lk (Y.kind ks s' hJ lk) (Y.fin ks s' hJ lk)
theorem tree_ord {f : Value} {n : Nat} (O : Swo ltv) (ho : s.heap.get? a = some (seqObj "list" vs.toArray n)) (hz : vs.length ≤ sizeLine)
    (h : ∀ (h1 : Heap) (kS : Addr) (e1 : Nat), (∀ b o, b ≠ a → s.heap.get? b = some o → h1.get? b = some o) → h1.get? a = some (seqObj "list" #[] e1) → h1.get? kS = some (seqObj "list" #[] 0) → s.heap.objs.size ≤ kS →
      ∃ J, J [] { s with heap := h1 } ∧ Keys prog w A f vs ltv R a kS e1 J) : wpAny (model prog w) A (ksk_tree a f false) R E s := by
  have ha : a < s.heap.objs.size := Heap.lt_size ho
  have s1 := Heap.SameBut.update s.heap a (Obj.mapSeq fun _ => (#[] : Array Value))
  obtain ⟨e1, ho1⟩ : ∃ e1, (s.heap.update a (Obj.mapSeq fun _ => (#[] : Array Value))).get? a = some (seqObj "list" #[] e1) := ⟨_, get?_update_seq ho fun _ => #[]⟩
  have hkS : ((s.heap.update a (Obj.mapSeq fun _ => (#[] : Array Value))).push (seqObj "tuple" vs.toArray 0)).objs.size = s.heap.objs.size + 1 := by rw [size_push', Heap.size_update]
  unfold ksk_tree
  refine wpAny_bind (listItems_at ho rfl ?_)
  refine wpAny_bind (listUpdate_at ho rfl ?_ (by rw [List.size_toArray]; omega) (Nat.zero_le _))
  refine wpAny_bind (seqEpoch_at ho1 rfl ?_)
  refine wpAny_bind (wpAny_newTuple ?_ (by show vs.length ≤ _; exact hz))
  refine wpAny_bind (wpAny_newList ?_ (Nat.zero_le _))
  refine wpAny_holding ?_
  obtain ⟨J, j0, Y⟩ := h (((s.heap.update a (Obj.mapSeq fun _ => (#[] : Array Value))).push (seqObj "tuple" vs.toArray 0)).push (seqObj "list" #[] 0)) ((s.heap.update a (Obj.mapSeq fun _ => (#[] : Array Value))).push (seqObj "tuple" vs.toArray 0)).objs.size e1
    (fun b o hb e => Heap.get?_push_of_some _ (Heap.get?_push_of_some _ ((Heap.get?_update_ne _ _ _ _ hb).trans e))) (Heap.get?_push_of_some _ (Heap.get?_push_of_some _ ho1)) (Heap.get?_push_size _ rfl) (by rw [hkS]; exact Nat.le_succ _)
  exact rest_ord (s := { s with heap := ((s.heap.update a (Obj.mapSeq fun _ => (#[] : Array Value))).push (seqObj "tuple" vs.toArray 0)).push (seqObj "list" #[] 0) }) O (by rw [hkS]; exact Nat.ne_of_gt (Nat.lt_succ_of_lt ha)) hz j0 Y
/-- sorted(l, key=q) -/
theorem sorted_ord {l q : Addr} {Q : Value → Shared → Prop} (O : Swo ltv) (hl : s.heap.IsList l vs.toArray) (hz : vs.length ≤ sizeLine)
    (h : ∀ (h1 : Heap) (d kS : Addr) (e1 : Nat), (∀ b o, s.heap.get? b = some o → h1.get? b = some o) → h1.get? d = some (seqObj "list" #[] e1) → h1.get? kS = some (seqObj "list" #[] 0) → s.heap.objs.size ≤ d → s.heap.objs.size ≤ kS → kS ≠ d →
      ∃ J, J [] { s with heap := h1 } ∧ Keys prog w A.in1.in1 (.ref q) vs ltv (fun r s' => r = .done (.ret .none) ∧ Q (.ref d) s') d kS e1 J) :
    wpAny (model prog w) A (call (.builtin "sorted") [.ref l] [(Str.ofString "key", .ref q)]) Q E s := by
  refine call_function_entry_kw kind_sorted plain_sorted entry_sorted (ksk_s1 _ _) ?_
  unfold Builtin.«sorted»
  refine wpAny_bind (m := checkCount "sorted" 1 1 _) (wpAny_pure ?_)
  refine wpAny_bind (collect_list hl ?_ hz)
  refine wpAny_bind (wpAny_newList ?_ hz)
  have hsz : ((s.heap.push (seqObj "list" #[] 0)).update s.heap.objs.size (Obj.mapSeq (· ++ vs.toArray))).objs.size = s.heap.objs.size + 1 := by
    rw [Heap.size_update, size_push']
  have hoL : (((s.heap.push (seqObj "list" #[] 0)).update s.heap.objs.size (Obj.mapSeq (· ++ vs.toArray))).push (seqObj "list" vs.toArray 0)).get? (s.heap.objs.size + 1) = some (seqObj "list" vs.toArray 0) := by
    rw [← hsz]; exact Heap.get?_push_size _ rfl
  have keep : ∀ b o, s.heap.get? b = some o → b ≠ s.heap.objs.size + 1 ∧ (((s.heap.push (seqObj "list" #[] 0)).update s.heap.objs.size (Obj.mapSeq (· ++ vs.toArray))).push (seqObj "list" vs.toArray 0)).get? b = some o := fun b o q => by
    have hlt : b < s.heap.objs.size := Heap.lt_size q
    refine ⟨Nat.ne_of_lt (Nat.lt_succ_of_lt hlt), Heap.get?_push_of_some _ ?_⟩
    rw [Heap.get?_update_ne _ _ _ _ (Nat.ne_of_lt hlt)]
    exact Heap.get?_push_of_some _ q
  have size2 : (((s.heap.push (seqObj "list" #[] 0)).update s.heap.objs.size (Obj.mapSeq (· ++ vs.toArray))).push (seqObj "list" vs.toArray 0)).objs.size = s.heap.objs.size + 2 := by rw [size_push', hsz]
  show wpAny _ _ _ _ _ { s with heap := ((s.heap.push (seqObj "list" #[] 0)).update s.heap.objs.size (Obj.mapSeq (· ++ vs.toArray))).push (seqObj "list" vs.toArray 0) }
  rw [hsz]
  refine wpAny_bind (wpAny_holding (wpAny_call_entry_kw slot_list_sort ⟨_, hoL, rfl⟩ entry_list_sort ?_ (ksk_l1 _ _)))
  rw [ksk_t1]
  refine tree_ord O hoL hz fun h1 kS e1 hk ha hkS hge => ?_
  dsimp only at hge hk
  rw [size2] at hge
  obtain ⟨J, j0, Y⟩ := h h1 (s.heap.objs.size + 1) kS e1 (fun b o q => hk b o (keep b o q).1 (keep b o q).2) ha hkS (Nat.le_succ _) (Nat.le_trans (Nat.le_add_right _ 2) hge) (Nat.ne_of_gt (Nat.lt_of_lt_of_le (Nat.lt_succ_self _) hge))
  refine ⟨J, j0, ⟨Y.obj, Y.turn, Y.kind, fun ks s' hJ hl ps h1 h2 => ?_⟩⟩
  obtain ⟨_, z⟩ := Y.fin ks s' hJ hl ps h1 h2
  exact ⟨_, rfl, wpAny_pure ⟨_, rfl, z⟩⟩
end
end SrtL
set_option Elab.async false
set_option linter.all false
set_option maxRecDepth 100001
set_option maxHeartbeats 3999999
namespace LamX
open PySem PySem.Spec PyProof.Rows L2
/-! ### a lambda of one parameter -/
structure LamP (sc scope : Scope) (a : Str) : Prop where
  kind : scope.kind = .function
  co : scope.isCoroutine = false
  gen : scope.isGenerator = false
  par : scope.names.lookup a = some .local
  own : ∀ y ∈ scope.names, y.2 ≠ .cell ∧ (y.2 = .local → y.1 = a)
  free : ∀ y ∈ scope.names, y.2 = .free → sc.names.lookup y.1 = some .cell ∨ sc.names.lookup y.1 = some .free
def lamPB (sc scope : Scope) (a : Str) : Bool :=
  decide (scope.kind = .function) && !scope.isCoroutine && !scope.isGenerator && decide (scope.names.lookup a = some .local) && scope.names.all fun y => !decide (y.2 = .cell) && (!decide (y.2 = .local) || decide (y.1 = a)) && (!decide (y.2 = .free) || decide (sc.names.lookup y.1 = some .cell) || decide (sc.names.lookup y.1 = some .free))
theorem lamP_by {sc scope : Scope} {a : Str} (h : lamPB sc scope a = true) : LamP sc scope a := by
  unfold lamPB at h
  simp only [Bool.and_eq_true, Bool.or_eq_true, Bool.not_eq_true', decide_eq_true_eq, decide_eq_false_iff_not, List.all_eq_true] at h
  obtain ⟨⟨⟨⟨h1, h2⟩, h3⟩, h0⟩, h4⟩ := h
  refine ⟨h1, h2, h3, h0, fun y hy => ⟨(h4 y hy).1.1, fun e => ?_⟩, fun y hy e => ?_⟩
  · rcases (h4 y hy).1.2 with z | z
    · exact absurd e z
    · exact z
  · rcases (h4 y hy).2 with (z | z) | z
    · exact absurd e z
    · exact .inl z
    · exact .inr z
theorem LamP.has {X : Cx} {scope : Scope} {a : Str} (L : LamP X.env.scope scope a) (ok : X.Ok) : ∀ y ∈ scope.names, y.2 = .free → ∃ c, X.env.cells.lookup y.1 = some c := fun y hy e => by
  rcases L.free y hy e with k | k
  · exact ok.has _ (.inl k)
  · exact ok.has _ (.inr k)
section
variable {X : Cx} {pins : List (Addr × Obj)} {σ : L2.St} {H : Hp} {s : Shared}
theorem lam_start1 {A : Around} {E : XK} {scope : Scope} {a : Str} {i : Nat} {v : V} {u : Value} {f c' : Addr} {h₁ : Heap} {tk : Nat} (I : Inv X pins σ H s) (L : LamP X.env.scope scope a) (hA : A.frames = some X.stack) (hd : A.handled = none) (nd : X.N.Nodup) (hN : X.N[i]? = some a) (rv : RelV v u)
    (hns : h₁.Ns s.heap.objs.size fun y => ([(a, u)] : List (Str × Value)).reverse.lookup y) (kp : ∀ b o, s.heap.get? b = some o → h₁.get? b = some o) :
    Inv (lamCx X A X.stack s H E scope f c') [] (σ.set i (some v)) H { s with heap := h₁, toks := tk } := by
  have e0 := I.env0
  have hfree := L.has I.ok
  have cm : ∀ {y c}, (cloFrom X.env.cells scope.names []).lookup y = some c → X.env.cells.lookup y = some c := fun {y c} e => by
    rcases cloFrom_mem (PySem.mem_of_lookup e) with hm | ⟨h1, h2⟩
    · cases hm
    · obtain ⟨c1, hc⟩ := hfree _ h1 rfl
      have hc : X.env.cells.lookup y = some c1 := hc
      have e2 : c = c1 := by
        rw [h2, hc] <;> rfl
      rw [e2]
      exact hc
  have look : ∀ {y}, scope.names.lookup y = some .free → ∃ c, (cloFrom X.env.cells scope.names []).lookup y = some c := fun {y} hl => by
    have hy : (y, NameKind.free) ∈ scope.names := PySem.mem_of_lookup hl
    exact mem_lookup (cloFrom_has (cells := X.env.cells) (acc := []) hy)
  have cellK : ∀ {c : Addr} {v : Option Value}, s.heap.IsCell c v → h₁.IsCell c v := fun {c v} ⟨o, ho, hd⟩ => ⟨o, kp _ _ ho, hd⟩
  have noA : ∀ b : Addr, b ∉ (lamCx X A X.stack s H E scope f c').ex := fun b z => absurd (show b ∈ ([] : List Addr) from z) (by simp)
  refine ⟨⟨e0.mod, L.kind, rfl, rfl, Nat.le_refl _, fun y z c e1 e2 => I.ok.inj y z c (cm e1) (cm e2), fun y hy => ?_, fun y c z _ => ?_, fun _ => hd, Around.frames_deeper hA, .inr ⟨rfl, rfl⟩, fun b z => absurd z (noA b), e0.bs, e0.bsz, fun b _ _ => noA b,
      fun b z => absurd z (noA b), e0.funs, e0.frf⟩,
    rfl, e0.bare, Un.kept kp, ⟨_, hns, fun j y w e1 e2 e3 => ?_⟩, fun y c e => ?_, e0.hok.fresh (Nat.le_refl _), fun y c e => I.freeC y c (cm e), fun q hq => absurd (show q ∈ ([] : List (Addr × Obj)) ++ [] from hq) (by simp), e0.hok.kept kp, by rw [List.length_set]; exact I.len⟩
  · have hy : scope.names.lookup y = some .cell ∨ scope.names.lookup y = some .free := hy
    rcases hy with hy | hy
    · exact absurd rfl (L.own _ (PySem.mem_of_lookup hy)).1
    · exact look hy
  · have z : false = true := z
    cases z
  · have e1 : X.N[j]? = some y := e1
    by_cases ej : j = i
    · rw [ej] at e1 e2
      rw [hN] at e1
      cases e1
      have lt : i < σ.length := by rw [I.len]; exact (List.getElem?_eq_some_iff.mp hN).1
      rw [List.getElem?_set_self lt] at e2
      cases e2
      refine ⟨u, rv, .inl ⟨L.par, ?_⟩⟩
      simp [List.lookup]
    · rw [List.getElem?_set_ne (fun z => ej z.symm)] at e2
      have ya : y ≠ a := fun z => ej (nodup_ix nd (z ▸ e1) hN)
      have e3 : Vis scope y := e3
      rcases e3 with k | k | k
      · exact absurd ((L.own _ (PySem.mem_of_lookup k)).2 rfl) ya
      · exact absurd rfl (L.own _ (PySem.mem_of_lookup k)).1
      · obtain ⟨m, hn, hl⟩ := I.loc
        have hvis : Vis X.env.scope y := (L.free _ (PySem.mem_of_lookup k) rfl).elim (fun k => .inr (.inl k)) (fun k => .inr (.inr k))
        obtain ⟨w', r, q⟩ := hl j y w e1 e2 hvis
        obtain ⟨c2, h2⟩ := look k
        refine ⟨w', r, .inr ⟨.inr k, c2, h2, ?_⟩⟩
        have c1 := cm h2
        rcases q with ⟨k', _⟩ | ⟨_, c3, e', z⟩
        · have k' : X.env.scope.names.lookup y = some .local := k'
          rcases L.free _ (PySem.mem_of_lookup k) rfl with k2 | k2 <;> rw [show X.env.scope.names.lookup y = _ from k2] at k' <;> cases k'
        · rw [c1] at e'
          cases e'
          exact cellK z
  · obtain ⟨w', z⟩ := I.cell y c (cm e)
    exact ⟨w', cellK z⟩
/-- the lambda called with one value, in the def that made it -/
theorem lam_call1 {A : Around} {scope : Scope} {a : Str} {i k : Nat} {v : V} {u pm ctv : Value} {f c' : Addr} {params : Arguments} {body : Expr} {tb : TE} {Q : VK} (I : Inv X pins σ H s) (L : LamP X.env.scope scope a) (hA : A.frames = some X.stack) (hr : Room (k + 1) A) (nd : X.N.Nodup) (hN : X.N[i]? = some a) (rv : RelV v u)
    (hf : s.heap.get? f = some (PySem.W.kla_obj "<lambda>" (X.env.qual ++ "<lambda>") params body scope (cloFrom X.env.cells scope.names []) pm c' ctv)) (hc : H c' = some (CodeO c' (X.env.qual ++ "<lambda>")))
    (hbind : bindArgs (PySem.W.kla_fn "<lambda>" (X.env.qual ++ "<lambda>") params body scope (cloFrom X.env.cells scope.names []) pm (.ref c') ctv) ⟨[u], []⟩ = pure [(a, u)])
    (hbody : Room k (A.deeper (lamEnv X scope s.heap.objs.size f c')) → PE (lamCx X A X.stack s H C8.E0 scope f c') body tb) (ht : tb (σ.set i (some v)) H Q) :
    codeAny (model X.prog X.w) A (.call (.ref f) ⟨[u], []⟩) (CR (L2.CX X.prog X.w) X.stack X.prog X.w H s Q C8.E0) s := by
  obtain ⟨⟨oc, vs, t, hoc, hdc, hvc⟩, _, _⟩ := I.hok c' _ hc
  refine PySem.W.kla_callFunE hr.depth hf rfl L.co L.gen rfl ⟨c', oc, vs, t, rfl, hoc, hdc, hvc⟩ ?_
  rw [hbind]
  refine wpAny_pure (wpAny_newFunctionEnv (fun y hy => (L.own y hy).1) (fun y hy => ?_) (fun h₁ hns hsb => ⟨I.nolimit.fresh _ hsb, ?_⟩) L.kind)
  · rw [List.mem_singleton.mp hy]
    exact L.par
  show codeAny _ _ (.expr body (lamEnv X scope s.heap.objs.size f c')) _ _
  have kp : ∀ b o, s.heap.get? b = some o → h₁.get? b = some o := fun b o e => hsb.extBut b o (Nat.ne_of_lt (Heap.lt_size e)) (Heap.get?_push_of_some _ e)
  have J : Inv (lamCx X A X.stack s H C8.E0 scope f c') [] (σ.set i (some v)) H { s with heap := h₁, toks := s.toks + ([(a, u)] : List (Str × Value)).length } := lam_start1 I L hA hr.hd nd hN rv hns kp
  refine PySem.W.kla_codeExpr (wpAny_mono ((hbody (hr.deeper _)).run [] _ _ H Q J ht) (fun v s' hq => ?_) fun e s' hq => hq)
  obtain ⟨w', H', J', rv, q⟩ := hq
  exact ⟨w', H', J'.os, J'.bare, J'.base, J'.hok, rv, q⟩
end
end LamX
set_option Elab.async false
set_option linter.all false
set_option maxRecDepth 100001
set_option maxHeartbeats 3999999
namespace SrtL
open PySem PyProof.Rows Srt SrtO L2 LamX
/-! ### orders of keys -/
structure KeyOrd (α : Type) where
  lt : α → α → Bool
  enc : α → V
  dec : Value → α
  val : α → Value
  swo : Swo lt
  rel : ∀ k u, RelV (enc k) u → dec u = k
  back : ∀ k, dec (val k) = k
  sortable : ∀ {prog : Program} {w : World} {A : Around} {s : Shared} (us : List Value), (∀ u ∈ us, ∃ k, RelV (enc k) u) → 2 ≤ us.length →
    ∃ κ, (∀ (Q : SortKind → Shared → Prop) (E : Value → Shared → Prop), Q κ s → wpAny (model prog w) A (keyKind' us.toArray) Q E s) ∧ Cmp prog w A s κ (fun p => p.1 ∈ us) (lt2 fun x y => lt (dec x) (dec y))
theorem swo_dec {α β : Type} {lt : α → α → Bool} (O : Swo lt) (f : β → α) : Swo fun x y => lt (f x) (f y) := ⟨fun x y h => O.asym _ _ h, fun x y z h1 h2 => O.tr _ _ _ h1 h2⟩
def decI : Value → Int
  | .int i _ => i
  | _ => 0
def decS : Value → Str
  | .str z _ => z
  | _ => Str.empty
theorem ints_dec : ∀ {us : List Value}, (∀ u ∈ us, ∃ k, RelV (.int k) u) → IntsAre us (us.map decI)
  | [], _ => .nil
  | u :: us, h => by
    obtain ⟨k, t, e⟩ := h u List.mem_cons_self
    subst e
    exact .cons k t (ints_dec fun v hv => h v (List.mem_cons_of_mem _ hv))
def ordInt : KeyOrd Int where
  lt i j := decide (i < j)
  enc := .int
  dec := decI
  val i := .int i 0
  swo := ⟨fun x y h => by have := of_decide_eq_true h; exact decide_eq_false (by omega), fun x y z h1 h2 => by have := of_decide_eq_false h1; have := of_decide_eq_false h2; exact decide_eq_false (by omega)⟩
  rel k u h := by obtain ⟨t, rfl⟩ := h; rfl
  back k := rfl
  sortable us h h2 := by
    have hI := ints_dec h
    refine ⟨oneType', fun Q E hq => ?_, fun p q hm hm' => ?_⟩
    · match us, hI, h2 with
      | v1 :: v2 :: rest, hI, _ =>
        rw [keyKind_ints hI]
        exact wpAny_pure hq
      | [], _, h => exact absurd h (by decide)
      | [v], _, h => exact absurd h (by simp)
    · obtain ⟨a, t, e⟩ := h _ hm
      obtain ⟨b, u, e'⟩ := h _ hm'
      show wpAny _ _ (keyLt' oneType' p.1 q.1) (fun r s' => s' = _ ∧ r = decide (decI p.1 < decI q.1)) (fun _ _ => False) _
      rw [e, e', keyLt'_oneType]
      exact oneLt_int ⟨rfl, rfl⟩
theorem strs_dec : ∀ {us : List Value}, (∀ u ∈ us, ∃ k, RelV (.str k) u) → StrsAre us (us.map decS)
  | [], _ => .nil
  | u :: us, h => by
    obtain ⟨k, t, e⟩ := h u List.mem_cons_self
    subst e
    exact .cons k t (strs_dec fun v hv => h v (List.mem_cons_of_mem _ hv))
theorem swo_nats : Swo fun (a b : List Nat) => decide (a < b) := by
  refine ⟨fun x y h => ?_, fun x y z h1 h2 => ?_⟩
  · have h := of_decide_eq_true h
    exact decide_eq_false fun z => List.lt_irrefl x (List.lt_trans h z)
  · have h1 := List.not_lt.mp (of_decide_eq_false h1)
    have h2 := List.not_lt.mp (of_decide_eq_false h2)
    exact decide_eq_false (List.not_lt.mpr (List.le_trans h1 h2))
def ordStr : KeyOrd Str where
  lt a b := decide (a.cps.toList < b.cps.toList)
  enc := .str
  dec := decS
  val z := .str z 0
  swo := swo_dec swo_nats fun a : Str => a.cps.toList
  rel k u h := by obtain ⟨t, rfl⟩ := h; rfl
  back k := rfl
  sortable us h h2 := by
    have hI := strs_dec h
    refine ⟨oneType', fun Q E hq => ?_, fun p q hm hm' => ?_⟩
    · match us, hI, h2 with
      | v1 :: v2 :: rest, hI, _ =>
        rw [keyKind_strs hI]
        exact wpAny_pure hq
      | [], _, h => exact absurd h (by decide)
      | [v], _, h => exact absurd h (by simp)
    · obtain ⟨a, t, e⟩ := h _ hm
      obtain ⟨b, u, e'⟩ := h _ hm'
      show wpAny _ _ (keyLt' oneType' p.1 q.1) (fun r s' => s' = _ ∧ r = decide ((decS p.1).cps.toList < (decS q.1).cps.toList)) (fun _ _ => False) _
      rw [e, e', keyLt'_oneType]
      exact oneLt_str ⟨rfl, rfl⟩
end SrtL
set_option Elab.async false
set_option linter.all false
set_option maxRecDepth 100001
set_option maxHeartbeats 3999999
namespace SrtL
open PySem PyProof.Rows Srt SrtO L2 LamX
def bk (u : Value) : V := (absV u).getD .non
theorem bk_rel {x : V} {u : Value} (r : RelV x u) : bk u = x := by
  unfold bk
  rw [r.abs]
  rfl
section
variable {α : Type} (O : KeyOrd α) (g : V → α)
theorem zip_fact : ∀ {xs : List V} {vs ks : List Value}, Vals xs vs → Vals (xs.map fun x => O.enc (g x)) ks → (∀ p ∈ ks.zip vs, O.dec p.1 = g (bk p.2) ∧ RelV (bk p.2) p.2) ∧ (ks.zip vs).map (fun p => bk p.2) = xs
  | [], _, _, .nil, .nil => ⟨fun _ h => (by simp at h), rfl⟩
  | x :: xs, _, _, .cons r t, .cons r2 t2 => by
    obtain ⟨h1, h2⟩ := zip_fact t t2
    refine ⟨fun p hp => ?_, ?_⟩
    · rw [List.zip_cons_cons] at hp
      rcases List.mem_cons.mp hp with rfl | hp
      · rw [bk_rel r]
        exact ⟨O.rel _ _ r2, r⟩
      · exact h1 p hp
    · rw [List.zip_cons_cons, List.map_cons, h2]
      show bk _ :: xs = x :: xs
      rw [bk_rel r]
abbrev ltG (x y : V) : Bool := O.lt (g x) (g y)
abbrev ltD (x y : Value) : Bool := O.lt (O.dec x) (O.dec y)
theorem conv {xs : List V} {vs ks : List Value} {ps : List Keyed} (hv : Vals xs vs) (hk : Vals (xs.map fun x => O.enc (g x)) ks) (h1 : Srtd (lt2 (ltD O)) ps) (h2 : Stb (lt2 (ltD O)) ps (ks.zip vs)) :
    Vals (ps.map fun p => bk p.2) (ps.map (·.2)) ∧ Srtd (ltG O g) (ps.map fun p => bk p.2) ∧ Stb (ltG O g) (ps.map fun p => bk p.2) xs := by
  obtain ⟨f1, f2⟩ := zip_fact O g hv hk
  have mem : ∀ p ∈ ps, O.dec p.1 = g (bk p.2) ∧ RelV (bk p.2) p.2 := fun p hp => f1 p (h2.perm.mem_iff.mp hp)
  refine ⟨?_, ?_, ?_⟩
  · clear h1 h2
    induction ps with
    | nil => exact .nil
    | cons p ps ih => exact .cons (mem p List.mem_cons_self).2 (ih fun q hq => mem q (List.mem_cons_of_mem _ hq))
  · refine srtd_map (f := fun p : Keyed => bk p.2) (lt := ltG O g) ?_
    refine List.Pairwise.imp_of_mem (fun {p q} hp hq hr => ?_) h1
    show O.lt (g (bk q.2)) (g (bk p.2)) = false
    rw [← (mem p hp).1, ← (mem q hq).1]
    exact hr
  · have h3 : Stb (fun p q : Keyed => ltG O g (bk p.2) (bk q.2)) ps (ks.zip vs) := by
      refine ⟨h2.perm, fun x => ?_⟩
      have e : ∀ p : Keyed, O.dec p.1 = g (bk p.2) → eqv (fun p q : Keyed => ltG O g (bk p.2) (bk q.2)) x p = eqv (lt2 (ltD O)) (O.val (g (bk x.2)), x.2) p := by
        intro p hp
        show (!O.lt (g (bk x.2)) (g (bk p.2)) && !O.lt (g (bk p.2)) (g (bk x.2))) = (!O.lt (O.dec (O.val (g (bk x.2)))) (O.dec p.1) && !O.lt (O.dec p.1) (O.dec (O.val (g (bk x.2)))))
        rw [O.back, hp]
      rw [List.filter_congr fun p hp => e p (mem p hp).1, List.filter_congr fun p hp => e p (f1 p hp).1]
      exact h2.cls _
    have h4 := Stb.map (swo_dec O.swo g) (fun p : Keyed => bk p.2) h3
    rw [f2] at h4
    exact h4
end
/-- sorted(e, key=lambda x: tb): the keys are read at one and the same heap -/
def tSortLam {α : Type} (Tb : List (Addr × Str)) (K : PySem.W.Frag) (O : KeyOrd α) (i : Nat) (te tb : TE) : TE := fun σ H Q => te σ H fun x H1 => ∃ (a : Addr) (xs : List V) (g : V → α), x = .ref a ∧ SqL K H1 a xs ∧ Tabs Tb H1 ∧
  ∀ H2, ExtN H1 H2 → Tabs Tb H2 → SqL K H2 a xs ∧ (∀ v ∈ xs, tb (σ.set i (some v)) H2 fun kv H4 => kv = O.enc (g v) ∧ H4 = H2) ∧
    ∀ ys p, Srtd (ltG O g) ys → Stb (ltG O g) ys xs → H2 p = none → Q (.ref p) (upd H2 p (.lst ys))
section
variable {X : Cx} {pins : List (Addr × Obj)} {σ : L2.St} {H : Hp} {s : Shared}
theorem fp_keep {b : Addr} {o : Obj} {H' : Hp} {h' : Heap} (I : Inv X pins σ H s) (un : Un (frs X.stack) [] H H' s.heap h') (hn : H b = none) (hf : b ∉ frs X.stack) (hb : s.heap.get? b = some o) : h'.get? b = some o := un.keep b o hb hn hf (by simp)
theorem fp_nofr {b : Addr} (I : Inv X pins σ H s) (hf : FpOk X pins H b) : b ∉ frs X.stack := fun z => by
  rcases List.mem_cons.mp (I.stkSub _ z) with e | e
  · exact hf.2.1 e
  · exact hf.2.2.1 e
/-- the sorted list is known from now on -/
theorem inv_done {kS d : Addr} {ks out : List Value} {ys : List V} {ek e1 : Nat} (I : Inv X pins σ H s) (fk : FpOk X pins H kS) (fd : FpOk X pins H d) (ne : kS ≠ d) (hk : s.heap.get? kS = some (seqObj "list" ks.toArray ek)) (hd : s.heap.get? d = some (seqObj "list" #[] e1))
    (hl : ys.length ≤ sizeLine) (hv : Vals ys out) : Inv X pins σ (upd H d (.lst ys)) { s with heap := doneHeap s.heap kS d out.toArray } := by
  have s1 := Heap.SameBut.update s.heap kS (Obj.mapSeq fun _ => (#[] : Array Value))
  have nd1 : (s.heap.update kS (Obj.mapSeq fun _ => (#[] : Array Value))).get? d = some (seqObj "list" #[] e1) := (s1.2 d ne.symm).trans hd
  obtain ⟨e2, hd2⟩ : ∃ e2, (doneHeap s.heap kS d out.toArray).get? d = some (seqObj "list" out.toArray e2) := ⟨_, get?_update_seq nd1 fun _ => out.toArray⟩
  obtain ⟨e3, hk3⟩ : ∃ e3, (s.heap.update kS (Obj.mapSeq fun _ => (#[] : Array Value))).get? kS = some (seqObj "list" #[] e3) := ⟨_, get?_update_seq hk fun _ => #[]⟩
  have kp : ∀ b o, b ≠ kS → b ≠ d → s.heap.get? b = some o → (doneHeap s.heap kS d out.toArray).get? b = some o := fun b o h1 h2 e => by
    show ((s.heap.update kS (Obj.mapSeq fun _ => (#[] : Array Value))).update d _).get? b = _
    rw [Heap.get?_update_ne _ _ _ _ h2, Heap.get?_update_ne _ _ _ _ h1]
    exact e
  have nK : ∀ b u, H b = some u → b ≠ kS := fun b u e z => by rw [z, fk.1] at e; cases e
  have nD : ∀ b u, H b = some u → b ≠ d := fun b u e z => by rw [z, fd.1] at e; cases e
  have stay : ∀ b u, H b = some u → upd H d (.lst ys) b = some u := fun b u e => (upd_ne (nD b u e)).trans e
  refine I.step (g' := s.gens) (t' := s.toks) (d' := s.drawn) (ch := [kS, d]) (fun b hb => ?_) (fun b o _ _ hc e _ => kp b o (fun z => hc (by simp [z])) (fun z => hc (by simp [z])) e) (fun b o _ _ hc e _ => ⟨o.slots, kp b o (fun z => hc (by simp [z])) (fun z => hc (by simp [z])) e⟩)
    (fun b o hc _ n => (upd_ne (fun z => hc (by simp [z]))).trans n) (fun b o hc e => ⟨o, kp b o (fun z => hc (by simp [z])) (fun z => hc (by simp [z])) e⟩) (fun b xs e => stay _ _ e) (fun b o u e => stay _ _ e) (fun b ps e => ⟨#[], by rw [stay _ _ e]; simp⟩) (fun m hm => ?_) (fun b u e => ?_) I.bare
  · rcases List.mem_cons.mp hb with rfl | hb
    · exact ⟨fk.2.2.2.1, fk.2.1, fk.2.2.2.2.1, fk.2.2.2.2.2⟩
    · rw [List.mem_singleton.mp hb]
      exact ⟨fd.2.2.2.1, fd.2.1, fd.2.2.2.2.1, fd.2.2.2.2.2⟩
  · obtain ⟨o, es, ep, ho, r⟩ := hm
    exact ⟨o, es, ep, kp _ o (Ne.symm fk.2.1) (Ne.symm fd.2.1) ho, r⟩
  · by_cases hb : b = d
    · rw [hb, upd_same] at e
      cases e
      rw [hb]
      exact ⟨hl, out, e2, hv, hd2⟩
    · rw [upd_ne hb] at e
      refine (I.hok b u e).stay (fun c v hc q => ?_) (fun _ q => stay _ _ q) fun _ _ q => stay _ _ q
      rcases hc with z | z
      · rw [z] at q ⊢
        exact kp _ _ (nK b u e) hb q
      · exact kp _ _ (nK c _ z) (nD c _ z) q
end
end SrtL
set_option Elab.async false
set_option linter.all false
set_option maxRecDepth 100001
set_option maxHeartbeats 3999999
namespace SrtL
open PySem PyProof.Rows Srt SrtO L2 LamX
section
variable {X : Cx} {p lpos kpos pos : Pos} {e : Expr} {te tb : TE} {α : Type}
theorem frames2 (I : X.Ok) : X.A.in1.in1.frames = some X.stack := I.frames
theorem pe_sortLam (O : KeyOrd α) {Tb : List (Addr × Str)} {c T : Addr} {k i : Nat} {a : Str} {params : Arguments} {body : Expr} {scope : Scope} (hg : Gl X "sorted") (hm : X.mg "sorted" = none) (he : PE X e te) (TB : TabB X.base X.mg c T) (hmT : (T, X.env.qual ++ "<lambda>") ∈ Tb) (hu : ∀ p ∈ Tb, p.1 = T → p.2 = X.env.qual ++ "<lambda>")
    (hr : Room (k + 3) X.A) (L : LamP X.env.scope scope a) (nd : X.N.Nodup) (hN : X.N[i]? = some a)
    (hbody : ∀ (s : Shared) (H : Hp) (f c' : Addr), Room k (X.A.in1.in1.deeper (lamEnv X scope s.heap.objs.size f c')) → PE (lamCx X X.A.in1.in1 X.stack s H C8.E0 scope f c') body tb)
    (hcode : X.env.code = .ref c := by rfl) (hdef : defaultsOf params X.env = ([], []) := by rfl)
    (hbind : ∀ (q : Str) (cl : List (Str × Addr)) (pm cv ctv u : Value), bindArgs (PySem.W.kla_fn "<lambda>" q params body scope cl pm cv ctv) ⟨[u], []⟩ = pure [(a, u)] := by intros; rfl)
    (hs0 : starEach [e] X.env = (false, eval e X.env) :: starEach [] X.env := by rfl) (hs : backTo pos (starEach [e] X.env) = (false, eval e X.env) :: backTo pos (starEach [] X.env) := by rfl) (hpl : (backTo pos (starEach [e] X.env)).any (·.1) = false := by rfl) :
    PE X (.Call (.Name "sorted" p) [e] [⟨some "key", .Lambda params body scope lpos, kpos⟩] pos) (tSortLam Tb X.K O i te tb) := by
  refine ⟨fun pins s σ H Q I h => ?_⟩
  refine wpAny_Call_Name_kw (ld_blt (u := Value.builtin "sorted") I hg hm (by decide +kernel) ?_ (by decide) (by decide))
  refine PyProof.Rows.callWith_kw (thn ((pa_cons he pa_nil hs0).run pos pins s σ H (fun vs H1 => match vs with
    | [x] => ∃ (a : Addr) (xs : List V) (g : V → α), x = .ref a ∧ SqL X.K H1 a xs ∧ Tabs Tb H1 ∧
  ∀ H2, ExtN H1 H2 → Tabs Tb H2 → SqL X.K H2 a xs ∧ (∀ v ∈ xs, tb (σ.set i (some v)) H2 fun kv H4 => kv = O.enc (g v) ∧ H4 = H2) ∧
    ∀ ys p, Srtd (ltG O g) ys → Stb (ltG O g) ys xs → H2 p = none → Q (.ref p) (upd H2 p (.lst ys))
    | _ => False) I h) fun us s1 ⟨vs, H1, I1, r1, q1⟩ => ?_) hs hpl (by rfl) (by rfl)
  obtain ⟨x, rfl, u, rfl, rx, q1⟩ : ∃ x, vs = [x] ∧ ∃ u, us = [u] ∧ RelV x u ∧ ∃ (a : Addr) (xs : List V) (g : V → α), x = .ref a ∧ SqL X.K H1 a xs ∧ Tabs Tb H1 ∧
      ∀ H2, ExtN H1 H2 → Tabs Tb H2 → SqL X.K H2 a xs ∧ (∀ v ∈ xs, tb (σ.set i (some v)) H2 fun kv H4 => kv = O.enc (g v) ∧ H4 = H2) ∧
        ∀ ys p, Srtd (ltG O g) ys → Stb (ltG O g) ys xs → H2 p = none → Q (.ref p) (upd H2 p (.lst ys)) := by
    cases vs with
    | nil => exact q1.elim
    | cons x r =>
      cases r with
      | nil =>
        cases r1 with
        | cons rx t =>
          cases t
          exact ⟨x, rfl, _, rfl, rx, q1⟩
      | cons y r => exact q1.elim
  obtain ⟨l, xs, g, rfl, hl1, hT1, q1⟩ := q1
  obtain rfl : u = Value.ref l := rx
  show wpAny _ _ (evalAll ((do let v ← eval (.Lambda params body scope lpos) X.env; standAt pos; pure v) :: (backToKw pos (keywordEach [] X.env)).map (·.2))) _ _ s1
  refine wpAny_evalAll_cons (wpAny_bind (lam_make2 I1 TB hcode hmT hu hT1 hdef (L.has I1.ok) fun f c' pm ctv H2 s2 I2 e12 hT2 hf hfn hfr hc => wpAny_bind (wpAny_standAt (wpAny_pure ?_))))
  refine wpAny_evalAll_nil ?_
  show wpAny _ _ (call (.builtin "sorted") [.ref l] [(Str.ofString "key", .ref f)]) _ _ s2
  obtain ⟨hl2, hkey, hend⟩ := q1 H2 e12 hT2
  obtain ⟨its, rv, hil, hz⟩ := I2.list hl2
  refine sorted_ord (vs := its) (ltv := ltD O) (swo_dec O.swo O.dec) hil.isList (by rw [← rv.length]; exact hz) fun h1 d kS e1 hkp hd hkS gd gk nkd => ?_
  have fk : FpOk X pins H2 kS := I2.fpOk gk (I2.hok.fresh gk)
  have fd : FpOk X pins H2 d := I2.fpOk gd (I2.hok.fresh gd)
  have hroom : Room (k + 1) X.A.in1.in1 := (Room.in1 (Room.in1 hr))
  refine ⟨fun ks s' => Inv X pins σ H2 s' ∧ (∃ ek, s'.heap.get? kS = some (seqObj "list" ks.toArray ek)) ∧ s'.heap.get? d = some (seqObj "list" #[] e1) ∧ s'.heap.get? f = some (PySem.W.kla_obj "<lambda>" (X.env.qual ++ "<lambda>") params body scope (cloFrom X.env.cells scope.names []) pm c' ctv) ∧ Vals ((xs.take ks.length).map fun x => O.enc (g x)) ks,
    ⟨I2.kept (t' := s2.toks) hkp, ⟨0, hkS⟩, hd, hkp _ _ hf, by rw [List.length_nil, List.take_zero]; exact .nil⟩, ⟨fun ks s' h => ⟨h.2.1, h.2.2.1⟩, ?_, ?_, ?_⟩⟩
  · rintro ks u s' ⟨J, ⟨ek, jk⟩, jd, jf, jv⟩ hu2
    obtain ⟨x, hx, rx⟩ : ∃ x, xs[ks.length]? = some x ∧ RelV x u := by
      have lt : ks.length < xs.length := by rw [rv.length]; exact (List.getElem?_eq_some_iff.mp hu2).1
      obtain ⟨u', h1, h2⟩ := rv.get (List.getElem?_eq_getElem lt)
      rw [hu2] at h1
      cases h1
      exact ⟨_, List.getElem?_eq_getElem lt, h2⟩
    refine wpAny_call (codeAny_mono (lam_call1 (A := X.A.in1.in1) (i := i) (Q := fun kv H4 => kv = O.enc (g x) ∧ H4 = H2) J L J.ok.frames hroom nd hN rx jf hc (hbind _ _ _ _ _ _) (fun _ => hbody s' H2 f c' ‹_›) (hkey x (List.mem_of_getElem? hx))) fun r s'' hq => ?_)
    cases r with
    | error e =>
      obtain ⟨_, _, _, _, _, _, _, _, _, _, _, _, z⟩ := hq
      exact z
    | ok fl =>
      cases fl with
      | ret kv =>
        obtain ⟨v, H', os, bare, un, hok, rk, rfl, rfl⟩ := id hq
        obtain ⟨v2, H3, J2, _, _, rfl⟩ := J.after hq
        have kept : ∀ b o, H3 b = none → b ∉ frs X.stack → s'.heap.get? b = some o → s''.heap.get? b = some o := fun b o h1 h2 h3 => un.keep b o h3 h1 h2 (by simp)
        have jk2 := kept _ _ fk.1 (fp_nofr J fk) jk
        have jd2 := kept _ _ fd.1 (fp_nofr J fd) jd
        have jf2 := kept _ _ hfn hfr jf
        have sb := Heap.SameBut.update s''.heap kS (Obj.mapSeq (·.push kv))
        have kb : ∀ b o, b ≠ kS → s''.heap.get? b = some o → (s''.heap.update kS (Obj.mapSeq (·.push kv))).get? b = some o := fun b o hb e => (sb.2 b hb).trans e
        obtain ⟨c2, hc2⟩ : ∃ c2, (s''.heap.update kS (Obj.mapSeq (·.push kv))).get? kS = some (seqObj "list" (ks.toArray.push kv) c2) := ⟨_, get?_update_seq jk2 (·.push kv)⟩
        have nf : f ≠ kS := fun z => Nat.lt_irrefl _ (Nat.lt_of_lt_of_le (z ▸ Heap.lt_size hf) gk)
        refine ⟨⟨ek, jk2⟩, J2.turned (t' := s''.toks) kb fk.1 fk.2.1 fk.2.2.2.1 fk.2.2.2.2.1 fk.2.2.2.2.2, ⟨c2, by rw [hc2, List.push_toArray]⟩, kb _ _ nkd.symm jd2, kb _ _ nf jf2, ?_⟩
        have e1 : xs.take (ks ++ [kv]).length = xs.take ks.length ++ [x] := by
          rw [List.length_append, List.length_singleton, List.take_add_one, hx]
          rfl
        rw [e1, List.map_append]
        exact Paired.snoc jv rk
      | next => exact False.elim hq
      | brk => exact False.elim hq
      | cont => exact False.elim hq
  · rintro ks s' ⟨J, _, _, _, jv⟩ lk h2
    refine O.sortable ks (fun u hu => ?_) (by omega)
    obtain ⟨j, hj⟩ := List.mem_iff_getElem?.mp hu
    obtain ⟨lt, _⟩ := List.getElem?_eq_some_iff.mp hj
    have lt2 : j < ((xs.take ks.length).map fun x => O.enc (g x)).length := by rw [jv.length]; exact lt
    obtain ⟨u', h3, h4⟩ := jv.get (List.getElem?_eq_getElem lt2)
    rw [hj] at h3
    cases h3
    rw [List.getElem_map] at h4
    exact ⟨_, h4⟩
  · rintro ks s' ⟨J, ⟨ek, jk⟩, jd, _, jv⟩ lk ps h1 h2
    have lx : xs.length = ks.length := by rw [rv.length, lk]
    rw [← lx, List.take_length] at jv
    obtain ⟨y1, y2, y3⟩ := conv O g rv jv h1 h2
    refine ⟨rfl, .ref d, _, inv_done (ys := ps.map fun p => bk p.2) J fk fd nkd jk jd (by rw [y3.len]; exact hz) y1, rfl, hend _ d y2 y3 fd.1⟩
end
end SrtL
set_option Elab.async false
set_option linter.all false
set_option maxRecDepth 100001
set_option maxHeartbeats 1999999
/-! rules for texts: list(s), s * n, s[::-1], and for lists of ints: xs < ys. -/
namespace L2
open PySem.Spec PySem PyProof.Rows
def sgn (c : Nat) : V := .str ⟨#[c]⟩
def sgns (z : Str) : List V := z.cps.toList.map sgn
theorem vals_get : ∀ {xs : List V} {us : List Value}, xs.length = us.length → (∀ (j : Nat) x u, xs[j]? = some x → us[j]? = some u → RelV x u) → Vals xs us
  | [], [], _, _ => .nil
  | [], _ :: _, h, _ => by simp at h
  | _ :: _, [], h, _ => by simp at h
  | x :: xs, u :: us, h, k => .cons (k 0 x u rfl rfl) (vals_get (by simpa using h) fun j a b h1 h2 => k (j + 1) a b (by simpa using h1) (by simpa using h2))
section
variable {X : Cx}
/-- list(s) -/
theorem call_listS (hc : X.calm = true) : CallR X (.type "list") (fun xs H Q => ∃ z : Str, xs = [.str z] ∧ z.length ≤ sizeLine ∧ ∀ p, H p = none → Q (.ref p) (upd H p (.lst (sgns z)))) := by
  intro pins s σ H xs us Q I r h
  obtain ⟨z, rfl, hz, q⟩ := h
  obtain ⟨u, rfl, rx⟩ := vals1 r
  obtain ⟨t, rfl⟩ := rx
  refine PySem.call_list_str (I.ok.hd hc) z t (fun h' tk acc' c' hk hS hacc => ?_) hz
  refine ⟨.ref _, upd H s.heap.objs.size (.lst (sgns z)), I.laid (t' := tk) hk (Nat.le_refl _) ⟨?_, acc'.toList, c', ?_, by rw [hS]⟩, rfl, q _ (I.hok.fresh (Nat.le_refl _))⟩
  · unfold sgns
    rw [List.length_map, Array.length_toList]
    exact hz
  · refine vals_get ?_ fun j x u h1 h2 => ?_
    · unfold sgns
      rw [List.length_map, Array.length_toList, Array.length_toList, hacc.1]
    · unfold sgns at h1
      rw [List.getElem?_map] at h1
      rw [Array.getElem?_toList] at h2
      obtain ⟨c, t', hc', rfl⟩ := hacc.2 j u h2
      rw [Array.getElem?_toList, hc'] at h1
      cases h1
      exact ⟨t', rfl⟩
/-! ### xs < ys -/
theorem firstLt_map (e r : Nat → Bool) (fin : Bool) : ∀ l : List Nat, SeqAt.firstLt e r fin (l.map (· + 1)) = SeqAt.firstLt (fun j => e (j + 1)) (fun j => r (j + 1)) fin l
  | [] => rfl
  | j :: l => by
    rw [List.map_cons]
    unfold SeqAt.firstLt
    rw [firstLt_map e r fin l]
theorem firstLt_lex : ∀ ns ms : List Int, SeqAt.firstLt (fun j => ns.getD j 0 == ms.getD j 0) (fun j => decide (ns.getD j 0 < ms.getD j 0)) (decide (ns.length < ms.length)) (List.range (min ns.length ms.length)) = HT.lexLt ns ms
  | [], [] => rfl
  | [], y :: ys => by simp [SeqAt.firstLt, HT.lexLt]
  | x :: xs, [] => by simp [SeqAt.firstLt, HT.lexLt]
  | x :: xs, y :: ys => by
    have ih := firstLt_lex xs ys
    have e : List.range (min (x :: xs).length (y :: ys).length) = 0 :: (List.range (min xs.length ys.length)).map (· + 1) := by
      rw [List.length_cons, List.length_cons, Nat.succ_min_succ, List.range_succ_eq_map]
    rw [e, HT.lexLt_cons]
    show (if (x == y) = true then _ else decide (x < y)) = _
    by_cases c : x = y
    · rw [if_pos (by simpa using c), if_pos c, firstLt_map, ← ih]
      simp
    · rw [if_neg (by simpa using c), if_neg c]
theorem ints_get : ∀ {ns : List Int} {us : List Value}, Vals (ns.map V.int) us → ∀ (j : Nat) u, us[j]? = some u → ∃ t, u = .int (ns.getD j 0) t
  | [], _, .nil, j, u, h => by simp at h
  | n :: ns, _, .cons ⟨t, e⟩ r, 0, u, h => by
    simp at h
    subst h e
    exact ⟨t, rfl⟩
  | n :: ns, _, .cons _ r, j + 1, u, h => by
    obtain ⟨t, e⟩ := ints_get r j u (by simpa using h)
    exact ⟨t, by simpa using e⟩
def rLtLI (K : PySem.W.Frag) : R2 := fun x y H Q => ∃ a b ns ms, x = .ref a ∧ y = .ref b ∧ SqL K H a (ns.map V.int) ∧ SqL K H b (ms.map V.int) ∧ Q (.bl (HT.lexLt ns ms)) H
theorem op_ltLI (hu : X.A.units < cLine) : OpR X (compareOp .Lt) (rLtLI X.K) := by
  intro pins s σ H x y v u Q I rx ry h
  obtain ⟨a, b, ns, ms, rfl, rfl, ha, hb, q⟩ := h
  cases rx
  cases ry
  obtain ⟨its, r1, p1, _⟩ := I.list ha
  obtain ⟨its2, r2, p2, _⟩ := I.list hb
  have l1 : its.toArray.size = ns.length := by have := r1.length; simp at this ⊢; omega
  have l2 : its2.toArray.size = ms.length := by have := r2.length; simp at this ⊢; omega
  have g1 : ∀ j (h : j < its.toArray.size), ∃ t, its.toArray[j] = .int (ns.getD j 0) t := fun j h => ints_get r1 j _ (by simpa using (List.getElem?_eq_getElem (by simpa using h)))
  have g2 : ∀ j (h : j < its2.toArray.size), ∃ t, its2.toArray[j] = .int (ms.getD j 0) t := fun j h => ints_get r2 j _ (by simpa using (List.getElem?_eq_getElem (by simpa using h)))
  refine SeqAt.RcLt.lists (e := fun j => ns.getD j 0 == ms.getD j 0) (r := fun j => decide (ns.getD j 0 < ms.getD j 0)) p1.isList p2.isList hu (fun j h1 h2 => ?_) (fun j h1 h2 _ => ?_) X.prog X.w _ _ ?_
  · obtain ⟨t, e1⟩ := g1 j h1
    obtain ⟨t', e2⟩ := g2 j h2
    rw [e1, e2]
    exact SeqAt.EqAt.int_int _ _ _ _
  · obtain ⟨t, e1⟩ := g1 j h1
    obtain ⟨t', e2⟩ := g2 j h2
    rw [e1, e2]
    exact fun prog w E Q h => HT.rcLt_int _ _ _ _ _ _ prog w E Q h
  · rw [l1, l2, firstLt_lex]
    exact ⟨.bl _, H, I, rfl, q⟩
/-! ### s * n -/
def repS (z : Str) (k : Nat) : Str := ⟨((List.replicate k z.cps.toList).flatten).toArray⟩
theorem fold_rep (z : Array Nat) : ∀ (k : Nat) (a : Array Nat), ((List.replicate k z).foldl (· ++ ·) a) = a ++ ((List.replicate k z.toList).flatten).toArray
  | 0, a => by simp
  | k + 1, a => by
    rw [List.replicate_succ, List.foldl_cons, fold_rep z k, List.replicate_succ, List.flatten_cons]
    refine Array.ext' ?_
    simp
def rMulS : R2 := fun x y H Q => ∃ (z : Str) (k : Nat), x = .str z ∧ y = .int (k : Nat) ∧ 2 ≤ k ∧ k ≤ 1000 ∧ 1 ≤ z.length ∧ z.length ≤ 1000 ∧ Q (.str (repS z k)) H
theorem op_mulS : OpR X (binaryOp .Mult) rMulS := by
  intro pins s σ H x y v u Q I rx ry h
  obtain ⟨z, k, rfl, rfl, k2, k1, z1, z2, q⟩ := h
  obtain ⟨t, rfl⟩ := rx
  obtain ⟨t', rfl⟩ := ry
  have n1 : ¬ ((k : Nat) : Int) < 1 := by omega
  have n2 : (((k : Nat) : Int) == 1 || z.length == 0) = false := by
    simp
    omega
  refine P.mul_str (by simp; omega) (fun _ _ => ?_) (fun _ _ => ?_) ?_
  · have hk : (9007199254740 : Int) ≤ (2 ^ 63 - 1) / ((k : Nat) : Int) := by
      refine (Int.le_ediv_iff_mul_le (by omega)).mpr ?_
      have : (9007199254740 : Int) * ((k : Nat) : Int) ≤ 9007199254740 * 1000 := Int.mul_le_mul_of_nonneg_left (by omega) (by decide)
      have e : (9007199254740 : Int) * 1000 ≤ 2 ^ 63 - 1 := by decide
      omega
    omega
  · rw [Int.toNat_natCast]
    have : z.length * k ≤ 1000 * 1000 := Nat.mul_le_mul z2 k1
    exact decide_eq_false (Nat.not_lt.mpr (Nat.le_trans this (by decide)))
  · rw [if_neg n1, if_neg (by rw [n2]; decide), Int.toNat_natCast, fold_rep]
    have e : (#[] ++ ((List.replicate k z.cps.toList).flatten).toArray : Array Nat) = ((List.replicate k z.cps.toList).flatten).toArray := by simp
    rw [e]
    refine ⟨?_, .str (repS z k), H, I.tok _, ⟨_, rfl⟩, q⟩
    show (((List.replicate k z.cps.toList).flatten).toArray).size ≤ sizeLine
    rw [List.size_toArray, List.length_flatten, List.map_replicate, List.sum_replicate_nat, Array.length_toList]
    have : k * z.length ≤ 1000 * 1000 := Nat.mul_le_mul k1 z2
    exact Nat.le_trans this (by decide)
/-! ### s[::-1] -/
def revS (z : Str) : Str := ⟨z.cps.toList.reverse.toArray⟩
def tRevS (te : TE) : TE := fun σ H Q => te σ H fun x H1 => ∃ z : Str, x = .str z ∧ z.length ≤ sizeLine ∧ Q (.str (revS z)) H1
theorem pick_rev (z : Str) : (Builtin.Str.strSliceIndices none none (-1) z.length).filterMap (z.cps[·]?) = z.cps.toList.reverse := by
  show (sliceRange ((z.cps.size : Int) - 1) (-1) (-1)).filterMap (z.cps[·]?) = _
  rw [PySem.W.krv_sliceRange, PySem.W.krv_range, List.filterMap_reverse, PySem.W.krv_all]
theorem pe_revS {e : Expr} {te : TE} {k : Nat} {p1 p2 p3 pos : Pos} (he : PE X e te) : PE X (.Subscript e (.Slice none none (some (.UnaryOp .USub (.Constant (.int 1) k p1) p2)) p3) pos) (tRevS te) := by
  refine ⟨fun pins s σ H Q I h => ?_⟩
  refine Subscript_ (thn (he.run pins s σ H _ I h) fun v s1 ⟨x, H1, I1, r1, q1⟩ => ?_)
  obtain ⟨z, ex, hz, q⟩ := q1
  subst ex
  obtain ⟨t, rfl⟩ := r1
  have hst : PO X (some (.UnaryOp .USub (.Constant (.int 1) k p1) p2)) (tPart (tUn (rU fun i => .int (-i)) (tC (.int 1)))) := po_some (pe_un un_neg pe_int)
  refine wpAny_Slice (thn (po_none.run pins s1 σ H1 (fun o H2 => o = none ∧ H2 = H1) I1 ⟨rfl, rfl⟩) fun vl s2 ⟨l, H2, I2, pl, el, e2⟩ => ?_)
  subst el e2
  refine thn (po_none.run pins s2 σ H2 (fun o H3 => o = none ∧ H3 = H2) I2 ⟨rfl, rfl⟩) fun vu s3 ⟨u, H3, I3, pu, eu, e3⟩ => ?_
  subst eu e3
  refine thn (hst.run pins s3 σ H3 (fun o H4 => o = some (-1) ∧ H4 = H3) I3 ⟨1, rfl, -1, rfl, rfl, rfl⟩) fun vs s4 ⟨o, H4, I4, ps, eo, e4⟩ => ?_
  subst eo e4
  have I5 : Inv X pins σ H4 { s4 with heap := s4.heap.push { cls := .type "slice", data := .fields #[vl, vu, vs] } } := I4.kept (t' := s4.toks) fun b ob q => Heap.get?_push_of_some _ q
  obtain ⟨l0, rfl, e0⟩ := IsPart.raw pl
  obtain ⟨u0, rfl, e1⟩ := IsPart.raw pu
  obtain ⟨v0, rfl, e2⟩ := IsPart.raw ps
  have l0n : l0 = none := by cases l0 with | none => rfl | some _ => cases e0
  have u0n : u0 = none := by cases u0 with | none => rfl | some _ => cases e1
  subst l0n u0n
  obtain ⟨tk, rfl⟩ : ∃ tk, v0 = some (-1, tk) := by
    cases v0 with
    | none => cases e2
    | some p =>
      obtain ⟨a, b⟩ := p
      have : a = -1 := Option.some.inj e2
      exact ⟨b, by rw [this]⟩
  show wpAny (model X.prog X.w) X.A (subscriptTail e (.Slice none none (some (.UnaryOp .USub (.Constant (.int 1) k p1) p2)) p3) (.str z t) (.ref s4.heap.objs.size)) (EP X pins σ Q) X.xe _
  refine tail_any (ops := [.str z t, .ref s4.heap.objs.size]) (typeIs_str _ z t) F.slot_str_getitem.lookup ?_ (by with_unfolding_all rfl)
  refine wpAny_getItem_str_slice (l := none) (u := none) (st := some (-1, tk)) ⟨_, Heap.get?_push_size _ rfl, rfl, rfl⟩ rfl ?_
  show Made.post (if ((-1 : Int) == 1 && (Builtin.Str.strSliceIndices none none (-1) z.length).length == z.length) = true then Made.val (.str z t) else Made.str ⟨((Builtin.Str.strSliceIndices none none (-1) z.length).filterMap (z.cps[·]?)).toArray⟩) _ _
  rw [if_neg (by simp), pick_rev]
  refine ⟨?_, .str (revS z), H4, I5.tok _, ⟨_, rfl⟩, q⟩
  show (z.cps.toList.reverse.toArray).size ≤ sizeLine
  rw [List.size_toArray, List.length_reverse, Array.length_toList]
  exact hz
/-! ### sep.join(s), s a text -/
theorem mt_joinS (hc : X.calm = true) : MtR X "str.join" (fun x xs H Q => ∃ a z : Str, x = .str a ∧ xs = [.str z] ∧ JoinOk a (PyProof.Rows.signs z) = true ∧ Q (.str (Txt.join a (PyProof.Rows.signs z))) H) := by
  intro pins s σ H x xs v us Q I rx rs h
  obtain ⟨a, z, rfl, rfl, ok, q⟩ := h
  obtain ⟨t, rfl⟩ := rx
  obtain ⟨u, rfl, ru⟩ := vals1 rs
  obtain ⟨t', rfl⟩ := ru
  exact SC.joinStr (I.ok.hd hc) ok fun h' k t2 hk => ⟨.str _, H, I.kept (t' := k) hk, ⟨t2, rfl⟩, q⟩
end
end L2
set_option Elab.async false
set_option linter.all false
set_option maxRecDepth 100001
set_option maxHeartbeats 3999999
namespace K50
open PySem L2
def topS (i : Nat) : Stmt := PySem.Challenge.pw_wordvault_k50_whole_remainders.main.body.getD i (.Pass ⟨0, 0, 0, 0⟩)
abbrev sWhole : Stmt := topS 2
abbrev sBetween : Stmt := topS 3
abbrev sPen : Stmt := topS 36
abbrev sDraw : Stmt := topS 37
abbrev sPick : Stmt := topS 38
/-! what kinds of values are met -/
inductive Kn (H : Hp) : V → Prop where
  | non : Kn H .non
  | bl (b : Bool) : Kn H (.bl b)
  | int (i : Int) : Kn H (.int i)
  | str (x : Str) : Kn H (.str x)
  | lst {a : Addr} {xs : List V} (e : H a = some (.lst xs)) : Kn H (.ref a)
  | tup {a : Addr} {xs : List V} (e : H a = some (.tup xs)) : Kn H (.ref a)
theorem Kn.same {H H2 : Hp} {v : V} (k : Kn H v) (s : Same H H2) : Kn H2 v := by
  cases k with
  | non => exact .non
  | bl b => exact .bl b
  | int i => exact .int i
  | str x => exact .str x
  | lst e => exact .lst (s _ _ e)
  | tup e => exact .tup (s _ _ e)
def isI : V → Bool
  | .int _ => true
  | _ => false
def isB : V → Bool
  | .bl _ => true
  | _ => false
def isT (H : Hp) : V → Bool
  | .ref a => match H a with
    | some (.tup _) => true
    | _ => false
  | _ => false
def isL (H : Hp) : V → Bool
  | .ref a => match H a with
    | some (.lst _) => true
    | _ => false
  | _ => false
theorem isT_lst {H : Hp} {a : Addr} {xs : List V} (e : H a = some (.lst xs)) : isT H (.ref a) = false := by simp only [isT, e]
theorem isT_tup {H : Hp} {a : Addr} {xs : List V} (e : H a = some (.tup xs)) : isT H (.ref a) = true := by simp only [isT, e]
theorem isL_lst {H : Hp} {a : Addr} {xs : List V} (e : H a = some (.lst xs)) : isL H (.ref a) = true := by simp only [isL, e]
theorem isL_tup {H : Hp} {a : Addr} {xs : List V} (e : H a = some (.tup xs)) : isL H (.ref a) = false := by simp only [isL, e]
def KT (K : PySem.W.Frag) (t : String) (bi bb bt bl : Bool) : Prop := PySem.W.kitOne K (.type t) (.type "int") = some bi ∧ PySem.W.kitOne K (.type t) (.type "bool") = some bb ∧
    PySem.W.kitOne K (.type t) (.type "tuple") = some bt ∧ PySem.W.kitOne K (.type t) (.type "list") = some bl ∧ PySem.W.kitOne K (.type t) (.type "dict") = some false
theorem kt_of {K : PySem.W.Frag} {t : String} {bi bb bt bl : Bool} (h : kitB t "int" = some bi ∧ kitB t "bool" = some bb ∧ kitB t "tuple" = some bt ∧ kitB t "list" = some bl ∧ kitB t "dict" = some false) : KT K t bi bb bt bl := h
theorem kt_non {K : PySem.W.Frag} : KT K "NoneType" false false false false := kt_of (by decide +kernel)
theorem kt_bl {K : PySem.W.Frag} : KT K "bool" true true false false := kt_of (by decide +kernel)
theorem kt_int {K : PySem.W.Frag} : KT K "int" true false false false := kt_of (by decide +kernel)
theorem kt_str {K : PySem.W.Frag} : KT K "str" false false false false := kt_of (by decide +kernel)
theorem kt_lst {K : PySem.W.Frag} : KT K "list" false false false true := kt_of (by decide +kernel)
theorem kt_tup {K : PySem.W.Frag} : KT K "tuple" false false true false := kt_of (by decide +kernel)
/-- a known value's type, and what isinstance says of it -/
theorem Kn.kinds (K : PySem.W.Frag) {H : Hp} {v : V} (k : Kn H v) : ∃ t : String, TyX K H v (.type t) ∧ KT K t (isI v || isB v) (isB v) (isT H v) (isL H v) := by
  cases k with
  | non => exact ⟨_, .base .non, kt_non⟩
  | bl b => exact ⟨_, .base (.bl b), kt_bl⟩
  | int i => exact ⟨_, .base (.int i), kt_int⟩
  | str x => exact ⟨_, .base (.str x), kt_str⟩
  | lst e =>
    rw [isT_lst e, isL_lst e]
    exact ⟨_, .base (.lst e), kt_lst⟩
  | tup e =>
    rw [isT_tup e, isL_tup e]
    exact ⟨_, .base (.tup e), kt_tup⟩
def spWhole : Sp := fun vs H Q _ => ∃ v, vs = [v] ∧ Kn H v ∧ Q (.bl (isI v)) H
def btw : V → Int → Int → Bool
  | .int i, lo, hi => decide (lo ≤ i ∧ i ≤ hi)
  | _, _, _ => false
def spBetween : Sp := fun vs H Q _ => ∃ v lo hi, vs = [v, .int lo, .int hi] ∧ Kn H v ∧ Q (.bl (btw v lo hi)) H
/-- how many items a known tuple has -/
def isTn (H : Hp) (v : V) (n : Int) : Bool := match v with
  | .ref a => match H a with
    | some (.tup xs) => decide ((xs.length : Int) = n)
    | _ => false
  | _ => false
def spTupOf : Sp := fun vs H Q _ => ∃ v n, vs = [v, .int n] ∧ Kn H v ∧ Q (.bl (isTn H v n)) H
section
variable {P : Program} {w : World} {K : PySem.W.Frag} {mg : Str → Option Value} {base : Heap}
/-- a def of the top that may be called by its name; CX: what it may let out -/
structure Cal (CX : CXT) (P : Program) (w : World) (K : PySem.W.Frag) (mg : Str → Option Value) (base : Heap) (k : Nat) (x : Str) (sp : Sp) : Prop where
  ex : ∃ (f : Addr) (fd : FuncData) (ps : List Str), FnOk P w K mg base CX k f fd ps sp ∧ mg x = some (.ref f) ∧ PySem.W.keepIn K (.ref f) = true ∧ Binds K fd ps []
/-- a method of the class at C -/
structure Met (CX : CXT) (P : Program) (w : World) (K : PySem.W.Frag) (mg : Str → Option Value) (base : Heap) (k : Nat) (C : Addr) (m : Str) (sp : Sp) : Prop where
  ex : ∃ (f : Addr) (fd : FuncData) (ps : List Str), Cls K C ∧ Meth K C m f ∧ FnOk P w K mg base CX k f fd ps sp ∧ Binds K fd ps []
/-- a class that may be made by its name -/
structure Mak (CX : CXT) (P : Program) (w : World) (K : PySem.W.Frag) (mg : Str → Option Value) (base : Heap) (k : Nat) (x : Str) (C : Addr) (sp : Sp) : Prop where
  ex : ∃ (f : Addr) (fd : FuncData) (ps : List Str), Mk K C f ∧ FnOk P w K mg base CX k f fd ps sp ∧ mg x = some (.ref C) ∧ Binds K fd ps []
section
variable {X : Cx} {CX : CXT} {k j : Nat} {C : Addr} {x m : Str} {sp : Sp} {p pos apos : Pos} {e o : Expr} {es : List Expr} {ta : TE} {t : TA} {E : XK}
theorem pe_c (c : Cal CX X.prog X.w X.K X.mg X.base k x sp) (hr : Room j X.A) (hx : Passes CX X E) (ha : PA X (e :: es) t) (hk : k ≤ j := by decide) (hg : Gl X x := by rfl) (hdb : (x == ("__debug__" : Str)) = false := by decide)
    (he : starEach (e :: es) X.env = (false, eval e X.env) :: starEach es X.env := by rfl) (hpl : (backTo pos (starEach es X.env)).any (·.1) = false := by rfl) : PE X (.Call (.Name x p) (e :: es) [] pos) (tCall sp [] E t) := by
  obtain ⟨f, fd, ps, F, hm, kp, b⟩ := c.ex
  exact pe_call F (hr.mono hk) hg hm kp b .nil hx ha hdb he hpl
theorem pe_mt (c : Met CX X.prog X.w X.K X.mg X.base k C m sp) (hr : Room j X.A) (hx : Passes CX X E) (he : PE X o ta) (ha : PA X (e :: es) t) (hk : k ≤ j := by decide) {pl : Sem Bool}
    (hst : starEach (e :: es) X.env = (false, eval e X.env) :: starEach es X.env := by rfl) (hpl : (backTo pos (starEach es X.env)).any (·.1) = false := by rfl)
    (hc : eval (.Call (.Attribute o m apos) (e :: es) [] pos) X.env = (do
      let ov ← eval o X.env
      standAt apos.atName
      let (f, first) ← holding [ov] (getMethod ov m pl)
      callWith pos f first (backTo pos (starEach (e :: es) X.env)) (backToKw pos (keywordEach [] X.env))) := by rfl) :
    PE X (.Call (.Attribute o m apos) (e :: es) [] pos) (tMeth C m sp [] E ta t) := by
  obtain ⟨f, fd, ps, cc, hm, F, b⟩ := c.ex
  exact pe_meth he cc hm F (hr.mono hk) b .nil hx ha hst hpl hc
theorem pe_mt0 (c : Met CX X.prog X.w X.K X.mg X.base k C m sp) (hr : Room j X.A) (hx : Passes CX X E) (he : PE X o ta) (hk : k ≤ j := by decide) {pl : Sem Bool}
    (hc : eval (.Call (.Attribute o m apos) [] [] pos) X.env = (do
      let ov ← eval o X.env
      standAt apos.atName
      let (f, first) ← holding [ov] (getMethod ov m pl)
      callWith pos f first (backTo pos (starEach [] X.env)) (backToKw pos (keywordEach [] X.env))) := by rfl) :
    PE X (.Call (.Attribute o m apos) [] [] pos) (tMeth C m sp [] E ta tNil) := by
  obtain ⟨f, fd, ps, cc, hm, F, b⟩ := c.ex
  exact pe_meth0 he cc hm F (hr.mono hk) b .nil hx hc
theorem pe_mk (c : Mak CX X.prog X.w X.K X.mg X.base k x C sp) (hr : Room j X.A) (hx : Passes CX X E) (ha : PA X (e :: es) t) (hk : k + 1 ≤ j := by decide) (hg : Gl X x := by rfl) (hdb : (x == ("__debug__" : Str)) = false := by decide)
    (he : starEach (e :: es) X.env = (false, eval e X.env) :: starEach es X.env := by rfl) (hpl : (backTo pos (starEach es X.env)).any (·.1) = false := by rfl) : PE X (.Call (.Name x p) (e :: es) [] pos) (tMake C sp [] E t) := by
  obtain ⟨f, fd, ps, M, F, hm, b⟩ := c.ex
  exact pe_make M F (hr.mono hk) hg hm b .nil hx ha hdb he hpl
end
/-- the built-in names that the module leaves as they are -/
structure Bi (mg : Str → Option Value) : Prop where
  isi : mg "isinstance" = none
  int : mg "int" = none
  bool : mg "bool" = none
  tuple : mg "tuple" = none
  list : mg "list" = none
  dict : mg "dict" = none
  len : mg "len" = none
  enum : mg "enumerate" = none
  range : mg "range" = none
  abs : mg "abs" = none
  max : mg "max" = none
  min : mg "min" = none
section
variable {X : Cx}
theorem pe_isi {a : Expr} {es : List Expr} {t : TA} {p pos : Pos} (hm : X.mg "isinstance" = none) (ha : PA X (a :: es) t) (hg : Gl X "isinstance" := by rfl)
    (he : starEach (a :: es) X.env = (false, eval a X.env) :: starEach es X.env := by rfl) (hpl : (backTo pos (starEach es X.env)).any (·.1) = false := by rfl) :
    PE X (.Call (.Name "isinstance" p) (a :: es) [] pos) (tCB (rIsi X.K) t) := pe_callB call_isi hg hm PyProof.Rows.boot_isinstance ha (he := he) (hpl := hpl)
theorem pe_ty (n : String) {x : Str} {p : Pos} (hm : X.mg x = none) (hv : bootBuiltins x = some (.type n) := by decide +kernel) (hg : Gl X x := by rfl) (h1 : x ≠ "__name__" := by decide) (h2 : (x == ("__debug__" : Str)) = false := by decide) : PE X (.Name x p) (tC (.ty n)) :=
  pe_bltn (v := .ty n) hg hm hv rfl h1 h2
theorem pe_len {a : Expr} {es : List Expr} {t : TA} {p pos : Pos} (hm : X.mg "len" = none) (ha : PA X (a :: es) t) (hg : Gl X "len" := by rfl) (he : starEach (a :: es) X.env = (false, eval a X.env) :: starEach es X.env := by rfl)
    (hpl : (backTo pos (starEach es X.env)).any (·.1) = false := by rfl) :
    PE X (.Call (.Name "len" p) (a :: es) [] pos) (tCB (fun xs H Q => ∃ p ys, xs = [.ref p] ∧ (SqL X.K H p ys ∨ SqT X.K H p ys) ∧ Q (.int ys.length) H) t) := pe_callB call_len_seq hg hm PySem.boot_len ha (he := he) (hpl := hpl)
theorem pa1 {a : Expr} {ta : TE} (ha : PE X a ta) (hs : starEach (a :: []) X.env = (false, eval a X.env) :: starEach [] X.env := by rfl) : PA X [a] (tCons ta tNil) := pa_cons ha pa_nil hs
end
theorem scWhole : FnScope ["value"] ["value"] (defScope sWhole) := ⟨rfl, rfl, rfl, by decide +kernel, rfl, by decide +kernel, by decide +kernel⟩
theorem ok_whole {f : Addr} {fd : FuncData} (F : Fun K "is_whole" "is_whole" sWhole f fd) (B : Bi mg) : FnOk P w K mg base CX0 1 f fd ["value"] spWhole := by
  refine F.ok scWhole (fun vs H Q E h => ?_) (fun cdv A outer s H vs Q E hr h => ?_)
  · obtain ⟨v, rfl, _⟩ := h
    rfl
  · obtain ⟨v, rfl, k, q⟩ := h
    refine ⟨_, pss_one (ps_ret (pe_and (pe_isi B.isi (pa_cons (pv 0) (pa_cons (pe_ty "int" B.int) pa_nil))) (pe_one (pe_not (pe_isi B.isi (pa_cons (pv 0) (pa_cons (pe_ty "bool" B.bool) pa_nil))))))), ?_⟩
    obtain ⟨t, ty, k1, k2, _⟩ := k.kinds K
    refine ⟨v, rfl, v, _, _, _, _, rfl, .ty "int", ty, k1, _, rfl, ?_⟩
    cases v with
    | bl b => exact ⟨_, rfl, _, _, _, _, _, rfl, .ty "bool", ty, k2, _, rfl, q⟩
    | int i => exact ⟨_, rfl, _, _, _, _, _, rfl, .ty "bool", ty, k2, _, rfl, q⟩
    | _ => exact q
theorem scBetween : FnScope ["value", "low", "high"] ["value", "low", "high"] (defScope sBetween) := ⟨rfl, rfl, rfl, by decide +kernel, rfl, by decide +kernel, by decide +kernel⟩
theorem ok_between {f : Addr} {fd : FuncData} (F : Fun K "is_between" "is_between" sBetween f fd) (cW : Cal CX0 P w K mg base 1 "is_whole" spWhole) : FnOk P w K mg base CX0 2 f fd ["value", "low", "high"] spBetween := by
  refine F.ok scBetween (fun vs H Q E h => ?_) (fun cdv A outer s H vs Q E hr h => ?_)
  · obtain ⟨v, lo, hi, rfl, _⟩ := h
    rfl
  · obtain ⟨v, lo, hi, rfl, k, q⟩ := h
    refine ⟨_, pss_one (ps_ret (pe_and (pe_c cW hr pass0 (pa_cons (pv 0) pa_nil)) (pe_one (pe_chain op_le op_le (pv 1) (pv 0) (pv 2))))), ?_⟩
    refine ⟨v, rfl, v, rfl, k, _, rfl, ?_⟩
    cases v with
    | int i =>
      refine ⟨_, rfl, _, rfl, _, _, rfl, rfl, _, rfl, ?_⟩
      by_cases c : lo ≤ i
      · rw [decide_eq_true c]
        refine ⟨_, rfl, _, _, rfl, rfl, ?_⟩
        have e : decide (i ≤ hi) = btw (.int i) lo hi := by
          show decide (i ≤ hi) = decide (lo ≤ i ∧ i ≤ hi)
          exact decide_eq_decide.mpr ⟨fun h => ⟨c, h⟩, fun h => h.2⟩
        show Q (.bl (decide (i ≤ hi))) H
        rw [e]
        exact q
      · rw [decide_eq_false c]
        have e : false = btw (.int i) lo hi := (decide_eq_false fun h => c h.1).symm
        show Q (.bl false) H
        rw [e]
        exact q
    | _ => exact q
end
theorem Same.seqT {K : PySem.W.Frag} {H H' : Hp} {a : Addr} {xs : List V} (e : Same H H') (h : SqT K H a xs) : SqT K H' a xs := by
  rcases h with (h | ⟨o, h⟩) | h
  · exact .inl (.inl (e _ _ h))
  · exact .inl (.inr ⟨o, e _ _ h⟩)
  · exact .inr h
theorem same_new {H : Hp} {p : Addr} {o : HO} (n : H p = none) : Same H (upd H p o) := fun b u e => by
  rw [upd_ne (ne_of_none e n)]
  exact e
/-- a list or a tuple of these items -/
def Sq (K : PySem.W.Frag) (H : Hp) (a : Addr) (xs : List V) : Prop := SqL K H a xs ∨ SqT K H a xs
theorem Sq.same {K : PySem.W.Frag} {H H' : Hp} {a : Addr} {xs : List V} (q : Sq K H a xs) (e : Same H H') : Sq K H' a xs := q.imp (fun h => e.seq h) fun h => Same.seqT e h
section
variable {X : Cx} {tg e : Expr} {w1 w2 : TI}
/-- a list or a tuple, item by item -/
def iSqS (K : PySem.W.Frag) (te : TE) : TI := fun σ H R => te σ H fun x H1 => ∃ a xs, x = .ref a ∧ Sq K H1 a xs ∧ ∀ (J : It) (G : Hp → Prop), Walk J xs.length G (YAt xs) → (∀ H', Same H1 H' → G H') → R J H1
open PySem.Spec PyProof.Rows in
theorem pi_sq {te : TE} (he : PE X e te) : PI X tg e (iSqS X.K te) := by
  constructor
  intro pins s σ H R I h
  refine thn (he.run pins s σ H _ I h) fun u s1 hh => ?_
  obtain ⟨v, H1, I1, r1, a, xs, ev, sq, k⟩ := hh
  subst ev
  cases r1
  have near : ∀ b ∈ [s1.heap.objs.size], FpOk X pins H1 b := fun b hb => by
    rw [List.mem_singleton.mp hb]
    exact I1.fpOk (Nat.le_refl _) (I1.hok.fresh (Nat.le_refl _))
  have J1 : ∀ o : Obj, Inv X pins σ H1 { s1 with heap := s1.heap.push o } := fun o => I1.kept (t' := s1.toks) fun b u z => Heap.get?_push_of_some _ z
  rcases sq with hq | hq
  · obtain ⟨its, rv, p1, hz⟩ := I1.list hq
    exact wpAny_pyIter_list p1.isList ⟨s1.heap.objs.size, _, _, _, H1, rfl, J1 _, turn_list a _, ⟨_, Heap.get?_push_size _ rfl, rfl, rfl⟩, near, k _ _ walk_list fun H' z => z.seq hq⟩
  · obtain ⟨its, rv, p2, hz⟩ := I1.tuple hq
    exact wpAny_pyIter_tuple (show s1.heap.IsTuple a its.toArray from p2) ⟨s1.heap.objs.size, _, _, _, H1, rfl, J1 _, turn_tuple a _, ⟨_, Heap.get?_push_size _ rfl, rfl, rfl⟩, near, k _ _ walk_tup fun H' z => Same.seqT z hq⟩
end
/-! ### None or an int -/
def Num (v : V) : Prop := v = .non ∨ ∃ i, v = .int i
def dOf : V → PyData
  | .int i => .int i
  | .bl b => .bool b
  | .str x => .str x
  | _ => .none
theorem eqv_num {a b : V} (ha : Num a) (hb : Num b) : PyData.eqv (dOf a) (dOf b) = decide (a = b) := by
  rcases ha with rfl | ⟨i, rfl⟩ <;> rcases hb with rfl | ⟨j, rfl⟩
  · simp [dOf, PyData.eqv]
  · simp [dOf, PyData.eqv]
  · simp [dOf, PyData.eqv]
  · rw [dec_int]
    simp [dOf, PyData.eqv]
theorem eqvAll_num : ∀ {xs ys : List V}, (∀ v ∈ xs, Num v) → (∀ v ∈ ys, Num v) → PyData.eqvAll (xs.map dOf) (ys.map dOf) = decide (xs = ys)
  | [], [], _, _ => by simp [PyData.eqvAll]
  | [], _ :: _, _, _ => by simp [PyData.eqvAll]
  | _ :: _, [], _, _ => by simp [PyData.eqvAll]
  | x :: xs, y :: ys, hx, hy => by
    have ih := eqvAll_num (fun v m => hx v (List.mem_cons_of_mem _ m)) fun v m => hy v (List.mem_cons_of_mem _ m)
    have e : PyData.eqvAll ((x :: xs).map dOf) ((y :: ys).map dOf) = (PyData.eqv (dOf x) (dOf y) && PyData.eqvAll (xs.map dOf) (ys.map dOf)) := by simp only [List.map_cons, PyData.eqvAll]
    rw [e, ih, eqv_num (hx x List.mem_cons_self) (hy y List.mem_cons_self)]
    by_cases h1 : x = y
    · by_cases h2 : xs = ys
      · simp [h1, h2]
      · simp [h1, h2]
    · simp [h1]
theorem dp_num {K : PySem.W.Frag} {H : Hp} {v : V} (h : Num v) : Dp K H v (dOf v) := by
  rcases h with rfl | ⟨i, rfl⟩
  · exact .non
  · exact .int i
theorem dpAll_num {K : PySem.W.Frag} {H : Hp} : ∀ {xs : List V}, (∀ v ∈ xs, Num v) → DpAll K H xs (xs.map dOf)
  | [], _ => .nil
  | x :: xs, h => .cons (dp_num (h x List.mem_cons_self)) (dpAll_num fun v m => h v (List.mem_cons_of_mem _ m))
theorem lay_num : ∀ {xs : List V}, (∀ v ∈ xs, Num v) → PyData.canLayAll0 (xs.map dOf) = true
  | [], _ => by simp [PyData.canLayAll0]
  | x :: xs, h => by
    have ih := lay_num fun v m => h v (List.mem_cons_of_mem x m)
    rw [List.map_cons, PyData.canLayAll0, ih, Bool.and_true]
    rcases h x List.mem_cons_self with rfl | ⟨i, rfl⟩ <;> simp [dOf, PyData.canLay0]
theorem depth_num : ∀ {xs : List V}, (∀ v ∈ xs, Num v) → PyData.depthAll (xs.map dOf) ≤ 1
  | [], _ => by simp [PyData.depthAll]
  | x :: xs, h => by
    have ih := depth_num fun v m => h v (List.mem_cons_of_mem x m)
    simp only [List.map_cons, PyData.depthAll]
    rcases h x List.mem_cons_self with rfl | ⟨i, rfl⟩ <;> simp only [dOf, PyData.depth] <;> omega
theorem shL_num {xs : List V} (h : ∀ v ∈ xs, Num v) : SeqAt.shaped (.list (xs.map dOf)) = true := by
  have h1 := lay_num h
  have h2 := depth_num h
  show (PyData.canLay0 (.list (xs.map dOf)) && decide (PyData.depth (.list (xs.map dOf)) ≤ 64)) = true
  rw [Bool.and_eq_true]
  refine ⟨by simp only [PyData.canLay0]; exact h1, decide_eq_true ?_⟩
  simp only [PyData.depth]
  omega
theorem shT_num {xs : List V} (h : ∀ v ∈ xs, Num v) : SeqAt.shaped (.tuple (xs.map dOf)) = true := by
  have h1 := lay_num h
  have h2 := depth_num h
  show (PyData.canLay0 (.tuple (xs.map dOf)) && decide (PyData.depth (.tuple (xs.map dOf)) ≤ 64)) = true
  rw [Bool.and_eq_true]
  refine ⟨by simp only [PyData.canLay0]; exact h1, decide_eq_true ?_⟩
  simp only [PyData.depth]
  omega
/-- two lists, or two tuples, of None and ints -/
def rEqN (K : PySem.W.Frag) (neg : Bool) : R2 := fun x y H Q => ∃ a b xs ys, x = .ref a ∧ y = .ref b ∧ ((SqL K H a xs ∧ SqL K H b ys) ∨ (SqT K H a xs ∧ SqT K H b ys)) ∧ (∀ v ∈ xs, Num v) ∧ (∀ v ∈ ys, Num v) ∧ Q (.bl (if neg then !decide (xs = ys) else decide (xs = ys))) H
section
variable {X : Cx}
theorem op_eqN (hu : X.A.units + 64 < cLine) : OpR X (compareOp .Eq) (rEqN X.K false) := by
  intro pins s σ H x y v u Q I rx ry h
  obtain ⟨a, b, xs, ys, rfl, rfl, d, nx, ny, q⟩ := h
  rcases d with ⟨d1, d2⟩ | ⟨d1, d2⟩
  · refine op_eqD hu pins s σ H _ _ v u Q I rx ry ⟨.list (xs.map dOf), .list (ys.map dOf), .lst d1 (dpAll_num nx), .lst d2 (dpAll_num ny), shL_num nx, shL_num ny, ?_⟩
    rw [show PyData.eqv (.list (xs.map dOf)) (.list (ys.map dOf)) = decide (xs = ys) by rw [← eqvAll_num nx ny]; simp only [PyData.eqv]]
    exact q
  · refine op_eqD hu pins s σ H _ _ v u Q I rx ry ⟨.tuple (xs.map dOf), .tuple (ys.map dOf), .tup d1 (dpAll_num nx), .tup d2 (dpAll_num ny), shT_num nx, shT_num ny, ?_⟩
    rw [show PyData.eqv (.tuple (xs.map dOf)) (.tuple (ys.map dOf)) = decide (xs = ys) by rw [← eqvAll_num nx ny]; simp only [PyData.eqv]]
    exact q
theorem op_neN (hu : X.A.units + 64 < cLine) : OpR X (compareOp .NotEq) (rEqN X.K true) := by
  intro pins s σ H x y v u Q I rx ry h
  obtain ⟨a, b, xs, ys, rfl, rfl, d, nx, ny, q⟩ := h
  rcases d with ⟨d1, d2⟩ | ⟨d1, d2⟩
  · refine op_neD hu pins s σ H _ _ v u Q I rx ry ⟨.list (xs.map dOf), .list (ys.map dOf), .lst d1 (dpAll_num nx), .lst d2 (dpAll_num ny), shL_num nx, shL_num ny, ?_⟩
    rw [show PyData.eqv (.list (xs.map dOf)) (.list (ys.map dOf)) = decide (xs = ys) by rw [← eqvAll_num nx ny]; simp only [PyData.eqv]]
    exact q
  · refine op_neD hu pins s σ H _ _ v u Q I rx ry ⟨.tuple (xs.map dOf), .tuple (ys.map dOf), .tup d1 (dpAll_num nx), .tup d2 (dpAll_num ny), shT_num nx, shT_num ny, ?_⟩
    rw [show PyData.eqv (.tuple (xs.map dOf)) (.tuple (ys.map dOf)) = decide (xs = ys) by rw [← eqvAll_num nx ny]; simp only [PyData.eqv]]
    exact q
/-- x == y, x an instance of the class at C with an own __eq__ -/
def rOwnEq (K : PySem.W.Frag) (C : Addr) (sp : Sp) : R2 := fun x y H Q => ∃ a dx fs tb, x = .ref a ∧ H a = some (.ins C dx fs) ∧ TyX K H y tb ∧ PySem.W.notFirst K C tb = true ∧ sp [x, y] H (fun v H' => (∃ b, v = .bl b) ∧ Q v H') E0
theorem op_ownEq {CX : CXT} {n j : Nat} {C f : Addr} {fd : FuncData} {ps : List Str} {sp : Sp} (F : FnOk X.prog X.w X.K X.mg X.base CX n f fd ps sp) (hs : PySem.W.findIn X.K (.ref C) "__eq__" = some (some (.ref f))) (hf : PySem.W.isFn X.K (.ref f) = true) (hb : Binds X.K fd ps [])
    (hx : Passes CX X E0) (hr : Room j X.A) (hj : n ≤ j) : OpR X (compareOp .Eq) (rOwnEq X.K C sp) := by
  intro pins s σ H x y v u Q I rx ry h
  obtain ⟨a, dx, fs, tb, rfl, ha, ty, nf, h⟩ := h
  have hr := hr.mono hj
  cases (show v = Value.ref a from rx)
  obtain ⟨mA, J, _⟩ := ins_get I.hok ha
  obtain ⟨od, J, _⟩ := J.look
  obtain ⟨Pz, Z, p, _⟩ := kit_of I ry ty
  obtain ⟨m, hF⟩ := I.fr
  show wpAny (model X.prog X.w) X.A (richCompare .Eq (.ref a) u) (EP X pins σ Q) X.xe s
  have hu : X.A.units < cLine := by have := hr.un; omega
  refine PySem.W.cmp_K (op := .Eq) (tb := tb) hu hF I.ok.mod.kin J (Z.ty _ _ I.kIn p) nf hs hf ?_
  have hl := F.len _ _ _ _ h
  have r2 : Vals [V.ref a, y] [Value.ref a, u] := .cons rfl (.cons ry .nil)
  refine wpAny_call (codeAny_mono (F.run X.A X.stack s H ⟨[.ref a, u], []⟩ [.ref a, u] [.ref a, y] _ E0 hr I.env0 (by
    have := hb s [.ref a, u] I.kIn (by simpa using hl)
    simpa using this) r2 h) fun r s' hq => ?_)
  cases r with
  | error e => exact hx pins σ H s e s' I hq
  | ok fl =>
    cases fl with
    | ret w =>
      obtain ⟨z, H', I', rz, ⟨b, ez⟩, q⟩ := I.after hq
      subst ez
      cases rz
      exact ⟨.bl b, H', I', rfl, q⟩
    | next => exact False.elim hq
    | brk => exact False.elim hq
    | cont => exact False.elim hq
end
theorem kit_self {K : PySem.W.Frag} {C : Addr} : PySem.W.kitOne K (.ref C) (.ref C) = some true := by
  unfold PySem.W.kitOne
  rw [if_pos (by simp)]

theorem hu64 {A : Around} {k : Nat} (hr : Room k A) : A.units + 64 < cLine := by have := hr.un; omega
theorem hu65 {A : Around} {k : Nat} (hr : Room k A) : A.units + 65 < cLine := by have := hr.un; omega
theorem small2000 {n : Nat} (h : n ≤ 2100) : n < sizeLine := Nat.lt_of_le_of_lt h (by decide)
theorem small10 {n : Nat} (h : n ≤ 10000) : n < sizeLine := Nat.lt_of_le_of_lt h (by decide)
theorem num_kn {H : Hp} {v : V} (h : Num v) : Kn H v := by
  rcases h with rfl | ⟨i, rfl⟩
  · exact .non
  · exact .int i

section
variable {X : Cx} (K : PySem.W.Frag)
theorem pe_fldK (hK : X.K = K) {e : Expr} {ta : TE} {f : Str} {pos : Pos} (he : PE X e ta) (hb : attributeBase e f X.env (eval e X.env) = eval e X.env := by rfl) : PE X (.Attribute e f pos) (tFld K ta f) := by
  subst hK
  exact pe_fld he hb
theorem ix_tupK (hK : X.K = K) : IxR X (rIxT K) := by
  subst hK
  exact ix_tup
theorem ix_listK (hK : X.K = K) : IxR X (rIxL K) := by
  subst hK
  exact ix_list
end

theorem paired_last {α β : Type} {F : α → β → Prop} : ∀ {ts : List α} {ps : List β} {p : β}, Paired F ts (ps ++ [p]) → ∃ us v, ts = us ++ [v] ∧ Paired F us ps ∧ F v p
  | _, [], _, .cons h .nil => ⟨[], _, rfl, .nil, h⟩
  | _, _ :: _, _, .cons h t =>
    let ⟨us, v, e, q1, q2⟩ := paired_last t
    ⟨_ :: us, v, by rw [e]; rfl, .cons h q1, q2⟩
section
variable {X : Cx} {tg e : Expr}
/-- a list or a tuple, item by item; it stays where its own object does -/
def iSqA (K : PySem.W.Frag) (te : TE) : TI := fun σ H R => te σ H fun x H1 => ∃ a xs, x = .ref a ∧ Sq K H1 a xs ∧ ∀ (J : It) (G : Hp → Prop), Walk J xs.length G (YAt xs) → (∀ H', (∀ o, H1 a = some o → H' a = some o) → G H') → R J H1
theorem sqL_at {K : PySem.W.Frag} {H H' : Hp} {a : Addr} {xs : List V} (h : SqL K H a xs) (e : ∀ o, H a = some o → H' a = some o) : SqL K H' a xs := by
  rcases h with (h | ⟨o, h⟩) | h
  · exact .inl (.inl (e _ h))
  · exact .inl (.inr ⟨o, e _ h⟩)
  · exact .inr h
theorem sqT_at {K : PySem.W.Frag} {H H' : Hp} {a : Addr} {xs : List V} (h : SqT K H a xs) (e : ∀ o, H a = some o → H' a = some o) : SqT K H' a xs := by
  rcases h with (h | ⟨o, h⟩) | h
  · exact .inl (.inl (e _ h))
  · exact .inl (.inr ⟨o, e _ h⟩)
  · exact .inr h
open PySem.Spec PyProof.Rows in
theorem pi_sqA {te : TE} (he : PE X e te) : PI X tg e (iSqA X.K te) := by
  constructor
  intro pins s σ H R I h
  refine thn (he.run pins s σ H _ I h) fun u s1 hh => ?_
  obtain ⟨v, H1, I1, r1, a, xs, ev, sq, k⟩ := hh
  subst ev
  cases r1
  have near : ∀ b ∈ [s1.heap.objs.size], FpOk X pins H1 b := fun b hb => by
    rw [List.mem_singleton.mp hb]
    exact I1.fpOk (Nat.le_refl _) (I1.hok.fresh (Nat.le_refl _))
  have J1 : ∀ o : Obj, Inv X pins σ H1 { s1 with heap := s1.heap.push o } := fun o => I1.kept (t' := s1.toks) fun b u z => Heap.get?_push_of_some _ z
  rcases sq with hq | hq
  · obtain ⟨its, rv, p1, hz⟩ := I1.list hq
    exact wpAny_pyIter_list p1.isList ⟨s1.heap.objs.size, _, _, _, H1, rfl, J1 _, turn_list a _, ⟨_, Heap.get?_push_size _ rfl, rfl, rfl⟩, near, k _ _ walk_list fun H' z => sqL_at hq z⟩
  · obtain ⟨its, rv, p2, hz⟩ := I1.tuple hq
    exact wpAny_pyIter_tuple (show s1.heap.IsTuple a its.toArray from p2) ⟨s1.heap.objs.size, _, _, _, H1, rfl, J1 _, turn_tuple a _, ⟨_, Heap.get?_push_size _ rfl, rfl, rfl⟩, near, k _ _ walk_tup fun H' z => sqT_at hq z⟩
end

/-! ### the law's pen -/
def penK (cl : Addr) (k left : Int) : List (Key × V) := [(.inr "cells", .ref cl), (.inr "next", .int k), (.inr "left", .int left)]
theorem valV_eq {k : Key} {v : V} {r : List (Key × V)} : valV ((k, v) :: r) k = some v := by
  unfold valV
  rw [List.find?_cons_of_pos (by simp)]
  rfl
theorem valV_ne {k j : Key} {v : V} {r : List (Key × V)} (h : ¬ j = k) : valV ((j, v) :: r) k = valV r k := by
  unfold valV
  rw [List.find?_cons_of_neg (by simpa using h)]
theorem k12 : ¬ (Sum.inr ("cells" : Str) : Key) = Sum.inr ("next" : Str) := by decide +kernel
theorem k13 : ¬ (Sum.inr ("cells" : Str) : Key) = Sum.inr ("left" : Str) := by decide +kernel
theorem k23 : ¬ (Sum.inr ("next" : Str) : Key) = Sum.inr ("left" : Str) := by decide +kernel
theorem k32 : ¬ (Sum.inr ("left" : Str) : Key) = Sum.inr ("next" : Str) := by decide +kernel
theorem pen_cells (cl : Addr) (k l : Int) : valV (penK cl k l) (.inr "cells") = some (.ref cl) := valV_eq
theorem pen_opened (cl : Addr) (k l : Int) : valV (penK cl k l) (.inr "next") = some (.int k) := (valV_ne k12).trans valV_eq
theorem pen_left (cl : Addr) (k l : Int) : valV (penK cl k l) (.inr "left") = some (.int l) := (valV_ne k13).trans ((valV_ne k23).trans valV_eq)
theorem put_opened (cl : Addr) (k l j : Int) : putK (penK cl k l) (.inr "next") (.int j) = penK cl j l := by
  unfold putK penK
  rw [if_pos (by simp)]
  simp only [List.map_cons, List.map_nil, k12, k32, if_false, if_true]
theorem put_left (cl : Addr) (k l j : Int) : putK (penK cl k l) (.inr "left") (.int j) = penK cl k j := by
  unfold putK penK
  rw [if_pos (by simp)]
  simp only [List.map_cons, List.map_nil, k13, k23, if_false, if_true]
/-- at pn: the pen, at most b cells opened -/
def Pen (H : Hp) (pn cl : Addr) (b : Nat) : Prop := ∃ (k : Nat) (l : Int) (cs : List Int), H pn = some (.dK (penK cl (k : Nat) l)) ∧ H cl = some (.lst (cs.map V.int)) ∧ k ≤ b ∧ cs.length ≤ 63
/-- all but what is at pn is as it was -/
def But (pn : Addr) (H H' : Hp) : Prop := ∀ b o, b ≠ pn → H b = some o → H' b = some o
theorem But.refl {pn : Addr} {H : Hp} : But pn H H := fun _ _ _ h => h
theorem But.trans {pn : Addr} {H H1 H2 : Hp} (a : But pn H H1) (b : But pn H1 H2) : But pn H H2 := fun c o n h => b c o n (a c o n h)
def spDraw : Sp := fun vs H Q _ => ∃ (pn cl : Addr) (m : Int) (b : Nat), vs = [.ref pn, .int m] ∧ Pen H pn cl b ∧ b ≤ 1000000 ∧ 0 < m ∧ m < 1073741824 ∧ ∀ (r : Int) H', 0 ≤ r → r < m → But pn H H' → Pen H' pn cl (b + 1) → Q (.int r) H'
def spPen (K : PySem.W.Frag) : Sp := fun vs H Q _ => ∃ (a : Addr) (ns : List Int), vs = [.ref a] ∧ SqL K H a (ns.map V.int) ∧ ∀ pn cl H', H pn = none → H cl = none → Same H H' → Pen H' pn cl 0 → Q (.ref pn) H'
section
variable {P : Program} {w : World} {K : PySem.W.Frag} {mg : Str → Option Value} {base : Heap}
theorem scPen : FnScope ["_law_script"] ["_law_script"] (defScope sPen) := ⟨rfl, rfl, rfl, by decide +kernel, rfl, by decide +kernel, by decide +kernel⟩
theorem ok_pen {f : Addr} {fd : FuncData} (F : Fun K "_law_pen_of" "_law_pen_of" sPen f fd) (B : Bi mg) : FnOk P w K mg base CX0 1 f fd ["_law_script"] (spPen K) := by
  refine F.ok scPen (fun vs H Q E h => ?_) (fun cdv A outer s H vs Q E hr h => ?_)
  · obtain ⟨a, ns, rfl, _⟩ := h
    rfl
  · obtain ⟨a, ns, rfl, hs, q⟩ := h
    refine ⟨_, pss_one (ps_ret (pe_disp (pps_cons pe_str (pe_callTy call_list_of rfl B.list (by decide +kernel) (pa_cons (pe_slice sl_list (pv 0) po_none (po_some pe_int)) pa_nil)) (pps_cons pe_str pe_int (pps_cons pe_str pe_int pps_nil))) rfl rfl (by simp) (by decide))), ?_⟩
    intro p np
    have hs2 := (same_new (o := .dK []) np).seq hs
    refine ⟨_, rfl, 63, rfl, a, _, rfl, hs2, fun c nc => ⟨c, _, rfl, .inl (SqL.of upd_same), fun l nl => ?_⟩⟩
    have npl : p ≠ l := ne_of_none ((upd_ne (ne_of_none upd_same nc)).trans upd_same) nl
    have npc : p ≠ c := ne_of_none upd_same nc
    have ec : cutV (ns.map V.int) none (some 63) = (ns.take 63).map V.int := by
      unfold cutV
      rw [show ((63 : Int)) = ((63 : Nat) : Int) from rfl, HT.sIx_nat, HT.sIx_none, List.drop_zero, Nat.sub_zero, List.length_map, ← List.map_take]
      congr 1
      by_cases c : 63 ≤ ns.length
      · rw [Nat.min_eq_left c]
      · rw [Nat.min_eq_right (by omega), List.take_of_length_le (Nat.le_refl _), List.take_of_length_le (by omega)]
    refine ⟨(upd_ne npl).trans ((upd_ne npc).trans upd_same), [(.inr "cells", .ref l), (.inr "next", .int 0), (.inr "left", .int 0)], rfl, (by show 3 ≤ 15; decide), ?_⟩
    have em : mergeK [] [((.inr ("cells" : Str) : Key), V.ref l), (.inr ("next" : Str), .int 0), (.inr ("left" : Str), .int 0)] = penK l ((0 : Nat) : Int) 0 := by
      unfold mergeK penK
      simp only [List.foldl_cons, List.foldl_nil]
      have h1 : valV ([(.inr ("cells" : Str), V.ref l)] : List (Key × V)) (.inr ("next" : Str)) = none := (valV_ne k12).trans rfl
      have h2 : valV ([(.inr ("cells" : Str), V.ref l), (.inr ("next" : Str), V.int 0)] : List (Key × V)) (.inr ("left" : Str)) = none := (valV_ne k13).trans ((valV_ne k23).trans rfl)
      rw [show putK ([] : List (Key × V)) (.inr ("cells" : Str)) (.ref l) = [(.inr ("cells" : Str), .ref l)] from rfl, putK_new _ h1]
      simp only [List.cons_append, List.nil_append]
      rw [putK_new _ h2]
      rfl
    rw [em]
    have nl0 : H l = none := by
      cases z : H l with
      | none => rfl
      | some o =>
        have z1 : upd H p (.dK []) l = some o := (upd_ne (ne_of_none z np)).trans z
        rw [(upd_ne (ne_of_none z1 nc)).trans z1] at nl
        cases nl
    refine q p l _ np nl0 (fun b o z => ?_) ⟨0, 0, ns.take 63, upd_same, ?_, Nat.le_refl _, by rw [List.length_take]; omega⟩
    · have nb : b ≠ p := ne_of_none z np
      have z1 : upd H p (.dK []) b = some o := (upd_ne nb).trans z
      have nc2 : b ≠ c := ne_of_none z1 nc
      have z2 : upd (upd H p (.dK [])) c (.lst (cutV (ns.map V.int) none (some 63))) b = some o := (upd_ne nc2).trans z1
      rw [upd_ne nb, upd_ne (ne_of_none z2 nl)]
      exact z2
    · rw [upd_ne (Ne.symm npl), upd_same, ec]
theorem getL {H : Hp} {pn cl : Addr} {k l : Int} (hp : H pn = some (.dK (penK cl k l))) : DGet H pn (.str "left") (some (.int l)) := by
  have z := DGet.k (k := .inr ("left" : Str)) hp
  rw [pen_left] at z
  exact z
theorem getO {H : Hp} {pn cl : Addr} {k l : Int} (hp : H pn = some (.dK (penK cl k l))) : DGet H pn (.str "next") (some (.int k)) := by
  have z := DGet.k (k := .inr ("next" : Str)) hp
  rw [pen_opened] at z
  exact z
theorem getC {H : Hp} {pn cl : Addr} {k l : Int} (hp : H pn = some (.dK (penK cl k l))) : DGet H pn (.str "cells") (some (.ref cl)) := by
  have z := DGet.k (k := .inr ("cells" : Str)) hp
  rw [pen_cells] at z
  exact z
theorem putL {H : Hp} {pn cl : Addr} {k l : Int} (j : Int) (hp : H pn = some (.dK (penK cl k l))) : DPut H pn (.str "left") (.int j) (upd H pn (.dK (penK cl k j))) := by
  have z := DPut.k (k := .inr ("left" : Str)) (v := .int j) hp (by show 3 < sizeLine; decide)
  rw [put_left] at z
  exact z
theorem putO' {H : Hp} {pn cl : Addr} {k l : Int} (j : Int) (hp : H pn = some (.dK (penK cl k l))) : DPut H pn (.str "next") (.int j) (upd H pn (.dK (penK cl j l))) := by
  have z := DPut.k (k := .inr ("next" : Str)) (v := .int j) hp (by show 3 < sizeLine; decide)
  rw [put_opened] at z
  exact z
theorem scDraw : FnScope ["_law_pen", "_law_many", "_law_digit", "_law_index", "_law_size", "_law_cell", "_law_mixed"] ["_law_pen", "_law_many"] (defScope sDraw) := ⟨rfl, rfl, rfl, by decide +kernel, rfl, by decide +kernel, by decide +kernel⟩
theorem mix_lt (x : Int) {m : Int} (h : 0 < m) : 0 ≤ x % m ∧ x % m < m := ⟨Int.emod_nonneg _ (by omega), Int.emod_lt_of_pos _ h⟩
section
variable {X : Cx}
theorem pe_int1 {a : Expr} {es : List Expr} {t : TA} {p pos : Pos} (hm : X.mg "int" = none) (ha : PA X (a :: es) t) (hg : Gl X "int" := by rfl) (he : starEach (a :: es) X.env = (false, eval a X.env) :: starEach es X.env := by rfl)
    (hpl : (backTo pos (starEach es X.env)).any (·.1) = false := by rfl) : PE X (.Call (.Name "int" p) (a :: es) [] pos) (tCB (fun xs H Q => (∃ i, xs = [.int i] ∧ Q (.int i) H) ∨ ∃ k, xs = [.bl k] ∧ Q (.int (if k then 1 else 0)) H) t) :=
  pe_callTy call_int1 hg hm (by decide +kernel) ha (he := he) (hpl := hpl)
theorem pe_abs {a : Expr} {es : List Expr} {t : TA} {p pos : Pos} (hm : X.mg "abs" = none) (ha : PA X (a :: es) t) (hg : Gl X "abs" := by rfl) (he : starEach (a :: es) X.env = (false, eval a X.env) :: starEach es X.env := by rfl)
    (hpl : (backTo pos (starEach es X.env)).any (·.1) = false := by rfl) : PE X (.Call (.Name "abs" p) (a :: es) [] pos) (tCB (fun xs H Q => ∃ i, xs = [.int i] ∧ Q (.int (if i < 0 then -i else i)) H) t) :=
  pe_callB call_abs hg hm (by decide +kernel) ha (he := he) (hpl := hpl)
end
theorem ok_draw {f : Addr} {fd : FuncData} (F : Fun K "_law_draw" "_law_draw" sDraw f fd) (B : Bi mg) : FnOk P w K mg base CX0 1 f fd ["_law_pen", "_law_many"] spDraw := by
  refine F.ok scDraw (fun vs H Q E h => ?_) (fun cdv A outer s H vs Q E hr h => ?_)
  · obtain ⟨pn, cl, m, b, rfl, _⟩ := h
    rfl
  · obtain ⟨pn, cl, m, b, rfl, ⟨k, l, cs, hp, hc, hk, lc⟩, hb, m0, m1, q⟩ := h
    refine ⟨_, pss_cons (ps_if (pt_cmpR op_gt (pe_dget (hu_of hr) (pv 0) pe_str (fun _ _ => rfl)) pe_int (nomark _))
        (pss_cons (ps_set (i := 2) scDraw.nd rfl (Or.inl rfl) (pe_op op_mod (pe_int1 B.int (pa_cons (pe_dget (hu_of hr) (pv 0) pe_str (fun _ _ => rfl)) pa_nil)) (pv 1)))
        (pss_cons (ps_dput (hu_of hr) (pv 0) pe_str (pe_op op_fdiv (pe_dget (hu_of hr) (pv 0) pe_str (fun _ _ => rfl)) (pv 1)) rfl) (pss_one (ps_ret (pv 2))))) pss_nil)
      (pss_cons (ps_par (i := 3) (j := 4) rfl scDraw.nd rfl rfl (by decide) rfl rfl (pa_cons (pe_dget (hu_of hr) (pv 0) pe_str (fun _ _ => rfl)) (pa_cons (pe_len B.len (pa_cons (pe_dget (hu_of hr) (pv 0) pe_str (fun _ _ => rfl)) pa_nil)) pa_nil)) rfl)
      (pss_cons (ps_dput (hu_of hr) (pv 0) pe_str (pe_op op_add (pv 3) pe_int) rfl)
      (pss_cons (ps_if (pt_cmpR op_eq (pv 4) pe_int (nomark _)) (pss_one (ps_ret (pe_op op_mod (pe_int1 B.int (pa_cons (pe_op op_add (pe_op op_mul pe_int (pv 3)) pe_int) pa_nil)) (pv 1)))) pss_nil)
      (pss_cons (ps_set (i := 5) scDraw.nd rfl (Or.inl rfl) (pe_ix ix_list (pe_dget (hu_of hr) (pv 0) pe_str (fun _ _ => rfl)) (pe_op op_mod (pe_int1 B.int (pa_cons (pv 3) pa_nil)) (pv 4)) (fun _ _ => rfl)))
      (pss_cons (ps_if (PW.pt (pw_and (pt_cmpR op_lt (pv 3) (pv 4) (nomark _)) (pw_and1 (pt_cmpR op_ge (pe_abs B.abs (pa_cons (pv 5) pa_nil)) (pe_op op_pow pe_int pe_int) (nomark _)))))
        (pss_cons (ps_dput (hu_of hr) (pv 0) pe_str (pe_op op_fdiv (pe_op op_sub (pe_abs B.abs (pa_cons (pv 5) pa_nil)) (pe_op op_pow pe_int pe_int)) (pv 1)) rfl)
        (pss_one (ps_ret (pe_op op_mod (pe_int1 B.int (pa_cons (pe_op op_sub (pe_abs B.abs (pa_cons (pv 5) pa_nil)) (pe_op op_pow pe_int pe_int)) pa_nil)) (pv 1))))) pss_nil)
      (pss_cons (ps_set (i := 6) scDraw.nd rfl (Or.inl rfl) (pe_op op_add (pe_op op_mul (pe_op op_mod (pe_int1 B.int (pa_cons (pv 5) pa_nil)) pe_int) pe_int) (pe_op op_mul (pe_op op_mul pe_int (pv 3)) (pv 3))))
      (pss_cons (ps_set (i := 6) scDraw.nd rfl (Or.inl rfl) (pe_op op_mod (pe_int1 B.int (pa_cons (pe_op op_add (pe_op op_add (pv 6) (pe_op op_mul pe_int (pv 3))) pe_int) pa_nil)) pe_int))
      (pss_cons (ps_set (i := 6) scDraw.nd rfl (Or.inl rfl) (pe_op op_mod (pe_int1 B.int (pa_cons (pe_op op_add (pe_op op_add (pe_op op_add (pe_op op_mul (pv 6) (pv 6)) (pe_op op_mul pe_int (pv 6))) (pe_op op_mul pe_int (pv 3))) pe_int) pa_nil)) pe_int))
      (pss_one (ps_ret (pe_op op_mod (pe_int1 B.int (pa_cons (pe_op op_fdiv (pe_op op_mod (pe_int1 B.int (pa_cons (pe_op op_mul (pv 6) (pe_op op_add (pv 6) pe_int)) pa_nil)) pe_int) pe_int) pa_nil)) (pv 1)))))))))))), ?_⟩
    have ncp : cl ≠ pn := ne_of hc hp (fun z => by cases z)
    refine ⟨_, rfl, pn, _, rfl, getL hp, _, _, rfl, rfl, _, rfl, ?_⟩
    refine ite2 (fun _ => ?_) fun _ => ?_
    · refine ⟨_, rfl, pn, _, rfl, getL hp, .inl ⟨_, rfl, _, rfl, _, _, rfl, rfl, m0, ?_⟩⟩
      refine ⟨_, rfl, pn, _, rfl, getL hp, _, rfl, _, _, rfl, rfl, ⟨m0, m1⟩, _, rfl, pn, _, rfl, putL _ hp, ?_⟩
      exact ⟨_, rfl, q _ _ (mix_lt _ m0).1 (mix_lt _ m0).2 (fun c o n z => (upd_ne n).trans z) ⟨k, _, cs, upd_same, (upd_ne ncp).trans hc, Nat.le_succ_of_le hk, lc⟩⟩
    · refine ⟨_, rfl, pn, _, rfl, getO hp, _, rfl, pn, _, rfl, getC hp, cl, _, rfl, .inl (SqL.of hc), _, _, rfl, ?_⟩
      refine ⟨_, rfl, _, _, rfl, rfl, _, rfl, pn, _, rfl, putO' _ hp, ?_⟩
      have ek : ((k : Nat) : Int) + 1 = ((k + 1 : Nat) : Int) := by omega
      rw [ek]
      generalize eH2 : upd H pn (.dK (penK cl ((k + 1 : Nat) : Int) l)) = H3
      have hp3 : H3 pn = some (.dK (penK cl ((k + 1 : Nat) : Int) l)) := by rw [← eH2]; exact upd_same
      have hc3 : H3 cl = some (.lst (cs.map V.int)) := by rw [← eH2]; exact (upd_ne ncp).trans hc
      have e3 : But pn H H3 := fun c o n z => by rw [← eH2]; exact (upd_ne n).trans z
      have fin : ∀ (r : Int) (H4 : Hp) (l2 : Int), 0 ≤ r → r < m → H4 = H3 ∨ H4 = upd H3 pn (.dK (penK cl ((k + 1 : Nat) : Int) l2)) → Q (.int r) H4 := fun r H4 l2 r0 r1 e4 => by
        rcases e4 with rfl | rfl
        · exact q r _ r0 r1 e3 ⟨k + 1, l, cs, hp3, hc3, Nat.succ_le_succ hk, lc⟩
        · exact q r _ r0 r1 (fun c o n z => (upd_ne n).trans (e3 c o n z)) ⟨k + 1, l2, cs, upd_same, (upd_ne ncp).trans hc3, Nat.succ_le_succ hk, lc⟩
      refine ⟨_, rfl, rfl, _, rfl, ?_⟩
      refine ite2 (fun c => ?_) fun c => ?_
      · refine ⟨_, rfl, _, _, rfl, rfl, .inl ⟨by decide, by decide⟩, ?_⟩
        refine ⟨_, _, rfl, rfl, .inl ⟨_, rfl, _, rfl, _, _, rfl, rfl, m0, ?_⟩⟩
        exact fin _ _ 0 (mix_lt _ m0).1 (mix_lt _ m0).2 (.inl rfl)
      have cne : cs ≠ [] := fun z => by
        rw [z] at c
        exact c (by decide)
      have lpos : 0 < cs.length := List.length_pos_iff.mpr cne
      refine ⟨_, rfl, pn, _, rfl, getC hp3, _, rfl, .inl ⟨_, rfl, _, rfl, _, _, rfl, rfl, (by rw [List.length_map]; omega), cl, _, _, .int (cs[k % cs.length]'(Nat.mod_lt _ lpos)), rfl, rfl, SqL.of hc3, ?_, ?_⟩⟩
      · rw [List.length_map]
        have em : ((k : Nat) : Int) % ((cs.length : Nat) : Int) = ((k % cs.length : Nat) : Int) := by omega
        rw [em]
        refine atI_nat ?_
        rw [List.getElem?_map, List.getElem?_eq_getElem (Nat.mod_lt _ lpos)]
        rfl
      generalize cs[k % cs.length]'(Nat.mod_lt _ lpos) = cell
      refine ⟨_, rfl, _, rfl, _, _, rfl, rfl, _, rfl, ?_⟩
      refine ite2 (fun _ => ?_) fun _ => iteF ?_
      refine ⟨_, rfl, _, rfl, _, _, rfl, rfl, ⟨by decide, by decide, by decide⟩, _, _, rfl, rfl, _, rfl, ?_⟩
      refine ite2 (fun _ => ?_) fun _ => ?_
      refine ⟨_, rfl, _, rfl, _, _, rfl, rfl, ⟨by decide, by decide, by decide⟩, _, _, rfl, rfl, _, rfl, _, _, rfl, rfl, ⟨m0, m1⟩, _, rfl, pn, _, rfl, putL _ hp3, ?_⟩
      refine ⟨_, rfl, _, rfl, _, _, rfl, rfl, ⟨by decide, by decide, by decide⟩, _, _, rfl, rfl, .inl ⟨_, rfl, _, rfl, _, _, rfl, rfl, m0, ?_⟩⟩
      exact fin _ _ _ (mix_lt _ m0).1 (mix_lt _ m0).2 (.inr rfl)
      all_goals
        refine ⟨_, rfl, .inl ⟨_, rfl, _, _, rfl, rfl, (by show (0 : Int) < _; decide), _, _, rfl, rfl, .inr ⟨by decide, by decide⟩, ?_⟩⟩
        refine ⟨_, rfl, _, _, rfl, rfl, .inl ⟨by decide, by decide⟩, _, rfl, _, _, rfl, rfl, .inr ⟨by omega, by omega⟩, _, _, rfl, rfl, ?_⟩
        refine ⟨_, rfl, _, rfl, _, _, rfl, rfl, .inl ⟨by decide, by decide⟩, _, _, rfl, rfl, _, _, rfl, rfl, .inl ⟨_, rfl, _, _, rfl, rfl, (by show (0 : Int) < _; decide), ?_⟩⟩
        generalize emx : (cell % 4294967197 * 52711 + 20353 * ((k : Nat) : Int) * ((k : Nat) : Int) + 1531 * ((k : Nat) : Int) + 11) % 4294967189 = mx
        have b1 : 0 ≤ mx ∧ mx < 4294967189 := by rw [← emx]; exact mix_lt _ (by decide)
        refine ⟨_, rfl, _, rfl, _, _, rfl, rfl, .inl ⟨by omega, by omega⟩, ?_⟩
        refine ⟨_, rfl, _, _, rfl, rfl, .inl ⟨by decide, by decide⟩, _, _, rfl, rfl, _, rfl, _, _, rfl, rfl, .inl ⟨by decide, by decide⟩, _, _, rfl, rfl, _, _, rfl, rfl, .inl ⟨_, rfl, _, _, rfl, rfl, (by show (0 : Int) < _; decide), ?_⟩⟩
        generalize emy : (mx * mx + 68903 * mx + 23 * ((k : Nat) : Int) + 7) % 4294967161 = my
        have b2 : 0 ≤ my ∧ my < 4294967161 := by rw [← emy]; exact mix_lt _ (by decide)
        refine ⟨_, rfl, _, rfl, _, _, rfl, rfl, _, _, rfl, rfl, .inl ⟨by omega, by omega⟩, .inl ⟨_, rfl, _, _, rfl, rfl, (by show (0 : Int) < _; decide), _, _, rfl, rfl, ⟨by decide, by decide⟩, .inl ⟨_, rfl, _, rfl, _, _, rfl, rfl, m0, ?_⟩⟩⟩
        exact fin _ _ 0 (mix_lt _ m0).1 (mix_lt _ m0).2 (.inl rfl)
end
def spPick : Sp := fun vs H Q _ => ∃ (pn cl s : Addr) (xs : List V) (b : Nat), vs = [.ref pn, .ref s] ∧ Pen H pn cl b ∧ b ≤ 1000000 ∧ H s = some (.lst xs) ∧ 0 < xs.length ∧ xs.length ≤ 1000 ∧ ∀ x H', x ∈ xs → But pn H H' → Pen H' pn cl (b + 1) → Q x H'
theorem Pen.mono {H : Hp} {pn cl : Addr} {b c : Nat} (h : Pen H pn cl b) (e : b ≤ c) : Pen H pn cl c := let ⟨k, l, cs, h1, h2, h3, h4⟩ := h; ⟨k, l, cs, h1, h2, Nat.le_trans h3 e, h4⟩
theorem Pen.same {H H' : Hp} {pn cl : Addr} {b : Nat} (h : Pen H pn cl b) (e : Same H H') : Pen H' pn cl b := let ⟨k, l, cs, h1, h2, h3, h4⟩ := h; ⟨k, l, cs, e _ _ h1, e _ _ h2, h3, h4⟩
theorem Pen.ne {H : Hp} {pn cl a : Addr} {b : Nat} {o : HO} (h : Pen H pn cl b) (ha : H a = some o) (d : ∀ kvs, o ≠ .dK kvs) : a ≠ pn := let ⟨_, _, _, h1, _⟩ := h; ne_of ha h1 (d _)
/-- the pen stays where another object is written -/
theorem Pen.upd {H : Hp} {pn cl a : Addr} {b : Nat} {o : HO} (h : Pen H pn cl b) (n1 : pn ≠ a) (n2 : cl ≠ a) : Pen (L2.upd H a o) pn cl b := let ⟨k, l, cs, h1, h2, h3, h4⟩ := h; ⟨k, l, cs, (upd_ne n1).trans h1, (upd_ne n2).trans h2, h3, h4⟩
theorem Pen.off {H : Hp} {pn cl a : Addr} {b : Nat} (h : Pen H pn cl b) (n : H a = none) : pn ≠ a ∧ cl ≠ a := let ⟨_, _, _, h1, h2, _⟩ := h; ⟨ne_of_none h1 n, ne_of_none h2 n⟩
theorem same_but {pn : Addr} {H H' : Hp} (e : Same H H') : But pn H H' := fun b o _ h => e b o h
section
variable {P : Program} {w : World} {K : PySem.W.Frag} {mg : Str → Option Value} {base : Heap}
theorem scPick : FnScope ["_law_pen", "_law_items"] ["_law_pen", "_law_items"] (defScope sPick) := ⟨rfl, rfl, rfl, by decide +kernel, rfl, by decide +kernel, by decide +kernel⟩
theorem ok_pick {f : Addr} {fd : FuncData} (F : Fun K "_law_pick" "_law_pick" sPick f fd) (B : Bi mg) (cD : Cal CX0 P w K mg base 1 "_law_draw" spDraw) : FnOk P w K mg base CX0 2 f fd ["_law_pen", "_law_items"] spPick := by
  refine F.ok scPick (fun vs H Q E h => ?_) (fun cdv A outer s H vs Q E hr h => ?_)
  · obtain ⟨pn, cl, s, xs, b, rfl, _⟩ := h
    rfl
  · obtain ⟨pn, cl, s0, xs, b, rfl, pen, hb, hs, l0, l1, q⟩ := h
    refine ⟨_, pss_one (ps_ret (pe_ix ix_list (pv 1) (pe_c cD hr pass0 (pa_cons (pv 0) (pa_cons (pe_len B.len (pa_cons (pv 1) pa_nil)) pa_nil))) (fun _ _ => rfl))), ?_⟩
    refine ⟨_, rfl, _, rfl, _, rfl, s0, xs, rfl, .inl (SqL.of hs), pn, cl, _, b, rfl, pen, hb, by omega, by omega, fun r H' r0 r1 e pen2 => ?_⟩
    obtain ⟨r, rfl⟩ := Int.eq_ofNat_of_zero_le r0
    have lt : r < xs.length := by omega
    exact ⟨s0, xs, _, xs[r], rfl, rfl, SqL.of (e _ _ (pen.ne hs fun _ z => by cases z) hs), atI_nat (List.getElem?_eq_getElem lt), q _ _ (List.getElem_mem lt) e pen2⟩
end
def Flat : V → Prop
  | .non | .bl _ | .int _ => True
  | .str x => PyData.strOk x = true
  | _ => False
theorem dp_flat {K : PySem.W.Frag} {H : Hp} {v : V} (h : Flat v) : Dp K H v (dOf v) := by
  cases v with
  | non => exact .non
  | bl b => exact .bl b
  | int i => exact .int i
  | str x => exact .str x
  | _ => exact h.elim
theorem dpAll_flat {K : PySem.W.Frag} {H : Hp} : ∀ {xs : List V}, (∀ v ∈ xs, Flat v) → DpAll K H xs (xs.map dOf)
  | [], _ => .nil
  | x :: xs, h => .cons (dp_flat (h x List.mem_cons_self)) (dpAll_flat fun v m => h v (List.mem_cons_of_mem _ m))
theorem lay_flat : ∀ {xs : List V}, (∀ v ∈ xs, Flat v) → PyData.canLayAll0 (xs.map dOf) = true
  | [], _ => by simp [PyData.canLayAll0]
  | x :: xs, h => by
    have ih := lay_flat fun v m => h v (List.mem_cons_of_mem x m)
    have hx := h x List.mem_cons_self
    rw [List.map_cons, PyData.canLayAll0, ih, Bool.and_true]
    cases x <;> simp [dOf, PyData.canLay0, Flat] at hx ⊢
    exact hx
theorem depth_flat : ∀ (xs : List V), PyData.depthAll (xs.map dOf) ≤ 1
  | [] => by simp [PyData.depthAll]
  | x :: xs => by
    have ih := depth_flat xs
    simp only [List.map_cons, PyData.depthAll]
    cases x <;> simp only [dOf, PyData.depth] <;> omega
theorem shT_flat {xs : List V} (h : ∀ v ∈ xs, Flat v) : SeqAt.shaped (.tuple (xs.map dOf)) = true := by
  have h1 := lay_flat h
  have h2 := depth_flat xs
  show (PyData.canLay0 (.tuple (xs.map dOf)) && decide (PyData.depth (.tuple (xs.map dOf)) ≤ 64)) = true
  rw [Bool.and_eq_true]
  refine ⟨by simp only [PyData.canLay0]; exact h1, decide_eq_true ?_⟩
  simp only [PyData.depth]
  omega
/-- two tuples with the same flat items -/
def rSm (b : Bool) : R2 := fun x y H Q => ∃ s t us, x = .ref s ∧ y = .ref t ∧ H s = some (.tup us) ∧ H t = some (.tup us) ∧ (∀ v ∈ us, Flat v) ∧ Q (.bl b) H
section
variable {X : Cx}
theorem op_neSm (hu : X.A.units + 64 < cLine) : OpR X (compareOp .NotEq) (rSm false) := by
  intro pins s σ H x y v u Q I rx ry h
  obtain ⟨a, b, us, rfl, rfl, d1, d2, f, q⟩ := h
  have sh := shT_flat f
  refine op_neD hu pins s σ H _ _ v u Q I rx ry ⟨_, _, .tup (SqT.of d1) (dpAll_flat f), .tup (SqT.of d2) (dpAll_flat f), sh, sh, ?_⟩
  rw [SeqAt.eqv_refl _ (Bool.and_eq_true_iff.mp sh).1]
  exact q
theorem op_eqSm (hu : X.A.units + 64 < cLine) : OpR X (compareOp .Eq) (rSm true) := by
  intro pins s σ H x y v u Q I rx ry h
  obtain ⟨a, b, us, rfl, rfl, d1, d2, f, q⟩ := h
  have sh := shT_flat f
  refine op_eqD hu pins s σ H _ _ v u Q I rx ry ⟨_, _, .tup (SqT.of d1) (dpAll_flat f), .tup (SqT.of d2) (dpAll_flat f), sh, sh, ?_⟩
  rw [SeqAt.eqv_refl _ (Bool.and_eq_true_iff.mp sh).1]
  exact q
end
theorem cut_to {xs : List V} {k : Nat} (h : k ≤ xs.length) : cutV xs none (some (k : Int)) = xs.take k := by
  unfold cutV
  rw [HT.sIx_nat, HT.sIx_none, List.drop_zero, Nat.sub_zero, Nat.min_eq_left h]
theorem cut_from {xs : List V} {k : Nat} (h : k ≤ xs.length) : cutV xs (some (k : Int)) none = xs.drop k := by
  unfold cutV
  rw [HT.sIx_nat, HT.sIx_none, Nat.min_eq_left h, List.take_of_length_le (by rw [List.length_drop]; exact Nat.le_refl _)]
theorem kn_flat {H : Hp} {v : V} (h : Flat v) : Kn H v := by
  cases v with
  | non => exact .non
  | bl b => exact .bl b
  | int i => exact .int i
  | str x => exact .str x
  | _ => exact h.elim
theorem flat_ref {v : V} (h : Flat v) : ∀ b, v ≠ .ref b := fun b e => by
  rw [e] at h
  exact h
end K50
set_option Elab.async false
set_option linter.all false
set_option maxRecDepth 100001
set_option maxHeartbeats 3999999
namespace K50
open PySem L2
abbrev sCopied : Stmt := topS 6
def spCopied : Sp := fun vs H Q _ => ∃ v, vs = [v] ∧ Flat v ∧ Q v H
section
variable {P : Program} {w : World} {K : PySem.W.Frag} {mg : Str → Option Value} {base : Heap}
theorem scCopied : FnScope ["value", "part", "key"] ["value"] (defScope sCopied) := ⟨rfl, rfl, rfl, by decide +kernel, rfl, by decide +kernel, by decide +kernel⟩
theorem ok_copied {f : Addr} {fd : FuncData} (F : Fun K "copied" "copied" sCopied f fd) (B : Bi mg) : FnOk P w K mg base CX0 1 f fd ["value"] spCopied := by
  refine F.ok scCopied (fun vs H Q E h => ?_) (fun cdv A outer s H vs Q E hr h => ?_)
  · obtain ⟨v, rfl, _⟩ := h
    rfl
  · obtain ⟨v, rfl, fl, q⟩ := h
    refine ⟨_, pss_cons (ps_if (pt_val (pe_isi B.isi (pa_cons (pv 0) (pa_cons (pe_ty "list" B.list) pa_nil)))) pss_never pss_nil) (pss_cons (ps_if (pt_val (pe_isi B.isi (pa_cons (pv 0) (pa_cons (pe_ty "tuple" B.tuple) pa_nil)))) pss_never pss_nil)
      (pss_cons (ps_if (pt_val (pe_isi B.isi (pa_cons (pv 0) (pa_cons (pe_ty "dict" B.dict) pa_nil)))) pss_never pss_nil) (pss_one (ps_ret (pv 0))))), ?_⟩
    obtain ⟨t, ty, _, _, k3, k4, k5⟩ := (kn_flat (H := H) fl).kinds K
    have f3 : isT H v = false := by cases v <;> first | rfl | exact fl.elim
    have f4 : isL H v = false := by cases v <;> first | rfl | exact fl.elim
    rw [f3] at k3
    rw [f4] at k4
    exact ⟨v, rfl, v, _, _, _, _, rfl, .ty "list", ty, k4, _, rfl, iteF ⟨v, rfl, v, _, _, _, _, rfl, .ty "tuple", ty, k3, _, rfl, iteF ⟨v, rfl, v, _, _, _, _, rfl, .ty "dict", ty, k5, _, rfl, iteF ⟨v, rfl, q⟩⟩⟩⟩
def frm : V → Int → Bool
  | .int i, lo => decide (lo ≤ i)
  | _, _ => false
def spFrom : Sp := fun vs H Q _ => ∃ v lo, vs = [v, .int lo] ∧ Kn H v ∧ Q (.bl (frm v lo)) H
end
/-- an exception of three flat fields -/
def spX3 (K : PySem.W.Frag) (f g h : Str) : Sp := fun vs H Q _ => ∃ (a C : Addr) (u v w : V), vs = [.ref a, u, v, w] ∧ OexC K C ∧ PySem.W.findIn K (.ref C) f = some none ∧ PySem.W.findIn K (.ref C) g = some none ∧ PySem.W.findIn K (.ref C) h = some none ∧
  Flat u ∧ Flat v ∧ Flat w ∧ H a = some (exo a C none) ∧
  ∀ dx H', H dx = none → dx ≠ a → (∀ b, b ≠ a → b ≠ dx → H' b = H b) → H' a = some (exo a C (some dx)) → H' dx = some (exd dx [(h, w), (g, v), (f, u)]) → Q .non H'
def spX0 : Sp := fun vs H Q _ => ∃ a : Addr, vs = [.ref a] ∧ Q .non H
/-- an exception of one flat field -/
def spX1 (K : PySem.W.Frag) (f : Str) : Sp := fun vs H Q _ => ∃ (a C : Addr) (u : V), vs = [.ref a, u] ∧ OexC K C ∧ PySem.W.findIn K (.ref C) f = some none ∧ Flat u ∧ H a = some (exo a C none) ∧
  ∀ dx H', H dx = none → dx ≠ a → (∀ b, b ≠ a → b ≠ dx → H' b = H b) → H' a = some (exo a C (some dx)) → H' dx = some (exd dx [(f, u)]) → Q .non H'
/-- an exception of two flat fields -/
def spX2 (K : PySem.W.Frag) (f g : Str) : Sp := fun vs H Q _ => ∃ (a C : Addr) (u v : V), vs = [.ref a, u, v] ∧ OexC K C ∧ PySem.W.findIn K (.ref C) f = some none ∧ PySem.W.findIn K (.ref C) g = some none ∧ Flat u ∧ Flat v ∧ H a = some (exo a C none) ∧
  ∀ dx H', H dx = none → dx ≠ a → (∀ b, b ≠ a → b ≠ dx → H' b = H b) → H' a = some (exo a C (some dx)) → H' dx = some (exd dx [(g, v), (f, u)]) → Q .non H'
section
variable {P : Program} {w : World} {K : PySem.W.Frag} {mg : Str → Option Value} {base : Heap}
end
/-- behind a raise: all that was there, and the error's fields at d -/
structure Rsd (H H' : Hp) (d : Addr) (fs : List (Str × V)) : Prop where
  new : H d = none
  same : Same H H'
  at_ : H' d = some (.xd fs)
theorem rsd_of {H H2 : Hp} {a d C : Addr} {fs : List (Str × V)} (na : H a = none) (nd : H d = none) (h : ∀ b, b ≠ a → b ≠ d → H2 b = H b) : Rsd H (upd (del H2 a) d (.xd fs)) d fs :=
  ⟨nd, fun b o e => by
    rw [upd_ne (ne_of_none e nd), del_ne (ne_of_none e na), h b (ne_of_none e na) (ne_of_none e nd)]
    exact e, upd_same⟩
theorem raise3 {H : Hp} {C : Addr} {f g h : Str} {u v z : V} {R : XK} {K : PySem.W.Frag} (T : OexC K C) (n1 : PySem.W.findIn K (.ref C) f = some none) (n2 : PySem.W.findIn K (.ref C) g = some none) (n3 : PySem.W.findIn K (.ref C) h = some none)
    (k1 : Flat u) (k2 : Flat v) (k3 : Flat z) (r : ∀ d H', Rsd H H' d [(h, z), (g, v), (f, u)] → R (.ref C) (some d) H') :
    ([u, v, z] : List V).length ≤ 1000 ∧ ∀ a, H a = none → spX3 K f g h (.ref a :: ([u, v, z] ++ [])) (upd H a (exo a C none)) (fun y H2 => y = .non ∧ ∃ (d : Addr) (fs : List (Str × V)), H2 a = some (exo a C (some d)) ∧ H2 d = some (exd d fs) ∧ H d = none ∧ R (.ref C) (some d) (upd (del H2 a) d (.xd fs))) (fun _ _ _ => False) := by
  refine ⟨by show 3 ≤ 1000; decide, fun a na => ⟨a, C, u, v, z, rfl, T, n1, n2, n3, k1, k2, k3, upd_same, fun dx H' nd ne hk ha hd => ⟨rfl, dx, _, ha, hd, ?_, r _ _ ?_⟩⟩⟩
  · rw [upd_ne ne] at nd
    exact nd
  · refine rsd_of (C := C) na (by rw [upd_ne ne] at nd; exact nd) fun b h1 h2 => ?_
    rw [hk b h1 h2, upd_ne h1]
theorem raise0 {H : Hp} {C : Addr} {R : XK} {K : PySem.W.Frag} (r : ∀ H', Same H H' → R (.ref C) none H') :
    ∀ a, H a = none → spX0 [.ref a] (upd H a (exo a C none)) (fun v H2 => v = .non ∧ H2 a = some (exo a C none) ∧ R (.ref C) none (del H2 a)) (fun _ _ _ => False) := fun a na =>
  ⟨a, rfl, rfl, upd_same, r _ fun b o e => by rw [del_ne (ne_of_none e na), upd_ne (ne_of_none e na)]; exact e⟩
theorem raise2 {H : Hp} {C : Addr} {f g : Str} {u v : V} {R : XK} {K : PySem.W.Frag} (T : OexC K C) (n1 : PySem.W.findIn K (.ref C) f = some none) (n2 : PySem.W.findIn K (.ref C) g = some none)
    (k1 : Flat u) (k2 : Flat v) (r : ∀ d H', Rsd H H' d [(g, v), (f, u)] → R (.ref C) (some d) H') :
    ([u, v] : List V).length ≤ 1000 ∧ ∀ a, H a = none → spX2 K f g (.ref a :: ([u, v] ++ [])) (upd H a (exo a C none)) (fun y H2 => y = .non ∧ ∃ (d : Addr) (fs : List (Str × V)), H2 a = some (exo a C (some d)) ∧ H2 d = some (exd d fs) ∧ H d = none ∧ R (.ref C) (some d) (upd (del H2 a) d (.xd fs))) (fun _ _ _ => False) := by
  refine ⟨by show 2 ≤ 1000; decide, fun a na => ⟨a, C, u, v, rfl, T, n1, n2, k1, k2, upd_same, fun dx H' nd ne hk ha hd => ⟨rfl, dx, _, ha, hd, ?_, r _ _ ?_⟩⟩⟩
  · rw [upd_ne ne] at nd
    exact nd
  · refine rsd_of (C := C) na (by rw [upd_ne ne] at nd; exact nd) fun b h1 h2 => ?_
    rw [hk b h1 h2, upd_ne h1]
theorem raise1 {H : Hp} {C : Addr} {f : Str} {u : V} {R : XK} {K : PySem.W.Frag} (T : OexC K C) (n1 : PySem.W.findIn K (.ref C) f = some none)
    (k1 : Flat u) (r : ∀ d H', Rsd H H' d [(f, u)] → R (.ref C) (some d) H') :
    ([u] : List V).length ≤ 1000 ∧ ∀ a, H a = none → spX1 K f (.ref a :: ([u] ++ [])) (upd H a (exo a C none)) (fun y H2 => y = .non ∧ ∃ (d : Addr) (fs : List (Str × V)), H2 a = some (exo a C (some d)) ∧ H2 d = some (exd d fs) ∧ H d = none ∧ R (.ref C) (some d) (upd (del H2 a) d (.xd fs))) (fun _ _ _ => False) := by
  refine ⟨by show 1 ≤ 1000; decide, fun a na => ⟨a, C, u, rfl, T, n1, k1, upd_same, fun dx H' nd ne hk ha hd => ⟨rfl, dx, _, ha, hd, ?_, r _ _ ?_⟩⟩⟩
  · rw [upd_ne ne] at nd
    exact nd
  · refine rsd_of (C := C) na (by rw [upd_ne ne] at nd; exact nd) fun b h1 h2 => ?_
    rw [hk b h1 h2, upd_ne h1]
/-! ### lists, tuples, what stays -/
/-- a list or a tuple at u -/
def LT (H : Hp) (u : Addr) (ts : List V) : Prop := H u = some (.lst ts) ∨ H u = some (.tup ts)
theorem LT.sq {K : PySem.W.Frag} {H : Hp} {u : Addr} {ts : List V} (h : LT H u ts) : Sq K H u ts := h.elim (fun h => .inl (SqL.of h)) fun h => .inr (SqT.of h)
theorem LT.same {H H' : Hp} {u : Addr} {ts : List V} (h : LT H u ts) (e : Same H H') : LT H' u ts := h.imp (fun h => e _ _ h) fun h => e _ _ h
theorem LT.kn {H : Hp} {u : Addr} {ts : List V} (h : LT H u ts) : Kn H (.ref u) := h.elim .lst .tup
def isLT (H : Hp) (v : V) : Bool := isL H v || isT H v
theorem LT.is {H : Hp} {u : Addr} {ts : List V} (h : LT H u ts) : isLT H (.ref u) = true := by
  unfold isLT
  rcases h with h | h
  · rw [isL_lst h]
    rfl
  · rw [isT_tup h, Bool.or_true]
theorem Kn.any (K : PySem.W.Frag) {H : Hp} {v : V} (k : Kn H v) : ∃ t : String, TyX K H v (.type t) ∧ PySem.W.kitAny K (.type t) [.type "list", .type "tuple"] = some (isLT H v) := by
  obtain ⟨t, ty, _, _, k3, k4, _⟩ := k.kinds K
  refine ⟨t, ty, kitAny_cons k4 (fun z => ?_) (fun z => by unfold isLT; rw [z]; rfl)⟩
  refine kitAny_cons k3 (fun z2 => by unfold isLT; rw [z, z2]; rfl) (fun z2 => by unfold isLT; rw [z2, Bool.or_true])
theorem Kn.lt_same {H H' : Hp} {v : V} (k : Kn H v) (e : Same H H') : isLT H' v = isLT H v := by
  unfold isLT
  cases k with
  | lst h => rw [isL_lst h, isL_lst (e _ _ h)]; rfl
  | tup h => rw [isT_tup h, isT_tup (e _ _ h), Bool.or_true, Bool.or_true]
  | _ => rfl
theorem paired_get {α β : Type} {F : α → β → Prop} : ∀ {ts : List α} {ps : List β} {i : Nat} {v : α}, Paired F ts ps → ts[i]? = some v → ∃ p, ps[i]? = some p ∧ F v p
  | _, _, _, _, .nil, h => by simp at h
  | _, _, 0, _, .cons h _, e => by cases e; exact ⟨_, rfl, h⟩
  | _, _, i + 1, v, .cons _ t, e => paired_get (i := i) t (by simpa using e)
theorem paired_to {α β : Type} {F : α → β → Prop} : ∀ {ts : List α} {ps : List β} {i : Nat} {p : β}, Paired F ts ps → ps[i]? = some p → ∃ v, ts[i]? = some v ∧ F v p
  | _, _, _, _, .nil, h => by simp at h
  | _, _, 0, _, .cons h _, e => by cases e; exact ⟨_, rfl, h⟩
  | _, _, i + 1, v, .cons _ t, e => paired_to (i := i) t (by simpa using e)
theorem paired_map {α β γ : Type} {F : α → β → Prop} {G : α → γ → Prop} {g : β → γ} (h : ∀ a b, F a b → G a (g b)) : ∀ {ts : List α} {ps : List β}, Paired F ts ps → Paired G ts (ps.map g)
  | _, _, .nil => .nil
  | _, _, .cons x t => .cons (h _ _ x) (paired_map h t)
theorem paired_unmap {α β γ : Type} {F : α → β → Prop} {G : α → γ → Prop} {g : β → γ} (h : ∀ a b, G a (g b) → F a b) : ∀ {ps : List β} {ts : List α}, Paired G ts (ps.map g) → Paired F ts ps
  | [], _, .nil => .nil
  | _ :: _, _, .cons x t => .cons (h _ _ x) (paired_unmap h t)
/-- tuples stay -/
def TT (H H' : Hp) : Prop := ∀ a xs, H a = some (.tup xs) → H' a = some (.tup xs)
theorem TT.same {H H' : Hp} (e : Same H H') : TT H H' := fun a xs z => e _ _ z
theorem TT.trans {H H1 H2 : Hp} (a : TT H H1) (b : TT H1 H2) : TT H H2 := fun c xs z => b _ _ (a _ _ z)
theorem TT.lst {H : Hp} {D : Addr} {xs ys : List V} (hD : H D = some (.lst xs)) : TT H (upd H D (.lst ys)) := fun a zs z => (upd_ne (ne_of z hD fun y => nomatch y)).trans z
/-- what is not at p stays -/
def ButI (p : Addr) (H H' : Hp) : Prop := ∀ b o, b ≠ p → H b = some o → H' b = some o
structure RsC (p : Addr) (H H' : Hp) (d : Addr) (fs : List (Str × V)) : Prop where
  new : H d = none
  same : ButI p H H'
  at_ : H' d = some (.xd fs)
structure TL (H H' : Hp) : Prop where
  l : ∀ a xs, H a = some (.lst xs) → H' a = some (.lst xs)
  t : ∀ a xs, H a = some (.tup xs) → H' a = some (.tup xs)
theorem TL.but {H H' : Hp} {C p dx : Addr} {fs : List (Str × V)} (hp : H p = some (.ins C dx fs)) (u : ButI p H H') : TL H H' := ⟨fun a xs z => u _ _ (ne_of z hp fun y => nomatch y) z, fun a xs z => u _ _ (ne_of z hp fun y => nomatch y) z⟩
theorem TL.pen {H H' : Hp} {pn cl : Addr} {b : Nat} (pen : Pen H pn cl b) (u : But pn H H') : TL H H' := by
  obtain ⟨k, l, cs, h1, _⟩ := pen
  exact ⟨fun a xs z => u _ _ (ne_of z h1 fun y => nomatch y) z, fun a xs z => u _ _ (ne_of z h1 fun y => nomatch y) z⟩
theorem TL.trans {H H1 H2 : Hp} (a : TL H H1) (b : TL H1 H2) : TL H H2 := ⟨fun c xs z => b.l _ _ (a.l _ _ z), fun c xs z => b.t _ _ (a.t _ _ z)⟩
theorem TL.same {H H' : Hp} (e : Same H H') : TL H H' := ⟨fun a xs z => e _ _ z, fun a xs z => e _ _ z⟩
structure Xc (P : Program) (w : World) (K : PySem.W.Frag) (mg : Str → Option Value) (base : Heap) (k : Nat) (x : Str) (C : Addr) (sp : Sp) : Prop where
  T : OexC K C
  mgC : mg x = some (.ref C)
  ex : ∃ (f : Addr) (fd : FuncData) (ps : List Str), PySem.W.findIn K (.ref C) "__init__" = some (some (.ref f)) ∧ PySem.W.typeIn K (.ref f) = some (.type "function") ∧ FnOk P w K mg base CX0 k f fd ps sp ∧ Binds K fd ps []
section
variable {X : Cx} {k j : Nat} {x : Str} {C : Addr} {sp : Sp} {e : Expr} {es : List Expr} {t : TA} {p pos : Pos}
theorem pmk_x (c : Xc X.prog X.w X.K X.mg X.base k x C sp) (hr : Room j X.A) (ha : PA X (e :: es) t) (hk : k + 1 ≤ j := by decide) (hg : Gl X x := by rfl) (hdb : (x == ("__debug__" : Str)) = false := by decide)
    (he : starEach (e :: es) X.env = (false, eval e X.env) :: starEach es X.env := by rfl) (hpl : (backTo pos (starEach es X.env)).any (·.1) = false := by rfl) : PMk X (.Call (.Name x p) (e :: es) [] pos) (tMkO C sp [] t) := by
  obtain ⟨f, fd, ps, i1, i2, F, b⟩ := c.ex
  exact pmk_oex c.T i1 i2 F (hr.mono hk) b .nil pass0 hg c.mgC ha hdb he hpl
end
/-- an exception class, caught -/
structure Ct (K : PySem.W.Frag) (mg : Str → Option Value) (x : Str) (C : Addr) : Prop where
  g : mg x = some (.ref C)
  T : XfC K C
  me : PySem.W.exmOne K (.ref C) (.ref C) = some true
section
variable {X : Cx}
def rSmD (K : PySem.W.Frag) : R2 := fun x y H Q => ∃ d, Dp K H x d ∧ Dp K H y d ∧ SeqAt.shaped d = true ∧ Q (.bl false) H
theorem op_neSmD (hu : X.A.units + 64 < cLine) : OpR X (compareOp .NotEq) (rSmD X.K) := by
  intro pins s σ H x y v u Q I rx ry h
  obtain ⟨d, d1, d2, sh, q⟩ := h
  refine op_neD hu pins s σ H _ _ v u Q I rx ry ⟨d, d, d1, d2, sh, sh, ?_⟩
  rw [SeqAt.eqv_refl _ (Bool.and_eq_true_iff.mp sh).1]
  exact q
def rSmE (K : PySem.W.Frag) : R2 := fun x y H Q => ∃ d, Dp K H x d ∧ Dp K H y d ∧ SeqAt.shaped d = true ∧ Q (.bl true) H
theorem op_eqSmD (hu : X.A.units + 64 < cLine) : OpR X (compareOp .Eq) (rSmE X.K) := by
  intro pins s σ H x y v u Q I rx ry ⟨d, d1, d2, sh, q⟩
  refine op_eqD hu pins s σ H _ _ v u Q I rx ry ⟨d, d, d1, d2, sh, sh, ?_⟩
  rw [SeqAt.eqv_refl _ (Bool.and_eq_true_iff.mp sh).1]
  exact q
end
section
variable {X : Cx} {k j : Nat} {x : Str} {C : Addr} {sp : Sp} {p pos : Pos}
theorem pmk_x0 (c : Xc X.prog X.w X.K X.mg X.base k x C sp) (hr : Room j X.A) (hk : k + 1 ≤ j := by decide) (hg : Gl X x := by rfl) (hdb : (x == ("__debug__" : Str)) = false := by decide) : PMk X (.Call (.Name x p) [] [] pos) (tMkO0 C sp) := by
  obtain ⟨f, fd, ps, i1, i2, F, b⟩ := c.ex
  exact pmk_oex0 c.T i1 i2 F (hr.mono hk) b pass0 hg c.mgC hdb
end
/-- all but dicts and tables stay -/
def Ks (H H' : Hp) : Prop := ∀ b o, H b = some o → (∀ ps, o ≠ .tbl ps) → (∀ kvs, o ≠ .dK kvs) → H' b = some o
theorem Ks.of {H H' : Hp} (e : Same H H') : Ks H H' := fun b o h _ _ => e b o h
theorem Ks.trans {H H1 H2 : Hp} (a : Ks H H1) (b : Ks H1 H2) : Ks H H2 := fun c o h n m => b c o (a c o h n m) n m
theorem Ks.refl (H : Hp) : Ks H H := fun _ _ h _ _ => h
theorem Ks.ext {H H' : Hp} (e : LamX.ExtN H H') : Ks H H' := fun b o h n _ => e b o h n
theorem Ks.pen {H H' : Hp} {pn cl : Addr} {b : Nat} (pen : Pen H pn cl b) (e : But pn H H') : Ks H H' := fun c o h _ m => e c o (pen.ne h m) h
theorem Ks.tl {H H' : Hp} (e : Ks H H') : TL H H' := ⟨fun a xs z => e _ _ z (fun _ y => nomatch y) (fun _ y => nomatch y), fun a xs z => e _ _ z (fun _ y => nomatch y) (fun _ y => nomatch y)⟩
theorem Ks.ins {H H' : Hp} {a C dx : Addr} {fs : List (Str × V)} (e : Ks H H') (h : H a = some (.ins C dx fs)) : H' a = some (.ins C dx fs) := e _ _ h (fun _ y => nomatch y) fun _ y => nomatch y
theorem Kn.tl {H H2 : Hp} {v : V} (k : Kn H v) (s : TL H H2) : Kn H2 v := by
  cases k with
  | non => exact .non
  | bl b => exact .bl b
  | int i => exact .int i
  | str x => exact .str x
  | lst e => exact .lst (s.l _ _ e)
  | tup e => exact .tup (s.t _ _ e)
theorem tabs_at {Tb : List (Addr × Str)} {H H' : Hp} {p : Addr} {o : HO} (t : LamX.Tabs Tb H) (hp : H p = some o) (n1 : ∀ ps, o ≠ .tbl ps) (n2 : ∀ f, o ≠ .ext f) (e : ButI p H H') : LamX.Tabs Tb H' := fun pt hpt => by
  obtain ⟨ps, a1, a2, a3⟩ := t pt hpt
  refine ⟨ps, e _ _ (ne_of a1 hp fun z => n1 _ z.symm) a1, a2, fun pos cv hc => ?_⟩
  obtain ⟨c0, e1, e2⟩ := a3 pos cv hc
  exact ⟨c0, e1, e _ _ (ne_of e2 hp fun z => n2 _ (by unfold LamX.CodeO at z; exact z.symm)) e2⟩
theorem tabs_but {Tb : List (Addr × Str)} {H H' : Hp} {pn cl : Addr} {b : Nat} (tabs : LamX.Tabs Tb H) (pen : Pen H pn cl b) (bt : But pn H H') : LamX.Tabs Tb H' := by
  obtain ⟨k, l, cs, p1, _⟩ := pen
  exact tabs_at tabs p1 (fun _ z => nomatch z) (fun _ z => nomatch z) bt
theorem Pen.ext {H H' : Hp} {pn cl : Addr} {b : Nat} (h : Pen H pn cl b) (e : LamX.ExtN H H') : Pen H' pn cl b := let ⟨k, l, cs, h1, h2, h3, h4⟩ := h; ⟨k, l, cs, e _ _ h1 (fun _ z => nomatch z), e _ _ h2 (fun _ z => nomatch z), h3, h4⟩
/-- the pen and the tables -/
structure PT (Tb : List (Addr × Str)) (H : Hp) (pn cl : Addr) (b : Nat) : Prop where
  pen : Pen H pn cl b
  tabs : LamX.Tabs Tb H
section
variable {Tb : List (Addr × Str)} {H H' : Hp} {pn cl : Addr} {b c : Nat}
theorem PT.same (h : PT Tb H pn cl b) (e : Same H H') : PT Tb H' pn cl b := ⟨h.pen.same e, h.tabs.ext e⟩
theorem PT.but (h : PT Tb H pn cl b) (e : But pn H H') (p : Pen H' pn cl c) : PT Tb H' pn cl c := ⟨p, tabs_but h.tabs h.pen e⟩
theorem PT.ext (h : PT Tb H pn cl b) (e : LamX.ExtN H H') (t : LamX.Tabs Tb H') : PT Tb H' pn cl b := ⟨h.pen.ext e, t⟩
end
theorem same_ins {H : Hp} {p dx C : Addr} {fs : List (Str × V)} (np : H p = none) (nd : H dx = none) : Same H (upd (upd H dx (.own p)) p (.ins C dx fs)) := fun b o z => by
  rw [upd_ne (ne_of_none z np), upd_ne (ne_of_none z nd)]
  exact z
theorem butI_same {H H1 H' : Hp} {p : Addr} (e : Same H H1) (np : H p = none) (b : ButI p H1 H') : Same H H' := fun c o z => b c o (ne_of_none z np) (e _ _ z)
theorem rSmD_of {K : PySem.W.Frag} {H : Hp} {t t2 : Addr} {us : List V} {Q : VK} (nt : H t = none) (nt2 : upd H t (.tup us) t2 = none) (fl : ∀ v ∈ us, Flat v) (q : ∀ H', Same H H' → Q (.bl false) H') : rSmD K (.ref t) (.ref t2) (upd (upd H t (.tup us)) t2 (.tup us)) Q :=
  ⟨.tuple (us.map dOf), .tup (SqT.of ((upd_ne (ne_of_none (show upd H t (.tup us) t = some (.tup us) from upd_same) nt2)).trans upd_same)) (dpAll_flat fl), .tup (SqT.of upd_same) (dpAll_flat fl), shT_flat fl, q _ ((same_new nt).trans (same_new nt2))⟩
theorem rSmE_of {K : PySem.W.Frag} {H : Hp} {t t2 : Addr} {us : List V} {Q : VK} (nt : H t = none) (nt2 : upd H t (.tup us) t2 = none) (fl : ∀ v ∈ us, Flat v) (q : ∀ H', Same H H' → Q (.bl true) H') : rSmE K (.ref t) (.ref t2) (upd (upd H t (.tup us)) t2 (.tup us)) Q :=
  ⟨.tuple (us.map dOf), .tup (SqT.of ((upd_ne (ne_of_none (show upd H t (.tup us) t = some (.tup us) from upd_same) nt2)).trans upd_same)) (dpAll_flat fl), .tup (SqT.of upd_same) (dpAll_flat fl), shT_flat fl, q _ ((same_new nt).trans (same_new nt2))⟩
theorem cutSeq {D : Ends} {t u : TS} {σ : St} {H : Hp} (R : St → Hp → Prop) (h1 : ∀ nx : St → Hp → Prop, (∀ σ' H', R σ' H' → nx σ' H') → t { D with nx := nx } σ H) (h2 : ∀ σ' H', R σ' H' → u D σ' H') : tSeq t u D σ H := h1 _ h2
end K50
set_option Elab.async false
set_option linter.all false
set_option maxRecDepth 100001
/-! zip over sources of either kind: a list with its iterator, or a tuple with its iterator -/
namespace ZM
open PySem PySem.Spec PyProof.Rows L2
/-- an iterator of a tuple (t) or of a list, k items on -/
def ItB (t : Bool) (h : Heap) (it l : Addr) (k : Nat) : Prop := match t with
  | true => h.IsTupleIter it l k
  | false => h.IsListIter it l k
/-- a tuple (t) or a list of these items -/
def InB (t : Bool) (h : Heap) (a : Addr) (its : Array Value) : Prop := match t with
  | true => h.IsTuple a its
  | false => h.IsList a its
/-- at it an iterator, k items on, over what lies at l: xs, a list or a tuple -/
def Src (t : Bool) (h : Heap) (it l : Addr) (k : Nat) (xs : Array Value) : Prop := ItB t h it l k ∧ InB t h l xs
theorem ItB.keep {t : Bool} {h h' : Heap} {it l : Addr} {k : Nat} (b : ItB t h it l k) (e : ∀ o, h.get? it = some o → h'.get? it = some o) : ItB t h' it l k := by
  cases t <;> exact b.at e
theorem ItB.obj {t : Bool} {h : Heap} {it l : Addr} {k : Nat} (b : ItB t h it l k) : ∃ o, h.get? it = some o ∧ ∀ v, o.data ≠ .cell v := by
  cases t <;> (obtain ⟨o, e, _, d⟩ := b; exact ⟨o, e, fun v q => by rw [d] at q; cases q⟩)
section
variable {prog : Program} {w : World} {A : Around} {E : Value → Shared → Prop} {s : Shared} {t : Bool}
theorem Src.next {it l : Addr} {k : Nat} {xs : Array Value} {x : Value} {Q : Value → Shared → Prop} (ne : it ≠ l) (h : Src t s.heap it l k xs) (hx : xs[k]? = some x)
    (hQ : ∀ h', Src t h' it l (k + 1) xs → Heap.SameBut it s.heap h' → Q x { s with heap := h' }) : wpAny (model prog w) A (Builtin.SmallTypes.nextOf (.ref it)) Q E s := by
  obtain ⟨h1, h2⟩ := h
  cases t
  · exact wpAny_nextOf_list_item h1 h2 hx fun h' z sb => hQ h' ⟨z, Heap.IsList.extBut h2 sb.extBut (Ne.symm ne)⟩ sb
  · exact RZ.nextOf_tuple_item h1 h2 hx fun h' z sb => hQ h' ⟨z, Heap.IsTuple.extBut h2 sb.extBut (Ne.symm ne)⟩ sb
theorem Src.ends {it l : Addr} {k : Nat} {xs : Array Value} {Q : Value → Shared → Prop} (hh : A.handled = none) (h : Src t s.heap it l k xs) (hx : xs[k]? = none)
    (hE : ∀ h' e, Heap.ExtBut it s.heap h' → (∃ o, h'.get? e = some o ∧ o.cls = .type "StopIteration") → E (.ref e) { s with heap := h' }) : wpAny (model prog w) A (Builtin.SmallTypes.nextOf (.ref it)) Q E s := by
  obtain ⟨h1, h2⟩ := h
  cases t
  · exact wpAny_nextOf_list_end hh h1 h2 hx hE
  · exact RZ.nextOf_tuple_end hh h1 h2 hx hE
end
theorem Src.at {t : Bool} {h h' : Heap} {it l : Addr} {k : Nat} {xs : Array Value} (s : Src t h it l k xs) (e1 : ∀ o, h.get? it = some o → h'.get? it = some o) (e2 : ∀ o, h.get? l = some o → h'.get? l = some o) : Src t h' it l k xs := by
  obtain ⟨h1, h2⟩ := s
  refine ⟨h1.keep e1, ?_⟩
  cases t <;> (obtain ⟨o, z, r⟩ := h2; exact ⟨o, e2 _ z, r⟩)
end ZM
set_option Elab.async false
set_option linter.all false
set_option maxRecDepth 100001
set_option maxHeartbeats 999999
/-! zip of two sources, of which each is a list or a tuple -/
namespace ZM
open PySem PySem.Spec PyProof.Rows L2
theorem Src.off {t : Bool} {h h' : Heap} {it l c : Addr} {k : Nat} {xs : Array Value} (s : Src t h it l k xs) (n1 : it ≠ c) (n2 : l ≠ c) (e : Heap.ExtBut c h h') : Src t h' it l k xs :=
  s.at (fun o z => e it o n1 z) fun o z => e l o n2 z
/-- what a zip that goes holds: itself, its pair of iterators, its pair of items, both sources -/
structure Zp (t u : Bool) (h : Heap) (g ti to ja jb la lb : Addr) (k : Nat) (xs ys : Array Value) : Prop where
  zi : IsZip h g ti to .none
  pi : IsPair h ti (.ref ja) (.ref jb)
  po : ∃ x y, IsPair h to x y
  sa : Src t h ja la k xs
  sb : Src u h jb lb k ys
section
variable {prog : Program} {w : World} {A : Around} {E : Value → Shared → Prop} {s : Shared} {g ti to ja jb la lb : Addr} {k : Nat} {xs ys : Array Value} {t t2 : Bool}
theorem Zp.item {x y : Value} {Q : Option Value → Shared → Prop} (D : ZipApart g ti to ja jb la lb) (Z : Zp t t2 s.heap g ti to ja jb la lb k xs ys) (hx : xs[k]? = some x) (hy : ys[k]? = some y)
    (hQ : ∀ h', IsZip h' g ti to (rawInt s.heap.objs.size) → IsPair h' ti (.ref ja) (.ref jb) → IsPair h' to x y → Src t h' ja la (k + 1) xs → Src t2 h' jb lb (k + 1) ys → IsPair h' s.heap.objs.size x y → h'.objs.size = s.heap.objs.size + 1 →
      (∀ c o, c ≠ g → c ≠ to → c ≠ ja → c ≠ jb → s.heap.get? c = some o → h'.get? c = some o) → Q (some (.ref s.heap.objs.size)) { s with heap := h' }) :
    wpAny (model prog w) A (pyNext (.ref g)) Q E s := by
  obtain ⟨zi, pi, ⟨u, v, po⟩, sa, sb⟩ := Z
  have ty : s.TypeIs (.ref g) "zip" := ⟨_, zi, rfl⟩
  unfold pyNext
  refine PySem.wpAny_bind (wpAny_attempt (wpAny_callSpecial?_slot (name := Str.ofString "__next__") ty F.slot_zip_next
    (wpAny_call_entry F.slot_zip_next ty F.entry_zip_next (Q := fun r s1 => wpAny (model prog w) A (pure (some r)) Q E s1) ?_ (F.args_zip_next_1 _))))
  show wpAny _ _ (field (.ref g) 2 >>= _) _ _ _
  refine PySem.wpAny_bind (wpAny_field zi rfl (x := .bool false) rfl ?_)
  show wpAny _ _ (field (.ref g) 3 >>= _) _ _ _
  refine PySem.wpAny_bind (wpAny_field zi rfl (x := .ref ti) rfl ?_)
  refine PySem.wpAny_bind (wpAny_seqItems pi rfl ?_)
  show wpAny _ _ (Builtin.SmallTypes.ownedTupleIsFree (.ref g) >>= _) _ _ _
  refine PySem.wpAny_bind ?_
  unfold Builtin.SmallTypes.ownedTupleIsFree
  refine PySem.wpAny_bind (wpAny_field zi rfl (x := .none) rfl (wpAny_pure ?_))
  simp only [if_true]
  refine PySem.wpAny_bind (wpAny_rule ?_)
  refine PySem.wpAny_bind (wpAny_field zi rfl (x := .ref to) rfl ?_)
  refine PySem.wpAny_bind (wpAny_setField_rec zi (by simp) fun g1 zi1 s1 => ?_)
  replace zi1 : IsZip g1 g ti to .ellipsis := zi1
  refine PySem.wpAny_bind ?_
  simp only [List.zipIdx_cons, List.zipIdx_nil, List.forIn_cons, List.forIn_nil]
  refine PySem.wpAny_bind (PySem.wpAny_bind (wpAny_onRaise ?_))
  show wpAny _ _ (Builtin.SmallTypes.nextOf (.ref ja) >>= _) _ _ _
  refine PySem.wpAny_bind ((sa.off D.i1z D.l1z s1.extBut).next (Ne.symm D.l1i1) hx fun g2 sa2 s2 => wpAny_pure ?_)
  have po2 : IsPair g2 to u v := s2.extBut _ _ D.TOi1 (s1.extBut _ _ D.TOz po)
  refine PySem.wpAny_bind (wpAny_seqItems po2 rfl ?_)
  refine PySem.wpAny_bind (wpAny_updateSeq_pair po2 fun g3 po3 s3 => ?_)
  replace po3 : IsPair g3 to x v := po3
  refine PySem.wpAny_bind (wpAny_letGo (wpAny_pure ?_))
  refine PySem.wpAny_bind (PySem.wpAny_bind (wpAny_onRaise ?_))
  show wpAny _ _ (Builtin.SmallTypes.nextOf (.ref jb) >>= _) _ _ _
  refine PySem.wpAny_bind ((((sb.off D.i2z D.l2z s1.extBut).off D.i12.symm D.l2i1 s2.extBut).off D.TOi2.symm D.l2TO s3.extBut).next (Ne.symm D.l2i2) hy fun g4 sb4 s4 => wpAny_pure ?_)
  have po4 : IsPair g4 to x v := s4.extBut _ _ D.TOi2 po3
  refine PySem.wpAny_bind (wpAny_seqItems po4 rfl ?_)
  refine PySem.wpAny_bind (wpAny_updateSeq_pair po4 fun g5 po5 s5 => ?_)
  replace po5 : IsPair g5 to x y := po5
  refine PySem.wpAny_bind (wpAny_letGo (wpAny_pure (wpAny_pure ?_)))
  refine PySem.wpAny_bind (wpAny_seqItems po5 rfl ?_)
  refine PySem.wpAny_bind (wpAny_newTuple ?_)
  have sz : g5.objs.size = s.heap.objs.size := by rw [s5.1, s4.1, s3.1, s2.1, s1.1]
  have zi5 : IsZip g5 g ti to .ellipsis := s5.extBut _ _ D.TOz.symm (s4.extBut _ _ D.i2z.symm (s3.extBut _ _ D.TOz.symm (s2.extBut _ _ D.i1z.symm zi1)))
  have keep5 : ∀ c o, c ≠ g → c ≠ to → c ≠ ja → c ≠ jb → s.heap.get? c = some o → g5.get? c = some o := fun c o c1 c2 c3 c4 e =>
    s5.extBut _ _ c2 (s4.extBut _ _ c4 (s3.extBut _ _ c2 (s2.extBut _ _ c3 (s1.extBut _ _ c1 e))))
  have sa5 : Src t g5 ja la (k + 1) xs := ((sa2.off D.TOi1.symm D.l1TO s3.extBut).off D.i12 D.l1i2 s4.extBut).off D.TOi1.symm D.l1TO s5.extBut
  have sb5 : Src t2 g5 jb lb (k + 1) ys := sb4.off D.TOi2.symm D.l2TO s5.extBut
  have glt : g < g5.objs.size := Heap.lt_size zi5
  show wpAny _ _ (Builtin.SmallTypes.ownedTupleHandOut (.ref g) (.ref g5.objs.size) >>= _) _ _ _
  refine PySem.wpAny_bind ?_
  unfold Builtin.SmallTypes.ownedTupleHandOut
  have zi6 : IsZip (g5.push { cls := .type "tuple", data := .seq #[x, y] }) g ti to .ellipsis := Heap.get?_push_of_some _ zi5
  refine PySem.wpAny_bind (wpAny_setField_rec zi6 (by simp) fun g7 zi7 s7 => ?_)
  replace zi7 : IsZip g7 g ti to (rawInt g5.objs.size) := zi7
  refine wpAny_setField_rec zi7 (by simp) fun g8 zi8 s8 => ?_
  replace zi8 : IsZip g8 g ti to (rawInt g5.objs.size) := zi8
  have up : ∀ c o, c ≠ g → g5.get? c = some o → g8.get? c = some o := fun c o c1 e => s8.extBut _ _ c1 (s7.extBut _ _ c1 (Heap.get?_push_of_some _ e))
  have np8 : IsPair g8 g5.objs.size x y := s8.extBut _ _ (Nat.ne_of_gt glt) (s7.extBut _ _ (Nat.ne_of_gt glt) (Heap.get?_push_size _ rfl))
  have sz8 : g8.objs.size = g5.objs.size + 1 := by rw [s8.1, s7.1, Heap.size_push]
  rw [sz] at zi8 np8 sz8
  refine wpAny_pure ⟨_, rfl, ?_⟩
  show wpAny _ _ (pure (some (Value.ref g5.objs.size))) _ _ _
  rw [sz]
  refine wpAny_pure (hQ g8 zi8 (up _ _ D.TIz (keep5 _ _ D.TIz D.TITO D.TIi1 D.TIi2 pi)) (up _ _ D.TOz po5) (sa5.at (fun o e => up _ o D.i1z e) fun o e => up _ o D.l1z e) (sb5.at (fun o e => up _ o D.i2z e) fun o e => up _ o D.l2z e) np8 sz8 fun c o c1 c2 c3 c4 e => up c o c1 (keep5 c o c1 c2 c3 c4 e))
theorem Zp.ends {Q : Option Value → Shared → Prop} (hh : A.handled = none) (D : ZipApart g ti to ja jb la lb) (Z : Zp t t2 s.heap g ti to ja jb la lb k xs ys) (no : xs[k]? = none ∨ ys[k]? = none)
    (hQ : ∀ h', (∀ c o, c ≠ g → c ≠ to → c ≠ ja → c ≠ jb → s.heap.get? c = some o → h'.get? c = some o) → Q none { s with heap := h' }) : wpAny (model prog w) A (pyNext (.ref g)) Q E s := by
  obtain ⟨zi, pi, ⟨u, v, po⟩, sa, sb⟩ := Z
  have ty : s.TypeIs (.ref g) "zip" := ⟨_, zi, rfl⟩
  have fin : ∀ (h' : Heap) (e : Addr), (∀ c o, c ≠ g → c ≠ to → c ≠ ja → c ≠ jb → s.heap.get? c = some o → h'.get? c = some o) → (∃ o, h'.get? e = some o ∧ o.cls = .type "StopIteration") →
      wpAny (model prog w) A (do if (← isInstance (.ref e) (.type "StopIteration")) then pure none else throw (.ref e)) Q E { s with heap := h' } := fun h' e kp ⟨o, ho, hc⟩ =>
    PySem.wpAny_bind (wpAny_isInstance (T := "StopIteration") (b := true) ⟨o, ho, hc⟩ isSubtype_stop (wpAny_pure (hQ _ kp)))
  unfold pyNext
  refine PySem.wpAny_bind (wpAny_attempt (wpAny_callSpecial?_slot (name := Str.ofString "__next__") ty F.slot_zip_next
    (wpAny_call_entry F.slot_zip_next ty F.entry_zip_next ?_ (F.args_zip_next_1 _))))
  show wpAny _ _ (field (.ref g) 2 >>= _) _ _ _
  refine PySem.wpAny_bind (wpAny_field zi rfl (x := .bool false) rfl ?_)
  show wpAny _ _ (field (.ref g) 3 >>= _) _ _ _
  refine PySem.wpAny_bind (wpAny_field zi rfl (x := .ref ti) rfl ?_)
  refine PySem.wpAny_bind (wpAny_seqItems pi rfl ?_)
  show wpAny _ _ (Builtin.SmallTypes.ownedTupleIsFree (.ref g) >>= _) _ _ _
  refine PySem.wpAny_bind ?_
  unfold Builtin.SmallTypes.ownedTupleIsFree
  refine PySem.wpAny_bind (wpAny_field zi rfl (x := .none) rfl (wpAny_pure ?_))
  simp only [if_true]
  refine PySem.wpAny_bind (wpAny_rule ?_)
  refine PySem.wpAny_bind (wpAny_field zi rfl (x := .ref to) rfl ?_)
  refine PySem.wpAny_bind (wpAny_setField_rec zi (by simp) fun g1 zi1 s1 => ?_)
  replace zi1 : IsZip g1 g ti to .ellipsis := zi1
  refine PySem.wpAny_bind ?_
  simp only [List.zipIdx_cons, List.zipIdx_nil, List.forIn_cons, List.forIn_nil]
  refine PySem.wpAny_bind (PySem.wpAny_bind (wpAny_onRaise ?_))
  show wpAny _ _ (Builtin.SmallTypes.nextOf (.ref ja) >>= _) _ _ _
  cases hx : xs[k]? with
  | none =>
    refine PySem.wpAny_bind ((sa.off D.i1z D.l1z s1.extBut).ends hh hx fun g2 e s2 he => ?_)
    obtain ⟨oe, ho, hc⟩ := he
    have zi2 : IsZip g2 g ti to .ellipsis := s2 _ _ D.i1z.symm zi1
    have ne : e ≠ g := fun z => by subst z; rw [zi2] at ho; cases ho; simp at hc
    refine wpAny_setField_rec zi2 (by simp) fun g3 _ s3 => fin g3 e (fun c o c1 _ c3 _ z => s3.extBut _ _ c1 (s2 _ _ c3 (s1.extBut _ _ c1 z))) ⟨oe, s3.extBut _ _ ne ho, hc⟩
  | some x =>
    have hy : ys[k]? = none := by
      rcases no with h | h
      · rw [hx] at h; cases h
      · exact h
    refine PySem.wpAny_bind ((sa.off D.i1z D.l1z s1.extBut).next (Ne.symm D.l1i1) hx fun g2 sa2 s2 => wpAny_pure ?_)
    have po2 : IsPair g2 to u v := s2.extBut _ _ D.TOi1 (s1.extBut _ _ D.TOz po)
    refine PySem.wpAny_bind (wpAny_seqItems po2 rfl ?_)
    refine PySem.wpAny_bind (wpAny_updateSeq_pair po2 fun g3 po3 s3 => ?_)
    refine PySem.wpAny_bind (wpAny_letGo (wpAny_pure ?_))
    refine PySem.wpAny_bind (PySem.wpAny_bind (wpAny_onRaise ?_))
    show wpAny _ _ (Builtin.SmallTypes.nextOf (.ref jb) >>= _) _ _ _
    refine PySem.wpAny_bind ((((sb.off D.i2z D.l2z s1.extBut).off D.i12.symm D.l2i1 s2.extBut).off D.TOi2.symm D.l2TO s3.extBut).ends hh hy fun g4 e s4 he => ?_)
    obtain ⟨oe, ho, hc⟩ := he
    have zi4 : IsZip g4 g ti to .ellipsis := s4 _ _ D.i2z.symm (s3.extBut _ _ D.TOz.symm (s2.extBut _ _ D.i1z.symm (zi1)))
    have ne : e ≠ g := fun z => by subst z; rw [zi4] at ho; cases ho; simp at hc
    refine wpAny_setField_rec zi4 (by simp) fun g5 _ s5 => fin g5 e (fun c o c1 c2 c3 c4 z => s5.extBut _ _ c1 (s4 _ _ c4 (s3.extBut _ _ c2 (s2.extBut _ _ c3 (s1.extBut _ _ c1 z))))) ⟨oe, s5.extBut _ _ ne ho, hc⟩
/-! how it begins -/
theorem zipB_new {v1 v2 : Value} {o1 o2 : Obj} {G1 G2 : Heap → Prop} (B1 : Begins v1 o1 G1) (B2 : Begins v2 o2 G2) : Meets (Builtin.«zip.__new__» ⟨[.type "zip", v1, v2], []⟩)
    (fun _ R z => G1 z.heap ∧ G2 z.heap ∧ ∀ h3 h4 h5, h3 = ((z.heap.push o1).push o2).push { cls := .type "tuple", data := .seq #[.ref z.heap.objs.size, .ref (z.heap.push o1).objs.size] } → h4 = h3.push { cls := .type "tuple", data := .seq #[.none, .none] } →
      h5 = h4.push { cls := .type "zip", data := .fields #[.none, .bool false, .bool false, .ref ((z.heap.push o1).push o2).objs.size, .ref h3.objs.size] } → R (.ok (.ret (.ref h4.objs.size))) { z with heap := h5 }) :=
  .of_wp fun prog w A R z hz => by
    obtain ⟨hp, gs, dr, tk, os⟩ := z
    obtain ⟨g1, g2, r⟩ := hz
    have su := sub_zip
    have it1 : ∀ {A' : Around} {E : Value → Shared → Prop} {Q : Value → Shared → Prop}, Q (.ref hp.objs.size) ⟨hp.push o1, gs, dr, tk, os⟩ → wpAny (model prog w) A' (pyIter v1) Q E ⟨hp, gs, dr, tk, os⟩ :=
      fun q => B1.iter prog w _ _ ⟨hp, gs, dr, tk, os⟩ _ g1 q
    have it2 : ∀ {A' : Around} {E : Value → Shared → Prop} {Q : Value → Shared → Prop}, Q (.ref (hp.push o1).objs.size) ⟨(hp.push o1).push o2, gs, dr, tk, os⟩ → wpAny (model prog w) A' (pyIter v2) Q E ⟨hp.push o1, gs, dr, tk, os⟩ :=
      fun q => B2.iter prog w _ _ ⟨hp.push o1, gs, dr, tk, os⟩ _ (B2.keeps _ _ g2 fun b u e => Heap.get?_push_of_some _ e) q
    wp_walk using it1, it2
    exact ⟨_, rfl, r _ _ _ rfl rfl rfl⟩
end
end ZM
set_option Elab.async false
set_option linter.all false
set_option maxRecDepth 100001
set_option maxHeartbeats 999999
/-! zip of two sources, of which each is a list or a tuple: the rule -/
namespace ZM
open PySem PySem.Spec PyProof.Rows L2
/-- a tuple (t) or a list of these items -/
def SqB (K : PySem.W.Frag) (t : Bool) (H : Hp) (a : Addr) (xs : List V) : Prop := match t with
  | true => SqT K H a xs
  | false => SqL K H a xs
def obB (t : Bool) (a : Addr) : Obj := match t with
  | true => { cls := .type "tuple_iterator", data := .fields #[.ref a, .int 0 0] }
  | false => { cls := .type "list_iterator", data := .fields #[.ref a, .int 0 0] }
theorem begB (t : Bool) (a : Addr) (its : Array Value) : Begins (.ref a) (obB t a) fun h => InB t h a its := by
  cases t
  · exact begins_list a its
  · exact begins_tuple a its
theorem itB0 (t : Bool) {h : Heap} {it a : Addr} (e : h.get? it = some (obB t a)) : ItB t h it a 0 := by
  cases t <;> exact ⟨_, e, rfl, rfl⟩
section
variable {X : Cx} {pins : List (Addr × Obj)} {σ : L2.St} {H : Hp} {s : Shared} {a : Addr} {xs ys : List V} {t : Bool}
theorem inB_of (I : Inv X pins σ H s) (h : SqB X.K t H a xs) : ∃ its : List Value, Vals xs its ∧ InB t s.heap a its.toArray ∧ a < s.heap.objs.size := by
  cases t
  · obtain ⟨its, r, p, _⟩ := I.list h
    exact ⟨its, r, p.isList, p.lt⟩
  · obtain ⟨its, r, p, _⟩ := I.tuple h
    exact ⟨its, r, p, p.lt⟩
theorem sqB_inj (I : Inv X pins σ H s) (h : SqB X.K t H a xs) (h' : SqB X.K t H a ys) : xs = ys := by
  cases t
  · exact I.list_inj h h'
  · exact I.tuple_inj h h'
end
def ItzM (K : PySem.W.Frag) (t u : Bool) (a b : Addr) : It where
  go := fun i H => ∃ (xs ys : List V) (x y : V), SqB K t H a xs ∧ SqB K u H b ys ∧ xs[i]? = some x ∧ ys[i]? = some y
  yld := fun i H v H2 => ∃ p x y, v = .ref p ∧ H p = none ∧ H2 = upd H p (.tup [x, y]) ∧ (∀ xs, SqB K t H a xs → xs[i]? = some x) ∧ ∀ ys, SqB K u H b ys → ys[i]? = some y
  stop := fun i H => ∃ xs ys : List V, SqB K t H a xs ∧ SqB K u H b ys ∧ (xs.length ≤ i ∨ ys.length ≤ i)
theorem five {c g ti to ja jb : Addr} (h : c ∈ [g, ti, to, ja, jb]) : c = g ∨ c = ti ∨ c = to ∨ c = ja ∨ c = jb := by simpa using h
theorem turn_zipM {P : Program} {W : World} {K : PySem.W.Frag} {es : List Expr} {kk : Nat} {tp : Pos} {t u : Bool} {a b g ti to ja jb : Addr} (D : ZipApart g ti to ja jb a b) :
    Turn P W K (.Tuple es kk tp) (ItzM K t u a b) [g, ti, to, ja, jb] g (fun i h => IsZip h g ti to .none ∧ IsPair h ti (.ref ja) (.ref jb) ∧ (∃ x y, IsPair h to x y) ∧ ItB t h ja a i ∧ ItB u h jb b i) where
  mem := List.mem_cons_self
  obj := fun i h st c hc => by
    obtain ⟨zi, pi, ⟨x, y, po⟩, b1, b2⟩ := st
    rcases five hc with q | q | q | q | q
    · rw [q]; exact ⟨_, zi, fun v z => nomatch z⟩
    · rw [q]; exact ⟨_, pi, fun v z => nomatch z⟩
    · rw [q]; exact ⟨_, po, fun v z => nomatch z⟩
    · rw [q]; exact b1.obj
    · rw [q]; exact b2.obj
  keep := fun i h h2 st k => ⟨k g (by simp) _ st.1, k ti (by simp) _ st.2.1, let ⟨x, y, po⟩ := st.2.2.1; ⟨x, y, k to (by simp) _ po⟩, st.2.2.2.1.keep fun o q => k ja (by simp) o q, st.2.2.2.2.keep fun o q => k jb (by simp) o q⟩
  item := by
    intro X hP hW hK hc i pins s σ H E I hf st hg
    subst hP hW hK
    obtain ⟨zi, pi, po, b1, b2⟩ := st
    obtain ⟨xs, ys, x, y, q1, q2, hx, hy⟩ := hg
    obtain ⟨i1, r1, p1, _⟩ := inB_of I q1
    obtain ⟨i2, r2, p2, _⟩ := inB_of I q2
    obtain ⟨v1, hv1, rv1⟩ := r1.get hx
    obtain ⟨v2, hv2, rv2⟩ := r2.get hy
    have lg : g < s.heap.objs.size := Heap.lt_size zi
    have hts : ti < s.heap.objs.size ∧ to < s.heap.objs.size ∧ ja < s.heap.objs.size ∧ jb < s.heap.objs.size := by
      obtain ⟨_, _, po⟩ := po
      obtain ⟨_, e1, _⟩ := b1.obj
      obtain ⟨_, e2, _⟩ := b2.obj
      exact ⟨Heap.lt_size pi, Heap.lt_size po, Heap.lt_size e1, Heap.lt_size e2⟩
    have Z : Zp t u s.heap g ti to ja jb a b i i1.toArray i2.toArray := ⟨zi, pi, po, ⟨b1, p1⟩, ⟨b2, p2⟩⟩
    refine Z.item D (x := v1) (y := v2) (by simpa using hv1) (by simpa using hv2) fun h' zi' pi' po' a' b' np' sz' kp' => ?_
    refine ⟨_, rfl, wpAny_letOwnedTupleGo_zip (s := { s with heap := h' }) zi' fun h'' zi'' sb => ?_⟩
    have np'' : h''.get? s.heap.objs.size = some { cls := .type "tuple", data := .seq #[v1, v2] } := (sb.2 _ (Nat.ne_of_gt lg)).trans np'
    have new : ObjOk X.prog X.w (upd H s.heap.objs.size (.tup [x, y])) h'' s.heap.objs.size (.tup [x, y]) :=
      ⟨by show 2 ≤ sizeLine; decide, [v1, v2], .cons rv1 (.cons rv2 .nil), ⟨_, np'', rfl, _, rfl⟩⟩
    have J : Inv X pins σ (upd H s.heap.objs.size (.tup [x, y])) { s with heap := h'' } :=
      I.turnedNew (t' := s.toks) (ch := [g, ti, to, ja, jb]) (fun c o hb q => (sb.2 c fun z => hb (by simp [z])).trans (kp' c o (fun z => hb (by simp [z])) (fun z => hb (by simp [z])) (fun z => hb (by simp [z])) (fun z => hb (by simp [z])) q)) hf (Nat.le_refl _) new
    refine ⟨.ref s.heap.objs.size, _, J, rfl, ⟨_, x, y, rfl, I.hok.fresh (Nat.le_refl _), rfl, fun l hl => by rw [sqB_inj I hl q1]; exact hx, fun l hl => by rw [sqB_inj I hl q2]; exact hy⟩, ⟨zi'', ?_, ⟨v1, v2, ?_⟩, ?_, ?_⟩, fun c hcm => ?_⟩
    · exact (sb.2 _ D.TIz).trans pi'
    · exact (sb.2 _ D.TOz).trans po'
    · exact a'.1.keep fun o q => (sb.2 _ D.i1z).trans q
    · exact b'.1.keep fun o q => (sb.2 _ D.i2z).trans q
    · have lc : c < s.heap.objs.size := by
        rcases five hcm with q | q | q | q | q <;> rw [q]
        · exact lg
        · exact hts.1
        · exact hts.2.1
        · exact hts.2.2.1
        · exact hts.2.2.2
      rw [upd_ne (Nat.ne_of_lt lc)]
      exact (hf c hcm).1
  done := by
    intro X hP hW hK hc i pins s σ H E I hf st hg
    subst hP hW hK
    obtain ⟨zi, pi, po, b1, b2⟩ := st
    obtain ⟨xs, ys, q1, q2, no⟩ := hg
    obtain ⟨i1, r1, p1, _⟩ := inB_of I q1
    obtain ⟨i2, r2, p2, _⟩ := inB_of I q2
    have l1 := r1.length
    have l2 := r2.length
    have Z : Zp t u s.heap g ti to ja jb a b i i1.toArray i2.toArray := ⟨zi, pi, po, ⟨b1, p1⟩, ⟨b2, p2⟩⟩
    refine Z.ends (I.ok.hd hc) D (no.imp (fun z => by simp; omega) fun z => by simp; omega) fun h' kp => ⟨rfl, I.turnedL (t' := s.toks) (ch := [g, ti, to, ja, jb]) (fun c o hb q =>
      kp c o (fun z => hb (by simp [z])) (fun z => hb (by simp [z])) (fun z => hb (by simp [z])) (fun z => hb (by simp [z])) q) hf⟩
  self := fun A i s Q E st h => wpAny_pyIter_zip st.1 h
/-- zip(x, y): x a tuple (t) or a list, y a tuple (u) or a list -/
def iZipM (K : PySem.W.Frag) (t u : Bool) (ta : TA) : TI := fun σ H R => ta σ H fun vs H1 => ∃ a b xs ys, vs = [.ref a, .ref b] ∧ SqB K t H1 a xs ∧ SqB K u H1 b ys ∧ R (ItzM K t u a b) H1
theorem pi_zipM (t u : Bool) {X : Cx} {e e2 : Expr} {ta : TA} {p pos tp : Pos} {es : List Expr} {kk : Nat} (hm : X.mg "zip" = none) (ha : PA X [e, e2] ta) (hg : Gl X "zip" := by rfl)
    (hs : starEach [e, e2] X.env = (false, eval e X.env) :: starEach [e2] X.env := by rfl) (hpl : (backTo pos (starEach [e2] X.env)).any (·.1) = false := by rfl) :
    PI X (.Tuple es kk tp) (.Call (.Name "zip" p) [e, e2] [] pos) (iZipM X.K t u ta) := by
  constructor
  intro pins s σ H R I h
  refine Call_ (ld_blt I hg hm PyProof.Rows.boot_zip (PyProof.Rows.callWith_type1 (thn (ha.run pos pins s σ H _ I h) fun us s1 hh => ?_) hs hpl))
  obtain ⟨vs, H1, I1, r1, a, b, xs, ys, ex, q1, q2, q⟩ := hh
  subst ex
  cases r1 with
  | cons r rr =>
    cases rr with
    | cons r' rr =>
      cases rr
      cases r
      cases r'
      obtain ⟨i1, _, p1, l1⟩ := inB_of I1 q1
      obtain ⟨i2, _, p2, l2⟩ := inB_of I1 q2
      refine callType_new F.called_zip (by decide) (F.typeCall_zip_2 _ _) (F.newCall_zip_2 _ _) (fun ob => F.args_object_init_3 ob _ _) F.entry_zip_new (zipB_new (begB t a i1.toArray) (begB u b i2.toArray)) ⟨p1, p2, ?_⟩
      intro h3 h4 h5 e3 e4 e5
      have z1 : (s1.heap.push (obB t a)).objs.size = s1.heap.objs.size + 1 := Heap.size_push ..
      have z2 : ((s1.heap.push (obB t a)).push (obB u b)).objs.size = s1.heap.objs.size + 2 := by rw [Heap.size_push, z1]
      have z3 : h3.objs.size = s1.heap.objs.size + 3 := by rw [e3, Heap.size_push, z2]
      have z4 : h4.objs.size = s1.heap.objs.size + 4 := by rw [e4, Heap.size_push, z3]
      have up3 : ∀ c o, h3.get? c = some o → h5.get? c = some o := fun c o z => by rw [e5, e4]; exact Heap.get?_push_of_some _ (Heap.get?_push_of_some _ z)
      have k5 : h5.get? h4.objs.size = some { cls := .type "zip", data := .fields #[.none, .bool false, .bool false, .ref ((s1.heap.push (obB t a)).push (obB u b)).objs.size, .ref h3.objs.size] } := by rw [e5]; exact Heap.get?_push_size _ rfl
      have k4 : h5.get? h3.objs.size = some { cls := .type "tuple", data := .seq #[.none, .none] } := by rw [e5, e4]; exact Heap.get?_push_of_some _ (Heap.get?_push_size _ rfl)
      have k3 := up3 ((s1.heap.push (obB t a)).push (obB u b)).objs.size { cls := .type "tuple", data := .seq #[.ref s1.heap.objs.size, .ref (s1.heap.push (obB t a)).objs.size] } (by rw [e3]; exact Heap.get?_push_size _ rfl)
      have k2 := up3 (s1.heap.push (obB t a)).objs.size (obB u b) (by rw [e3]; exact Heap.get?_push_of_some _ (Heap.get?_push_size _ (begB u b #[]).free))
      have k1 := up3 s1.heap.objs.size (obB t a) (by rw [e3]; exact Heap.get?_push_of_some _ (Heap.get?_push_of_some _ (Heap.get?_push_size _ (begB t a #[]).free)))
      have kp : ∀ c o, s1.heap.get? c = some o → h5.get? c = some o := fun c o z => up3 c o (by rw [e3]; exact Heap.get?_push_of_some _ (Heap.get?_push_of_some _ (Heap.get?_push_of_some _ z)))
      rw [z2, z3, z4] at k5
      rw [z3] at k4
      rw [z1, z2] at k3
      rw [z1] at k2
      show _ ∧ _
      rw [z4]
      refine ⟨⟨_, k5, rfl⟩, wpAny_pyIter_zip k5 ?_⟩
      have J : Inv X pins σ H1 { s1 with heap := h5 } := I1.kept (t' := s1.toks) kp
      refine ⟨s1.heap.objs.size + 4, [s1.heap.objs.size + 4, s1.heap.objs.size + 2, s1.heap.objs.size + 3, s1.heap.objs.size, s1.heap.objs.size + 1], _, _, H1, rfl, J, turn_zipM (PySem.W.ktu_apart s1.heap.objs.size a b l1 l2), ⟨k5, k3, ⟨_, _, k4⟩, itB0 t k1, itB0 u k2⟩, fun c hcm => ?_, q⟩
      have ge : s1.heap.objs.size ≤ c := by
        rcases five hcm with z | z | z | z | z <;> rw [z]
        · exact Nat.le_add_right _ _
        · exact Nat.le_add_right _ _
        · exact Nat.le_add_right _ _
        · exact Nat.le_refl _
        · exact Nat.le_add_right _ _
      exact I1.fpOk ge (I1.hok.fresh ge)
theorem walk_zipM {K : PySem.W.Frag} {t u : Bool} {a b : Addr} {xs ys : List V} {n : Nat} (hn : n = min xs.length ys.length) : Walk (ItzM K t u a b) n (fun H => SqB K t H a xs ∧ SqB K u H b ys) (YPair (fun i => xs[i]?) fun i => ys[i]?) where
  goes := fun i _ hi q => ⟨xs, ys, xs[i]'(by omega), ys[i]'(by omega), q.1, q.2, List.getElem?_eq_getElem _, List.getElem?_eq_getElem _⟩
  stops := fun _ q => ⟨xs, ys, q.1, q.2, by omega⟩
  yields := fun i H v H2 _ q y => let ⟨p, x, z, h1, h2, h3, h4, h5⟩ := y; ⟨p, x, z, h1, h2, h3, h4 xs q.1, h5 ys q.2⟩
end ZM
set_option Elab.async false
set_option linter.all false
/-! Rows of integers by a modulus: what row operations keep. -/
namespace Mx
/-! ### sums -/
def sm (f : Nat → Int) : Nat → Int
  | 0 => 0
  | n + 1 => sm f n + f n
theorem sm_congr {f g : Nat → Int} : ∀ {n : Nat}, (∀ i, i < n → f i = g i) → sm f n = sm g n
  | 0, _ => rfl
  | n + 1, h => by rw [sm, sm, sm_congr fun i hi => h i (Nat.lt_succ_of_lt hi), h n (Nat.lt_succ_self n)]
theorem sm_zero : ∀ n, sm (fun _ => 0) n = 0
  | 0 => rfl
  | n + 1 => by rw [sm, sm_zero n]; rfl
theorem sm_add (f g : Nat → Int) : ∀ n, sm (fun i => f i + g i) n = sm f n + sm g n
  | 0 => rfl
  | n + 1 => by rw [sm, sm, sm, sm_add f g n]; omega
theorem sm_mul (c : Int) (f : Nat → Int) : ∀ n, sm (fun i => c * f i) n = c * sm f n
  | 0 => by rw [sm, sm, Int.mul_zero]
  | n + 1 => by rw [sm, sm, sm_mul c f n, Int.mul_add]
theorem sm_mul_r (c : Int) (f : Nat → Int) (n : Nat) : sm (fun i => f i * c) n = sm f n * c := by
  rw [Int.mul_comm, ← sm_mul]
  exact sm_congr fun i _ => Int.mul_comm _ _
theorem sm_swap (F : Nat → Nat → Int) (m : Nat) : ∀ n, sm (fun i => sm (fun j => F i j) m) n = sm (fun j => sm (fun i => F i j) n) m
  | 0 => by
    have : (fun j => sm (fun i => F i j) 0) = fun _ => 0 := rfl
    rw [this, sm_zero]
    rfl
  | n + 1 => by
    have : (fun j => sm (fun i => F i j) (n + 1)) = fun j => sm (fun i => F i j) n + F n j := rfl
    rw [sm, sm_swap F m n, this, sm_add]
theorem sm_delta (f : Nat → Int) (i : Nat) : ∀ {n}, i < n → sm (fun k => if k = i then f k else 0) n = f i
  | n + 1, h => by
    rw [sm]
    by_cases c : n = i
    · subst c
      rw [if_pos rfl, sm_congr (g := fun _ => 0) fun k hk => if_neg (by omega), sm_zero, Int.zero_add]
    · rw [if_neg c, sm_delta f i (by omega), Int.add_zero]
theorem sm_one {f : Nat → Int} {i n : Nat} (hi : i < n) (h : ∀ k, k < n → k ≠ i → f k = 0) : sm f n = f i := by
  rw [← sm_delta f i hi]
  exact sm_congr fun k hk => by
    by_cases c : k = i
    · rw [if_pos c]
    · rw [if_neg c, h k hk c]
/-! ### what is alike by a modulus -/
def cg (m a b : Int) : Prop := m ∣ a - b
theorem cg.refl {m a : Int} : cg m a a := by
  unfold cg
  rw [Int.sub_self]
  exact Int.dvd_zero m
theorem cg.of {m a b : Int} (h : a = b) : cg m a b := h ▸ cg.refl
theorem cg.symm {m a b : Int} (h : cg m a b) : cg m b a := by
  obtain ⟨k, e⟩ := h
  exact ⟨-k, by rw [Int.mul_neg, ← e]; omega⟩
theorem cg.trans {m a b c : Int} (h : cg m a b) (g : cg m b c) : cg m a c := by
  obtain ⟨k, e⟩ := h
  obtain ⟨l, d⟩ := g
  exact ⟨k + l, by rw [Int.mul_add, ← e, ← d]; omega⟩
theorem cg.add {m a b c d : Int} (h : cg m a b) (g : cg m c d) : cg m (a + c) (b + d) := by
  obtain ⟨k, e⟩ := h
  obtain ⟨l, f⟩ := g
  exact ⟨k + l, by rw [Int.mul_add, ← e, ← f]; omega⟩
theorem cg.mul {m a b : Int} (c : Int) (h : cg m a b) : cg m (c * a) (c * b) := by
  obtain ⟨k, e⟩ := h
  exact ⟨c * k, by rw [← Int.mul_sub, e, Int.mul_left_comm]⟩
theorem cg.mul_r {m a b : Int} (c : Int) (h : cg m a b) : cg m (a * c) (b * c) := by
  rw [Int.mul_comm a, Int.mul_comm b]
  exact h.mul c
theorem cg.neg {m a b : Int} (h : cg m a b) : cg m (-a) (-b) := by
  have := h.mul (-1)
  rw [Int.neg_mul, Int.neg_mul, Int.one_mul, Int.one_mul] at this
  exact this
theorem cg.sub {m a b c d : Int} (h : cg m a b) (g : cg m c d) : cg m (a - c) (b - d) := h.add g.neg
theorem cg.sm {m : Int} {f g : Nat → Int} : ∀ {n : Nat}, (∀ i, i < n → cg m (f i) (g i)) → cg m (sm f n) (sm g n)
  | 0, _ => cg.refl
  | n + 1, h => cg.add (cg.sm fun i hi => h i (Nat.lt_succ_of_lt hi)) (h n (Nat.lt_succ_self n))
theorem cg_mod {m a : Int} : cg m (a % m) a := ⟨-(a / m), by
  have := Int.mul_ediv_add_emod a m
  rw [Int.mul_neg]
  omega⟩
theorem cg.eq {m a b : Int} (h : cg m a b) : a % m = b % m := Int.emod_eq_emod_iff_emod_sub_eq_zero.mpr (Int.emod_eq_zero_of_dvd h)
theorem cg.of_mod {m a b : Int} (h : a % m = b % m) : cg m a b := Int.dvd_of_emod_eq_zero (Int.emod_eq_emod_iff_emod_sub_eq_zero.mp h)
theorem cg.small {m a b : Int} (h : cg m a b) (a0 : 0 ≤ a) (am : a < m) (b0 : 0 ≤ b) (bm : b < m) : a = b := by
  have := h.eq
  rw [Int.emod_eq_of_lt a0 am, Int.emod_eq_of_lt b0 bm] at this
  exact this
/-! ### spans -/
/-- v is a sum of rows of F, by m -/
def Sp (m : Int) (F : Nat → Nat → Int) (n : Nat) (v : Nat → Int) : Prop := ∃ z : Nat → Int, ∀ c, cg m (v c) (sm (fun i => z i * F i c) n)
theorem Sp.row {m : Int} {F : Nat → Nat → Int} {n i : Nat} (hi : i < n) {v : Nat → Int} (h : ∀ c, cg m (v c) (F i c)) : Sp m F n v := ⟨fun k => if k = i then 1 else 0, fun c => (h c).trans (cg.of (by
  rw [sm_one hi fun k _ hk => show (if k = i then (1 : Int) else 0) * F k c = 0 by rw [if_neg hk, Int.zero_mul]]
  show _ = (if i = i then (1 : Int) else 0) * F i c
  rw [if_pos rfl, Int.one_mul]))⟩
theorem Sp.add {m : Int} {F : Nat → Nat → Int} {n : Nat} {v w u : Nat → Int} (h : Sp m F n v) (g : Sp m F n w) (t : Int) (e : ∀ c, cg m (u c) (v c + t * w c)) : Sp m F n u := by
  obtain ⟨z, hz⟩ := h
  obtain ⟨y, hy⟩ := g
  refine ⟨fun i => z i + t * y i, fun c => (e c).trans ?_⟩
  have : Mx.sm (fun i => (z i + t * y i) * F i c) n = Mx.sm (fun i => z i * F i c) n + t * Mx.sm (fun i => y i * F i c) n := by
    rw [← sm_mul, ← sm_add]
    exact sm_congr fun i _ => by rw [Int.add_mul, Int.mul_assoc]
  rw [this]
  exact (hz c).add ((hy c).mul t)
theorem Sp.scale {m : Int} {F : Nat → Nat → Int} {n : Nat} {v u : Nat → Int} (h : Sp m F n v) (t : Int) (e : ∀ c, cg m (u c) (t * v c)) : Sp m F n u := by
  obtain ⟨z, hz⟩ := h
  refine ⟨fun i => t * z i, fun c => (e c).trans ?_⟩
  have : Mx.sm (fun i => t * z i * F i c) n = t * Mx.sm (fun i => z i * F i c) n := by
    rw [← sm_mul]
    exact sm_congr fun i _ => Int.mul_assoc _ _ _
  rw [this]
  exact (hz c).mul t
theorem Sp.trans {m : Int} {F G : Nat → Nat → Int} {n k : Nat} {v : Nat → Int} (h : Sp m F n v) (g : ∀ i, i < n → Sp m G k (F i)) : Sp m G k v := by
  obtain ⟨z, hz⟩ := h
  have g' : ∀ i, ∃ y : Nat → Int, i < n → ∀ c, cg m (F i c) (sm (fun j => y j * G j c) k) := fun i => by
    by_cases hi : i < n
    · obtain ⟨y, hy⟩ := g i hi
      exact ⟨y, fun _ => hy⟩
    · exact ⟨fun _ => 0, fun h => absurd h hi⟩
  refine ⟨fun j => sm (fun i => z i * (g' i).choose j) n, fun c => (hz c).trans ?_⟩
  have e : sm (fun j => sm (fun i => z i * (g' i).choose j) n * G j c) k = sm (fun i => z i * sm (fun j => (g' i).choose j * G j c) k) n := by
    have : (fun j => sm (fun i => z i * (g' i).choose j) n * G j c) = fun j => sm (fun i => z i * (g' i).choose j * G j c) n := funext fun j => (sm_mul_r _ _ _).symm
    rw [this, ← sm_swap]
    exact sm_congr fun i _ => by
      rw [← sm_mul]
      exact sm_congr fun j _ => Int.mul_assoc _ _ _
  rw [e]
  exact cg.sm fun i hi => ((g' i).choose_spec hi c).mul (z i)
/-- the same sums -/
structure Eqv (m : Int) (F G : Nat → Nat → Int) (n : Nat) : Prop where
  to : ∀ i, i < n → Sp m G n (F i)
  back : ∀ i, i < n → Sp m F n (G i)
theorem Eqv.refl {m : Int} {F : Nat → Nat → Int} {n : Nat} : Eqv m F F n := ⟨fun _ hi => .row hi fun _ => .refl, fun _ hi => .row hi fun _ => .refl⟩
theorem Eqv.trans {m : Int} {F G D : Nat → Nat → Int} {n : Nat} (a : Eqv m F G n) (b : Eqv m G D n) : Eqv m F D n := ⟨fun i hi => (a.to i hi).trans b.to, fun i hi => (b.back i hi).trans a.back⟩
/-- a multiple of another row is added to a row -/
theorem Eqv.add {m : Int} {F G : Nat → Nat → Int} {n a b : Nat} (ha : a < n) (hb : b < n) (ne : a ≠ b) (t : Int) (ea : ∀ c, cg m (G a c) (F a c + t * F b c)) (e : ∀ i, i < n → i ≠ a → ∀ c, cg m (G i c) (F i c)) : Eqv m F G n := by
  have gb : ∀ c, cg m (F b c) (G b c) := fun c => (e b hb (Ne.symm ne) c).symm
  refine ⟨fun i hi => ?_, fun i hi => ?_⟩
  · by_cases c : i = a
    · subst c
      refine Sp.add (.row ha fun c => .refl) (.row hb fun c => .refl) (-t) fun c => ?_
      refine cg.symm (((ea c).add ((e b hb (Ne.symm ne) c).mul (-t))).trans (cg.of ?_))
      rw [Int.neg_mul]
      omega
    · exact .row hi fun z => (e i hi c z).symm
  · by_cases c : i = a
    · subst c
      exact Sp.add (.row ha fun c => .refl) (.row hb fun c => .refl) t ea
    · exact .row hi (e i hi c)
/-- a row is taken so many times, by a number that can be undone -/
theorem Eqv.scale {m : Int} {F G : Nat → Nat → Int} {n a : Nat} (ha : a < n) (t y : Int) (ty : cg m (y * t) 1) (ea : ∀ c, cg m (G a c) (t * F a c)) (e : ∀ i, i < n → i ≠ a → ∀ c, cg m (G i c) (F i c)) : Eqv m F G n := by
  refine ⟨fun i hi => ?_, fun i hi => ?_⟩
  · by_cases c : i = a
    · subst c
      refine Sp.scale (.row ha fun c => .refl) y fun c => cg.symm (((ea c).mul y).trans ?_)
      rw [← Int.mul_assoc]
      have := ty.mul_r (F i c)
      rw [Int.one_mul] at this
      exact this
    · exact .row hi fun z => (e i hi c z).symm
  · by_cases c : i = a
    · subst c
      exact Sp.scale (.row ha fun c => .refl) t ea
    · exact .row hi (e i hi c)
/-- one step of two rows: they are changed about, a multiple of one is taken off the other -/
theorem Eqv.step {m : Int} {F G : Nat → Nat → Int} {n a b : Nat} (ha : a < n) (hb : b < n) (ne : a ≠ b) (t : Int) (ea : ∀ c, cg m (G a c) (F b c)) (eb : ∀ c, cg m (G b c) (F a c - t * F b c)) (e : ∀ i, i < n → i ≠ a → i ≠ b → ∀ c, cg m (G i c) (F i c)) : Eqv m F G n := by
  refine ⟨fun i hi => ?_, fun i hi => ?_⟩
  · by_cases c : i = a
    · subst c
      refine Sp.add (.row hb fun c => .refl) (.row ha fun c => .refl) t fun c => cg.symm (((eb c).add ((ea c).mul t)).trans (cg.of ?_))
      omega
    · by_cases d : i = b
      · subst d
        exact .row ha fun z => (ea z).symm
      · exact .row hi fun z => (e i hi c d z).symm
  · by_cases c : i = a
    · subst c
      exact .row hb ea
    · by_cases d : i = b
      · subst d
        refine Sp.add (.row ha fun c => .refl) (.row hb fun c => .refl) (-t) fun c => (eb c).trans (cg.of ?_)
        rw [Int.neg_mul]
        omega
      · exact .row hi (e i hi c d)
def dl (i c : Nat) : Int := if i = c then 1 else 0
/-- where columns ahead are those of the identity, and what is below the pivot is 0: a sum of rows that is the unit row tells that the pivot can be undone -/
theorem pivot {m : Int} {A : Nat → Nat → Int} {n j : Nat} (hj : j < n) (un : ∀ i c, i < n → c < j → cg m (A i c) (dl i c)) (below : ∀ i, i < n → j < i → cg m (A i j) 0) (sp : ∃ z : Nat → Int, ∀ c, c ≤ j → cg m (dl j c) (sm (fun i => z i * A i c) n)) : ∃ z, cg m (z * A j j) 1 := by
  obtain ⟨z, hz⟩ := sp
  have z0 : ∀ c, c < j → cg m (z c) 0 := fun c hc => by
    have h := hz c (Nat.le_of_lt hc)
    have e : cg m (sm (fun i => z i * A i c) n) (z c) := by
      refine (cg.sm (g := fun i => z i * dl i c) fun i hi => (un i c hi hc).mul (z i)).trans (cg.of ?_)
      rw [sm_one (i := c) (by omega) fun k _ hk => by rw [dl, if_neg hk, Int.mul_zero], dl, if_pos rfl, Int.mul_one]
    rw [dl, if_neg (by omega)] at h
    exact (h.trans e).symm
  refine ⟨z j, ?_⟩
  have h := hz j (Nat.le_refl _)
  rw [dl, if_pos rfl] at h
  refine (h.trans ?_).symm
  refine (cg.sm (g := fun i => if i = j then z i * A i j else 0) fun i hi => ?_).trans (cg.of (sm_delta (fun i => z i * A i j) j hj))
  by_cases c : i = j
  · rw [if_pos c]
    exact .refl
  · rw [if_neg c]
    by_cases d : i < j
    · have := (z0 i d).mul_r (A i j)
      rw [Int.zero_mul] at this
      exact this
    · have := (below i hi (by omega)).mul (z i)
      rw [Int.mul_zero] at this
      exact this
/-- the rows of M, the identity beside them -/
def aug (M : Nat → Nat → Int) (n : Nat) (i c : Nat) : Int := if c < n then M i c else dl i (c - n)
theorem sm_dl_r (f : Nat → Int) {n c : Nat} (hc : c < n) : sm (fun i => f i * dl i c) n = f c := by
  rw [sm_one hc fun k _ hk => by rw [dl, if_neg hk, Int.mul_zero], dl, if_pos rfl, Int.mul_one]
theorem sm_dl_l (f : Nat → Int) {n c : Nat} (hc : c < n) : sm (fun i => dl c i * f i) n = f c := by
  rw [sm_one hc fun k _ hk => by rw [dl, if_neg (Ne.symm hk), Int.zero_mul], dl, if_pos rfl, Int.one_mul]
/-- the left half has become the identity: the right one undoes M, from both sides -/
theorem undone_ok {m : Int} {M W : Nat → Nat → Int} {n : Nat} (E : Eqv m (aug M n) W n) (id : ∀ i c, i < n → c < n → cg m (W i c) (dl i c)) :
    (∀ i c, i < n → c < n → cg m (sm (fun k => W i (n + k) * M k c) n) (dl i c)) ∧ (∀ i c, i < n → c < n → cg m (sm (fun k => M i k * W k (n + c)) n) (dl i c)) := by
  -- each row of W is a sum of rows of [M | 1]: its right half tells which
  have h1 : ∀ i c, i < n → c < n → cg m (sm (fun k => W i (n + k) * M k c) n) (W i c) := fun i c hi hc => by
    obtain ⟨z, hz⟩ := E.back i hi
    have zk : ∀ k, k < n → cg m (W i (n + k)) (z k) := fun k hk => by
      refine (hz (n + k)).trans (cg.of ?_)
      rw [← sm_dl_r z hk]
      exact sm_congr fun j _ => by rw [aug, if_neg (by omega), Nat.add_sub_cancel_left]
    refine (cg.sm fun k hk => (zk k hk).mul_r (M k c)).trans ((hz c).trans (cg.of ?_)).symm
    exact sm_congr fun j _ => by rw [aug, if_pos hc]
  refine ⟨fun i c hi hc => (h1 i c hi hc).trans (id i c hi hc), fun i c hi hc => ?_⟩
  -- each row of [M | 1] is a sum of rows of W: the left half of W tells which
  obtain ⟨y, hy⟩ := E.to i hi
  have yk : ∀ k, k < n → cg m (M i k) (y k) := fun k hk => by
    have := hy k
    rw [aug, if_pos hk] at this
    refine this.trans ((cg.sm (g := fun j => y j * dl j k) fun j hj => (id j k hj hk).mul (y j)).trans (cg.of (sm_dl_r y hk)))
  have := hy (n + c)
  rw [aug, if_neg (by omega), Nat.add_sub_cancel_left] at this
  exact (cg.sm fun k hk => (yk k hk).mul_r (W k (n + c))).trans this.symm
end Mx
set_option Elab.async false
set_option linter.all false
set_option maxRecDepth 100001
set_option maxHeartbeats 3999999
/-! Functions that may ask repr of nested data: no guard stands on the stack when they are called. -/
namespace GFn
open PySem PySem.Spec PyProof.Rows L2 LamX
/-- as FnOk, from a stack without guards -/
structure FnOkG (P : Program) (w : World) (K : PySem.W.Frag) (mg : Str → Option Value) (base : Heap) (CX : CXT) (k : Nat) (f : Addr) (fd : FuncData) (ps : List Str) (sp : Sp) : Prop where
  many : ∀ vs H Q E, sp vs H Q E → vs.length = ps.length
  goes : ∀ (A : Around) (fr : List Env) (s : Shared) (H : Hp) (args : Args) (us : List Value) (vs : List V) (Q : VK) (E : XK), A.guards = some [] → Room k A → Env0 P w K mg base A fr s H → BindsTo s fd args (ps.zip us) → Vals vs us → sp vs H Q E →
    codeAny (model P w) A (.call (.ref f) args) (CR CX fr P w H s Q E) s
section
variable {P : Program} {w : World} {K : PySem.W.Frag} {mg : Str → Option Value} {base : Heap} {CX : CXT} {k : Nat} {f : Addr} {fd : FuncData} {ps : List Str} {sp : Sp}
theorem FnOkG.of (F : FnOk P w K mg base CX k f fd ps sp) : FnOkG P w K mg base CX k f fd ps sp :=
  ⟨F.len, fun A fr s H args us vs Q E _ => F.run A fr s H args us vs Q E⟩
theorem guards_deeper {A : Around} {env : Env} (h : A.guards = some []) : (A.deeper env).guards = some [] := by
  first | exact h | (simp [Around.deeper, h])
end
section
variable {X : Cx} {CX : CXT} {k : Nat} {f : Addr} {fd : FuncData} {ps : List Str} {sp : Sp} {E : XK} {x : Str} {p pos : Pos} {e : Expr} {es : List Expr} {t : TA}
theorem goG {pins : List (Addr × Obj)} {σ : L2.St} {H : Hp} {s : Shared} {Q : VK} {us : List Value} {vs : List V} (F : FnOkG X.prog X.w X.K X.mg X.base CX k f fd ps sp) (g : X.A.guards = some []) (room : Room k X.A) (b : Binds X.K fd ps []) (px : Passes CX X E)
    (I : Inv X pins σ H s) (r : Vals vs us) (h : sp vs H Q E) : wpAny (model X.prog X.w) X.A (call (.ref f) us) (EP X pins σ Q) X.xe s := by
  have n1 := F.many _ _ _ _ h
  have n2 : us.length = vs.length := r.length.symm
  have bt : BindsTo s fd ⟨us, []⟩ (ps.zip us) := by
    have z := b s us I.kIn (by rw [List.append_nil, n2, n1])
    rw [List.append_nil] at z
    exact z
  have c := F.goes X.A X.stack s H ⟨us, []⟩ us vs Q E g room I.env0 bt r h
  refine wpAny_call (codeAny_mono c fun res s2 z => ?_)
  match res, z with
  | .error er, z => exact px pins σ H s er s2 I z
  | .ok (.ret v), z => exact I.after z
  | .ok .next, z => exact z.elim
  | .ok .brk, z => exact z.elim
  | .ok .cont, z => exact z.elim
theorem pe_callG (F : FnOkG X.prog X.w X.K X.mg X.base CX k f fd ps sp) (g : X.A.guards = some []) (room : Room k X.A) (hg : Gl X x) (hm : X.mg x = some (.ref f)) (kp : PySem.W.keepIn X.K (.ref f) = true) (b : Binds X.K fd ps []) (px : Passes CX X E)
    (args : PA X (e :: es) t) (db : (x == ("__debug__" : Str)) = false := by decide) (he : starEach (e :: es) X.env = (false, eval e X.env) :: starEach es X.env := by rfl) (hpl : (backTo pos (starEach es X.env)).any (·.1) = false := by rfl) :
    PE X (.Call (.Name x p) (e :: es) [] pos) (tCall sp [] E t) := ⟨fun pins s σ H Q I h => by
  refine wpAny_Call_Name_kw (ld_glob I hg hm ?_ db)
  refine PySem.W.callWith_K (h₀ := X.base) I.ok.mod.kin kp ?_ he hpl
  refine thn (args.run pos pins s σ H _ I h) fun us s1 y => ?_
  obtain ⟨vs, H1, J, r, q⟩ := y
  rw [List.append_nil] at q
  exact ⟨J.kIn, goG F g room b px J r q⟩⟩
end
section
variable {P : Program} {w : World} {K : PySem.W.Frag} {mg : Str → Option Value} {base : Heap}
/-- a def by its body, which knows that no guard stands there -/
theorem fn_ofG {CX : CXT} {k : Nat} {f : Addr} {name qual : Str} {params : Arguments} {body : List Stmt} {scope : Scope} {dV kV doc pm cdv ct oc : Value} {an od : Option Addr} {osl : Array (Option Value)} {N ps : List Str} {sp : Sp}
    (lk : K.lookup f = some ⟨oc, od, .func (PySem.W.fnOf name qual params body scope dV kV doc pm an cdv ct), osl⟩) (hcd : PySem.W.codeIn K cdv qual = true) (S : FnScope N ps scope) (many : ∀ vs H Q E, sp vs H Q E → vs.length = ps.length)
    (hbody : ∀ (A : Around) (fr : List Env) (s : Shared) (H : Hp) (vs : List V) (Q : VK) (E : XK), A.guards = some [] → Room k (A.deeper (envOfC qual scope s.heap.objs.size f cdv)) → sp vs H Q E →
      ∃ t, PSs (cxOf CX P w K mg base N qual scope f cdv A fr s H E) body t ∧ t { nx := fun _ H' => Q .non H', rt := Q } (L2.start N vs) H) :
    FnOkG P w K mg base CX (k + 1) f (PySem.W.fnOf name qual params body scope dV kV doc pm an cdv ct) ps sp :=
  ⟨many, fun A fr s H args us vs Q E g room e0 hb r h => run_ofS lk hcd S room e0 hb r (many _ _ _ _ h) fun room' => hbody A fr s H vs Q E g room' h⟩
end
/-! ### the top -/
section
variable {P : Program} {w : World} {K : PySem.W.Frag} {mg mb : Str → Option Value} {a : Addr} {cs : List (Addr × Addr)} {s₁ : Shared} {vs : List Value} {ns : List Int}
abbrev tabO : Obj := { cls := .none, data := .fields #[] }
abbrev scrO (vs : List Value) : Obj := { cls := .type "list", data := .seq vs.toArray }
/-- what holds where the law is called -/
structure TopS (K : PySem.W.Frag) (mg mb : Str → Option Value) (a : Addr) (cs : List (Addr × Addr)) (s₁ : Shared) (vs : List Value) (ns : List Int) : Prop where
  kin : K.In s₁.heap
  nm : s₁.heap.Ns mainGlobals mg
  nb : s₁.heap.Ns builtinsNs mb
  bb : ∀ x : Str, x ≠ "__name__" → mb x = bootBuiltins x
  lim : s₁.heap.NoLimit
  gens : s₁.gens = #[]
  tb : ∀ p ∈ cs, s₁.heap.get? p.2 = some tabO
  tk : ∀ p ∈ cs, K.lookup p.2 = none
  cd : ∀ p ∈ cs, PySem.W.CodeHd s₁.heap p.1 p.2
  bm : ∃ (bm : Addr) (ob : Obj), mg "__builtins__" = some (.ref bm) ∧ bm ≠ builtinsNs ∧ s₁.heap.get? bm = some ob ∧ ob.cls = .type "module" ∧ ob.dict = some builtinsNs ∧ ob.data = .plain
  sc : s₁.heap.get? a = some (scrO vs)
  iv : IntsAre vs ns
  sz : ns.length ≤ sizeLine
/-- what is tracked there: the tables, and the script where the fragment does not tell it -/
noncomputable def topH (K : PySem.W.Frag) (a : Addr) (cs : List (Addr × Addr)) (vs : List Value) (ns : List Int) : Hp := fun b =>
  if b ∈ cs.map (·.2) then some (.tbl #[]) else if b = a ∧ (K.lookup a).isNone = true then some (.frz (scrO vs) (.lst (ns.map V.int))) else none
theorem topH_tab {b : Addr} (h : b ∈ cs.map (·.2)) : topH K a cs vs ns b = some (.tbl #[]) := if_pos h
theorem topH_cases (b : Addr) : (b ∈ cs.map (·.2) ∧ topH K a cs vs ns b = some (.tbl #[])) ∨ (b ∉ cs.map (·.2) ∧ b = a ∧ (K.lookup a).isNone = true ∧ topH K a cs vs ns b = some (.frz (scrO vs) (.lst (ns.map V.int)))) ∨ (b ∉ cs.map (·.2) ∧ topH K a cs vs ns b = none) := by
  by_cases c : b ∈ cs.map (·.2)
  · exact .inl ⟨c, if_pos c⟩
  · by_cases d : b = a ∧ (K.lookup a).isNone = true
    · exact .inr (.inl ⟨c, d.1, d.2, (if_neg c).trans (if_pos d)⟩)
    · exact .inr (.inr ⟨c, (if_neg c).trans (if_neg d)⟩)
theorem TopS.isTab (T : TopS K mg mb a cs s₁ vs ns) {b : Addr} (h : b ∈ cs.map (·.2)) : s₁.heap.get? b = some tabO := by
  obtain ⟨p, m, rfl⟩ := List.mem_map.mp h
  exact T.tb p m
theorem TopS.notTab (T : TopS K mg mb a cs s₁ vs ns) : a ∉ cs.map (·.2) := fun h => by
  have z := T.isTab h
  rw [T.sc] at z
  have z : (scrO vs).data = tabO.data := congrArg Obj.data (Option.some.inj z)
  cases z
/-- an object that is neither a list nor a table is not tracked -/
theorem TopS.off (T : TopS K mg mb a cs s₁ vs ns) {b : Addr} {o : Obj} (e : s₁.heap.get? b = some o) (n1 : o ≠ tabO) (n2 : b = a → (K.lookup a).isNone = false) : topH K a cs vs ns b = none := by
  rcases topH_cases (K := K) (a := a) (cs := cs) (vs := vs) (ns := ns) b with ⟨m, _⟩ | ⟨_, h, l, _⟩ | ⟨_, h⟩
  · rw [T.isTab m] at e
    exact absurd (Option.some.inj e).symm n1
  · rw [n2 h] at l
    cases l
  · exact h
theorem TopS.off' (T : TopS K mg mb a cs s₁ vs ns) {b : Addr} {o : Obj} (e : s₁.heap.get? b = some o) (n1 : o.data ≠ .fields #[]) (n2 : ∀ xs n, o.data ≠ .seq xs n) : topH K a cs vs ns b = none := T.off e (fun z => n1 (by rw [z])) fun h => by
  rw [h, T.sc] at e
  exact absurd rfl (by rw [← Option.some.inj e] at n2; exact n2 _ _)
theorem TopS.ints (T : TopS K mg mb a cs s₁ vs ns) : SqL K (topH K a cs vs ns) a (ns.map V.int) := by
  cases l : K.lookup a with
  | some o =>
    have e := (T.kin a o l).symm.trans T.sc
    cases e
    exact .inr ⟨_, vs.toArray, _, l, rfl, rfl, rfl, by rw [List.size_toArray, T.iv.length]; exact T.sz, by simpa using vals_ints T.iv⟩
  | none => exact .inl (.inr ⟨scrO vs, (if_neg T.notTab).trans (if_pos ⟨rfl, by rw [l]; rfl⟩)⟩)
theorem TopS.hok (T : TopS K mg mb a cs s₁ vs ns) : HOk P w (topH K a cs vs ns) s₁.heap := fun b u e => by
  rcases topH_cases (K := K) (a := a) (cs := cs) (vs := vs) (ns := ns) b with ⟨m, h⟩ | ⟨_, rfl, _, h⟩ | ⟨_, h⟩
  · rw [h] at e
    cases e
    exact T.isTab m
  · rw [h] at e
    cases e
    exact ⟨T.sc, by rw [List.length_map]; exact T.sz, vs, _, vals_ints T.iv, T.sc⟩
  · rw [h] at e
    cases e
theorem TopS.hid (T : TopS K mg mb a cs s₁ vs ns) {b : Addr} {o : Obj} (e : s₁.heap.get? b = some o) (n1 : o.data ≠ .fields #[]) (n2 : ∀ xs n, o.data ≠ .seq xs n) : (hidT s₁.heap (topH K a cs vs ns)).get? b = some o := hidT_get e (T.off' e n1 n2)
theorem TopS.hidNs (T : TopS K mg mb a cs s₁ vs ns) {b : Addr} {m : Str → Option Value} (h : s₁.heap.Ns b m) : (hidT s₁.heap (topH K a cs vs ns)).Ns b m := by
  obtain ⟨o, es, ep, e, d, r⟩ := h
  exact ⟨o, es, ep, T.hid e (by rw [d]; exact fun z => nomatch z) (by rw [d]; exact fun _ _ z => nomatch z), d, r⟩
theorem TopS.hidK (T : TopS K mg mb a cs s₁ vs ns) : K.In (hidT s₁.heap (topH K a cs vs ns)) := fun b o l => by
  refine hidT_get (T.kin b o l) ?_
  rcases topH_cases (K := K) (a := a) (cs := cs) (vs := vs) (ns := ns) b with ⟨m, _⟩ | ⟨_, rfl, h, _⟩ | ⟨_, h⟩
  · obtain ⟨p, mp, rfl⟩ := List.mem_map.mp m
    rw [T.tk p mp] at l
    cases l
  · rw [l] at h
    cases h
  · exact h
theorem TopS.hidT_tab (T : TopS K mg mb a cs s₁ vs ns) : ∀ p ∈ cs, TabB (hidT s₁.heap (topH K a cs vs ns)) mg p.1 p.2 := fun p mp => by
  refine ⟨?_, ?_, fun z => ?_⟩
  · obtain ⟨o, us, fi, tf, fl, tg, inF, tx, tt, e, r1, r2, r⟩ := T.cd p mp
    obtain ⟨r3, r4⟩ := id r
    refine ⟨o, us, fi, tf, fl, tg, inF, tx, tt, T.hid e (fun z => ?_) (fun _ _ z => ?_), r1, r2, r⟩
    · rw [r2] at z
      cases z
      simp at r3
    · rw [r2] at z
      cases z
  · obtain ⟨bm, ob, b1, b2, b3, b4, b5, b6⟩ := T.bm
    have nG : bm ≠ mainGlobals := fun z => by
      obtain ⟨o, es, ep, e, d, _⟩ := T.nm
      rw [← z, b3] at e
      cases e
      rw [b6] at d
      cases d
    have nT : bm ≠ p.2 := fun z => by
      rw [z, T.tb p mp] at b3
      cases b3
      cases b6
    exact ⟨bm, ob, b1, b2, nG, nT, T.hid b3 (by rw [b6]; exact fun z => nomatch z) (by rw [b6]; exact fun _ _ z => nomatch z), b4, b5, b6⟩
  · obtain ⟨o, es, ep, e, d, _⟩ := T.nm
    rw [z, T.tb p mp] at e
    cases e
    cases d
theorem TopS.env (T : TopS K mg mb a cs s₁ vs ns) : Env0 P w K mg (hidT s₁.heap (topH K a cs vs ns)) callerA [] s₁ (topH K a cs vs ns) where
  frames := rfl
  mod := ⟨T.hidK, T.hidNs T.nm, ⟨mb, T.hidNs T.nb, T.bb⟩, let ⟨mc, h1, h2⟩ := T.lim; ⟨mc, T.hidNs h1, h2⟩⟩
  bs := fun b o e => of_hidT e
  bsz := Nat.le_of_eq (hidT_size _ _)
  funs := trivial
  frf := fun b h => nomatch (show b ∈ ([] : List Addr) from h)
  hok := T.hok
  bare := .of_eq T.gens
/-- what was there stays, tables grow -/
theorem TopS.old (T : TopS K mg mb a cs s₁ vs ns) {H' : Hp} {s' : Shared} (un : Un (frs []) [] (topH K a cs vs ns) H' s₁.heap s'.heap) (hok : HOk P w H' s'.heap) : OldK s₁.heap s'.heap := by
  have no : ∀ b : Addr, b ∉ ([] : List Addr) := fun b h => nomatch h
  have stay : ∀ b o, b ∉ cs.map (·.2) → s₁.heap.get? b = some o → s'.heap.get? b = some o := fun b o nb e => by
    rcases topH_cases (K := K) (a := a) (cs := cs) (vs := vs) (ns := ns) b with ⟨m, _⟩ | ⟨_, rfl, _, h⟩ | ⟨_, h⟩
    · exact absurd m nb
    · rw [T.sc] at e
      cases e
      exact (hok _ _ (un.frzs _ _ _ h)).1
    · exact un.keep b o e h (no b) (no b)
  have grow : ∀ b, b ∈ cs.map (·.2) → ∃ more : Array Value, s'.heap.get? b = some { cls := .none, data := .fields more } := fun b m => by
    obtain ⟨more, h⟩ := un.tbls b _ (topH_tab m)
    exact ⟨_, hok b _ h⟩
  refine ⟨fun b o e => ?_, fun b o e => ?_⟩
  · by_cases m : b ∈ cs.map (·.2)
    · obtain ⟨more, g⟩ := grow b m
      obtain ⟨p, mp, rfl⟩ := List.mem_map.mp m
      rw [T.tb p mp] at e
      cases e
      exact .inr (.inl ⟨((T.cd p mp).tab (T.tb p mp)).isCodeTable, rfl, #[], more, rfl, by rw [Array.empty_append]; exact g⟩)
    · exact .inl (stay b o m e)
  · by_cases m : b ∈ cs.map (·.2)
    · obtain ⟨more, g⟩ := grow b m
      exact ⟨_, g⟩
    · exact ⟨o, stay b o m e⟩
theorem top_call {CX : CXT} {k : Nat} {fa : Addr} {fd : FuncData} {x : Str} {sp : Sp} (T : TopS K mg mb a cs s₁ vs ns) (room : Room k callerA)
    (F : ∀ base : Heap, K.In base → base.Ns mainGlobals mg → (∀ p ∈ cs, TabB base mg p.1 p.2) → FnOkG P w K mg base CX k fa fd [x] sp) (bt : ∀ (s : Shared) (u : Value), BindsTo s fd ⟨[u], []⟩ [(x, u)])
    (hsp : ∀ H : Hp, (∀ p ∈ cs, H p.2 = some (.tbl #[])) → SqL K H a (ns.map V.int) → sp [.ref a] H (fun v _ => v = .bl true) fun _ _ _ => False) (noX : ∀ H e s', CX [] H s₁ (fun _ _ _ => False) e s' → False) :
    codeAny (model P w) callerA (.call (.ref fa) ⟨[.ref a], []⟩) (fun r s' => r = .ok (.ret (.bool true)) ∧ OldK s₁.heap s'.heap ∧ s'.os = s₁.os ∧ AllBare s'.gens) s₁ := by
  have c := (F _ T.hidK (T.hidNs T.nm) T.hidT_tab).goes callerA [] s₁ _ ⟨[.ref a], []⟩ [.ref a] [.ref a] _ _ rfl room T.env (bt s₁ (.ref a)) (.cons rfl .nil) (hsp _ (fun p mp => topH_tab (List.mem_map.mpr ⟨p, mp, rfl⟩)) T.ints)
  refine codeAny_mono c fun r s' z => ?_
  match r, z with
  | .error e, z => exact (noX _ e s' z).elim
  | .ok (.ret u), z =>
    obtain ⟨v, H', os, bare, un, hok, rv, q⟩ := z
    have q : v = .bl true := q
    subst q
    obtain rfl : u = Value.bool true := rv
    exact ⟨rfl, T.old un hok, os, bare⟩
  | .ok .next, z => exact z.elim
  | .ok .brk, z => exact z.elim
  | .ok .cont, z => exact z.elim
end
/-- the law's promise at the head's heap h, from a stack without guards -/
def LawAtG (l : PySem.W.OpenLaw) (w : World) (K : PySem.W.Frag) (CX : CXT) (k n : Nat) (x : Str) (mg : Str → Option Value) (fa : Addr) (h : Heap) : Prop :=
  ∃ (fd : FuncData) (cs : List (Addr × Addr)) (sp : Sp), (∀ p ∈ cs, h.get? p.2 = some tabO) ∧ (∀ p ∈ cs, K.lookup p.2 = none) ∧ (∀ p ∈ cs, PySem.W.CodeHd h p.1 p.2) ∧ (∀ (s : Shared) (u : Value), BindsTo s fd ⟨[u], []⟩ [(x, u)]) ∧
    (∀ (H : Hp) (a : Addr) (ns : List Int), ns.length ≤ n → (∀ z ∈ ns, Builtin.Int.intBits z ≤ 1048576) → (∀ p ∈ cs, H p.2 = some (.tbl #[])) → SqL K H a (ns.map V.int) → sp [.ref a] H (fun v _ => v = .bl true) fun _ _ _ => False) ∧
    ∀ base : Heap, K.In base → base.Ns mainGlobals mg → (∀ p ∈ cs, TabB base mg p.1 p.2) → FnOkG l.prog w K mg base CX k fa fd [x] sp
theorem walk_ofG {l : PySem.W.OpenLaw} {n k : Nat} {q : Program} {loose : List Str} {XP : (Str → Option Value) → Heap → Prop} {YP : World → Heap → Prop} {d : DefRec} {K : Params → PySem.W.Frag} {CX : World → CXT} {x : Str}
    (hn : l.most = some n) (hn2 : n ≤ sizeLine) (hdf : d.params.defaults = []) (room : Room k callerA) (hY : ∀ (w : World) (h : Heap), YP w h → (K w.params).In h)
    (F : ∀ (w : World) (mg : Str → Option Value) (fa : Addr) (h : Heap), YP w h → (K w.params).In h → h.Ns mainGlobals mg → mg d.name = some (.ref fa) → LawAtG l w (K w.params) (CX w) k n x mg fa h)
    (noX : ∀ (w : World) (H : Hp) (s : Shared) (e : Value) (s' : Shared), CX w [] H s (fun _ _ _ => False) e s' → False) :
    PySem.W.WalkO q loose XP YP l.row.toRowW d [] (fun f vs => PySem.call f vs) := by
  refine Att.attach_callB hn hdf fun w s₀ s₁ mg mb fa o pm cd doc a vs ns G Y _ _ _ hmg hobj hints hlen hbits hg => ?_
  have kx := hY w _ Y
  obtain ⟨fd, cs, sp, h1, h2, h3, h4, h5, h6⟩ := F w mg fa _ Y kx G.T.g hmg
  exact top_call ⟨kx, G.T.g, G.T.b, G.T.builtins, G.T.nolimit, hg, h1, h2, h3, G.T.bmain, hobj, hints, Nat.le_trans hlen hn2⟩ room h6 h4 (fun H e1 e2 => h5 H a ns hlen hbits e1 e2) fun H e s' => noX w H s₁ e s'
end GFn
set_option Elab.async false
set_option linter.all false
set_option maxRecDepth 100001
set_option maxHeartbeats 3999999
/-! repr of data, from a stack without guards -/
namespace GFn
open PySem L2
/-- small enough to be told -/
structure Tells (d : PyData) : Prop where
  can : d.showable = true
  nod : d.hasDict = false
  dep : d.depth ≤ 40
  len : d.shown.length ≤ sizeLine
section
variable {X : Cx}
theorem call_reprD (g : X.A.guards = some []) (hu : X.A.units + 64 < cLine) : CallR X (.builtin "repr") (fun xs H Q => ∃ v d, xs = [v] ∧ Dp X.K H v d ∧ Tells d ∧ Q (.str d.shown) H) := by
  intro pins s σ H xs us Q I r h
  obtain ⟨v, d, rfl, dp, t, q⟩ := h
  obtain ⟨u, rfl, ru⟩ := vals1 r
  have dep := t.dep
  have ref : ∀ a, v = .ref a → wpAny (model X.prog X.w) X.A (call (.builtin "repr") [u]) (EP X pins σ Q) X.xe s := fun a e => by
    subst e
    obtain rfl : u = Value.ref a := ru
    obtain ⟨as, rd⟩ := Dp.reads I d _ _ dp rfl
    exact repr_of_reads' rd t.can (fun z => by rw [t.nod] at z; cases z) g (by omega) (fun _ _ e => e) (fun h' u tk hk => ⟨.str _, H, I.kept hk, ⟨_, rfl⟩, q⟩) t.len
  cases dp with
  | non =>
    cases ru
    exact PySem.P.repr_of_none ⟨.str _, H, I.tok _, ⟨_, rfl⟩, q⟩
  | bl b =>
    cases ru
    exact PySem.P.repr_of_bool ⟨.str _, H, I.tok _, ⟨_, rfl⟩, q⟩
  | int i =>
    obtain ⟨k, rfl⟩ := ru
    exact PySem.P.repr_of_int (of_decide_eq_true t.can) ⟨.str _, H, I.tok _, ⟨_, rfl⟩, q⟩
  | str x =>
    obtain ⟨k, rfl⟩ := ru
    exact PySem.P.repr_of_str ⟨.str _, H, I.tok _, ⟨_, rfl⟩, q⟩ t.len
  | lst _ _ => exact ref _ rfl
  | tup _ _ => exact ref _ rfl
end
theorem piled_le {b : Nat} : ∀ {ts : List Str}, (∀ t ∈ ts, t.length ≤ b) → piled ts ≤ ts.length * (b + 2)
  | [], _ => by simp [piled]
  | t :: ts, h => by
    have h1 := h t List.mem_cons_self
    have h2 := piled_le fun t ht => h t (List.mem_cons_of_mem _ ht)
    rw [piled_cons, List.length_cons, Nat.succ_mul]
    omega
theorem tupleText_le {b : Nat} {ts : List Str} (h : ∀ t ∈ ts, t.length ≤ b) : (tupleText ts).length ≤ 3 + ts.length * (b + 2) := by
  unfold tupleText
  rw [strLen_append, strLen_append]
  have e1 : ((("(" : String) : Str)).length = 1 := rfl
  have e2 : ((if ts.length == 1 then ",)" else ")" : String) : Str).length ≤ 2 := by split <;> decide
  have p := piled_le h
  by_cases c : ts = []
  · subst c
    have e3 : (Str.join ", " ([] : List Str)).length = 0 := rfl
    omega
  · have j := join_length_add ts c
    omega
theorem shownAll_eq : ∀ xs : List PyData, PyData.shownAll xs = xs.map PyData.shown
  | [] => rfl
  | x :: xs => by rw [PyData.shownAll, shownAll_eq xs]; rfl
theorem showableAll_of {xs : List PyData} (h : ∀ x ∈ xs, x.showable = true) : PyData.showableAll xs = true := by
  induction xs with
  | nil => rfl
  | cons x xs ih => rw [PyData.showableAll, h x List.mem_cons_self, ih fun y hy => h y (List.mem_cons_of_mem _ hy)]; rfl
theorem hasDictAll_of {xs : List PyData} (h : ∀ x ∈ xs, x.hasDict = false) : PyData.hasDictAll xs = false := by
  induction xs with
  | nil => rfl
  | cons x xs ih => rw [PyData.hasDictAll, h x List.mem_cons_self, ih fun y hy => h y (List.mem_cons_of_mem _ hy)]; rfl
theorem depthAll_of {n : Nat} {xs : List PyData} (h : ∀ x ∈ xs, x.depth ≤ n) : PyData.depthAll xs ≤ n := by
  induction xs with
  | nil => exact Nat.zero_le _
  | cons x xs ih =>
    have h1 := h x List.mem_cons_self
    have h2 := ih fun y hy => h y (List.mem_cons_of_mem _ hy)
    simp only [PyData.depthAll]
    omega
/-- told in so many signs, so deep -/
structure TellsB (n b : Nat) (d : PyData) : Prop where
  can : d.showable = true
  nod : d.hasDict = false
  dep : d.depth ≤ n
  len : d.shown.length ≤ b
theorem TellsB.tells {n b : Nat} {d : PyData} (h : TellsB n b d) (hn : n ≤ 40) (hb : b ≤ sizeLine) : Tells d := ⟨h.can, h.nod, Nat.le_trans h.dep hn, Nat.le_trans h.len hb⟩
theorem TellsB.tuple {n b : Nat} {xs : List PyData} (h : ∀ x ∈ xs, TellsB n b x) : TellsB (n + 1) (3 + xs.length * (b + 2)) (.tuple xs) := by
  refine ⟨?_, ?_, ?_, ?_⟩
  · rw [PyData.showable]
    exact showableAll_of fun x hx => (h x hx).can
  · rw [PyData.hasDict]
    exact hasDictAll_of fun x hx => (h x hx).nod
  · have := depthAll_of fun x hx => (h x hx).dep
    simp only [PyData.depth]
    omega
  · rw [PyData.shown, shownAll_eq]
    have := tupleText_le (ts := xs.map PyData.shown) (b := b) fun t ht => by
      obtain ⟨x, hx, rfl⟩ := List.mem_map.mp ht
      exact (h x hx).len
    rw [List.length_map] at this
    exact this
theorem TellsB.int {i : Int} (h : i.natAbs.log2 < 1920) : TellsB 0 1921 (.int i) := ⟨decide_eq_true h, rfl, by simp [PyData.depth], PyProof.Rows.int_text_len_1921 h⟩
end GFn
set_option Elab.async false
set_option linter.all false
set_option maxRecDepth 100001
set_option maxHeartbeats 3999999
namespace K50
open PySem L2
open Mx (sm cg dl)
/-! ### general -/
structure Bs (mg : Str → Option Value) : Prop where
  sum : mg "sum" = none
  zip : mg "zip" = none
theorem gN {i : Nat} {v : V} {σ : St} {H : Hp} {Q : St → Hp → Prop} (h : Q (σ.set i (some v)) H) : gName i v σ H Q := h
section
variable {X : Cx}
theorem pe_sum {a : Expr} {es : List Expr} {t : TA} {p pos : Pos} (hc : X.calm = true) (hm : X.mg "sum" = none) (ha : PA X (a :: es) t) (hg : Gl X "sum" := by rfl) (he : starEach (a :: es) X.env = (false, eval a X.env) :: starEach es X.env := by rfl)
    (hpl : (backTo pos (starEach es X.env)).any (·.1) = false := by rfl) :
    PE X (.Call (.Name "sum" p) (a :: es) [] pos) (tCB (rSum X.K) t) := pe_callB (cr_sum hc) hg hm (by decide +kernel) ha (he := he) (hpl := hpl)
theorem pe_sumK (K : PySem.W.Frag) (hK : X.K = K) {a : Expr} {es : List Expr} {t : TA} {p pos : Pos} (hc : X.calm = true) (hm : X.mg "sum" = none) (ha : PA X (a :: es) t) (hg : Gl X "sum" := by rfl) (he : starEach (a :: es) X.env = (false, eval a X.env) :: starEach es X.env := by rfl)
    (hpl : (backTo pos (starEach es X.env)).any (·.1) = false := by rfl) :
    PE X (.Call (.Name "sum" p) (a :: es) [] pos) (tCB (rSum K) t) := by
  subst hK
  exact pe_sum hc hm ha hg he hpl
theorem pi_sqAK (K : PySem.W.Frag) (hK : X.K = K) {tg : Expr} {e : Expr} {te : TE} (he : PE X e te) : PI X tg e (iSqA K te) := by
  subst hK
  exact pi_sqA he
theorem pe_tupleOfK (K : PySem.W.Frag) (hK : X.K = K) {a : Expr} {ta : TE} {p pos : Pos} (hg : Gl X "tuple") (hm : X.mg "tuple" = none) (ha : PE X a ta) (hs : starEach [a] X.env = (false, eval a X.env) :: starEach [] X.env := by rfl) :
    PE X (.Call (.Name "tuple" p) [a] [] pos) (tThen ta (kTup K)) := by
  subst hK
  exact pe_tupleOf hg hm ha hs
theorem pg_pairK {X : Cx} (K : PySem.W.Frag) (hK : X.K = K) (hc : X.calm = true) {e1 e2 : Expr} {t1 t2 : TG} {k : Nat} {pos : Pos} (h1 : PG X e1 t1) (h2 : PG X e2 t2) (he1 : (assignEach [e1, e2] X.env).map (·.2) = assign e1 X.env :: (assignEach [e2] X.env).map (·.2) := by rfl)
    (he2 : (assignEach [e2] X.env).map (·.2) = assign e2 X.env :: (assignEach [] X.env).map (·.2) := by rfl) (hn : (assignEach [e1, e2] X.env).length = 2 := by rfl) (hf : (assignEach [e1, e2] X.env).findIdx? (·.1) = none := by rfl) : PG X (.Tuple [e1, e2] k pos) (gTup K 2 (gCons t1 (gCons t2 gNil))) := by
  subst hK
  have h := pg_tup (k := k) (pos := pos) hc (pgs_cons h1 (pgs_cons h2 pgs_nil he2) he1) hn hf
  exact h
theorem pi_zipMK (K : PySem.W.Frag) (hK : X.K = K) (t u : Bool) {e e2 : Expr} {ta : TA} {p pos tp : Pos} {es : List Expr} {kk : Nat} (hm : X.mg "zip" = none) (ha : PA X [e, e2] ta) (hg : Gl X "zip" := by rfl)
    (hs : starEach [e, e2] X.env = (false, eval e X.env) :: starEach [e2] X.env := by rfl) (hpl : (backTo pos (starEach [e2] X.env)).any (·.1) = false := by rfl) :
    PI X (.Tuple es kk tp) (.Call (.Name "zip" p) [e, e2] [] pos) (ZM.iZipM K t u ta) := by
  subst hK
  exact ZM.pi_zipM t u hm ha hg hs hpl
end
section
variable {P : Program} {w : World} {K : PySem.W.Frag} {mg : Str → Option Value} {base : Heap}
/-- a comprehension whose i-th item is f i, whatever is made new -/
theorem lcM {J : It} {n : Nat} {G : Hp → Prop} {Y : Nat → Hp → V → Hp → Prop} (wk : Walk J n G Y) {g : TG} {te : TE} {vs : List Nat} {σ : St} {H1 : Hp} {D : Addr} {Qd : Hp → Prop} (f : Nat → V) (hb : n ≤ 10000) (nD : H1 D = none) (hG : ∀ H', Same H1 H' → G H')
    (hs : ∀ (i : Nat) (x : V) (H2 H3 : Hp) (N : VK), i < n → Same H1 H2 → Y i H2 x H3 → (∀ H4, Same H2 H4 → N (f i) H4) → g x (wipe σ vs) H3 fun σ2 H4 => wipe σ2 vs = wipe σ vs ∧ te σ2 H4 N)
    (hd : ∀ H', Same H1 H' → H' D = some (.lst ((List.range n).map f)) → Qd H') :
    ∃ W : Nat → Nat → Hp → Prop, (∃ m, W 0 m (upd H1 D (.lst []))) ∧ ∀ i m H, W i m H →
      (J.stop i H ∧ Qd H) ∨ (J.go i H ∧ ∃ Nx : Hp → Prop, (∀ H', Nx H' → ∃ m', m' < m ∧ W (i + 1) m' H') ∧ ∀ x H', J.yld i H x H' → g x (wipe σ vs) H' fun σ2 H2 => wipe σ2 vs = wipe σ vs ∧ tYes σ2 H2 fun b H3 =>
        if b = true then te σ2 H3 fun y H4 => ∃ acc, H4 D = some (.lst acc) ∧ acc.length < sizeLine ∧ Nx (upd H4 D (.lst (acc ++ [y]))) else Nx H3) := by
  refine lc_it wk (fun i H' => Same H1 H' ∧ H' D = some (.lst ((List.range i).map f))) ⟨same_new nD, upd_same⟩ (fun i H' _ z => hG H' z.1) ?_ (fun H' z => hd H' z.1 z.2)
  rintro i x H H' hi ⟨e1, hD⟩ y
  refine hs i x H H' _ hi e1 y fun H4 e4 => ⟨_, e4 _ _ hD, ?_, fun b o z => ?_, ?_⟩
  · rw [List.length_map, List.length_range]
    exact small10 (by omega)
  · rw [upd_ne (ne_of_none z nD)]
    exact e4 _ _ (e1 _ _ z)
  · rw [upd_same, List.range_succ, List.map_append]
    rfl
/-- a comprehension whose items are new things -/
theorem lcO {J : It} {n : Nat} {G : Hp → Prop} {Y : Nat → Hp → V → Hp → Prop} (wk : Walk J n G Y) {g : TG} {te : TE} {vs : List Nat} {σ : St} {H1 : Hp} {D : Addr} {Qd : Hp → Prop} (R : Nat → V → Hp → Prop) (st : ∀ i v H H' xs, H D = some (.lst xs) → (∀ b o, b ≠ D → H b = some o → H' b = some o) → R i v H → R i v H') (hb : n ≤ 10000) (nD : H1 D = none) (hG : ∀ H', Same H1 H' → G H')
    (hs : ∀ (i : Nat) (x : V) (H2 H3 : Hp) (N : VK), i < n → Same H1 H2 → (∃ xs, H2 D = some (.lst xs)) → Y i H2 x H3 → (∀ v H4, Same H2 H4 → R i v H4 → N v H4) → g x (wipe σ vs) H3 fun σ2 H4 => wipe σ2 vs = wipe σ vs ∧ te σ2 H4 N)
    (hd : ∀ acc H', Same H1 H' → acc.length = n → (∀ i v, acc[i]? = some v → R i v H') → H' D = some (.lst acc) → Qd H') :
    ∃ W : Nat → Nat → Hp → Prop, (∃ m, W 0 m (upd H1 D (.lst []))) ∧ ∀ i m H, W i m H →
      (J.stop i H ∧ Qd H) ∨ (J.go i H ∧ ∃ Nx : Hp → Prop, (∀ H', Nx H' → ∃ m', m' < m ∧ W (i + 1) m' H') ∧ ∀ x H', J.yld i H x H' → g x (wipe σ vs) H' fun σ2 H2 => wipe σ2 vs = wipe σ vs ∧ tYes σ2 H2 fun b H3 =>
        if b = true then te σ2 H3 fun y H4 => ∃ acc, H4 D = some (.lst acc) ∧ acc.length < sizeLine ∧ Nx (upd H4 D (.lst (acc ++ [y]))) else Nx H3) := by
  refine lc_it wk (fun i H' => Same H1 H' ∧ ∃ acc, H' D = some (.lst acc) ∧ acc.length = i ∧ ∀ j v, acc[j]? = some v → R j v H') ⟨same_new nD, [], upd_same, rfl, fun j v e => by simp at e⟩ (fun i H' _ z => hG H' z.1) ?_ (fun H' ⟨e, acc, h1, h2, h3⟩ => hd acc H' e h2 h3 h1)
  rintro i x H H' hi ⟨e1, acc, hD, la, ra⟩ y
  refine hs i x H H' _ hi e1 ⟨acc, hD⟩ y fun v H4 e4 r => ⟨acc, e4 _ _ hD, by rw [la]; exact small10 (by omega), fun b o z => ?_, acc ++ [v], upd_same, by rw [List.length_append, la]; rfl, fun j u ju => ?_⟩
  · rw [upd_ne (ne_of_none z nD)]
    exact e4 _ _ (e1 _ _ z)
  · have k4 : ∀ b o, b ≠ D → H4 b = some o → upd H4 D (.lst (acc ++ [v])) b = some o := fun b o n z => (upd_ne n).trans z
    by_cases c : j < acc.length
    · rw [List.getElem?_append_left c] at ju
      exact st j u _ _ acc (e4 _ _ hD) k4 (st j u H H4 acc hD (fun b o _ z => e4 b o z) (ra j u ju))
    · have : j = acc.length := by
        have := (List.getElem?_eq_some_iff.mp ju).1
        rw [List.length_append] at this
        have : j < acc.length + 1 := this
        omega
      subst this
      rw [List.getElem?_append_right (Nat.le_refl _), Nat.sub_self] at ju
      have : v = u := Option.some.inj ju
      subst this
      rw [la]
      exact st i v _ _ acc (e4 _ _ hD) k4 r
end
/-! ### rows of ints -/
def iV (xs : List Int) : List V := xs.map V.int
theorem iV_len (xs : List Int) : (iV xs).length = xs.length := List.length_map _
def at_ (xs : List Int) (i : Nat) : Int := xs.getD i 0
def rw_ (M : List (List Int)) (i : Nat) : List Int := M.getD i []
def ent (M : List (List Int)) (i c : Nat) : Int := at_ (rw_ M i) c
theorem at_get {xs : List Int} {i : Nat} (h : i < xs.length) : at_ xs i = xs[i] := by
  unfold at_
  rw [List.getD_eq_getElem?_getD, List.getElem?_eq_getElem h]
  rfl
theorem rw_get {M : List (List Int)} {i : Nat} (h : i < M.length) : rw_ M i = M[i] := by
  unfold rw_
  rw [List.getD_eq_getElem?_getD, List.getElem?_eq_getElem h]
  rfl
theorem iV_get {xs : List Int} {i : Nat} {v : V} (e : (iV xs)[i]? = some v) : i < xs.length ∧ v = .int (at_ xs i) := by
  unfold iV at e
  rw [List.getElem?_map] at e
  cases c : xs[i]? with
  | none => rw [c] at e; cases e
  | some x =>
    rw [c] at e
    obtain ⟨h, hx⟩ := List.getElem?_eq_some_iff.mp c
    cases e
    exact ⟨h, by rw [at_get h, hx]⟩
theorem iV_at {xs : List Int} {i : Nat} (h : i < xs.length) : (iV xs)[i]? = some (.int (at_ xs i)) := by
  unfold iV
  rw [List.getElem?_map, List.getElem?_eq_getElem h, at_get h]
  rfl
theorem at_ext {xs ys : List Int} (l : xs.length = ys.length) (h : ∀ i, i < xs.length → at_ xs i = at_ ys i) : xs = ys := List.ext_getElem l fun i h1 h2 => by
  have := h i h1
  rw [at_get h1, at_get h2] at this
  exact this
theorem range_at (xs : List Int) : (List.range xs.length).map (fun i => V.int (at_ xs i)) = iV xs := List.ext_getElem (by rw [List.length_map, List.length_range, iV_len]) fun i h1 h2 => by
  rw [List.getElem_map, List.getElem_range]
  have h2 : i < xs.length := by rw [← iV_len]; exact h2
  show _ = (xs.map V.int)[i]'(by rw [List.length_map]; exact h2)
  rw [List.getElem_map, at_get h2]
theorem range_iV (f : Nat → Int) (n : Nat) : (List.range n).map (fun i => V.int (f i)) = iV ((List.range n).map f) := by
  unfold iV
  rw [List.map_map]
  rfl
theorem at_range {f : Nat → Int} {n i : Nat} (h : i < n) : at_ ((List.range n).map f) i = f i := by
  rw [at_get (by rw [List.length_map, List.length_range]; exact h), List.getElem_map, List.getElem_range]
/-- rows, a tuple each -/
def RwI (H : Hp) (as : List Addr) (M : List (List Int)) : Prop := Paired (fun a r => H a = some (.tup (iV r))) as M
theorem RwI.same {H H' : Hp} {as : List Addr} {M : List (List Int)} (h : RwI H as M) (e : Same H H') : RwI H' as M := Paired.mapP h fun _ _ z => e _ _ z
/-- rows of ints, in a tuple -/
def IsMt (H : Hp) (p : Addr) (M : List (List Int)) : Prop := ∃ as : List Addr, H p = some (.tup (as.map V.ref)) ∧ RwI H as M
theorem IsMt.same {H H' : Hp} {p : Addr} {M : List (List Int)} (h : IsMt H p M) (e : Same H H') : IsMt H' p M := let ⟨as, h1, h2⟩ := h; ⟨as, e _ _ h1, h2.same e⟩
theorem IsMt.tt {H H' : Hp} {p : Addr} {M : List (List Int)} (h : IsMt H p M) (e : TT H H') : IsMt H' p M := let ⟨as, h1, h2⟩ := h; ⟨as, e _ _ h1, Paired.mapP h2 fun _ _ z => e _ _ z⟩
/-- so many rows of so many numbers, none too great -/
structure Dm (r c : Nat) (M : List (List Int)) : Prop where
  len : M.length = r
  row : ∀ i, i < r → (rw_ M i).length = c
def Bd (M : List (List Int)) : Prop := ∀ i c, (ent M i c).natAbs < 2 ^ 200
theorem Dm.mem {r c : Nat} {M : List (List Int)} (h : Dm r c M) : ∀ x ∈ M, x.length = c := fun x hx => by
  obtain ⟨i, hi, e⟩ := List.getElem_of_mem hx
  have := h.row i (by rw [← h.len]; exact hi)
  rw [rw_get hi, e] at this
  exact this
theorem IsMt.row {H : Hp} {p : Addr} {M : List (List Int)} (h : IsMt H p M) : ∃ vs : List V, H p = some (.tup vs) ∧ vs.length = M.length ∧ ∀ i, i < M.length → ∃ a, vs[i]? = some (.ref a) ∧ H a = some (.tup (iV (rw_ M i))) := by
  obtain ⟨as, h1, h2⟩ := h
  have l : as.length = M.length := Paired.length h2
  refine ⟨_, h1, by rw [List.length_map, l], fun i hi => ?_⟩
  obtain ⟨r, hr, ha⟩ := paired_get h2 (List.getElem?_eq_getElem (show i < as.length by omega))
  refine ⟨_, by rw [List.getElem?_map, List.getElem?_eq_getElem (show i < as.length by omega)]; rfl, ?_⟩
  rw [ha, rw_get hi]
  rw [List.getElem?_eq_getElem hi] at hr
  rw [Option.some.inj hr]
theorem mt_ext {r c : Nat} {A B : List (List Int)} (ha : Dm r c A) (hb : Dm r c B) (h : ∀ i j, i < r → j < c → ent A i j = ent B i j) : A = B := List.ext_getElem (by rw [ha.len, hb.len]) fun i h1 h2 => by
  have hi : i < r := by rw [← ha.len]; exact h1
  have l1 := ha.row i hi
  have l2 := hb.row i hi
  rw [← rw_get h1, ← rw_get h2]
  exact at_ext (by rw [l1, l2]) fun j hj => h i j hi (by rw [← l1]; exact hj)
/-- rows by their numbers -/
def mk_ (r c : Nat) (f : Nat → Nat → Int) : List (List Int) := (List.range r).map fun i => (List.range c).map fun j => f i j
theorem mk_row {r c : Nat} {f : Nat → Nat → Int} {i : Nat} (h : i < r) : rw_ (mk_ r c f) i = (List.range c).map fun j => f i j := by
  unfold mk_
  rw [rw_get (by rw [List.length_map, List.length_range]; exact h), List.getElem_map, List.getElem_range]
theorem mk_ent {r c : Nat} {f : Nat → Nat → Int} {i j : Nat} (h : i < r) (g : j < c) : ent (mk_ r c f) i j = f i j := by
  unfold ent
  rw [mk_row h, at_range g]
theorem mk_dm {r c : Nat} {f : Nat → Nat → Int} : Dm r c (mk_ r c f) := ⟨by unfold mk_; rw [List.length_map, List.length_range], fun i hi => by rw [mk_row hi, List.length_map, List.length_range]⟩
theorem at_out {xs : List Int} {i : Nat} (h : xs.length ≤ i) : at_ xs i = 0 := by
  unfold at_
  rw [List.getD_eq_getElem?_getD, List.getElem?_eq_none h]
  rfl
theorem rw_out {M : List (List Int)} {i : Nat} (h : M.length ≤ i) : rw_ M i = [] := by
  unfold rw_
  rw [List.getD_eq_getElem?_getD, List.getElem?_eq_none h]
  rfl
/-- all bounds from those within -/
theorem Bd.of {r c : Nat} {M : List (List Int)} (d : Dm r c M) (h : ∀ i j, i < r → j < c → (ent M i j).natAbs < 2 ^ 200) : Bd M := fun i j => by
  by_cases hi : i < r
  · by_cases hj : j < c
    · exact h i j hi hj
    · unfold ent
      rw [at_out (by rw [d.row i hi]; omega)]
      decide
  · unfold ent
    rw [rw_out (by rw [d.len]; omega), at_out (by simp)]
    decide
theorem sum_sm (f : Nat → Int) : ∀ n, ((List.range n).map f).sum = sm f n
  | 0 => rfl
  | n + 1 => by rw [List.range_succ, List.map_append, List.sum_append, sum_sm f n, sm]; simp
/-- the product, by m -/
def pr_ (m : Int) (r k c : Nat) (A B : List (List Int)) : List (List Int) := mk_ r c fun i j => sm (fun x => ent A i x * ent B x j) k % m
def idM (n : Nat) : List (List Int) := mk_ n n dl
/-- m, as a modulus -/
structure Mo (m : Int) : Prop where
  two : 2 ≤ m
  few : m ≤ 10 ^ 18
theorem pow_le {m : Int} (h : Mo m) : m < 2 ^ 60 := by have := h.few; omega
theorem mod_bd {m : Int} (h : Mo m) (a : Int) : (a % m).natAbs < 2 ^ 200 := by
  have h1 := Int.emod_nonneg a (show m ≠ 0 by have := h.two; omega)
  have h2 := Int.emod_lt_of_pos a (show 0 < m by have := h.two; omega)
  have := pow_le h
  omega
theorem pr_bd {m : Int} (h : Mo m) {r k c : Nat} {A B : List (List Int)} : Bd (pr_ m r k c A B) := Bd.of mk_dm fun i j hi hj => by
  unfold pr_
  rw [mk_ent hi hj]
  exact mod_bd h _
end K50
set_option Elab.async false
set_option linter.all false
set_option maxRecDepth 100001
set_option maxHeartbeats 3999999
namespace K50
open PySem L2
open Mx (sm cg dl)
abbrev opM : R2 := rI CMulW fun i j => .int (i * j)
/-- sum([x * y for x, y in zip(a, b)]) -/
theorem dot_te {K : PySem.W.Frag} {t u : Bool} {σ : St} {H : Hp} {Q : VK} {i j p q : Nat} {a b : Addr} {xs ys : List Int} {k : Nat} (hi : σ[i]? = some (some (.ref a))) (hj : σ[j]? = some (some (.ref b)))
    (xa : ∀ H', Same H H' → ZM.SqB K t H' a (iV xs)) (yb : ∀ H', Same H H' → ZM.SqB K u H' b (iV ys)) (lx : xs.length = k) (ly : ys.length = k) (k5 : k ≤ 5000) (bx : ∀ c, (at_ xs c).natAbs < 2 ^ 200) (bY : ∀ c, (at_ ys c).natAbs < 2 ^ 200)
    (hw : ∀ x y : V, wipe (((wipe σ [p, q]).set p (some x)).set q (some y)) [p, q] = wipe σ [p, q]) (hp : ∀ x y : V, (((wipe σ [p, q]).set p (some x)).set q (some y))[p]? = some (some x)) (hq : ∀ x y : V, (((wipe σ [p, q]).set p (some x)).set q (some y))[q]? = some (some y))
    (h : ∀ H', Same H H' → Q (.int (sm (fun c => at_ xs c * at_ ys c) k)) H') :
    tCB (rSum K) (tCons (tLc (ZM.iZipM K t u (tCons (tVar i) (tCons (tVar j) tNil))) (gTup K 2 (gCons (gName p) (gCons (gName q) gNil))) tYes (tOp opM (tVar p) (tVar q)) [p, q]) tNil) σ H Q := by
  have eN : min (iV xs).length (iV ys).length = k := by rw [iV_len, iV_len, lx, ly, Nat.min_self]
  refine ⟨_, hi, _, hj, a, b, iV xs, iV ys, rfl, xa H (Same.refl _), yb H (Same.refl _), fun D nD => lcM (ZM.walk_zipM eN.symm) (fun c => .int (at_ xs c * at_ ys c)) (by omega) nD (fun H' e => ⟨xa H' e, yb H' e⟩) ?_ ?_⟩
  · rintro c x H2 H3 N hc e ⟨T0, y, z, rfl, nT0, rfl, hy, hz⟩ hN
    obtain ⟨i1, rfl⟩ := iV_get hy
    obtain ⟨i2, rfl⟩ := iV_get hz
    refine ⟨T0, _, rfl, SqT.of upd_same, rfl, _, _, rfl, _, _, rfl, rfl, hw _ _, ?_⟩
    exact ⟨_, hp _ _, _, hq _ _, _, _, rfl, rfl, wide_mul (bx c) (bY c) (by decide) (by decide) (by decide), hN _ (same_new nT0)⟩
  · intro H4 e4 hD
    refine ⟨D, (List.range k).map fun c => at_ xs c * at_ ys c, rfl, SqL.of (by rw [List.map_map]; exact hD), ?_⟩
    rw [sum_sm]
    exact h H4 e4
theorem old_none_ {H H' : Hp} {a : Addr} (e : Same H H') (n : H' a = none) : H a = none := by
  cases z : H a with
  | none => rfl
  | some o =>
    rw [e a o z] at n
    cases n
theorem paired_of2 {α β : Type} {R : α → β → Prop} : ∀ {xs : List α} {ys : List β}, xs.length = ys.length → (∀ (i : Nat) (x : α) (y : β), xs[i]? = some x → ys[i]? = some y → R x y) → Paired R xs ys
  | [], [], _, _ => .nil
  | x :: xs, y :: ys, e, h => .cons (h 0 x y rfl rfl) (paired_of2 (by simpa using e) fun i x y a b => h (i + 1) x y a b)
  | [], _ :: _, e, _ => by simp at e
  | _ :: _, [], e, _ => by simp at e
/-- rows that a comprehension made -/
theorem refs_of : ∀ {vs : List V} {R : Nat → Addr → Prop}, (∀ (i : Nat) (v : V), vs[i]? = some v → ∃ t, v = .ref t ∧ R i t) → ∃ as : List Addr, vs = as.map V.ref ∧ as.length = vs.length ∧ ∀ (i : Nat) (a : Addr), as[i]? = some a → R i a
  | [], _, _ => ⟨[], rfl, rfl, fun i a h => by simp at h⟩
  | v :: vs, R, h => by
    obtain ⟨t, rfl, ht⟩ := h 0 _ rfl
    obtain ⟨as, e, l, k⟩ := refs_of (vs := vs) (R := fun i => R (i + 1)) fun i v hv => h (i + 1) v hv
    refine ⟨t :: as, by rw [e]; rfl, by rw [List.length_cons, List.length_cons, l], fun i a ha => ?_⟩
    cases i with
    | zero => cases ha; exact ht
    | succ i => exact k i a ha
theorem mt_of {H : Hp} {r c : Nat} {f : Nat → Nat → Int} {vs : List V} (l : vs.length = r) (h : ∀ (i : Nat) (v : V), vs[i]? = some v → ∃ t, v = .ref t ∧ H t = some (.tup (iV ((List.range c).map fun j => f i j)))) : ∃ as : List Addr, vs = as.map V.ref ∧ RwI H as (mk_ r c f) := by
  obtain ⟨as, e, la, k⟩ := refs_of h
  refine ⟨as, e, paired_of2 (by rw [la, l, mk_dm.len]) fun i a row ha hr => ?_⟩
  have hi : i < r := by
    have := (List.getElem?_eq_some_iff.mp hr).1
    rw [mk_dm.len] at this
    exact this
  have e2 := mk_row (c := c) (f := f) hi
  rw [rw_get (by rw [mk_dm.len]; exact hi)] at e2
  rw [List.getElem?_eq_getElem (by rw [mk_dm.len]; exact hi)] at hr
  rw [← Option.some.inj hr, e2]
  exact k i a ha
section
variable {P : Program} {w : World} {K : PySem.W.Frag} {mg : Str → Option Value} {base : Heap}
end
end K50
set_option Elab.async false
set_option linter.all false
set_option maxRecDepth 100001
set_option maxHeartbeats 3999999
namespace K50
open PySem L2
open Mx (sm cg dl)
/-- a matrix by a column -/
def ap_ (m : Int) (r k : Nat) (A : List (List Int)) (x : List Int) : List Int := (List.range r).map fun i => sm (fun y => ent A i y * at_ x y) k % m
def spAp : Sp := fun vs H Q _ => ∃ (m : Int) (a b : Addr) (r k : Nat) (A : List (List Int)) (x : List Int), vs = [.int m, .ref a, .ref b] ∧ Mo m ∧ IsMt H a A ∧ H b = some (.tup (iV x)) ∧ Dm r k A ∧ x.length = k ∧ Bd A ∧ (∀ c, (at_ x c).natAbs < 2 ^ 200) ∧ k ≤ 1000 ∧ r ≤ 1000 ∧
  ∀ D H', Same H H' → H' D = some (.tup (iV (ap_ m r k A x))) → Q (.ref D) H'
def spId : Sp := fun vs H Q _ => ∃ n : Nat, vs = [.int ((n : Nat) : Int)] ∧ n ≤ 1000 ∧ ∀ D H', Same H H' → H D = none → IsMt H' D (idM n) → Q (.ref D) H'
abbrev sAp : Stmt := topS 21
abbrev NAp : List Str := ["modulus", "matrix", "row", "line", "left", "right"]
abbrev sId : Stmt := topS 22
abbrev NId : List Str := ["size", "line", "place"]
section
variable {P : Program} {w : World} {K : PySem.W.Frag} {mg : Str → Option Value} {base : Heap}
theorem scAp : FnScope NAp ["modulus", "matrix", "row"] (defScope sAp) := ⟨rfl, rfl, rfl, by decide +kernel, rfl, by decide +kernel, by decide +kernel⟩
theorem scId : FnScope NId ["size"] (defScope sId) := ⟨rfl, rfl, rfl, by decide +kernel, rfl, by decide +kernel, by decide +kernel⟩
theorem ok_ap {f : Addr} {fd : FuncData} (F : Fun K "applied" "applied" sAp f fd) (B : Bi mg) (Z : Bs mg) : FnOk P w K mg base CX0 1 f fd ["modulus", "matrix", "row"] spAp := by
  refine F.ok scAp (fun vs H Q E h => ?_) (fun cdv A outer s H vs Q E hr h => ?_)
  · obtain ⟨m, a, b, r, k, A, x, rfl, _⟩ := h
    rfl
  · obtain ⟨m, a, b, r, k, M, x, rfl, mo, ha, hb, dA, lx, bA, bx, k1, r1, q⟩ := h
    refine ⟨_, pss_one (ps_ret (pe_tupleOf rfl B.tuple (pe_lc (own := [("line", 3)]) rfl scAp.nd (pi_sqA (pv 1)) (blkOk_by (N := NAp) (sc := defScope sAp) (by decide +kernel)) (fun _ _ _ _ _ => (pg_name (i := 3) scAp.nd rfl (Or.inl rfl))) (fun _ _ _ _ _ => pts_nil) (fun _ _ _ _ _ => (pe_op op_mod (pe_sumK K rfl rfl Z.sum (pa_cons (pe_lc (own := [("left", 4), ("right", 5)]) rfl scAp.nd (pi_zipMK K rfl true true Z.zip (pa_cons (pv 3) (pa_cons (pv 2) pa_nil))) (blkOk_by (N := NAp) (by kernel_rfl)) (fun _ _ _ _ _ => (pg_pairK K rfl rfl (pg_name (i := 4) scAp.nd rfl (Or.inl rfl) (.inr rfl)) (pg_name (i := 5) scAp.nd rfl (Or.inl rfl) (.inr rfl)))) (fun _ _ _ _ _ => pts_nil) (fun _ _ _ _ _ => (pe_op op_mulW (pv 4) (pv 5)))) pa_nil)) (pv 0)))))), ?_⟩
    obtain ⟨vA, hA, lA, rA⟩ := ha.row
    rw [dA.len] at lA rA
    refine ⟨_, rfl, a, vA, rfl, .inr (SqT.of hA), fun J G wk hG D nD => lcM wk (fun i => .int (sm (fun y => ent M i y * at_ x y) k % m)) (by omega) nD (fun H' e => hG H' fun o z => e _ _ z) ?_ ?_⟩
    · rintro i v H2 H3 N' hi e2 ⟨rfl, hv⟩ fin
      rw [lA] at hi
      obtain ⟨ra, hra, gra⟩ := rA i hi
      have hx' := Option.some.inj (hv.symm.trans hra)
      subst hx'
      refine ⟨rfl, dot_te (k := k) (xs := rw_ M i) (ys := x) (a := ra) (b := b) rfl rfl (fun H' e' => SqT.of (e' _ _ (e2 _ _ gra))) (fun H' e' => SqT.of (e' _ _ (e2 _ _ hb))) (dA.row i hi) lx (by omega) (fun c => bA i c) bx (fun _ _ => rfl) (fun _ _ => rfl) (fun _ _ => rfl) fun H4 e4 => ?_⟩
      exact ⟨_, rfl, _, _, rfl, rfl, by have := mo.two; omega, fin _ e4⟩
    · intro H2 e2 hD
      refine .inl ⟨D, _, rfl, SqL.of hD, fun t nt => ?_⟩
      rw [lA, range_iV]
      exact q t _ (e2.trans (same_new nt)) upd_same
theorem ok_id {f : Addr} {fd : FuncData} (F : Fun K "identity" "identity" sId f fd) (B : Bi mg) : FnOk P w K mg base CX0 1 f fd ["size"] spId := by
  refine F.ok scId (fun vs H Q E h => ?_) (fun cdv A outer s H vs Q E hr h => ?_)
  · obtain ⟨n, rfl, _⟩ := h
    rfl
  · obtain ⟨n, rfl, n1, q⟩ := h
    refine ⟨_, pss_one (ps_ret (pe_tupleOf rfl B.tuple (pe_lc (own := [("line", 1)]) rfl scId.nd (pi_range1 rfl B.range (pa_cons (pv 0) pa_nil)) (blkOk_by (N := NId) (sc := defScope sId) (by decide +kernel)) (fun _ _ _ _ _ => (pg_name (i := 1) scId.nd rfl (Or.inr rfl))) (fun _ _ _ _ _ => pts_nil) (fun _ _ _ _ _ => (pe_tupleOfK K rfl rfl B.tuple (pe_lc (own := [("place", 2)]) rfl scId.nd (pi_range1 rfl B.range (pa_cons (pv 0) pa_nil)) (blkOk_by (N := NId) (by kernel_rfl)) (fun _ _ _ _ _ => (pg_name (i := 2) scId.nd rfl (Or.inl rfl))) (fun _ _ _ _ _ => pts_nil) (fun _ _ _ _ _ => (pe_ifExp (pt_cmpR op_eq (pv 2) (pv 1) (nomark _)) pe_int pe_int)))))))), ?_⟩
    refine ⟨_, rfl, _, rfl, by omega, by omega, fun D nD => ?_⟩
    rw [Int.toNat_natCast]
    refine lcO walk_range (fun i v H' => ∃ t, v = .ref t ∧ H' t = some (.tup (iV ((List.range n).map fun j => dl i j)))) (fun j v Ha Hb xs hD kp ⟨t, e, h⟩ => ⟨t, e, kp _ _ (ne_of h hD fun y => nomatch y) h⟩) (by omega) nD (fun _ _ => True.intro) ?_ ?_
    · rintro i x H2 H3 N' hi e2 _ ⟨rfl, rfl⟩ fin
      refine ⟨rfl, ?_⟩
      refine ⟨_, rfl, _, rfl, by omega, by omega, fun D2 nD2 => ?_⟩
      rw [Int.toNat_natCast]
      refine lcM walk_range (fun j => .int (dl i j)) (by omega) nD2 (fun _ _ => True.intro) ?_ ?_
      · rintro j y H4 H5 N2 hj e4 ⟨rfl, rfl⟩ fin2
        refine ⟨rfl, _, rfl, _, rfl, rfl, _, rfl, ?_⟩
        have f2 := fin2 _ (Same.refl _)
        by_cases c : i = j
        · subst c
          rw [decide_eq_true rfl]
          refine iteT ?_
          rw [dl, if_pos rfl] at f2
          exact f2
        · rw [decide_eq_false (fun z => c (by injection z with z; omega))]
          refine iteF ?_
          rw [dl, if_neg c] at f2
          exact f2
      · intro H4 e4 hD2
        refine .inl ⟨D2, _, rfl, SqL.of hD2, fun t nt => ?_⟩
        rw [range_iV]
        exact fin _ _ (e4.trans (same_new nt)) ⟨t, rfl, upd_same⟩
    · intro acc H2 e2 lacc racc hD
      refine .inl ⟨D, _, rfl, SqL.of hD, fun t nt => ?_⟩
      have es := same_new (o := .tup acc) nt
      obtain ⟨as, eas, ras⟩ := mt_of (r := n) (c := n) (f := dl) lacc racc
      exact q t _ (e2.trans es) (old_none_ e2 nt) ⟨as, by rw [upd_same, eas], ras.same es⟩
end
end K50
set_option Elab.async false
set_option linter.all false
set_option maxRecDepth 100001
set_option maxHeartbeats 3999999
namespace K50
open PySem L2
open Mx (sm cg dl)
/-! ### powers -/
theorem pr_ent {m : Int} {r k c : Nat} {A B : List (List Int)} {i j : Nat} (hi : i < r) (hj : j < c) : ent (pr_ m r k c A B) i j = sm (fun x => ent A i x * ent B x j) k % m := by
  unfold pr_
  exact mk_ent hi hj
/-- alike by m, within n -/
def Al (m : Int) (n : Nat) (A B : List (List Int)) : Prop := ∀ i j, i < n → j < n → cg m (ent A i j) (ent B i j)
theorem Al.refl {m : Int} {n : Nat} {A : List (List Int)} : Al m n A A := fun _ _ _ _ => .refl
theorem Al.pr {m : Int} {n : Nat} {A B C D : List (List Int)} (h : Al m n A C) (g : Al m n B D) : pr_ m n n n A B = pr_ m n n n C D := mt_ext (r := n) (c := n) mk_dm mk_dm fun i j hi hj => by
  rw [pr_ent hi hj, pr_ent hi hj]
  refine cg.eq (cg.sm fun x hx => ?_)
  exact ((g x j hx hj).mul _).trans ((h i x hi hx).mul_r _)
theorem pr_al {m : Int} {n : Nat} {A B : List (List Int)} {i j : Nat} (hi : i < n) (hj : j < n) : cg m (ent (pr_ m n n n A B) i j) (sm (fun x => ent A i x * ent B x j) n) := by
  rw [pr_ent hi hj]
  exact Mx.cg_mod
theorem pr_assoc {m : Int} {n : Nat} {A B C : List (List Int)} : pr_ m n n n (pr_ m n n n A B) C = pr_ m n n n A (pr_ m n n n B C) := mt_ext (r := n) (c := n) mk_dm mk_dm fun i j hi hj => by
  rw [pr_ent hi hj, pr_ent hi hj]
  refine cg.eq ?_
  refine (cg.sm fun x hx => (pr_al (A := A) (B := B) hi hx).mul_r (ent C x j)).trans (cg.trans (cg.of ?_) (cg.sm fun x hx => (pr_al (A := B) (B := C) hx hj).mul (ent A i x)).symm)
  have e1 : sm (fun x => sm (fun y => ent A i y * ent B y x) n * ent C x j) n = sm (fun x => sm (fun y => ent A i y * ent B y x * ent C x j) n) n := Mx.sm_congr fun x _ => (Mx.sm_mul_r _ _ _).symm
  have e2 : sm (fun y => ent A i y * sm (fun x => ent B y x * ent C x j) n) n = sm (fun y => sm (fun x => ent A i y * ent B y x * ent C x j) n) n := Mx.sm_congr fun y _ => by
    rw [← Mx.sm_mul]
    exact Mx.sm_congr fun x _ => (Int.mul_assoc _ _ _).symm
  rw [e1, e2, Mx.sm_swap]
theorem id_ent {n i j : Nat} (hi : i < n) (hj : j < n) : ent (idM n) i j = dl i j := mk_ent hi hj
theorem id_dm {n : Nat} : Dm n n (idM n) := mk_dm
/-- all numbers are from 0 to m less 1 -/
def Rd (m : Int) (A : List (List Int)) : Prop := ∀ i j, 0 ≤ ent A i j ∧ ent A i j < m
theorem Rd.of {m : Int} {r c : Nat} {A : List (List Int)} (m0 : 0 < m) (d : Dm r c A) (h : ∀ i j, i < r → j < c → 0 ≤ ent A i j ∧ ent A i j < m) : Rd m A := fun i j => by
  by_cases hi : i < r
  · by_cases hj : j < c
    · exact h i j hi hj
    · unfold ent
      rw [at_out (by rw [d.row i hi]; omega)]
      exact ⟨Int.le_refl _, m0⟩
  · unfold ent
    rw [rw_out (by rw [d.len]; omega), at_out (by simp)]
    exact ⟨Int.le_refl _, m0⟩
theorem Rd.bd {m : Int} {A : List (List Int)} (mo : Mo m) (h : Rd m A) : Bd A := fun i j => by
  have := h i j
  have := pow_le mo
  omega
theorem pr_rd {m : Int} (mo : Mo m) {r k c : Nat} {A B : List (List Int)} : Rd m (pr_ m r k c A B) := Rd.of (by have := mo.two; omega) mk_dm fun i j hi hj => by
  rw [pr_ent hi hj]
  have := mo.two
  exact ⟨Int.emod_nonneg _ (by omega), Int.emod_lt_of_pos _ (by omega)⟩
theorem id_rd {m : Int} (mo : Mo m) {n : Nat} : Rd m (idM n) := Rd.of (by have := mo.two; omega) id_dm fun i j hi hj => by
  rw [id_ent hi hj, dl]
  have := mo.two
  split <;> omega
theorem pr_id_r {m : Int} (mo : Mo m) {n : Nat} {A : List (List Int)} (d : Dm n n A) (h : Rd m A) : pr_ m n n n A (idM n) = A := mt_ext (r := n) (c := n) mk_dm d fun i j hi hj => by
  rw [pr_ent hi hj]
  have e : sm (fun x => ent A i x * ent (idM n) x j) n = ent A i j := by
    rw [← Mx.sm_dl_r (fun x => ent A i x) hj]
    exact Mx.sm_congr fun x hx => by rw [id_ent hx hj]
  rw [e]
  exact Int.emod_eq_of_lt (h i j).1 (h i j).2
theorem pr_id_l {m : Int} {n : Nat} {A : List (List Int)} {i j : Nat} (hi : i < n) (hj : j < n) : ent (pr_ m n n n (idM n) A) i j = ent A i j % m := by
  rw [pr_ent hi hj]
  have e : sm (fun x => ent (idM n) i x * ent A x j) n = ent A i j := by
    rw [← Mx.sm_dl_l (fun x => ent A x j) hi]
    exact Mx.sm_congr fun x hx => by rw [id_ent hi hx]
  rw [e]
def pw_ (m : Int) (n : Nat) (A : List (List Int)) : Nat → List (List Int)
  | 0 => idM n
  | k + 1 => pr_ m n n n (pw_ m n A k) A
theorem pw_dm {m : Int} {n : Nat} {A : List (List Int)} : ∀ k, Dm n n (pw_ m n A k)
  | 0 => id_dm
  | _ + 1 => mk_dm
theorem pw_rd {m : Int} (mo : Mo m) {n : Nat} {A : List (List Int)} : ∀ k, Rd m (pw_ m n A k)
  | 0 => id_rd mo
  | _ + 1 => pr_rd mo
theorem pw_add {m : Int} (mo : Mo m) {n : Nat} {A : List (List Int)} (a : Nat) : ∀ b, pr_ m n n n (pw_ m n A a) (pw_ m n A b) = pw_ m n A (a + b)
  | 0 => pr_id_r mo (pw_dm a) (pw_rd mo a)
  | b + 1 => by
    rw [pw_, ← pr_assoc, pw_add mo a b]
    rfl
theorem pw_one {m : Int} {n : Nat} {A : List (List Int)} : Al m n A (pw_ m n A 1) := fun i j hi hj => by
  show cg m _ (ent (pr_ m n n n (idM n) A) i j)
  rw [pr_id_l hi hj]
  exact Mx.cg_mod.symm
section
variable {P : Program} {w : World} {K : PySem.W.Frag} {mg : Str → Option Value} {base : Heap}
end
end K50
set_option Elab.async false
set_option linter.all false
set_option maxRecDepth 100001
set_option maxHeartbeats 3999999
namespace K50
open PySem L2
open Mx (sm cg dl)
theorem id_id {m : Int} (mo : Mo m) {n : Nat} : pr_ m n n n (idM n) (idM n) = idM n := pr_id_r mo id_dm (id_rd mo)
abbrev sLs : Stmt := topS 24
abbrev NLs : List Str := ["modulus", "row", "times", "other", "number", "more"]
/-- a row less so many times another one -/
def ls_ (m : Int) (xs : List Int) (t : Int) (ys : List Int) : List Int := (List.range xs.length).map fun i => (at_ xs i - t * at_ ys i) % m
def spLs : Sp := fun vs H Q _ => ∃ (m t : Int) (a b : Addr) (xs ys : List Int), vs = [.int m, .ref a, .int t, .ref b] ∧ Mo m ∧ H a = some (.lst (iV xs)) ∧ H b = some (.lst (iV ys)) ∧ xs.length = ys.length ∧ xs.length ≤ 5000 ∧ (∀ c, (at_ ys c).natAbs < 2 ^ 200) ∧ t.natAbs < 2 ^ 200 ∧
  ∀ D H', Same H H' → H D = none → H' D = some (.lst (iV (ls_ m xs t ys))) → Q (.ref D) H'
abbrev sIv : Stmt := topS 25
abbrev NIv : List Str := ["modulus", "number", "low", "high", "factor", "other", "times"]
/-- a number is undone by m, if it can be -/
def spIv : Sp := fun vs H Q _ => ∃ (m x : Int), vs = [.int m, .int x] ∧ Mo m ∧ 0 ≤ x ∧ x < m ∧ (∀ y H', Same H H' → 0 ≤ y → y < m → cg m (y * x) 1 → Q (.int y) H') ∧ ((∀ z, ¬ cg m (z * x) 1) → ∀ H', Same H H' → Q .non H')
section
variable {P : Program} {w : World} {K : PySem.W.Frag} {mg : Str → Option Value} {base : Heap}
theorem scLs : FnScope NLs ["modulus", "row", "times", "other"] (defScope sLs) := ⟨rfl, rfl, rfl, by decide +kernel, rfl, by decide +kernel, by decide +kernel⟩
theorem scIv : FnScope NIv ["modulus", "number"] (defScope sIv) := ⟨rfl, rfl, rfl, by decide +kernel, rfl, by decide +kernel, by decide +kernel⟩
theorem ok_ls {f : Addr} {fd : FuncData} (F : Fun K "less" "less" sLs f fd) (Z : Bs mg) : FnOk P w K mg base CX0 1 f fd ["modulus", "row", "times", "other"] spLs := by
  refine F.ok scLs (fun vs H Q E h => ?_) (fun cdv A outer s H vs Q E hr h => ?_)
  · obtain ⟨m, t, a, b, xs, ys, rfl, _⟩ := h
    rfl
  · obtain ⟨m, t, a, b, xs, ys, rfl, mo, ha, hb, l, l5, bY, bt, q⟩ := h
    refine ⟨_, pss_one (ps_ret (pe_lc (own := [("number", 4), ("more", 5)]) rfl scLs.nd (ZM.pi_zipM false false Z.zip (pa_cons (pv 1) (pa_cons (pv 3) pa_nil))) (blkOk_by (N := NLs) (sc := defScope sLs) (by decide +kernel)) (fun _ _ _ _ _ => (pg_pairK K rfl rfl (pg_name (i := 4) scLs.nd rfl (Or.inl rfl) (.inr rfl)) (pg_name (i := 5) scLs.nd rfl (Or.inl rfl) (.inr rfl)))) (fun _ _ _ _ _ => pts_nil) (fun _ _ _ _ _ => (pe_op op_mod (pe_op op_sub (pv 4) (pe_op op_mulW (pv 2) (pv 5))) (pv 0))))), ?_⟩
    have eN : min (iV xs).length (iV ys).length = xs.length := by rw [iV_len, iV_len, l, Nat.min_self]
    refine ⟨_, rfl, _, rfl, a, b, iV xs, iV ys, rfl, SqL.of ha, SqL.of hb, fun D nD => lcM (ZM.walk_zipM eN.symm) (fun c => .int ((at_ xs c - t * at_ ys c) % m)) (by omega) nD (fun H' e => ⟨SqL.of (e _ _ ha), SqL.of (e _ _ hb)⟩) ?_ ?_⟩
    · rintro c x H2 H3 N hc e ⟨T0, y, z, rfl, nT0, rfl, hy, hz⟩ hN
      obtain ⟨i1, rfl⟩ := iV_get hy
      obtain ⟨i2, rfl⟩ := iV_get hz
      refine ⟨T0, _, rfl, SqT.of upd_same, rfl, _, _, rfl, _, _, rfl, rfl, rfl, ?_⟩
      exact ⟨_, rfl, _, rfl, _, rfl, _, _, rfl, rfl, wide_mul bt (bY c) (by decide) (by decide) (by decide), _, _, rfl, rfl, _, rfl, _, _, rfl, rfl, by have := mo.two; omega, hN _ (same_new nT0)⟩
    · intro H4 e4 hD
      rw [range_iV] at hD
      exact q D H4 e4 nD hD
end
end K50
set_option Elab.async false
set_option linter.all false
set_option maxRecDepth 100001
set_option maxHeartbeats 3999999
namespace K50
open PySem L2
open Mx (sm cg dl)
/-- a number that can be undone has no divisor but 1 in common -/
theorem unit_gcd {m x : Nat} {z : Int} (h : cg (m : Nat) (z * (x : Nat)) 1) : Nat.gcd x m = 1 := by
  have h1 : ((Nat.gcd x m : Nat) : Int) ∣ z * ((x : Nat) : Int) - 1 := Int.dvd_trans (Int.natCast_dvd_natCast.mpr (Nat.gcd_dvd_right x m)) h
  have h2 : ((Nat.gcd x m : Nat) : Int) ∣ z * ((x : Nat) : Int) := Int.dvd_trans (Int.natCast_dvd_natCast.mpr (Nat.gcd_dvd_left x m)) (Int.dvd_mul_left _ _)
  have h3 := Int.dvd_sub h2 h1
  rw [show z * ((x : Nat) : Int) - (z * ((x : Nat) : Int) - 1) = ((1 : Nat) : Int) by omega] at h3
  exact Nat.dvd_one.mp (Int.natCast_dvd_natCast.mp h3)
theorem fac_le {fa ot : Int} {lo hi m : Nat} (h : fa.natAbs * hi + ot.natAbs * lo ≤ m) : (ot - ((hi / lo : Nat) : Int) * fa).natAbs * lo + fa.natAbs * (hi % lo) ≤ m := by
  have h1 : (ot - ((hi / lo : Nat) : Int) * fa).natAbs ≤ ot.natAbs + hi / lo * fa.natAbs := by
    have z : (((hi / lo : Nat) : Int) * fa).natAbs = hi / lo * fa.natAbs := by rw [Int.natAbs_mul, Int.natAbs_natCast]
    omega
  have h2 := Nat.mul_le_mul_right lo h1
  rw [Nat.add_mul] at h2
  have h3 : fa.natAbs * hi = hi / lo * fa.natAbs * lo + fa.natAbs * (hi % lo) := by
    have e : fa.natAbs * (lo * (hi / lo) + hi % lo) = fa.natAbs * hi := congrArg (fa.natAbs * ·) (Nat.div_add_mod hi lo)
    rw [Nat.mul_add] at e
    rw [← e]
    rw [show hi / lo * fa.natAbs * lo = fa.natAbs * (lo * (hi / lo)) by rw [Nat.mul_comm (hi / lo), Nat.mul_assoc, Nat.mul_comm (hi / lo)]]
  omega
section
variable {P : Program} {w : World} {K : PySem.W.Frag} {mg : Str → Option Value} {base : Heap}
theorem ok_iv {f : Addr} {fd : FuncData} (F : Fun K "inverse_of" "inverse_of" sIv f fd) : FnOk P w K mg base CX0 1 f fd ["modulus", "number"] spIv := by
  refine F.ok scIv (fun vs H Q E h => ?_) (fun cdv A outer s H vs Q E hr h => ?_)
  · obtain ⟨m, x, rfl, _⟩ := h
    rfl
  · obtain ⟨m, x, rfl, mo, x0, xm, q1, q2⟩ := h
    refine ⟨_, pss_cons (ps_par (i := 2) (j := 3) rfl scIv.nd rfl rfl (by decide) rfl rfl (pa_cons (pv 1) (pa_cons (pv 0) pa_nil)) rfl)
      (pss_cons (ps_asg (pe_tup (pa_cons pe_int (pa_cons pe_int pa_nil))) (pg_tup rfl (pgs_cons (pg_name (i := 4) scIv.nd rfl (.inl rfl)) (pgs_cons (pg_name (i := 5) scIv.nd rfl (.inl rfl)) pgs_nil))))
      (pss_cons (ps_while PassesOwn.never (pt_cmpR op_gt (pv 2) pe_int (nomark _)) (pss_cons (ps_set (i := 6) scIv.nd rfl (Or.inl rfl) (pe_op op_fdivW (pv 3) (pv 2)))
        (pss_cons (ps_par (i := 2) (j := 3) rfl scIv.nd rfl rfl (by decide) rfl rfl (pa_cons (pe_op op_sub (pv 3) (pe_op op_mulW (pv 6) (pv 2))) (pa_cons (pv 2) pa_nil)) rfl)
        (pss_one (ps_par (i := 4) (j := 5) rfl scIv.nd rfl rfl (by decide) rfl rfl (pa_cons (pe_op op_sub (pv 5) (pe_op op_mulW (pv 6) (pv 4))) (pa_cons (pv 4) pa_nil)) rfl)))))
      (pss_one (ps_ret (pe_ifExp (pt_cmpR op_eq (pv 2) pe_int (nomark _)) (pe_op op_mod (pv 4) (pv 0)) pe_non))))), ?_⟩
    obtain ⟨m, rfl⟩ := Int.eq_ofNat_of_zero_le (show 0 ≤ m by have := mo.two; omega)
    obtain ⟨x, rfl⟩ := Int.eq_ofNat_of_zero_le x0
    have m2 : 2 ≤ m := by have := mo.two; omega
    have mb : m < 2 ^ 60 := by have := pow_le mo; omega
    have hxm : x < m := by omega
    refine ⟨_, rfl, _, rfl, _, _, rfl, ?_⟩
    dsimp only
    refine ⟨by show 2 ≤ sizeLine; decide, fun tp ntp => ⟨tp, _, rfl, SqT.of upd_same, rfl, _, _, rfl, _, _, rfl, rfl, ?_⟩⟩
    have e0 := same_new (o := .tup [.int 1, .int 0]) ntp
    generalize upd H tp (.tup [.int 1, .int 0]) = H0 at e0 ⊢
    obtain ⟨W, hW⟩ : ∃ W : Nat → St → Hp → Prop, W = fun lo σ H' => ∃ (hi : Nat) (fa ot : Int) (o6 : Option V), σ = [some (.int ((m : Nat) : Int)), some (.int ((x : Nat) : Int)), some (.int ((lo : Nat) : Int)), some (.int ((hi : Nat) : Int)), some (.int fa), some (.int ot), o6] ∧ H' = H0 ∧ lo < hi ∧ 2 ≤ hi ∧ hi ≤ m ∧ fa.natAbs * hi + ot.natAbs * lo ≤ m ∧ cg ((m : Nat) : Int) (fa * ((x : Nat) : Int)) ((lo : Nat) : Int) ∧ cg ((m : Nat) : Int) (ot * ((x : Nat) : Int)) ((hi : Nat) : Int) ∧ Nat.gcd lo hi = Nat.gcd x m := ⟨_, rfl⟩
    refine ⟨W, ⟨x, by rw [hW]; exact ⟨m, 1, 0, none, rfl, rfl, hxm, m2, Nat.le_refl _, by simp, .of (Int.one_mul _), ⟨-1, by rw [Int.zero_mul, Int.mul_neg, Int.mul_one, Int.zero_sub]⟩, rfl⟩⟩, ?_⟩
    intro lo σ H2 w2
    have w2' := w2
    rw [hW] at w2'
    obtain ⟨hi, fa, ot, o6, rfl, rfl, lh, h2, hm, fb, cl, ch, gc⟩ := w2'
    refine ⟨_, rfl, _, _, rfl, rfl, _, rfl, ?_⟩
    have fl : fa.natAbs ≤ m := by
      have := Nat.le_mul_of_pos_right fa.natAbs (show 0 < hi by omega)
      omega
    by_cases c : 1 < lo
    · rw [decide_eq_true (show (1 : Int) < ((lo : Nat) : Int) by omega)]
      refine iteT ⟨fun σ' H' => ∃ m', m' < lo ∧ W m' σ' H', fun σ' H' z => z, ?_⟩
      refine ⟨_, rfl, _, rfl, _, _, rfl, rfl, wide_div (b := 60) (by omega) (by omega) (by decide) (by decide), ?_⟩
      refine gN ?_
      dsimp only
      have ed : ((hi : Nat) : Int) / ((lo : Nat) : Int) = ((hi / lo : Nat) : Int) := rfl
      rw [ed]
      have dl_ : hi / lo ≤ hi := Nat.div_le_self _ _
      have tb : (((hi / lo : Nat) : Int)).natAbs < 2 ^ 60 := by
        rw [Int.natAbs_natCast]
        omega
      have lb : (((lo : Nat) : Int)).natAbs < 2 ^ 60 := by
        rw [Int.natAbs_natCast]
        omega
      refine ⟨_, rfl, _, rfl, _, rfl, _, _, rfl, rfl, wide_mul (a := 60) (b := 60) tb lb (by decide) (by decide) (by decide), _, _, rfl, rfl, _, rfl, _, _, rfl, ?_⟩
      dsimp only
      refine ⟨_, rfl, _, rfl, _, rfl, _, _, rfl, rfl, wide_mul (a := 60) (b := 61) tb (by omega) (by decide) (by decide) (by decide), _, _, rfl, rfl, _, rfl, _, _, rfl, ?_⟩
      have el : ((hi : Nat) : Int) - ((hi / lo : Nat) : Int) * ((lo : Nat) : Int) = ((hi % lo : Nat) : Int) := by
        have := Nat.div_add_mod hi lo
        have z : ((lo * (hi / lo) + hi % lo : Nat) : Int) = ((hi : Nat) : Int) := by rw [this]
        rw [Int.natCast_add, Int.natCast_mul, Int.mul_comm] at z
        omega
      rw [el]
      have ml := Nat.mod_lt hi (show 0 < lo by omega)
      refine ⟨hi % lo, ml, ?_⟩
      rw [hW]
      refine ⟨lo, ot - ((hi / lo : Nat) : Int) * fa, fa, _, rfl, rfl, ml, c, by omega, fac_le fb, ?_, cl, ?_⟩
      · rw [Int.sub_mul, Int.mul_assoc, ← el]
        exact ch.sub (cl.mul _)
      · rw [← gc]
        exact (Nat.gcd_rec lo hi).symm
    · rw [decide_eq_false (show ¬ (1 : Int) < ((lo : Nat) : Int) by omega)]
      refine iteF ?_
      dsimp only
      refine ⟨_, rfl, rfl, _, rfl, ?_⟩
      by_cases c1 : lo = 1
      · subst c1
        rw [decide_eq_true (show V.int ((1 : Nat) : Int) = V.int 1 from rfl)]
        refine iteT ⟨_, rfl, _, rfl, _, _, rfl, rfl, by omega, ?_⟩
        exact q1 _ _ e0 (Int.emod_nonneg _ (by omega)) (Int.emod_lt_of_pos _ (by omega)) ((Mx.cg_mod.mul_r _).trans cl)
      · obtain rfl : lo = 0 := by omega
        rw [decide_eq_false (by decide)]
        refine iteF (q2 (fun z hz => ?_) _ e0)
        have g := unit_gcd hz
        rw [g, Nat.gcd_zero_left] at gc
        omega
end
end K50
set_option Elab.async false
set_option linter.all false
set_option maxRecDepth 100001
set_option maxHeartbeats 3999999
namespace K50
open PySem L2
open Mx (sm cg dl Eqv Sp aug)
/-! ### what undone does to its rows -/
theorem rw_set {W : List (List Int)} {a i : Nat} {r : List Int} (h : a < W.length) : rw_ (W.set a r) i = if i = a then r else rw_ W i := by
  unfold rw_
  rw [List.getD_eq_getElem?_getD, List.getD_eq_getElem?_getD]
  by_cases c : i = a
  · subst c
    rw [if_pos rfl, List.getElem?_set_self h]
    rfl
  · rw [if_neg c, List.getElem?_set_ne (Ne.symm c)]
theorem ent_set {W : List (List Int)} {a i c : Nat} {r : List Int} (h : a < W.length) : ent (W.set a r) i c = if i = a then at_ r c else ent W i c := by
  unfold ent
  rw [rw_set h]
  split <;> rfl
theorem dm_set {r c a : Nat} {W : List (List Int)} {x : List Int} (d : Dm r c W) (ha : a < r) (l : x.length = c) : Dm r c (W.set a x) := ⟨by rw [List.length_set, d.len], fun i hi => by
  rw [rw_set (by rw [d.len]; exact ha)]
  split
  · exact l
  · exact d.row i hi⟩
theorem rd_set {m : Int} {r c a : Nat} {W : List (List Int)} {x : List Int} (d : Dm r c W) (ha : a < r) (h : Rd m W) (g : ∀ j, 0 ≤ at_ x j ∧ at_ x j < m) : Rd m (W.set a x) := fun i j => by
  rw [ent_set (by rw [d.len]; exact ha)]
  split
  · exact g j
  · exact h i j
theorem ls_at {m t : Int} {xs ys : List Int} {c : Nat} (h : c < xs.length) : at_ (ls_ m xs t ys) c = (at_ xs c - t * at_ ys c) % m := at_range h
theorem ls_len {m t : Int} {xs ys : List Int} : (ls_ m xs t ys).length = xs.length := by
  unfold ls_
  rw [List.length_map, List.length_range]
theorem ls_cg {m t : Int} {xs ys : List Int} (l : xs.length = ys.length) (c : Nat) : cg m (at_ (ls_ m xs t ys) c) (at_ xs c - t * at_ ys c) := by
  by_cases h : c < xs.length
  · rw [ls_at h]
    exact Mx.cg_mod
  · rw [at_out (by rw [ls_len]; omega), at_out (by omega), at_out (by omega), Int.mul_zero]
    exact .refl
theorem ls_rd {m t : Int} (m2 : 2 ≤ m) {xs ys : List Int} (c : Nat) : 0 ≤ at_ (ls_ m xs t ys) c ∧ at_ (ls_ m xs t ys) c < m := by
  by_cases h : c < xs.length
  · rw [ls_at h]
    exact ⟨Int.emod_nonneg _ (by omega), Int.emod_lt_of_pos _ (by omega)⟩
  · rw [at_out (by rw [ls_len]; omega)]
    omega
theorem rd_row {m : Int} {W : List (List Int)} (h : Rd m W) (i : Nat) : ∀ c, 0 ≤ at_ (rw_ W i) c ∧ at_ (rw_ W i) c < m := fun c => h i c
theorem eqv_of_cg {m : Int} {F G : Nat → Nat → Int} {n : Nat} (h : ∀ i c, i < n → cg m (G i c) (F i c)) : Eqv m F G n := ⟨fun i hi => .row hi fun c => (h i c hi).symm, fun i hi => .row hi fun c => h i c hi⟩
/-- the rows at column j: those ahead are done, and so many below the pivot are 0 -/
structure UI (m : Int) (n : Nat) (M : List (List Int)) (j l : Nat) (W : List (List Int)) : Prop where
  dm : Dm n (2 * n) W
  rd : Rd m W
  eq : Eqv m (aug (ent M) n) (ent W) n
  un : ∀ i c, i < n → c < j → ent W i c = dl i c
  lo : ∀ i, j < i → i < l → ent W i j = 0
/-- what stands there at first -/
def w0_ (m : Int) (n : Nat) (M : List (List Int)) : List (List Int) := mk_ n (2 * n) fun i c => if c < n then ent M i c % m else dl i (c - n)
theorem UI.start {m : Int} (mo : Mo m) {n : Nat} {M : List (List Int)} : UI m n M 0 1 (w0_ m n M) := by
  have m2 := mo.two
  refine ⟨mk_dm, Rd.of (by omega) mk_dm fun i j hi hj => ?_, eqv_of_cg fun i c hi => ?_, (fun i c _ h => absurd h (by omega)), fun i h1 h2 => by omega⟩
  · unfold w0_
    rw [mk_ent hi hj]
    split
    · exact ⟨Int.emod_nonneg _ (by omega), Int.emod_lt_of_pos _ (by omega)⟩
    · unfold dl
      split <;> omega
  · by_cases hc : c < 2 * n
    · unfold w0_
      rw [mk_ent hi hc, aug]
      by_cases d : c < n
      · rw [if_pos d, if_pos d]
        exact Mx.cg_mod
      · rw [if_neg d, if_neg d]
        exact .refl
    · have e : ent (w0_ m n M) i c = 0 := at_out (by unfold w0_; rw [mk_dm.row i hi]; omega)
      rw [e, aug, if_neg (by omega), dl, if_neg (by omega)]
      exact .refl
theorem UI.len {m : Int} {n : Nat} {M : List (List Int)} {j l : Nat} {W : List (List Int)} (U : UI m n M j l W) : W.length = n := U.dm.len
/-- a step of the while -/
def stp_ (m : Int) (W : List (List Int)) (j l : Nat) (t : Int) : List (List Int) := (W.set j (rw_ W l)).set l (ls_ m (rw_ W j) t (rw_ W l))
section
variable {m : Int} {n : Nat} {M : List (List Int)} {j l : Nat} {W : List (List Int)}
theorem stp_ent (U : UI m n M j l W) (hj : j < n) (hl : l < n) (t : Int) (i c : Nat) : ent (stp_ m W j l t) i c = if i = l then at_ (ls_ m (rw_ W j) t (rw_ W l)) c else if i = j then ent W l c else ent W i c := by
  unfold stp_
  rw [ent_set (by rw [List.length_set, U.len]; exact hl)]
  split
  · rfl
  · rw [ent_set (by rw [U.len]; exact hj)]
    split <;> rfl
theorem UI.step (U : UI m n M j l W) (mo : Mo m) (jl : j < l) (hl : l < n) (t : Int) : UI m n M j l (stp_ m W j l t) := by
  have hj : j < n := by omega
  have m2 := mo.two
  have lj := U.dm.row j hj
  have ll := U.dm.row l hl
  have e : (rw_ W j).length = (rw_ W l).length := by rw [lj, ll]
  refine ⟨dm_set (dm_set U.dm hj ll) hl (by rw [ls_len, lj]), rd_set (dm_set U.dm hj ll) hl (rd_set U.dm hj U.rd (rd_row U.rd l)) (ls_rd m2), ?_, fun i c hi hc => ?_, fun i h1 h2 => ?_⟩
  · refine U.eq.trans (Eqv.step (a := j) (b := l) hj hl (by omega) t (fun c => ?_) (fun c => ?_) fun i hi n1 n2 c => ?_)
    · rw [stp_ent U hj hl, if_neg (by omega), if_pos rfl]
      exact .refl
    · rw [stp_ent U hj hl, if_pos rfl]
      exact ls_cg e c
    · rw [stp_ent U hj hl, if_neg n2, if_neg n1]
      exact .refl
  · rw [stp_ent U hj hl]
    have z1 : ent W j c = 0 := by rw [U.un j c hj hc, dl, if_neg (by omega)]
    have z2 : ent W l c = 0 := by rw [U.un l c hl hc, dl, if_neg (by omega)]
    split
    · rename_i h
      subst h
      rw [ls_at (by rw [lj]; omega), show at_ (rw_ W j) c = 0 from z1, show at_ (rw_ W i) c = 0 from z2, Int.mul_zero, Int.sub_self, Int.zero_emod, dl, if_neg (by omega)]
    · split
      · rename_i h
        subst h
        rw [z2, dl, if_neg (by omega)]
      · exact U.un i c hi hc
  · rw [stp_ent U hj hl, if_neg (by omega), if_neg (by omega)]
    exact U.lo i h1 h2
theorem UI.next (U : UI m n M j l W) (z : ent W l j = 0) : UI m n M j (l + 1) W := ⟨U.dm, U.rd, U.eq, U.un, fun i h1 h2 => by
  by_cases c : i = l
  · rw [c]
    exact z
  · exact U.lo i h1 (by omega)⟩
/-- the number below the pivot becomes less -/
theorem stp_less (U : UI m n M j l W) (mo : Mo m) (jl : j < l) (hl : l < n) (pos : 0 < ent W l j) : ent (stp_ m W j l (ent W j j / ent W l j)) l j = ent W j j % ent W l j := by
  have hj : j < n := by omega
  rw [stp_ent U hj hl, if_pos rfl, ls_at (by rw [U.dm.row j hj]; omega)]
  show (ent W j j - ent W j j / ent W l j * ent W l j) % m = _
  have e : ent W j j - ent W j j / ent W l j * ent W l j = ent W j j % ent W l j := by
    have := Int.mul_ediv_add_emod (ent W j j) (ent W l j)
    rw [Int.mul_comm] at this
    omega
  rw [e]
  have h1 := Int.emod_nonneg (ent W j j) (show ent W l j ≠ 0 by omega)
  have h2 := Int.emod_lt_of_pos (ent W j j) pos
  have h3 := U.rd l j
  exact Int.emod_eq_of_lt h1 (by omega)
/-- the pivot's row by what undoes the pivot -/
def scl_ (m : Int) (xs : List Int) (y : Int) : List Int := (List.range xs.length).map fun c => at_ xs c * y % m
/-- behind it: so many rows are done in the column -/
structure UJ (m : Int) (n : Nat) (M : List (List Int)) (j l : Nat) (W : List (List Int)) : Prop where
  dm : Dm n (2 * n) W
  rd : Rd m W
  eq : Eqv m (aug (ent M) n) (ent W) n
  un : ∀ i c, i < n → c < j → ent W i c = dl i c
  one : ent W j j = 1
  lo : ∀ i, i < l → i ≠ j → ent W i j = 0
theorem UI.scale (U : UI m n M j n W) (mo : Mo m) (hj : j < n) {y : Int} (hy : cg m (y * ent W j j) 1) : UJ m n M j 0 (W.set j (scl_ m (rw_ W j) y)) := by
  have m2 := mo.two
  have lj := U.dm.row j hj
  have ls : (scl_ m (rw_ W j) y).length = 2 * n := by unfold scl_; rw [List.length_map, List.length_range, lj]
  have at1 : ∀ c, c < 2 * n → at_ (scl_ m (rw_ W j) y) c = ent W j c * y % m := fun c hc => at_range (by rw [lj]; exact hc)
  have hlen : j < W.length := by rw [U.len]; exact hj
  refine ⟨dm_set U.dm hj ls, rd_set U.dm hj U.rd fun c => ?_, U.eq.trans (Eqv.scale (a := j) hj y (ent W j j) (by rw [Int.mul_comm]; exact hy) (fun c => ?_) fun i hi ne c => ?_), fun i c hi hc => ?_, ?_, fun i h _ => absurd h (by omega)⟩
  · by_cases hc : c < 2 * n
    · rw [at1 c hc]
      exact ⟨Int.emod_nonneg _ (by omega), Int.emod_lt_of_pos _ (by omega)⟩
    · rw [at_out (by omega)]
      omega
  · rw [ent_set hlen, if_pos rfl]
    by_cases hc : c < 2 * n
    · rw [at1 c hc, Int.mul_comm]
      exact Mx.cg_mod
    · rw [at_out (by omega), show ent W j c = 0 from at_out (by omega), Int.mul_zero]
      exact .refl
  · rw [ent_set hlen, if_neg ne]
    exact .refl
  · rw [ent_set hlen]
    split
    · rename_i h
      subst h
      rw [at1 c (by omega), U.un i c hi hc, dl, if_neg (by omega), Int.zero_mul, Int.zero_emod]
    · exact U.un i c hi hc
  · rw [ent_set hlen, if_pos rfl, at1 j (by omega), Int.mul_comm, hy.eq]
    exact Int.emod_eq_of_lt (by omega) (by omega)
theorem UJ.len (U : UJ m n M j l W) : W.length = n := U.dm.len
theorem UJ.skip (U : UJ m n M j j W) : UJ m n M j (j + 1) W := ⟨U.dm, U.rd, U.eq, U.un, U.one, fun i h1 h2 => U.lo i (by omega) h2⟩
theorem UJ.step (U : UJ m n M j l W) (mo : Mo m) (hj : j < n) (hl : l < n) (ne : l ≠ j) : UJ m n M j (l + 1) (W.set l (ls_ m (rw_ W l) (ent W l j) (rw_ W j))) := by
  have m2 := mo.two
  have lj := U.dm.row j hj
  have ll := U.dm.row l hl
  have hlen : l < W.length := by rw [U.len]; exact hl
  have e : (rw_ W l).length = (rw_ W j).length := by rw [lj, ll]
  refine ⟨dm_set U.dm hl (by rw [ls_len, ll]), rd_set U.dm hl U.rd (ls_rd m2), U.eq.trans (Eqv.add (a := l) (b := j) hl hj ne (-(ent W l j)) (fun c => ?_) fun i hi n1 c => ?_), fun i c hi hc => ?_, ?_, fun i h1 h2 => ?_⟩
  · rw [ent_set hlen, if_pos rfl]
    refine (ls_cg e c).trans (cg.of ?_)
    rw [Int.neg_mul]
    show at_ (rw_ W l) c - _ = at_ (rw_ W l) c + _
    rw [Int.sub_eq_add_neg]
    rfl
  · rw [ent_set hlen, if_neg n1]
    exact .refl
  · rw [ent_set hlen]
    split
    · rename_i h
      subst h
      rw [ls_at (by rw [ll]; omega), show at_ (rw_ W j) c = 0 from (by have := U.un j c hj hc; rw [dl, if_neg (by omega)] at this; exact this), Int.mul_zero, Int.sub_zero]
      have := U.un i c hi hc
      rw [← this]
      exact Int.emod_eq_of_lt (U.rd i c).1 (U.rd i c).2
    · exact U.un i c hi hc
  · rw [ent_set hlen, if_neg (Ne.symm ne)]
    exact U.one
  · rw [ent_set hlen]
    split
    · rename_i h
      subst h
      rw [ls_at (by rw [ll]; omega), show at_ (rw_ W j) j = 1 from U.one, Int.mul_one]
      show (ent W i j - ent W i j) % m = 0
      rw [Int.sub_self, Int.zero_emod]
    · exact U.lo i (by omega) h2
/-- the column is done -/
theorem UJ.done (U : UJ m n M j n W) : UI m n M (j + 1) (j + 2) W := ⟨U.dm, U.rd, U.eq, fun i c hi hc => by
  by_cases d : c = j
  · subst d
    by_cases e : i = c
    · subst e
      rw [U.one, dl, if_pos rfl]
    · rw [U.lo i hi e, dl, if_neg e]
  · exact U.un i c hi (by omega), fun i h1 h2 => by omega⟩
/-- a pivot that can't be undone: M can't be, either -/
theorem UI.none (U : UI m n M j n W) (hj : j < n) (no : ∀ z, ¬ cg m (z * ent W j j) 1) : ¬ ∀ c, c < n → Sp m (fun i x => if x < n then ent M i x else 0) n (fun x => if x < n then dl c x else 0) := fun h => by
  have s1 := h j hj
  obtain ⟨z, hz⟩ := s1
  -- the same row is a sum of rows of W, as far as the left half goes
  have s2 : Sp m (ent W) n (fun c => sm (fun i => z i * aug (ent M) n i c) n) := Sp.trans ⟨z, fun c => .refl⟩ U.eq.to
  obtain ⟨y, hy⟩ := s2
  obtain ⟨u, hu⟩ := Mx.pivot (m := m) (A := ent W) (n := n) (j := j) hj (fun i c hi hc => .of (U.un i c hi hc)) (fun i hi h1 => .of (U.lo i h1 hi)) ⟨y, fun c hc => by
    have h1 := hz c
    dsimp only at h1
    rw [if_pos (by omega)] at h1
    refine h1.trans (cg.trans (cg.of ?_) (hy c))
    exact Mx.sm_congr fun i _ => by rw [if_pos (by omega), aug, if_pos (by omega)]⟩
  exact no u hu
/-- the right half, when all is done -/
def rh_ (n : Nat) (W : List (List Int)) : List (List Int) := mk_ n n fun i c => ent W i (n + c)
theorem UI.fin (U : UI m n M n l W) (mo : Mo m) : Rd m (rh_ n W) ∧ Al m n (pr_ m n n n (rh_ n W) M) (idM n) ∧ Al m n (pr_ m n n n M (rh_ n W)) (idM n) := by
  have m2 := mo.two
  obtain ⟨h1, h2⟩ := Mx.undone_ok U.eq fun i c hi hc => .of (U.un i c hi hc)
  refine ⟨Rd.of (by omega) mk_dm fun i c hi hc => ?_, fun i c hi hc => ?_, fun i c hi hc => ?_⟩
  · unfold rh_
    rw [mk_ent hi hc]
    exact U.rd i (n + c)
  · rw [id_ent hi hc]
    refine (pr_al hi hc).trans ((cg.of (Mx.sm_congr fun k hk => ?_)).trans (h1 i c hi hc))
    unfold rh_
    rw [mk_ent hi hk]
  · rw [id_ent hi hc]
    refine (pr_al hi hc).trans ((cg.of (Mx.sm_congr fun k hk => ?_)).trans (h2 i c hi hc))
    unfold rh_
    rw [mk_ent hk hc]
end
end K50
set_option Elab.async false
set_option linter.all false
set_option maxRecDepth 100001
set_option maxHeartbeats 3999999
namespace K50
open PySem L2
open Mx (sm cg dl)
theorem sl_listK {X : Cx} (K : PySem.W.Frag) (hK : X.K = K) : SlR X (rSlL K) := by
  subst hK
  exact sl_list
theorem call_list_ofK {X : Cx} (K : PySem.W.Frag) (hK : X.K = K) : CallR X (.type "list") (fun xs H Q => ∃ p ys, xs = [.ref p] ∧ (SqL K H p ys ∨ SqT K H p ys) ∧ ∀ l, H l = none → Q (.ref l) (upd H l (.lst ys))) := by
  subst hK
  exact call_list_of
theorem ixn {n j : Nat} (h : j < n) : ixN n (j : Int) = some j := by
  rw [ixN, if_pos (by omega), if_pos (by omega), Int.toNat_natCast]
theorem op_catK {X : Cx} : OpR X (binaryOp .Add) rCat := op_cat
def BtL (D : Addr) (H H' : Hp) : Prop := ∀ b o, b ≠ D → H b = some o → H' b = some o
theorem BtL.refl {D : Addr} {H : Hp} : BtL D H H := fun _ _ _ h => h
theorem BtL.same {D : Addr} {H H1 H' : Hp} (h : BtL D H H1) (e : Same H1 H') : BtL D H H' := fun b o n z => e b o (h b o n z)
theorem BtL.put {D : Addr} {H H1 : Hp} {o : HO} (h : BtL D H H1) : BtL D H (upd H1 D o) := fun b o' n z => (upd_ne n).trans (h b o' n z)
/-- rows of ints, lists in a list -/
def IsMl (H : Hp) (p : Addr) (M : List (List Int)) : Prop := ∃ vs : List V, H p = some (.lst vs) ∧ vs.length = M.length ∧ ∀ i, i < M.length → ∃ a, vs[i]? = some (.ref a) ∧ H a = some (.lst (iV (rw_ M i)))
theorem IsMl.same {H H' : Hp} {p : Addr} {M : List (List Int)} (h : IsMl H p M) (e : Same H H') : IsMl H' p M := let ⟨vs, h1, h2, h3⟩ := h; ⟨vs, e _ _ h1, h2, fun i hi => let ⟨a, x, y⟩ := h3 i hi; ⟨a, x, e _ _ y⟩⟩
/-- the rows, as lists in a list at L; all else is as it was -/
structure Hd (L : Addr) (H0 H' : Hp) (n : Nat) (vs : List V) (W : List (List Int)) : Prop where
  h : H' L = some (.lst vs)
  len : vs.length = n
  row : ∀ i, i < n → ∃ r, vs[i]? = some (.ref r) ∧ r ≠ L ∧ H' r = some (.lst (iV (rw_ W i)))
  bt : BtL L H0 H'
theorem Hd.same {L : Addr} {H0 H1 H2 : Hp} {n : Nat} {vs : List V} {W : List (List Int)} (h : Hd L H0 H1 n vs W) (e : Same H1 H2) : Hd L H0 H2 n vs W := ⟨e _ _ h.h, h.len, fun i hi => let ⟨r, a, b, c⟩ := h.row i hi; ⟨r, a, b, e _ _ c⟩, h.bt.same e⟩
theorem Hd.set {L : Addr} {H0 H' : Hp} {n : Nat} {vs : List V} {W : List (List Int)} (h : Hd L H0 H' n vs W) {a : Nat} {r : Addr} {x : List Int} (ha : a < n) (lW : W.length = n) (nr : r ≠ L) (hr : H' r = some (.lst (iV x))) : Hd L H0 (upd H' L (.lst (vs.set a (.ref r)))) n (vs.set a (.ref r)) (W.set a x) := by
  refine ⟨upd_same, by rw [List.length_set, h.len], fun i hi => ?_, h.bt.put⟩
  rw [rw_set (by omega)]
  by_cases c : i = a
  · subst c
    exact ⟨r, by rw [List.getElem?_set_self (by rw [h.len]; exact hi)], nr, by rw [if_pos rfl]; exact (upd_ne nr).trans hr⟩
  · obtain ⟨r2, h1, h2, h3⟩ := h.row i hi
    exact ⟨r2, by rw [List.getElem?_set_ne (Ne.symm c)]; exact h1, h2, by rw [if_neg c]; exact (upd_ne h2).trans h3⟩
theorem row_te {K : PySem.W.Frag} {σ : St} {H0 H' : Hp} {i p n x L : Nat} {vs : List V} {W : List (List Int)} {Q : VK} (hL : σ[i]? = some (some (.ref L))) (hx : σ[p]? = some (some (.int ((x : Nat) : Int)))) (D : Hd L H0 H' n vs W) (xn : x < n)
    (k : ∀ r, r ≠ L → vs[x]? = some (.ref r) → H' r = some (.lst (iV (rw_ W x))) → Q (.ref r) H') : tOp (rIxL K) (tVar i) (tVar p) σ H' Q := by
  obtain ⟨r, h1, h2, h3⟩ := D.row x xn
  exact ⟨_, hL, _, hx, L, _, _, .ref r, rfl, rfl, SqL.of D.h, atI_nat h1, k r h2 h1 h3⟩
theorem ent_te {K : PySem.W.Frag} {σ : St} {H0 H' : Hp} {i p q n x y L : Nat} {vs : List V} {W : List (List Int)} {Q : VK} (hL : σ[i]? = some (some (.ref L))) (hx : σ[p]? = some (some (.int ((x : Nat) : Int)))) (hy : σ[q]? = some (some (.int ((y : Nat) : Int)))) (D : Hd L H0 H' n vs W) (dm : Dm n (2 * n) W) (xn : x < n) (yn : y < 2 * n)
    (k : Q (.int (ent W x y)) H') : tOp (rIxL K) (tOp (rIxL K) (tVar i) (tVar p)) (tVar q) σ H' Q := by
  obtain ⟨r, h1, h2, h3⟩ := D.row x xn
  exact ⟨_, hL, _, hx, L, _, _, .ref r, rfl, rfl, SqL.of D.h, atI_nat h1, _, hy, r, _, _, .int (ent W x y), rfl, rfl, SqL.of h3, atI_nat (iV_at (by rw [dm.row x xn]; exact yn)), k⟩
abbrev sUn : Stmt := topS 23
abbrev NUn : List Str := ["modulus", "matrix", "size", "rows", "row", "beside", "number", "column", "line", "times", "inverse"]
def spUn : Sp := fun vs H Q _ => ∃ (m : Int) (a : Addr) (n : Nat) (A : List (List Int)), vs = [.int m, .ref a] ∧ Mo m ∧ IsMl H a A ∧ Dm n n A ∧ Bd A ∧ 1 ≤ n ∧ n ≤ 500 ∧
  (∀ D R H', Same H H' → H D = none → IsMt H' D R → Dm n n R → Rd m R → Al m n (pr_ m n n n R A) (idM n) → Al m n (pr_ m n n n A R) (idM n) → Q (.ref D) H') ∧
  (∀ H', Same H H' → (¬ ∀ c, c < n → Mx.Sp m (fun i j => if j < n then ent A i j else 0) n (fun j => if j < n then dl c j else 0)) → Q .non H')
section
variable {P : Program} {w : World} {K : PySem.W.Frag} {mg : Str → Option Value} {base : Heap}
theorem scUn : FnScope NUn ["modulus", "matrix"] (defScope sUn) := ⟨rfl, rfl, rfl, by decide +kernel, rfl, by decide +kernel, by decide +kernel⟩
theorem ok_un {f : Addr} {fd : FuncData} (F : Fun K "undone" "undone" sUn f fd) (B : Bi mg) (Z : Bs mg) (cId : Cal CX0 P w K mg base 1 "identity" spId) (cLs : Cal CX0 P w K mg base 1 "less" spLs) (cIv : Cal CX0 P w K mg base 1 "inverse_of" spIv) : FnOk P w K mg base CX0 2 f fd ["modulus", "matrix"] spUn := by
  refine F.ok scUn (fun vs H Q E h => ?_) (fun cdv A outer s H vs Q E hr h => ?_)
  · obtain ⟨m, a, n, A, rfl, _⟩ := h
    rfl
  · obtain ⟨m, a, n, M, rfl, mo, ha, dA, bA, n1, n5, q1, q2⟩ := h
    refine ⟨_, pss_cons (ps_set (i := 2) scUn.nd rfl (Or.inr rfl) (pe_len B.len (pa_cons (pv 1) pa_nil)))
      (pss_cons (ps_setLc (i := 3) (own := [("row", 4), ("beside", 5)]) rfl scUn.nd rfl rfl (sw_true rfl rfl rfl (by decide +kernel)) (ZM.pi_zipM false true Z.zip (pa_cons (pv 1) (pa_cons (pe_c cId hr pass0 (pa_cons (pv 2) pa_nil)) pa_nil))) (blkOk_by (N := NUn) (sc := defScope sUn) (by decide +kernel)) (fun _ _ _ _ _ => (pg_pairK K rfl rfl (pg_name (i := 4) scUn.nd rfl (Or.inl rfl) (.inr rfl)) (pg_name (i := 5) scUn.nd rfl (Or.inl rfl) (.inr rfl)))) (fun _ _ _ _ _ => pts_nil) (fun _ _ _ _ _ => (pe_op op_catK (pe_lc (own := [("number", 6)]) rfl scUn.nd (pi_sqAK K rfl (pv 4)) (blkOk_by (N := NUn) (by kernel_rfl)) (fun _ _ _ _ _ => (pg_name (i := 6) scUn.nd rfl (Or.inl rfl))) (fun _ _ _ _ _ => pts_nil) (fun _ _ _ _ _ => (pe_op op_mod (pv 6) (pv 0)))) (pe_callTy (call_list_ofK K rfl) rfl B.list (by decide +kernel) (pa_cons (pv 5) pa_nil)))))
      (pss_cons (ps_for PassesOwn.never rfl (pi_range1 rfl B.range (pa_cons (pv 2) pa_nil)) (pg_name (i := 7) scUn.nd rfl (Or.inl rfl))
        (pss_cons (ps_for PassesOwn.never rfl (pi_range2 rfl B.range (pa_cons (pe_op op_add (pv 7) pe_int) (pa_cons (pv 2) pa_nil))) (pg_name (i := 8) scUn.nd rfl (Or.inl rfl))
          (pss_one (ps_while PassesOwn.never (pt_truth (pe_ix ix_list (pe_ix ix_list (pv 3) (pv 8) (fun _ _ => rfl)) (pv 7) (fun _ _ => rfl)) (by intro _; rfl)) (pss_cons (ps_set (i := 9) scUn.nd rfl (Or.inl rfl) (pe_op op_fdivW (pe_ix ix_list (pe_ix ix_list (pv 3) (pv 7) (fun _ _ => rfl)) (pv 7) (fun _ _ => rfl)) (pe_ix ix_list (pe_ix ix_list (pv 3) (pv 8) (fun _ _ => rfl)) (pv 7) (fun _ _ => rfl))))
            (pss_one (ps_asg (pe_tup (pa_cons (pe_ix ix_list (pv 3) (pv 8) (fun _ _ => rfl)) (pa_cons (pe_c cLs hr pass0 (pa_cons (pv 0) (pa_cons (pe_ix ix_list (pv 3) (pv 7) (fun _ _ => rfl)) (pa_cons (pv 9) (pa_cons (pe_ix ix_list (pv 3) (pv 8) (fun _ _ => rfl)) pa_nil))))) pa_nil))) (pg_tup rfl (pgs_cons (pg_sub (pv 3) (pv 7) set_list) (pgs_cons (pg_sub (pv 3) (pv 8) set_list) pgs_nil)))))))))
        (pss_cons (ps_set (i := 10) scUn.nd rfl (Or.inr rfl) (pe_c cIv hr pass0 (pa_cons (pv 0) (pa_cons (pe_ix ix_list (pe_ix ix_list (pv 3) (pv 7) (fun _ _ => rfl)) (pv 7) (fun _ _ => rfl)) pa_nil))))
        (pss_cons (ps_if (pt_cmpR op_isN (pv 10) pe_non (nomark _)) (pss_one (ps_ret pe_non)) pss_nil)
        (pss_cons (ps_asg (pe_lc (own := [("number", 6)]) rfl scUn.nd (pi_sqA (pe_ix ix_list (pv 3) (pv 7) (fun _ _ => rfl))) (blkOk_by (N := NUn) (sc := defScope sUn) (by decide +kernel)) (fun _ _ _ _ _ => (pg_name (i := 6) scUn.nd rfl (Or.inl rfl))) (fun _ _ _ _ _ => pts_nil) (fun _ _ _ _ _ => (pe_op op_mod (pe_op op_mulW (pv 6) (pv 10)) (pv 0)))) (pg_sub (pv 3) (pv 7) set_list))
        (pss_one (ps_for PassesOwn.never rfl (pi_range1 rfl B.range (pa_cons (pv 2) pa_nil)) (pg_name (i := 8) scUn.nd rfl (Or.inl rfl))
          (pss_one (ps_if (pt_cmpR op_ne (pv 8) (pv 7) (nomark _)) (pss_one (ps_asg (pe_c cLs hr pass0 (pa_cons (pv 0) (pa_cons (pe_ix ix_list (pv 3) (pv 8) (fun _ _ => rfl)) (pa_cons (pe_ix ix_list (pe_ix ix_list (pv 3) (pv 8) (fun _ _ => rfl)) (pv 7) (fun _ _ => rfl)) (pa_cons (pe_ix ix_list (pv 3) (pv 7) (fun _ _ => rfl)) pa_nil))))) (pg_sub (pv 3) (pv 8) set_list))) pss_nil)))))))))
      (pss_one (ps_ret (pe_tupleOf rfl B.tuple (pe_lc (own := [("row", 4)]) rfl scUn.nd (pi_sqA (pv 3)) (blkOk_by (N := NUn) (sc := defScope sUn) (by decide +kernel)) (fun _ _ _ _ _ => (pg_name (i := 4) scUn.nd rfl (Or.inl rfl))) (fun _ _ _ _ _ => pts_nil) (fun _ _ _ _ _ => (pe_tupleOfK K rfl rfl B.tuple (pe_slice (sl_listK K rfl) (pv 4) (po_some (pv 2)) po_none))))))))), ?_⟩
    have m2 := mo.two
    obtain ⟨vA, hA, lA, rA⟩ := ha
    rw [dA.len] at lA rA
    refine ⟨_, rfl, a, vA, rfl, .inl (SqL.of hA), ?_⟩
    rw [lA]
    refine gN ?_
    dsimp only
    refine ⟨_, rfl, _, rfl, n, rfl, by omega, fun I1 H1 e1 nI hI => ?_⟩
    obtain ⟨vI, hI', lI, rI⟩ := hI.row
    rw [id_dm.len] at lI rI
    refine ⟨a, I1, vA, vI, rfl, SqL.of (e1 _ _ hA), SqT.of hI', fun L nL => lcO (ZM.walk_zipM (n := n) (by rw [lA, lI, Nat.min_self])) (fun i v H' => ∃ r, r ≠ L ∧ v = .ref r ∧ H' r = some (.lst (iV (rw_ (w0_ m n M) i)))) (fun i v Ha Hb xs hD kp ⟨r, nr, e, h⟩ => ⟨r, nr, e, kp _ _ nr h⟩) (by omega) nL (fun H' e => ⟨SqL.of (e _ _ (e1 _ _ hA)), SqT.of (e _ _ hI')⟩) ?_ ?_⟩
    · rintro i x H2 H3 N' hi e2 ⟨xsL, hLx⟩ ⟨T0, y, z, rfl, nT0, rfl, hy, hz⟩ fin
      obtain ⟨ra, hra, gra⟩ := rA i hi
      obtain ⟨ri, hri, gri⟩ := rI i hi
      have hy' := Option.some.inj (hy.symm.trans hra)
      have hz' := Option.some.inj (hz.symm.trans hri)
      subst hy' hz'
      refine ⟨T0, _, rfl, SqT.of upd_same, rfl, _, _, rfl, _, _, rfl, rfl, rfl, ?_⟩
      have eT := same_new (o := .tup [.ref ra, .ref ri]) nT0
      generalize upd H2 T0 (.tup [.ref ra, .ref ri]) = H3 at eT ⊢
      have gra3 := eT _ _ (e2 _ _ (e1 _ _ gra))
      have gri3 := eT _ _ (e2 _ _ gri)
      refine ⟨_, rfl, ra, _, rfl, .inl (SqL.of gra3), fun J G wk hG D2 nD2 => lcM wk (fun c => .int (ent M i c % m)) (by rw [iV_len, dA.row i hi]; omega) nD2 (fun H' e => hG H' fun o z => e _ _ z) ?_ ?_⟩
      · rintro c v H4 H5 N2 hc e4 ⟨rfl, hv⟩ fin2
        obtain ⟨i1, rfl⟩ := iV_get hv
        exact ⟨rfl, _, rfl, _, rfl, _, _, rfl, rfl, by omega, fin2 _ (Same.refl _)⟩
      · intro H4 e4 hD2
        rw [iV_len, dA.row i hi, range_iV] at hD2
        refine ⟨_, rfl, ri, _, rfl, .inr (SqT.of (e4 _ _ gri3)), fun l2 nl2 => ?_⟩
        have e5 := same_new (o := .lst (iV (rw_ (idM n) i))) nl2
        have h2 : upd H4 l2 (.lst (iV (rw_ (idM n) i))) l2 = some (.lst (iV (rw_ (idM n) i))) := upd_same
        generalize upd H4 l2 (.lst (iV (rw_ (idM n) i))) = H5 at e5 h2 ⊢
        refine ⟨D2, l2, _, _, rfl, rfl, e5 _ _ hD2, h2, ?_, fun D3 nD3 => ?_⟩
        · rw [iV_len, iV_len, List.length_map, List.length_range, id_dm.row i hi]
          exact Nat.le_of_lt (small10 (by omega))
        have el : iV ((List.range n).map fun c => ent M i c % m) ++ iV (rw_ (idM n) i) = iV (rw_ (w0_ m n M) i) := by
          have l1 : ((List.range n).map fun c => ent M i c % m).length = n := by rw [List.length_map, List.length_range]
          have l2 : (rw_ (idM n) i).length = n := id_dm.row i hi
          have l3 : (rw_ (w0_ m n M) i).length = 2 * n := mk_dm.row i hi
          rw [show iV ((List.range n).map fun c => ent M i c % m) ++ iV (rw_ (idM n) i) = iV (((List.range n).map fun c => ent M i c % m) ++ rw_ (idM n) i) from List.map_append.symm]
          refine congrArg iV (at_ext (by rw [List.length_append, l1, l2, l3]; omega) fun c hc => ?_)
          rw [List.length_append, l1, l2] at hc
          have e3 : at_ (rw_ (w0_ m n M) i) c = if c < n then ent M i c % m else dl i (c - n) := by
            show ent (w0_ m n M) i c = _
            unfold w0_
            exact mk_ent hi (by omega)
          rw [e3]
          by_cases d : c < n
          · rw [if_pos d]
            unfold at_
            rw [List.getD_eq_getElem?_getD, List.getElem?_append_left (by rw [l1]; exact d), ← List.getD_eq_getElem?_getD]
            exact at_range d
          · rw [if_neg d]
            unfold at_
            rw [List.getD_eq_getElem?_getD, List.getElem?_append_right (by rw [l1]; omega), l1, ← List.getD_eq_getElem?_getD]
            exact id_ent hi (by omega)
        rw [el]
        exact fin _ _ (eT.trans (e4.trans (e5.trans (same_new nD3)))) ⟨D3, fun z => (by
          have := (eT.trans (e4.trans e5)) _ _ hLx
          rw [z, this] at nD3
          cases nD3), rfl, upd_same⟩
    · intro vs H2 e2 lvs rvs hL
      refine gN ?_
      dsimp only
      have e12 := e1.trans e2
      have nL0 : H L = none := old_none_ e1 nL
      have D0 : Hd L H2 H2 n vs (w0_ m n M) := ⟨hL, lvs, fun i hi => by
        obtain ⟨r, nr, e, hr⟩ := rvs i _ (List.getElem?_eq_getElem (show i < vs.length by omega))
        exact ⟨r, by rw [List.getElem?_eq_getElem (by omega), e], nr, hr⟩, .refl⟩
      have U0 : UI m n M 0 1 (w0_ m n M) := UI.start mo
      clear hI hI' lI rI nI rvs hL lvs
      refine ⟨_, rfl, ((n : Nat) : Int), rfl, by omega, by omega, ?_⟩
      rw [Int.toNat_natCast]
      refine for_range (D := { nx := _, rt := Q, bk := fun _ _ => False, ct := fun _ _ => False }) (n := n) (fun j σ H' => ∃ (o7 o8 o9 o10 : Option V) (vs : List V) (W : List (List Int)), σ = [some (.int m), some (.ref a), some (.int ((n : Nat) : Int)), some (.ref L), none, none, none, o7, o8, o9, o10] ∧ Hd L H2 H' n vs W ∧ UI m n M j (j + 1) W) ⟨none, none, none, none, vs, _, rfl, D0, U0⟩ ?_ ?_
      · clear D0 U0
        rintro j σ H3 hj ⟨o7, o8, o9, o10, vs, W, rfl, D3, U3⟩
        refine gN ?_
        rw [Int.zero_add]
        dsimp only
        refine cutSeq (R := fun σ' H' => ∃ (o8 o9 : Option V) (vs : List V) (W : List (List Int)), σ' = [some (.int m), some (.ref a), some (.int ((n : Nat) : Int)), some (.ref L), none, none, none, some (.int ((j : Nat) : Int)), o8, o9, o10] ∧ Hd L H2 H' n vs W ∧ UI m n M j n W) (fun nx hnx => ?_) ?_
        · refine ⟨_, rfl, _, _, rfl, rfl, _, rfl, _, _, rfl, ⟨by omega, by omega, by omega, by omega⟩, ?_⟩
          rw [show (((n : Nat) : Int) - (((j : Nat) : Int) + 1)).toNat = n - (j + 1) by omega]
          refine for_range (D := { nx := _, rt := _, bk := _, ct := _ }) (n := n - (j + 1)) (fun i σ H' => ∃ (o8 o9 : Option V) (vs : List V) (W : List (List Int)), σ = [some (.int m), some (.ref a), some (.int ((n : Nat) : Int)), some (.ref L), none, none, none, some (.int ((j : Nat) : Int)), o8, o9, o10] ∧ Hd L H2 H' n vs W ∧ UI m n M j (j + 1 + i) W) ⟨_, _, vs, W, rfl, D3, U3⟩ ?_ ?_
          · clear D3 U3
            rintro i σ H4 hi ⟨o8, o9, vs, W, rfl, D4, U4⟩
            refine gN ?_
            obtain ⟨l, el⟩ : ∃ l, l = j + 1 + i := ⟨_, rfl⟩
            rw [show (((j : Nat) : Int) + 1) + ((i : Nat) : Int) = ((l : Nat) : Int) by omega]
            rw [← el] at U4
            rw [show j + 1 + (i + 1) = l + 1 by omega]
            have jl : j < l := by omega
            have hl : l < n := by omega
            dsimp only
            obtain ⟨Wh, hW⟩ : ∃ Wh : Nat → St → Hp → Prop, Wh = fun mm σ H' => ∃ (o9 : Option V) (vs : List V) (W : List (List Int)), σ = [some (.int m), some (.ref a), some (.int ((n : Nat) : Int)), some (.ref L), none, none, none, some (.int ((j : Nat) : Int)), some (.int ((l : Nat) : Int)), o9, o10] ∧ Hd L H2 H' n vs W ∧ UI m n M j l W ∧ mm = (ent W l j).toNat := ⟨_, rfl⟩
            refine ⟨Wh, ⟨(ent W l j).toNat, by rw [hW]; exact ⟨o9, vs, W, rfl, D4, U4, rfl⟩⟩, ?_⟩
            clear D4 U4
            intro mm σ H5 w5
            have w5' := w5
            rw [hW] at w5'
            obtain ⟨o9, vs, W, rfl, D5, U5, em⟩ := w5'
            refine ent_te (x := l) (y := j) rfl rfl rfl D5 U5.dm hl (by omega) ⟨_, rfl, ?_⟩
            have e0 := U5.rd l j
            have e1 := U5.rd j j
            have mp := pow_le mo
            by_cases c : ent W l j = 0
            · rw [show (ent W l j != 0) = false by rw [c]; rfl]
              refine iteF ?_
              exact ⟨_, o9, vs, W, rfl, D5, U5.next c⟩
            · rw [show (ent W l j != 0) = true by rw [bne_iff_ne]; exact c]
              refine iteT ⟨fun σ' H' => ∃ m', m' < mm ∧ Wh m' σ' H', fun σ' H' z => z, ?_⟩
              refine ent_te (x := j) (y := j) rfl rfl rfl D5 U5.dm hj (by omega) ?_
              refine ent_te (x := l) (y := j) rfl rfl rfl D5 U5.dm hl (by omega) ?_
              refine ⟨_, _, rfl, rfl, wide_div (b := 60) (by omega) (by omega) (by decide) (by decide), ?_⟩
              refine gN ?_
              dsimp only
              have tb : (ent W j j / ent W l j).natAbs < 2 ^ 200 := by
                have h1 := Int.ediv_le_self (ent W l j) e1.1
                have h2 : 0 ≤ ent W j j / ent W l j := Int.ediv_nonneg e1.1 e0.1
                omega
              refine row_te (x := l) rfl rfl D5 hl fun r nr hr gr => ?_
              refine ⟨_, rfl, ?_⟩
              refine row_te (x := j) rfl rfl D5 hj fun r2 nr2 hr2 gr2 => ?_
              refine ⟨_, rfl, ?_⟩
              refine row_te (x := l) rfl rfl D5 hl fun r3 nr3 hr3 gr3 => ?_
              obtain rfl : r = r3 := by rw [hr] at hr3; injection hr3 with z; injection z
              refine ⟨m, ent W j j / ent W l j, r2, r, rw_ W j, rw_ W l, rfl, mo, gr2, gr, by rw [U5.dm.row j hj, U5.dm.row l hl], by rw [U5.dm.row j hj]; omega, fun c => ?_, tb, fun D H6 e6 nD hD => ?_⟩
              · have := U5.rd l c
                show (ent W l c).natAbs < _
                omega
              have D6 := D5.same e6
              have nDL : D ≠ L := fun z => by rw [z, D5.h] at nD; cases nD
              refine ⟨by show 2 ≤ sizeLine; decide, fun tp ntp => ⟨tp, _, rfl, SqT.of upd_same, rfl, _, _, rfl, ?_⟩⟩
              have e7 := same_new (o := .tup [.ref r, .ref D]) ntp
              have D7 := D6.same e7
              have hD7 := e7 _ _ hD
              have gr7 := e7 _ _ (e6 _ _ gr)
              generalize upd H6 tp (.tup [.ref r, .ref D]) = H7 at e7 D7 hD7 gr7 ⊢
              refine ⟨_, rfl, _, rfl, L, _, _, j, rfl, rfl, D7.h, ixn (by rw [D7.len]; exact hj), ?_⟩
              have D8 := D7.set hj U5.len nr gr7
              have hD8 : upd H7 L (.lst (vs.set j (.ref r))) D = some (.lst (iV (ls_ m (rw_ W j) (ent W j j / ent W l j) (rw_ W l)))) := (upd_ne nDL).trans hD7
              generalize upd H7 L (.lst (vs.set j (.ref r))) = H8 at D8 hD8 ⊢
              refine ⟨_, _, rfl, _, rfl, _, rfl, L, _, _, l, rfl, rfl, D8.h, ixn (by rw [D8.len]; exact hl), rfl, ?_⟩
              have D9 := D8.set hl (by rw [List.length_set, U5.len]) nDL hD8
              have pos : 0 < ent W l j := by omega
              have ls := stp_less U5 mo jl hl pos
              refine ⟨(ent W j j % ent W l j).toNat, ?_, ?_⟩
              · have h1 := Int.emod_nonneg (ent W j j) (show ent W l j ≠ 0 by omega)
                have h2 := Int.emod_lt_of_pos (ent W j j) pos
                omega
              rw [hW]
              exact ⟨_, _, stp_ m W j l (ent W j j / ent W l j), rfl, D9, U5.step mo jl hl _, by rw [ls]⟩
          · rintro σ H4 ⟨o8, o9, vs, W, rfl, D4, U4⟩
            rw [show j + 1 + (n - (j + 1)) = n by omega] at U4
            exact hnx _ _ ⟨o8, o9, vs, W, rfl, D4, U4⟩
        · rintro σ' H4 ⟨o8, o9, vs, W, rfl, D4, U4⟩
          have p0 := U4.rd j j
          refine ⟨_, rfl, ?_⟩
          refine ent_te (x := j) (y := j) rfl rfl rfl D4 U4.dm hj (by omega) ?_
          refine ⟨m, ent W j j, rfl, mo, p0.1, p0.2, fun y H5 e5 y0 ym hy => ?_, fun no H5 e5 => ?_⟩
          · refine gN ?_
            dsimp only
            refine ⟨_, rfl, rfl, _, rfl, ?_⟩
            rw [decide_eq_false (fun z => nomatch z)]
            refine iteF ?_
            have D5 := D4.same e5
            refine row_te (x := j) rfl rfl D5 hj fun r nr hr gr => ?_
            refine ⟨r, _, rfl, .inl (SqL.of gr), fun J G wk hG D nD => lcM wk (fun c => .int (at_ (rw_ W j) c * y % m)) (by rw [iV_len, U4.dm.row j hj]; omega) nD (fun H' e => hG H' fun o z => e _ _ z) ?_ ?_⟩
            · rintro c v H6 H7 N2 hc e6 ⟨rfl, hv⟩ fin2
              obtain ⟨i1, rfl⟩ := iV_get hv
              have q0 := U4.rd j c
              have mp := pow_le mo
              exact ⟨rfl, _, rfl, _, rfl, _, _, rfl, rfl, wide_mul (a := 60) (b := 60) (show (ent W j c).natAbs < _ by omega) (by omega) (by decide) (by decide) (by decide), _, rfl, _, _, rfl, rfl, by omega, fin2 _ (Same.refl _)⟩
            · intro H6 e6 hD
              rw [iV_len, range_iV] at hD
              have D6 := D5.same e6
              have nDL : D ≠ L := fun z => by rw [z, D5.h] at nD; cases nD
              refine ⟨_, rfl, _, rfl, L, _, _, j, rfl, rfl, D6.h, ixn (by rw [D6.len]; exact hj), ?_⟩
              have D7 := D6.set hj U4.len nDL hD
              have U7 := U4.scale mo hj hy
              generalize upd H6 L (.lst (vs.set j (.ref D))) = H7 at D7 ⊢
              change Hd L H2 H7 n (vs.set j (.ref D)) (W.set j (scl_ m (rw_ W j) y)) at D7
              generalize vs.set j (.ref D) = vs7 at D7
              generalize W.set j (scl_ m (rw_ W j) y) = W7 at D7 U7
              dsimp only
              refine ⟨_, rfl, ((n : Nat) : Int), rfl, by omega, by omega, ?_⟩
              rw [Int.toNat_natCast]
              refine for_range (D := { nx := _, rt := _, bk := _, ct := _ }) (n := n) (fun l σ H' => ∃ (o8 : Option V) (vs : List V) (W : List (List Int)), σ = [some (.int m), some (.ref a), some (.int ((n : Nat) : Int)), some (.ref L), none, none, none, some (.int ((j : Nat) : Int)), o8, o9, some (.int y)] ∧ Hd L H2 H' n vs W ∧ UJ m n M j l W) ⟨o8, vs7, W7, rfl, D7, U7⟩ ?_ ?_
              · clear D7 U7
                rintro l σ H8 hl ⟨o8, vs, W, rfl, D8, U8⟩
                refine gN ?_
                rw [Int.zero_add]
                dsimp only
                refine ⟨_, rfl, _, rfl, rfl, _, rfl, ?_⟩
                by_cases c : l = j
                · subst c
                  rw [decide_eq_true rfl]
                  refine iteF ?_
                  exact ⟨_, vs, W, rfl, D8, U8.skip⟩
                · rw [decide_eq_false (fun z => c (by injection z with z; omega))]
                  refine iteT ?_
                  refine ⟨_, rfl, ?_⟩
                  refine row_te (x := l) rfl rfl D8 hl fun rl nrl hrl grl => ?_
                  refine ent_te (x := l) (y := j) rfl rfl rfl D8 U8.dm hl (by omega) ?_
                  refine row_te (x := j) rfl rfl D8 hj fun rj nrj hrj grj => ?_
                  have mp := pow_le mo
                  refine ⟨m, ent W l j, rl, rj, rw_ W l, rw_ W j, rfl, mo, grl, grj, by rw [U8.dm.row j hj, U8.dm.row l hl], by rw [U8.dm.row l hl]; omega, fun c => ?_, ?_, fun D2 H9 e9 nD2 hD2 => ?_⟩
                  · have := U8.rd j c
                    show (ent W j c).natAbs < _
                    omega
                  · have := U8.rd l j
                    omega
                  · have D9 := D8.same e9
                    have nDL2 : D2 ≠ L := fun z => by rw [z, D8.h] at nD2; cases nD2
                    refine ⟨_, rfl, _, rfl, L, _, _, l, rfl, rfl, D9.h, ixn (by rw [D9.len]; exact hl), ?_⟩
                    exact ⟨_, _, _, rfl, D9.set hl U8.len nDL2 hD2, U8.step mo hj hl c⟩
              · rintro σ H8 ⟨o8, vs, W, rfl, D8, U8⟩
                exact ⟨_, o8, o9, _, vs, W, rfl, D8, U8.done⟩
          · refine gN ?_
            dsimp only
            have Hs : Same H H5 := fun b o z => e5 _ _ (D4.bt b o (ne_of_none z nL0) (e12 _ _ z))
            refine ⟨_, rfl, rfl, _, rfl, ?_⟩
            rw [decide_eq_true rfl]
            exact iteT (q2 H5 Hs (U4.none hj no))
      · rintro σ H3 ⟨o7, o8, o9, o10, vs, W, rfl, D3, U3⟩
        obtain ⟨f1, f2, f3⟩ := U3.fin mo
        have Hs : Same H H3 := fun b o z => D3.bt b o (ne_of_none z nL0) (e12 _ _ z)
        dsimp only
        refine ⟨_, rfl, L, _, rfl, .inl (SqL.of D3.h), fun J G wk hG D nD => lcO wk (fun i v H' => ∃ t, v = .ref t ∧ H' t = some (.tup (iV ((List.range n).map fun c => ent W i (n + c))))) (fun j v Ha Hb xs hD kp ⟨t, e, h⟩ => ⟨t, e, kp _ _ (ne_of h hD fun y => nomatch y) h⟩) (by rw [D3.len]; omega) nD (fun H' e => hG H' fun o z => e _ _ z) ?_ ?_⟩
        · rintro i x H4 H5 N2 hi e4 _ ⟨rfl, hx⟩ fin
          rw [D3.len] at hi
          obtain ⟨r, hr, nr, gr⟩ := D3.row i hi
          have hx' := Option.some.inj (hx.symm.trans hr)
          subst hx'
          refine ⟨rfl, _, rfl, _, rfl, _, rfl, ?_⟩
          simp only [tNoPart]
          refine ⟨r, _, rfl, SqL.of (e4 _ _ gr), fun D2 nD2 => ?_⟩
          rw [cut_from (by rw [iV_len, U3.dm.row i hi]; omega)]
          have e5 := same_new (o := .lst ((iV (rw_ W i)).drop n)) nD2
          refine .inl ⟨D2, _, rfl, SqL.of upd_same, fun t nt => ?_⟩
          have el : (iV (rw_ W i)).drop n = iV ((List.range n).map fun c => ent W i (n + c)) := by
            unfold iV
            rw [← List.map_drop]
            refine congrArg _ (at_ext ?_ fun c hc => ?_)
            · rw [List.length_drop, U3.dm.row i hi, List.length_map, List.length_range]
              omega
            · rw [List.length_drop, U3.dm.row i hi] at hc
              rw [at_range (by omega)]
              unfold at_ ent at_
              rw [List.getD_eq_getElem?_getD, List.getD_eq_getElem?_getD, List.getElem?_drop]
          rw [el] at nt e5 ⊢
          exact fin _ _ (e5.trans (same_new nt)) ⟨t, rfl, upd_same⟩
        · intro acc H4 e4 lacc racc hD
          rw [D3.len] at lacc
          refine .inl ⟨D, _, rfl, SqL.of hD, fun t nt => ?_⟩
          have es := same_new (o := .tup acc) nt
          obtain ⟨as, eas, ras⟩ := mt_of (r := n) (c := n) (f := fun i c => ent W i (n + c)) lacc racc
          exact q1 t (rh_ n W) _ (Hs.trans (e4.trans es)) (old_none_ (Hs.trans e4) nt) ⟨as, by rw [upd_same, eas], ras.same es⟩ mk_dm f1 f2 f3
end
end K50
set_option Elab.async false
set_option linter.all false
set_option maxRecDepth 100001
set_option maxHeartbeats 3999999
namespace K50
open PySem L2
/-- what is handed in of any kind, as data -/
inductive Odd (H : Hp) : V → PyData → Prop
  | flat {v : V} (h : Flat v) : Odd H v (dOf v)
  | tup {a : Addr} {x : V} (e : H a = some (.tup [x])) (f : Flat x) : Odd H (.ref a) (.tuple [dOf x])
  | lst {a : Addr} {xs : List V} (e : H a = some (.lst xs)) (f : ∀ v ∈ xs, Flat v) (l : xs.length ≤ 1000) : Odd H (.ref a) (.list (xs.map dOf))
theorem Odd.kn {H : Hp} {v : V} {d : PyData} (o : Odd H v d) : Kn H v := by
  cases o with
  | flat h => exact kn_flat h
  | tup e f => exact .tup e
  | lst e f l => exact .lst e
theorem Odd.same {H H' : Hp} {v : V} {d : PyData} (o : Odd H v d) (s : Same H H') : Odd H' v d := by
  cases o with
  | flat h => exact .flat h
  | tup e f => exact .tup (s _ _ e) f
  | lst e f l => exact .lst (s _ _ e) f l
theorem Odd.dp {K : PySem.W.Frag} {H : Hp} {v : V} {d : PyData} (o : Odd H v d) : Dp K H v d := by
  cases o with
  | flat h => exact dp_flat h
  | tup e f => exact .tup (SqT.of e) (.cons (dp_flat f) .nil)
  | lst e f l => exact .lst (SqL.of e) (dpAll_flat f)
def spCopy2 : Sp := fun vs H Q _ => ∃ v d, vs = [v] ∧ Odd H v d ∧ ∀ v' H', Same H H' → Odd H' v' d → Q v' H'
section
variable {P : Program} {w : World} {K : PySem.W.Frag} {mg : Str → Option Value} {base : Heap}
theorem ok_copy2 {f : Addr} {fd : FuncData} (F : Fun K "copied" "copied" sCopied f fd) (B : Bi mg) (c1 : Cal CX0 P w K mg base 1 "copied" spCopied) : FnOk P w K mg base CX0 2 f fd ["value"] spCopy2 := by
  refine F.ok scCopied (fun vs H Q E h => ?_) (fun cdv A outer s H vs Q E hr h => ?_)
  · obtain ⟨v, d, rfl, _⟩ := h
    rfl
  · obtain ⟨v, d, rfl, od, q⟩ := h
    refine ⟨_, pss_cons (ps_if (pt_val (pe_isi B.isi (pa_cons (pv 0) (pa_cons (pe_ty "list" B.list) pa_nil)))) (pss_one (ps_ret (pe_lc (own := [("part", 1)]) rfl scCopied.nd (pi_sqA (pv 0)) (blkOk_by (N := ["value", "part", "key"]) (sc := defScope sCopied) (by decide +kernel))
          (fun _ _ _ _ _ => pg_name (i := 1) scCopied.nd rfl (Or.inl rfl)) (fun _ _ _ _ _ => pts_nil) (fun _ _ _ _ _ => pe_c c1 hr pass0 (pa_cons (pv 1) pa_nil))))) pss_nil)
      (pss_cons (ps_if (pt_val (pe_isi B.isi (pa_cons (pv 0) (pa_cons (pe_ty "tuple" B.tuple) pa_nil)))) (pss_one (ps_ret (pe_tupleOf rfl B.tuple (pe_lc (own := [("part", 1)]) rfl scCopied.nd (pi_sqA (pv 0)) (blkOk_by (N := ["value", "part", "key"]) (sc := defScope sCopied) (by decide +kernel))
          (fun _ _ _ _ _ => pg_name (i := 1) scCopied.nd rfl (Or.inl rfl)) (fun _ _ _ _ _ => pts_nil) (fun _ _ _ _ _ => pe_c c1 hr pass0 (pa_cons (pv 1) pa_nil)))))) pss_nil)
      (pss_cons (ps_if (pt_val (pe_isi B.isi (pa_cons (pv 0) (pa_cons (pe_ty "dict" B.dict) pa_nil)))) pss_never pss_nil) (pss_one (ps_ret (pv 0))))), ?_⟩
    obtain ⟨t, ty, _, _, k3, k4, k5⟩ := od.kn.kinds K
    cases od with
    | flat fl =>
      have f3 : isT H v = false := by cases v <;> first | rfl | exact fl.elim
      have f4 : isL H v = false := by cases v <;> first | rfl | exact fl.elim
      rw [f3] at k3
      rw [f4] at k4
      exact ⟨v, rfl, v, _, _, _, _, rfl, .ty "list", ty, k4, _, rfl, iteF ⟨v, rfl, v, _, _, _, _, rfl, .ty "tuple", ty, k3, _, rfl, iteF ⟨v, rfl, v, _, _, _, _, rfl, .ty "dict", ty, k5, _, rfl, iteF ⟨v, rfl, q v H (Same.refl H) (.flat fl)⟩⟩⟩⟩
    | @lst a xs e fx ll =>
      rw [isL_lst e] at k4
      refine ⟨_, rfl, _, _, _, _, _, rfl, .ty "list", ty, k4, _, rfl, iteT ?_⟩
      refine ⟨_, rfl, a, _, rfl, .inl (SqL.of e), fun J G wk hG D nD => lc_it wk (fun j H' => Same H H' ∧ H' D = some (.lst (xs.take j))) ⟨same_new nD, upd_same⟩ (fun j H' _ z => hG H' fun o w => z.1 _ _ w) ?_ ?_⟩
      · rintro j y H1 H2 hj ⟨e1, hD⟩ ⟨rfl, hy⟩
        refine ⟨rfl, ?_⟩
        unfold tYes
        refine iteT ⟨_, rfl, _, rfl, fx y (List.mem_of_getElem? hy), _, hD, by rw [List.length_take]; exact small10 (by omega), fun b o z => ?_, ?_⟩
        · rw [upd_ne (ne_of_none z nD)]
          exact e1 _ _ z
        · rw [upd_same, List.take_add_one, hy]
          rfl
      · rintro H1 ⟨e1, hD⟩
        rw [List.take_length] at hD
        exact q _ H1 e1 (.lst hD fx ll)
    | @tup a x e fx =>
      rw [isL_tup e] at k4
      rw [isT_tup e] at k3
      refine ⟨_, rfl, _, _, _, _, _, rfl, .ty "list", ty, k4, _, rfl, iteF ⟨_, rfl, _, _, _, _, _, rfl, .ty "tuple", ty, k3, _, rfl, iteT ?_⟩⟩
      refine ⟨_, rfl, a, _, rfl, .inr (SqT.of e), fun J G wk hG D nD => lc_it wk (fun j H' => Same H H' ∧ H' D = some (.lst ([x].take j))) ⟨same_new nD, upd_same⟩ (fun j H' _ z => hG H' fun o w => z.1 _ _ w) ?_ ?_⟩
      · rintro j y H1 H2 hj ⟨e1, hD⟩ ⟨rfl, hy⟩
        have j0 : j = 0 := by simpa using hj
        subst j0
        cases hy
        refine ⟨rfl, ?_⟩
        unfold tYes
        refine iteT ⟨_, rfl, _, rfl, fx, _, hD, by show 0 < sizeLine; decide, fun b o z => ?_, upd_same⟩
        rw [upd_ne (ne_of_none z nD)]
        exact e1 _ _ z
      · rintro H1 ⟨e1, hD⟩
        exact .inl ⟨D, _, rfl, SqL.of hD, fun t nt => q _ _ (e1.trans (same_new nt)) (.tup upd_same fx)⟩
/-! ### the errors -/
/-- self.f = copied(v), of an exception that has no field yet -/
def spXO (K : PySem.W.Frag) (f : Str) : Sp := fun vs H Q _ => ∃ (a C : Addr) (v : V) (d : PyData), vs = [.ref a, v] ∧ OexC K C ∧ PySem.W.findIn K (.ref C) f = some none ∧ Odd H v d ∧ H a = some (exo a C none) ∧
  ∀ v' H1 dx, Same H H1 → Odd H1 v' d → H1 dx = none → dx ≠ a → Q .non (upd (upd H1 dx (exd dx [(f, v')])) a (exo a C (some dx)))
end
/-! ### what a raise leaves -/
/-- behind a raise: all that was there, and the error's field at d -/
structure RsO (H H' : Hp) (d : Addr) (f : Str) (dd : PyData) : Prop where
  new : H d = none
  same : Same H H'
  at_ : ∃ v', H' d = some (.xd [(f, v')]) ∧ Odd H' v' dd
theorem raiseO {H : Hp} {C : Addr} {f : Str} {v : V} {dd : PyData} {R : XK} {K : PySem.W.Frag} (T : OexC K C) (no : PySem.W.findIn K (.ref C) f = some none) (od : Odd H v dd) (r : ∀ d H', RsO H H' d f dd → R (.ref C) (some d) H') :
    ([v] : List V).length ≤ 1000 ∧ ∀ a, H a = none → spXO K f (.ref a :: ([v] ++ [])) (upd H a (exo a C none)) (fun u H2 => u = .non ∧ ∃ (d : Addr) (fs : List (Str × V)), H2 a = some (exo a C (some d)) ∧ H2 d = some (exd d fs) ∧ H d = none ∧ R (.ref C) (some d) (upd (del H2 a) d (.xd fs))) (fun _ _ _ => False) := by
  refine ⟨by show 1 ≤ 1000; decide, fun a na => ⟨a, C, v, dd, rfl, T, no, od.same (same_new na), upd_same, fun v' H1 dx e1 o1 nd ne => ⟨rfl, dx, [(f, v')], upd_same, by rw [upd_ne ne]; exact upd_same, ?_, r _ _ ?_⟩⟩⟩
  · cases z : H dx with
    | none => rfl
    | some o =>
      rw [e1 _ _ (same_new na _ _ z)] at nd
      cases nd
  · have hne : ∀ b o, H1 b = some o → b ≠ dx := fun b o e => ne_of_none e nd
    have h1a : H1 a = some (exo a C none) := e1 _ _ upd_same
    have keep : ∀ b o, b ≠ a → H1 b = some o → upd (del (upd (upd H1 dx (exd dx [(f, v')])) a (exo a C (some dx))) a) dx (.xd [(f, v')]) b = some o := fun b o h1 h2 => by
      rw [upd_ne (hne b o h2), del_ne h1, upd_ne h1, upd_ne (hne b o h2)]
      exact h2
    refine ⟨?_, fun b o e => ?_, v', upd_same, ?_⟩
    · cases z : H dx with
      | none => rfl
      | some o =>
        rw [e1 _ _ (same_new na _ _ z)] at nd
        cases nd
    · have ba := ne_of_none e na
      exact keep b o ba (e1 _ _ ((upd_ne ba).trans e))
    · cases o1 with
      | flat h => exact .flat h
      | tup e f => exact .tup (keep _ _ (ne_of e h1a fun z => by unfold exo at z; cases z) e) f
      | lst e f l => exact .lst (keep _ _ (ne_of e h1a fun z => by unfold exo at z; cases z) e) f l
end K50
set_option Elab.async false
set_option linter.all false
set_option maxRecDepth 100001
set_option maxHeartbeats 3999999
namespace K50
open PySem L2

abbrev sFrz : Stmt := topS 7
/-! ### known values and objects -/
structure ObC (K : PySem.W.Frag) (C : Addr) : Prop where
  cl : Cls K C
  cc : PySem.W.findIn K (.ref C) "__class__" = some (some (.builtin "object.__class__"))
  mr : PySem.W.mroIn K C (.type "object") = some true
  kI : PySem.W.kitOne K (.ref C) (.type "int") = some false
  kB : PySem.W.kitOne K (.ref C) (.type "bool") = some false
  kT : PySem.W.kitOne K (.ref C) (.type "tuple") = some false
  kL : PySem.W.kitOne K (.ref C) (.type "list") = some false
  kD : PySem.W.kitOne K (.ref C) (.type "dict") = some false
structure ObK (K : PySem.W.Frag) : Prop where
  gg : PySem.W.specialIn K (.builtin "object.__class__") "__get__" = some (some (.builtin "getset_descriptor.__get__"))
  tk : PySem.W.takesIn K (.builtin "object.__class__") = some true
inductive Kv (K : PySem.W.Frag) (H : Hp) : V → Prop where
  | kn {v : V} (k : Kn H v) : Kv K H v
  | ob {p C dx : Addr} {fs : List (Str × V)} (h : H p = some (.ins C dx fs)) (O : ObC K C) (U : ObK K) : Kv K H (.ref p)
theorem isT_ins {H : Hp} {p C dx : Addr} {fs : List (Str × V)} (e : H p = some (.ins C dx fs)) : isT H (.ref p) = false := by simp only [isT, e]
theorem isL_ins {H : Hp} {p C dx : Addr} {fs : List (Str × V)} (e : H p = some (.ins C dx fs)) : isL H (.ref p) = false := by simp only [isL, e]
def KT2 (K : PySem.W.Frag) (t : Value) (bi bb bt bl : Bool) : Prop := PySem.W.kitOne K t (.type "int") = some bi ∧ PySem.W.kitOne K t (.type "bool") = some bb ∧
    PySem.W.kitOne K t (.type "tuple") = some bt ∧ PySem.W.kitOne K t (.type "list") = some bl ∧ PySem.W.kitOne K t (.type "dict") = some false
section
variable {K : PySem.W.Frag} {H H' : Hp} {v : V}
theorem Kv.kinds (k : Kv K H v) : ∃ t : Value, TyX K H v t ∧ KT2 K t (isI v || isB v) (isB v) (isT H v) (isL H v) := by
  cases k with
  | kn k =>
    obtain ⟨t, ty, k⟩ := k.kinds K
    exact ⟨_, ty, k⟩
  | ob h O U =>
    rw [isT_ins h, isL_ins h]
    exact ⟨_, .base (.ins h O.cl O.cc U.gg U.tk O.mr), O.kI, O.kB, O.kT, O.kL, O.kD⟩
theorem Kv.same (k : Kv K H v) (e : Same H H') : Kv K H' v := by
  cases k with
  | kn k => exact .kn (k.same e)
  | ob h O U => exact .ob (e _ _ h) O U
theorem Kv.isT_same (k : Kv K H v) (e : Same H H') : isT H' v = isT H v := by
  cases k with
  | kn k => cases k with
    | lst h => rw [isT_lst h, isT_lst (e _ _ h)]
    | tup h => rw [isT_tup h, isT_tup (e _ _ h)]
    | _ => rfl
  | ob h O U => rw [isT_ins h, isT_ins (e _ _ h)]
theorem Kv.isL_same (k : Kv K H v) (e : Same H H') : isL H' v = isL H v := by
  cases k with
  | kn k => cases k with
    | lst h => rw [isL_lst h, isL_lst (e _ _ h)]
    | tup h => rw [isL_tup h, isL_tup (e _ _ h)]
    | _ => rfl
  | ob h O U => rw [isL_ins h, isL_ins (e _ _ h)]
theorem Kv.any (k : Kv K H v) : ∃ t : Value, TyX K H v t ∧ PySem.W.kitAny K t [.type "list", .type "tuple"] = some (isLT H v) := by
  obtain ⟨t, ty, _, _, k3, k4, _⟩ := k.kinds
  refine ⟨t, ty, kitAny_cons k4 (fun z => ?_) (fun z => by unfold isLT; rw [z]; rfl)⟩
  refine kitAny_cons k3 (fun z2 => by unfold isLT; rw [z, z2]; rfl) (fun z2 => by unfold isLT; rw [z2, Bool.or_true])
end
/-- what frozen leaves as it is -/
def Lf (K : PySem.W.Frag) (H : Hp) (v : V) : Prop := Kv K H v ∧ isLT H v = false
theorem Lf.same {K : PySem.W.Frag} {H H' : Hp} {v : V} (h : Lf K H v) (e : Same H H') : Lf K H' v := ⟨h.1.same e, by
  have := h.2
  unfold isLT at this ⊢
  rw [h.1.isL_same e, h.1.isT_same e]
  exact this⟩
inductive Fd where
  | lf (v : V)
  | nd (ds : List Fd)
def FIn (K : PySem.W.Frag) : Nat → Hp → V → Fd → Prop
  | 0 => fun H v d => d = .lf v ∧ Lf K H v
  | n + 1 => fun H v d => (d = .lf v ∧ Lf K H v) ∨ ∃ a xs ds, v = .ref a ∧ d = .nd ds ∧ LT H a xs ∧ xs.length ≤ 20000 ∧ Paired (FIn K n H) xs ds
def FOut : Nat → Hp → V → Fd → Prop
  | 0 => fun _ v d => d = .lf v
  | n + 1 => fun H v d => d = .lf v ∨ ∃ a xs ds, v = .ref a ∧ d = .nd ds ∧ H a = some (.tup xs) ∧ Paired (FOut n H) xs ds
theorem FIn.same {K : PySem.W.Frag} {H H' : Hp} (e : Same H H') : ∀ (n : Nat) (v : V) (d : Fd), FIn K n H v d → FIn K n H' v d
  | 0, _, _, ⟨h1, h2⟩ => ⟨h1, h2.same e⟩
  | _ + 1, _, _, .inl ⟨h1, h2⟩ => .inl ⟨h1, h2.same e⟩
  | n + 1, _, _, .inr ⟨a, xs, ds, h1, h2, h3, h4, h5⟩ => .inr ⟨a, xs, ds, h1, h2, h3.same e, h4, Paired.mapP h5 fun v d h => FIn.same e n v d h⟩
theorem FOut.tt {H H' : Hp} (e : TT H H') : ∀ (n : Nat) (v : V) (d : Fd), FOut n H v d → FOut n H' v d
  | 0, _, _, h => h
  | _ + 1, _, _, .inl h => .inl h
  | n + 1, _, _, .inr ⟨a, xs, ds, h1, h2, h3, h4⟩ => .inr ⟨a, xs, ds, h1, h2, e _ _ h3, Paired.mapP h4 fun v d h => FOut.tt e n v d h⟩
def spFz (K : PySem.W.Frag) (n : Nat) : Sp := fun vs H Q _ => ∃ v d, vs = [v] ∧ FIn K n H v d ∧ ∀ v' H', Same H H' → FOut n H' v' d → Q v' H'
def spFzL (K : PySem.W.Frag) : Sp := fun vs H Q _ => ∃ v, vs = [v] ∧ Lf K H v ∧ ∀ H', Same H H' → Q v H'
def spFzN (K : PySem.W.Frag) (n : Nat) : Sp := fun vs H Q _ => ∃ a xs ds, vs = [.ref a] ∧ LT H a xs ∧ xs.length ≤ 20000 ∧ Paired (FIn K n H) xs ds ∧ ∀ t ys H', Same H H' → H' t = some (.tup ys) → Paired (FOut n H') ys ds → Q (.ref t) H'
section
variable {P : Program} {w : World} {K : PySem.W.Frag} {mg : Str → Option Value} {base : Heap}
theorem _root_.L2.FnOk.or {CX : CXT} {k : Nat} {f : Addr} {fd : FuncData} {ps : List Str} {sp1 sp2 : Sp} (F : FnOk P w K mg base CX k f fd ps sp1) (G : FnOk P w K mg base CX k f fd ps sp2) : FnOk P w K mg base CX k f fd ps fun vs H Q E => sp1 vs H Q E ∨ sp2 vs H Q E :=
  ⟨fun vs H Q E h => h.elim (F.len _ _ _ _) (G.len _ _ _ _), fun A o s H a us vs Q E hr he hb hv h => h.elim (F.run A o s H a us vs Q E hr he hb hv) (G.run A o s H a us vs Q E hr he hb hv)⟩
theorem scFrz : FnScope ["value", "part", "key"] ["value"] (defScope sFrz) := ⟨rfl, rfl, rfl, by decide +kernel, rfl, by decide +kernel, by decide +kernel⟩
theorem ok_fzL {f : Addr} {fd : FuncData} (F : Fun K "frozen" "frozen" sFrz f fd) (B : Bi mg) : FnOk P w K mg base CX0 1 f fd ["value"] (spFzL K) := by
  refine F.ok scFrz (fun vs H Q E h => ?_) (fun cdv A outer s H vs Q E hr h => ?_)
  · obtain ⟨v, rfl, _⟩ := h
    rfl
  · obtain ⟨v, rfl, ⟨k, l0⟩, q⟩ := h
    refine ⟨_, pss_cons (ps_if (pt_val (pe_callB call_isiT rfl B.isi PyProof.Rows.boot_isinstance (pa_cons (pv 0) (pa_cons (pe_tup (pa_cons (pe_ty "list" B.list) (pa_cons (pe_ty "tuple" B.tuple) pa_nil))) pa_nil)))) pss_never pss_nil)
      (pss_cons (ps_if (pt_val (pe_isi B.isi (pa_cons (pv 0) (pa_cons (pe_ty "dict" B.dict) pa_nil)))) pss_never pss_nil) (pss_one (ps_ret (pv 0)))), ?_⟩
    refine ⟨_, rfl, by show 2 ≤ sizeLine; decide, fun tp ntp => ?_⟩
    have e := same_new (o := .tup [.ty "list", .ty "tuple"]) ntp
    have htp : upd H tp (.tup [.ty "list", .ty "tuple"]) tp = some (.tup [.ty "list", .ty "tuple"]) := upd_same
    obtain ⟨k1, l1⟩ := (Lf.same ⟨k, l0⟩ e : Lf K _ v)
    generalize upd H tp (.tup [.ty "list", .ty "tuple"]) = H1 at e htp k1 l1 ⊢
    obtain ⟨t, ty, ka⟩ := k1.any
    obtain ⟨t2, ty2, _, _, _, _, k5⟩ := k1.kinds
    rw [l1] at ka
    refine ⟨_, tp, _, t, [.type "list", .type "tuple"], _, rfl, htp, .cons (.ty "list") (.cons (.ty "tuple") .nil), ty, ka, _, rfl, iteF ?_⟩
    exact ⟨_, rfl, _, _, _, _, _, rfl, .ty "dict", ty2, k5, _, rfl, iteF ⟨_, rfl, q _ e⟩⟩
theorem ok_fzN {k n : Nat} {f : Addr} {fd : FuncData} (F : Fun K "frozen" "frozen" sFrz f fd) (B : Bi mg) (c1 : Cal CX0 P w K mg base k "frozen" (spFz K n)) : FnOk P w K mg base CX0 (k + 1) f fd ["value"] (spFzN K n) := by
  refine F.ok scFrz (fun vs H Q E h => ?_) (fun cdv A outer s H vs Q E hr h => ?_)
  · obtain ⟨a, xs, ds, rfl, _⟩ := h
    rfl
  · obtain ⟨a, xs, ds, rfl, ha, len, pr, q⟩ := h
    refine ⟨_, pss_cons (ps_if (pt_val (pe_callB call_isiT rfl B.isi PyProof.Rows.boot_isinstance (pa_cons (pv 0) (pa_cons (pe_tup (pa_cons (pe_ty "list" B.list) (pa_cons (pe_ty "tuple" B.tuple) pa_nil))) pa_nil)))) (pss_one (ps_ret (pe_tupleOf rfl B.tuple (pe_lc (own := [("part", 1)]) rfl scFrz.nd (pi_sqA (pv 0)) (blkOk_by (N := ["value", "part", "key"]) (sc := defScope sFrz) (by decide +kernel))
          (fun _ _ _ _ _ => pg_name (i := 1) scFrz.nd rfl (Or.inl rfl)) (fun _ _ _ _ _ => pts_nil) (fun _ _ _ _ _ => pe_c c1 hr pass0 (pa_cons (pv 1) pa_nil) (Nat.le_refl _)))))) pss_nil)
      (pss_cons (ps_if (pt_val (pe_isi B.isi (pa_cons (pv 0) (pa_cons (pe_ty "dict" B.dict) pa_nil)))) pss_never pss_nil) (pss_one (ps_ret (pv 0)))), ?_⟩
    refine ⟨_, rfl, by show 2 ≤ sizeLine; decide, fun tp ntp => ?_⟩
    have e := same_new (o := .tup [.ty "list", .ty "tuple"]) ntp
    have htp : upd H tp (.tup [.ty "list", .ty "tuple"]) tp = some (.tup [.ty "list", .ty "tuple"]) := upd_same
    generalize upd H tp (.tup [.ty "list", .ty "tuple"]) = H1 at e htp ⊢
    have ha1 := ha.same e
    obtain ⟨t, ty, ka⟩ := ha1.kn.any K
    rw [ha1.is] at ka
    refine ⟨_, tp, _, .type t, [.type "list", .type "tuple"], _, rfl, htp, .cons (.ty "list") (.cons (.ty "tuple") .nil), ty, ka, _, rfl, iteT ?_⟩
    refine ⟨_, rfl, a, _, rfl, ha1.sq, fun J G wk hG D nD => lc_it wk (fun j H' => Same H1 H' ∧ ∃ ys, H' D = some (.lst ys) ∧ Paired (FOut n H') ys (ds.take j)) ⟨same_new nD, [], upd_same, .nil⟩ (fun j H' _ z => hG H' fun o w => z.1 _ _ w) ?_ ?_⟩
    · rintro j y H2 H3 hj ⟨e1, ys, hD, po⟩ ⟨rfl, hy⟩
      obtain ⟨d, hd, hin⟩ := paired_get pr hy
      have ly : ys.length ≤ 20000 := by
        rw [Paired.length po, List.length_take, ← Paired.length pr]
        omega
      refine ⟨rfl, ?_⟩
      unfold tYes
      refine iteT ⟨_, rfl, y, d, rfl, FIn.same (e.trans e1) _ _ _ hin, fun v' H4 e4 o4 => ⟨ys, e4 _ _ hD, Nat.lt_of_le_of_lt ly (by decide), fun b o z => ?_, ys ++ [v'], upd_same, ?_⟩⟩
      · rw [upd_ne (ne_of_none z nD)]
        exact e4 _ _ (e1 _ _ z)
      · have tk : ds.take (j + 1) = ds.take j ++ [d] := by rw [List.take_add_one, hd]; rfl
        rw [tk]
        have h4 := e4 _ _ hD
        exact Paired.snoc (Paired.mapP po fun _ _ h => FOut.tt ((TT.same e4).trans (TT.lst h4)) _ _ _ h) (FOut.tt (TT.lst h4) _ _ _ o4)
    · rintro H2 ⟨e1, ys, hD, po⟩
      rw [Paired.length pr, List.take_length] at po
      exact .inl ⟨D, ys, rfl, SqL.of hD, fun t nt => q _ _ _ ((e.trans e1).trans (same_new nt)) upd_same (Paired.mapP po fun _ _ h => FOut.tt (TT.same (same_new nt)) _ _ _ h)⟩
theorem ok_fz0 {f : Addr} {fd : FuncData} (F : Fun K "frozen" "frozen" sFrz f fd) (B : Bi mg) : FnOk P w K mg base CX0 1 f fd ["value"] (spFz K 0) :=
  (ok_fzL F B).imp fun vs H Q E ⟨v, d, e, ⟨hd, hl⟩, q⟩ => ⟨v, e, hl, fun H' e => q v H' e hd⟩
theorem ok_fzS {k n : Nat} {f : Addr} {fd : FuncData} (F : Fun K "frozen" "frozen" sFrz f fd) (B : Bi mg) (c1 : Cal CX0 P w K mg base k "frozen" (spFz K n)) : FnOk P w K mg base CX0 (k + 1) f fd ["value"] (spFz K (n + 1)) :=
  (((ok_fzL F B).mono (by omega)).or (ok_fzN F B c1)).imp fun vs H Q E ⟨v, d, e, h, q⟩ => by
    rcases h with ⟨hd, hl⟩ | ⟨a, xs, ds, rfl, rfl, h1, h2, h3⟩
    · exact .inl ⟨v, e, hl, fun H' e => q v H' e (.inl hd)⟩
    · exact .inr ⟨a, xs, ds, e, h1, h2, h3, fun t ys H' e ht po => q _ H' e (.inr ⟨t, ys, ds, rfl, rfl, ht, po⟩)⟩
end
end K50
set_option Elab.async false
set_option linter.all false
set_option maxRecDepth 100001
set_option maxHeartbeats 3999999
namespace K50
open PySem L2
open Mx (sm cg dl Sp)
/-! ### lists of numbers -/
abbrev sIsL : Stmt := topS 4
def spIsL : L2.Sp := fun vs H Q _ => ∃ a xs, vs = [.ref a] ∧ LT H a xs ∧ ∀ H', Same H H' → Q (.bl true) H'
abbrev sAN : Stmt := topS 31
abbrev NAN : List Str := ["row", "many", "modulus", "number"]
/-- numbers of 0 to m - 1 -/
def InM (m : Int) (xs : List Int) : Prop := ∀ i, i < xs.length → 0 ≤ at_ xs i ∧ at_ xs i < m
def spAN : L2.Sp := fun vs H Q _ => ∃ (a : Addr) (xs : List Int) (m : Int), vs = [.ref a, .int ((xs.length : Nat) : Int), .int m] ∧ LT H a (iV xs) ∧ InM m xs ∧ xs.length ≤ 1000 ∧ ∀ H', Same H H' → Q (.bl true) H'
section
variable {X : Cx}
theorem pe_all {a : Expr} {es : List Expr} {t : TA} {p pos : Pos} (hc : X.calm = true) (hm : X.mg "all" = none) (ha : PA X (a :: es) t) (hg : Gl X "all" := by rfl) (he : starEach (a :: es) X.env = (false, eval a X.env) :: starEach es X.env := by rfl)
    (hpl : (backTo pos (starEach es X.env)).any (·.1) = false := by rfl) :
    PE X (.Call (.Name "all" p) (a :: es) [] pos) (tCB (rAll X.K) t) := pe_callB (cr_all hc) hg hm (by decide +kernel) ha (he := he) (hpl := hpl)
end
section
variable {X : Cx} {tg e : Expr}
/-- enumerate of a list or a tuple -/
def iEnS (K : PySem.W.Frag) (ta : TA) : TI := fun σ H R => ta σ H fun vs H1 => ∃ a xs, vs = [.ref a] ∧ Sq K H1 a xs ∧ ∀ (J : It) (G : Hp → Prop), Walk J xs.length G (YPair (fun i => some (.int (i : Nat))) (fun i => xs[i]?)) → (∀ H', (∀ o, H1 a = some o → H' a = some o) → G H') → R J H1
open PySem.Spec PyProof.Rows in
theorem pi_en {ta : TA} {p pos tp : Pos} {es : List Expr} {kk : Nat} (hm : X.mg "enumerate" = none) (ha : PA X [e] ta) (hg : Gl X "enumerate" := by rfl) (hs : starEach [e] X.env = [(false, eval e X.env)] := by rfl) :
    PI X (.Tuple es kk tp) (.Call (.Name "enumerate" p) [e] [] pos) (iEnS X.K ta) := by
  constructor
  intro pins s σ H R I h
  refine Call_ (ld_blt I hg hm PyProof.Rows.boot_enumerate (PyProof.Rows.callWith_type1 (thn (ha.run pos pins s σ H _ I h) fun us s1 hh => ?_) hs rfl))
  obtain ⟨vs, H1, I1, r1, a, xs, ev, sq, k⟩ := hh
  subst ev
  have near : ∀ b ∈ [s1.heap.objs.size + 1, s1.heap.objs.size], FpOk X pins H1 b := fun b hb => by
    have ge : s1.heap.objs.size ≤ b := by
      rcases two_of hb with z | z
      · rw [z]; exact Nat.le_add_right _ _
      · rw [z]; exact Nat.le_refl _
    exact I1.fpOk ge (I1.hok.fresh ge)
  cases r1 with
  | cons r rr =>
    cases rr
    cases r
    rcases sq with hq | hq
    · obtain ⟨its, rv, p1, hz⟩ := I1.list hq
      refine call_enumerate_list p1.isList fun h2 he hd _ hk => wpAny_pyIter_enum he ?_
      exact ⟨s1.heap.objs.size + 1, _, _, _, H1, rfl, I1.kept (t' := s1.toks) hk, turn_enum a (s1.heap.objs.size + 1) s1.heap.objs.size, ⟨⟨.none, he⟩, hd, Nat.succ_ne_self _⟩, near, k _ _ walk_enum fun H' e => sqL_at hq e⟩
    · obtain ⟨its, rv, p2, hz⟩ := I1.tuple hq
      refine enumT_call (begins_tuple a its.toArray) p2 fun h2 he hd hk => wpAny_pyIter_enum he ?_
      exact ⟨s1.heap.objs.size + 1, _, _, _, H1, rfl, I1.kept (t' := s1.toks) hk, turn_enT a (s1.heap.objs.size + 1) s1.heap.objs.size, ⟨⟨.none, he⟩, ⟨_, hd, rfl, rfl⟩, Nat.succ_ne_self _⟩, near, k _ _ walk_enT fun H' e => sqT_at hq e⟩
end
theorem LT.lt {K : PySem.W.Frag} {H : Hp} {a : Addr} {xs : List V} (h : LT H a xs) : SqL K H a xs ∨ SqT K H a xs := h.imp SqL.of SqT.of
section
variable {P : Program} {w : World} {K : PySem.W.Frag} {mg : Str → Option Value} {base : Heap}
theorem scIsL : FnScope ["value"] ["value"] (defScope sIsL) := ⟨rfl, rfl, rfl, by decide +kernel, rfl, by decide +kernel, by decide +kernel⟩
theorem ok_isL {f : Addr} {fd : FuncData} (F : Fun K "is_list" "is_list" sIsL f fd) (B : Bi mg) : FnOk P w K mg base CX0 1 f fd ["value"] spIsL := by
  refine F.ok scIsL (fun vs H Q E h => ?_) (fun cdv A outer s H vs Q E hr h => ?_)
  · obtain ⟨a, xs, rfl, _⟩ := h
    rfl
  · obtain ⟨a, xs, rfl, ha, q⟩ := h
    refine ⟨_, pss_one (ps_ret (pe_callB call_isiT rfl B.isi PyProof.Rows.boot_isinstance (pa_cons (pv 0) (pa_cons (pe_tup (pa_cons (pe_ty "list" B.list) (pa_cons (pe_ty "tuple" B.tuple) pa_nil))) pa_nil)))), ?_⟩
    refine ⟨_, rfl, by show 2 ≤ sizeLine; decide, fun tp ntp => ?_⟩
    have e := same_new (o := .tup [.ty "list", .ty "tuple"]) ntp
    have htp : upd H tp (.tup [.ty "list", .ty "tuple"]) tp = some (.tup [.ty "list", .ty "tuple"]) := upd_same
    have ha1 := ha.same e
    generalize upd H tp (.tup [.ty "list", .ty "tuple"]) = H1 at e htp ha1 ⊢
    have k1 : Kv K H1 (.ref a) := .kn (by
      rcases ha1 with h | h
      · exact .lst h
      · exact .tup h)
    have l1 : isLT H1 (.ref a) = true := by
      unfold isLT
      rcases ha1 with h | h
      · rw [isL_lst h]; rfl
      · rw [isT_tup h, Bool.or_true]
    obtain ⟨t, ty, ka⟩ := k1.any
    rw [l1] at ka
    exact ⟨_, tp, _, t, [.type "list", .type "tuple"], _, rfl, htp, .cons (.ty "list") (.cons (.ty "tuple") .nil), ty, ka, q _ e⟩
theorem scAN : FnScope NAN ["row", "many", "modulus"] (defScope sAN) := ⟨rfl, rfl, rfl, by decide +kernel, rfl, by decide +kernel, by decide +kernel⟩
theorem ok_an {f : Addr} {fd : FuncData} (F : Fun K "are_numbers" "are_numbers" sAN f fd) (B : Bi mg) (hal : mg "all" = none) (cB : Cal CX0 P w K mg base 2 "is_between" spBetween) : FnOk P w K mg base CX0 3 f fd ["row", "many", "modulus"] spAN := by
  refine F.ok scAN (fun vs H Q E h => ?_) (fun cdv A outer s H vs Q E hr h => ?_)
  · obtain ⟨a, xs, m, rfl, _⟩ := h
    rfl
  · obtain ⟨a, xs, m, rfl, ha, hm, l1, q⟩ := h
    refine ⟨_, pss_one (ps_ret (pe_and (pe_cmpR op_eq (pe_len B.len (pa_cons (pv 0) pa_nil)) (pv 1) (nomark _)) (pe_one (pe_all rfl hal (pa_cons (pe_lc (own := [("number", 3)]) rfl scAN.nd (pi_sqA (pv 0)) (blkOk_by (N := NAN) (sc := defScope sAN) (by decide +kernel)) (fun _ _ _ _ _ => (pg_name (i := 3) scAN.nd rfl (Or.inl rfl))) (fun _ _ _ _ _ => pts_nil) (fun _ _ _ _ _ => (pe_c cB hr pass0 (pa_cons (pv 3) (pa_cons pe_int (pa_cons (pe_op op_sub (pv 2) pe_int) pa_nil)))))) pa_nil))))), ?_⟩
    refine ⟨_, rfl, a, _, rfl, ha.lt, ?_⟩
    refine ⟨_, rfl, rfl, _, rfl, ?_⟩
    rw [iV_len, decide_eq_true rfl]
    refine iteT ?_
    refine ⟨_, rfl, a, _, rfl, ha.lt, fun J G wk hG D nD => lcM wk (fun _ => .bl true) (by rw [iV_len]; omega) nD (fun H' e => hG H' fun o z => e _ _ z) ?_ ?_⟩
    · rintro i x H1 H2 N hi e1 ⟨rfl, hx⟩ fin
      obtain ⟨i1, rfl⟩ := iV_get hx
      have z := hm i i1
      refine ⟨rfl, _, rfl, _, rfl, _, _, rfl, rfl, _, _, _, rfl, .int _, ?_⟩
      rw [show btw (.int (at_ xs i)) 0 (m - 1) = true by simp [btw]; omega]
      exact fin _ (Same.refl _)
    · intro H1 e1 hD
      refine ⟨D, List.replicate (iV xs).length true, rfl, ?_, ?_⟩
      · have : (List.replicate (iV xs).length true).map V.bl = (List.range (iV xs).length).map fun _ => V.bl true := by
          rw [List.map_replicate]
          exact List.ext_getElem (by simp) fun i h1 h2 => by simp
        rw [this]
        exact SqL.of hD
      · rw [show (List.replicate (iV xs).length true).all id = true by simp]
        exact q _ e1
/-! ### the first wrong number: none -/
end
end K50
set_option Elab.async false
set_option linter.all false
set_option maxRecDepth 100001
set_option maxHeartbeats 3999999
namespace K50
open PySem L2
open Mx (sm cg dl Sp)
abbrev sFN : Stmt := topS 33
abbrev NFN : List Str := ["row", "many", "modulus", "index", "number"]
def spFN : L2.Sp := fun vs H Q _ => ∃ (a : Addr) (xs : List Int) (m : Int), vs = [.ref a, .int ((xs.length : Nat) : Int), .int m] ∧ LT H a (iV xs) ∧ InM m xs ∧ xs.length ≤ 1000 ∧ ∀ H', Same H H' → Q .non H'
structure Cm (mg : Str → Option Value) : Prop where
  modulus : ∃ u, mg "MOST_MODULUS" = some u ∧ RelV (.int (10 ^ 18)) u
  numbers : ∃ u, mg "MOST_NUMBERS" = some u ∧ RelV (.int 16) u
  symbols : ∃ u, mg "MOST_SYMBOLS" = some u ∧ RelV (.int 10000) u
abbrev sCC : Stmt := topS 32
abbrev NCC : List Str := ["columns", "size", "modulus", "width", "index", "row"]
def spCC : L2.Sp := fun vs H Q _ => ∃ (a : Addr) (M : List (List Int)) (m : Int) (n w : Nat), vs = [.ref a, .int ((n : Nat) : Int), .int m] ∧ IsMl H a M ∧ Dm n w M ∧ Rd m M ∧ 1 ≤ n ∧ n ≤ 1000 ∧ 1 ≤ w ∧ w ≤ 16 ∧ ∀ H', Same H H' → Q .non H'
section
variable {P : Program} {w : World} {K : PySem.W.Frag} {mg : Str → Option Value} {base : Heap}
theorem scFN : FnScope NFN ["row", "many", "modulus"] (defScope sFN) := ⟨rfl, rfl, rfl, by decide +kernel, rfl, by decide +kernel, by decide +kernel⟩
theorem ok_fn {f : Addr} {fd : FuncData} (F : Fun K "first_wrong_number" "first_wrong_number" sFN f fd) (B : Bi mg) (cB : Cal CX0 P w K mg base 2 "is_between" spBetween) : FnOk P w K mg base CX0 3 f fd ["row", "many", "modulus"] spFN := by
  refine F.ok scFN (fun vs H Q E h => ?_) (fun cdv A outer s H vs Q E hr h => ?_)
  · obtain ⟨a, xs, m, rfl, _⟩ := h
    rfl
  · obtain ⟨a, xs, m, rfl, ha, hm, l1, q⟩ := h
    refine ⟨_, pss_cons (ps_for PassesOwn.never rfl (pi_en B.enum (pa_cons (pv 0) pa_nil)) (pg_tup rfl (pgs_cons (pg_name (i := 3) scFN.nd rfl (Or.inl rfl)) (pgs_cons (pg_name (i := 4) scFN.nd rfl (Or.inl rfl)) pgs_nil)))
        (pss_one (ps_if (pt_not (pt_val (pe_c cB hr pass0 (pa_cons (pv 4) (pa_cons pe_int (pa_cons (pe_op op_sub (pv 2) pe_int) pa_nil)))))) (pss_one (ps_ret (pv 3))) pss_nil)))
      (pss_one (ps_ret (pe_ifExp (pt_cmpR op_eq (pe_len B.len (pa_cons (pv 0) pa_nil)) (pv 1) (nomark _)) pe_non (pe_len B.len (pa_cons (pv 0) pa_nil))))), ?_⟩
    refine ⟨_, rfl, a, _, rfl, ha.lt, fun J G wk hG => for_it (D := { nx := _, rt := Q, bk := fun _ _ => False, ct := fun _ _ => False }) wk (fun i σ H' => ∃ (o3 o4 : Option V), σ = [some (.ref a), some (.int ((xs.length : Nat) : Int)), some (.int m), o3, o4] ∧ Same H H') ⟨none, none, rfl, Same.refl _⟩ (fun i σ H' _ ⟨_, _, _, e⟩ => hG H' fun o z => e _ _ z) ?_ ?_⟩
    · rintro i x σ H1 H2 hi ⟨o3, o4, rfl, e1⟩ ⟨T0, y, v, rfl, nT0, rfl, ey, hv⟩
      obtain ⟨i1, rfl⟩ := iV_get hv
      have z := hm i i1
      refine ⟨T0, _, rfl, SqT.of upd_same, rfl, _, _, rfl, _, _, rfl, rfl, ?_⟩
      have e2 := e1.trans (same_new (o := .tup [y, .int (at_ xs i)]) nT0)
      generalize upd H1 T0 (.tup [y, .int (at_ xs i)]) = H2 at e2 ⊢
      refine ⟨_, rfl, _, rfl, _, _, rfl, rfl, _, _, _, rfl, .int _, _, rfl, ?_⟩
      rw [show btw (.int (at_ xs i)) 0 (m - 1) = true by simp [btw]; omega]
      exact iteF ⟨_, _, rfl, e2⟩
    · rintro σ H1 ⟨o3, o4, rfl, e1⟩
      dsimp only
      refine ⟨_, rfl, a, _, rfl, (ha.same e1).lt, ?_⟩
      refine ⟨_, rfl, rfl, _, rfl, ?_⟩
      rw [iV_len, decide_eq_true rfl]
      exact iteT (q H1 e1)
theorem scCC : FnScope NCC ["columns", "size", "modulus"] (defScope sCC) := ⟨rfl, rfl, rfl, by decide +kernel, rfl, by decide +kernel, by decide +kernel⟩
theorem ok_cc {f C : Addr} {sp0 : L2.Sp} {fd : FuncData} (F : Fun K "check_columns" "check_columns" sCC f fd) (B : Bi mg) (M : Cm mg) (cL : Cal CX0 P w K mg base 1 "is_list" spIsL) (cN : Cal CX0 P w K mg base 3 "are_numbers" spAN) (xC : Xc P w K mg base 0 "BadColumns" C sp0) : FnOk P w K mg base (L2.CX P w) 4 f fd ["columns", "size", "modulus"] spCC := by
  refine F.okX scCC (fun vs H Q E h => ?_) (fun cdv A outer s H vs Q E hr h => ?_)
  · obtain ⟨a, N, m, n, c, rfl, _⟩ := h
    rfl
  · obtain ⟨a, N, m, n, c, rfl, hN, dN, rN, n1, n2, w1, w2, q⟩ := h
    refine ⟨_, pss_cons (ps_set (i := 3) scCC.nd rfl (Or.inl rfl) (pe_ifExp (PW.pt (pw_and (pt_truth (pv 0) (by intro _; rfl)) (pw_and1 (pt_val (pe_c cL hr pass0 (pa_cons (pe_ix ix_list (pv 0) pe_int (fun _ _ => rfl)) pa_nil)))))) (pe_len B.len (pa_cons (pe_ix ix_list (pv 0) pe_int (fun _ _ => rfl)) pa_nil)) pe_int))
      (pss_cons (ps_for (passes_of rfl) rfl (pi_en B.enum (pa_cons (pv 0) pa_nil)) (pg_tup rfl (pgs_cons (pg_name (i := 4) scCC.nd rfl (Or.inl rfl)) (pgs_cons (pg_name (i := 5) scCC.nd rfl (Or.inl rfl)) pgs_nil)))
        (pss_one (ps_if (PW.pt (pw_or (pt_not (pt_val (pe_c cL hr pass0 (pa_cons (pv 5) pa_nil)))) (pw_or (pt_not (pt_chain op_le op_le pe_int (pv 3) (C8.pe_gc rfl M.numbers))) (pw_or1 (pt_not (pt_val (pe_c cN hr pass0 (pa_cons (pv 5) (pa_cons (pv 3) (pa_cons (pv 2) pa_nil)))))))))) (pss_one (ps_raise rfl (takes_of rfl rfl rfl rfl) (pmk_x xC hr (pa_cons (pv 4) pa_nil)))) pss_nil)))
      (pss_one (ps_if (pt_cmpR op_ne (pe_len B.len (pa_cons (pv 0) pa_nil)) (pv 1) (nomark _)) (pss_one (ps_raise rfl (takes_of rfl rfl rfl rfl) (pmk_x xC hr (pa_cons (pe_len B.len (pa_cons (pv 0) pa_nil)) pa_nil)))) pss_nil))), ?_⟩
    obtain ⟨vN, hN', lN, gN'⟩ := hN
    rw [dN.len] at lN gN'
    obtain ⟨b0, hb0, gb0⟩ := gN' 0 (by omega)
    have l0 := dN.row 0 (by omega)
    refine ⟨_, rfl, true, .inl ⟨vN, SqL.of hN', by
      cases vN with
      | nil => exact absurd lN (by show ¬ 0 = n; omega)
      | cons _ _ => rfl⟩, ?_⟩
    refine iteT ?_
    refine ⟨_, rfl, a, vN, 0, _, rfl, rfl, SqL.of hN', atI_nat (j := 0) hb0, b0, _, rfl, .inl gb0, fun H1 e1 => ⟨_, rfl, ?_⟩⟩
    refine iteT ?_
    refine ⟨_, rfl, a, vN, 0, _, rfl, rfl, SqL.of (e1 _ _ hN'), atI_nat (j := 0) hb0, b0, _, rfl, .inl (SqL.of (e1 _ _ gb0)), ?_⟩
    rw [iV_len, l0]
    refine gN ?_
    dsimp only
    refine ⟨_, rfl, a, vN, rfl, .inl (SqL.of (e1 _ _ hN')), fun J G wk hG => for_it (D := { nx := _, rt := Q, bk := fun _ _ => False, ct := fun _ _ => False }) wk (fun i σ H' => ∃ (o4 o5 : Option V), σ = [some (.ref a), some (.int ((n : Nat) : Int)), some (.int m), some (.int ((c : Nat) : Int)), o4, o5] ∧ Same H H') ⟨none, none, rfl, e1⟩ (fun i σ H' _ ⟨_, _, _, e⟩ => hG H' fun o z => by
      rw [e1 _ _ hN'] at z
      cases z
      exact e _ _ hN') ?_ ?_⟩
    · rintro i x σ H2 H3 hi ⟨o4, o5, rfl, e2⟩ ⟨T0, y, v, rfl, nT0, rfl, ey, hv⟩
      rw [lN] at hi
      obtain ⟨r, hr', gr⟩ := gN' i hi
      have hv' := Option.some.inj (hv.symm.trans hr')
      subst hv'
      have lr := dN.row i hi
      refine ⟨T0, _, rfl, SqT.of upd_same, rfl, _, _, rfl, _, _, rfl, rfl, ?_⟩
      have e3 := e2.trans (same_new (o := .tup [y, .ref r]) nT0)
      generalize upd H2 T0 (.tup [y, .ref r]) = H3 at e3 ⊢
      dsimp only
      refine ⟨_, rfl, r, _, rfl, .inl (e3 _ _ gr), fun H4 e4 => ⟨_, rfl, ?_⟩⟩
      refine iteF ?_
      refine ⟨_, rfl, _, _, rfl, rfl, _, rfl, ?_⟩
      rw [decide_eq_true (show (1 : Int) ≤ ((c : Nat) : Int) by omega)]
      refine iteT ⟨_, _, rfl, rfl, _, rfl, ?_⟩
      rw [decide_eq_true (show ((c : Nat) : Int) ≤ 16 by omega)]
      refine iteF ?_
      refine ⟨_, rfl, _, rfl, _, rfl, r, rw_ N i, m, by rw [lr]; rfl, .inl (e4 _ _ (e3 _ _ gr)), fun j hj => rN i j, by omega, fun H5 e5 => ⟨_, rfl, ?_⟩⟩
      exact iteF ⟨_, _, rfl, e3.trans (e4.trans e5)⟩
    · rintro σ H2 ⟨o4, o5, rfl, e2⟩
      dsimp only
      refine ⟨_, rfl, a, vN, rfl, .inl (SqL.of (e2 _ _ hN')), ?_⟩
      rw [lN]
      refine ⟨_, rfl, rfl, _, rfl, ?_⟩
      rw [decide_eq_true rfl]
      exact iteF (q H2 e2)
end
end K50
set_option Elab.async false
set_option linter.all false
set_option maxRecDepth 100001
set_option maxHeartbeats 3999999
namespace K50
open PySem L2
open Mx (sm cg dl)
/-! ### guards in the heap -/
def gF (mo mt cl st en sz wd : V) : List (Str × V) := putF "width" wd (putF "size" sz (putF "end" en (putF "start" st (putF "columns" cl (putF "matrix" mt (putF "modulus" mo []))))))
structure TxG (K : PySem.W.Frag) (C : Addr) : Prop where
  cl : Cls K C
  modulus : NoAttr K C "modulus"
  matrix : NoAttr K C "matrix"
  columns : NoAttr K C "columns"
  start : NoAttr K C "start"
  end_ : NoAttr K C "end"
  size : NoAttr K C "size"
  width : NoAttr K C "width"
section
variable (mo mt cl st en sz wd : V)
theorem g_width : (gF mo mt cl st en sz wd).lookup ("width" : Str) = some wd := by
  unfold gF
  rw [lookup_putF, if_pos rfl]
theorem g_size : (gF mo mt cl st en sz wd).lookup ("size" : Str) = some sz := by
  unfold gF
  rw [lookup_putF, if_neg (by decide +kernel), lookup_putF, if_pos rfl]
theorem g_end : (gF mo mt cl st en sz wd).lookup ("end" : Str) = some en := by
  unfold gF
  rw [lookup_putF, if_neg (by decide +kernel), lookup_putF, if_neg (by decide +kernel), lookup_putF, if_pos rfl]
theorem g_start : (gF mo mt cl st en sz wd).lookup ("start" : Str) = some st := by
  unfold gF
  rw [lookup_putF, if_neg (by decide +kernel), lookup_putF, if_neg (by decide +kernel), lookup_putF, if_neg (by decide +kernel), lookup_putF, if_pos rfl]
theorem g_columns : (gF mo mt cl st en sz wd).lookup ("columns" : Str) = some cl := by
  unfold gF
  rw [lookup_putF, if_neg (by decide +kernel), lookup_putF, if_neg (by decide +kernel), lookup_putF, if_neg (by decide +kernel), lookup_putF, if_neg (by decide +kernel), lookup_putF, if_pos rfl]
theorem g_matrix : (gF mo mt cl st en sz wd).lookup ("matrix" : Str) = some mt := by
  unfold gF
  rw [lookup_putF, if_neg (by decide +kernel), lookup_putF, if_neg (by decide +kernel), lookup_putF, if_neg (by decide +kernel), lookup_putF, if_neg (by decide +kernel), lookup_putF, if_neg (by decide +kernel), lookup_putF, if_pos rfl]
theorem g_modulus : (gF mo mt cl st en sz wd).lookup ("modulus" : Str) = some mo := by
  unfold gF
  rw [lookup_putF, if_neg (by decide +kernel), lookup_putF, if_neg (by decide +kernel), lookup_putF, if_neg (by decide +kernel), lookup_putF, if_neg (by decide +kernel), lookup_putF, if_neg (by decide +kernel), lookup_putF, if_neg (by decide +kernel), lookup_putF, if_pos rfl]
theorem g_no_added : (gF mo mt cl st en sz wd).lookup ("added" : Str) = none := by
  unfold gF
  rw [lookup_putF, if_neg (by decide +kernel), lookup_putF, if_neg (by decide +kernel), lookup_putF, if_neg (by decide +kernel), lookup_putF, if_neg (by decide +kernel), lookup_putF, if_neg (by decide +kernel), lookup_putF, if_neg (by decide +kernel), lookup_putF, if_neg (by decide +kernel)]
  rfl
theorem g_no_ended : (gF mo mt cl st en sz wd).lookup ("ended" : Str) = none := by
  unfold gF
  rw [lookup_putF, if_neg (by decide +kernel), lookup_putF, if_neg (by decide +kernel), lookup_putF, if_neg (by decide +kernel), lookup_putF, if_neg (by decide +kernel), lookup_putF, if_neg (by decide +kernel), lookup_putF, if_neg (by decide +kernel), lookup_putF, if_neg (by decide +kernel)]
  rfl
theorem g_no_state_behind : (gF mo mt cl st en sz wd).lookup ("state_behind" : Str) = none := by
  unfold gF
  rw [lookup_putF, if_neg (by decide +kernel), lookup_putF, if_neg (by decide +kernel), lookup_putF, if_neg (by decide +kernel), lookup_putF, if_neg (by decide +kernel), lookup_putF, if_neg (by decide +kernel), lookup_putF, if_neg (by decide +kernel), lookup_putF, if_neg (by decide +kernel)]
  rfl
theorem g_no_sum_of : (gF mo mt cl st en sz wd).lookup ("sum_of" : Str) = none := by
  unfold gF
  rw [lookup_putF, if_neg (by decide +kernel), lookup_putF, if_neg (by decide +kernel), lookup_putF, if_neg (by decide +kernel), lookup_putF, if_neg (by decide +kernel), lookup_putF, if_neg (by decide +kernel), lookup_putF, if_neg (by decide +kernel), lookup_putF, if_neg (by decide +kernel)]
  rfl
end
/-- what a guard is of -/
structure GOk (m : Int) (n w : Nat) (A B : List (List Int)) (s e : List Int) : Prop where
  mo : Mo m
  dA : Dm n n A
  dB : Dm n w B
  rA : Rd m A
  rB : Rd m B
  ls : s.length = n
  le : e.length = n
  rs : ∀ i, 0 ≤ at_ s i ∧ at_ s i < m
  re : ∀ i, 0 ≤ at_ e i ∧ at_ e i < m
  n1 : 1 ≤ n
  n2 : n ≤ 16
  w1 : 1 ≤ w
  w2 : w ≤ 16
structure IsGd (C : Addr) (H : Hp) (p : Addr) (m : Int) (n w : Nat) (A B : List (List Int)) (s e : List Int) (dx mt cl st en : Addr) : Prop where
  ob : H p = some (.ins C dx (gF (.int m) (.ref mt) (.ref cl) (.ref st) (.ref en) (.int ((n : Nat) : Int)) (.int ((w : Nat) : Int))))
  mt : IsMt H mt A
  cl : IsMt H cl B
  st : H st = some (.tup (iV s))
  en : H en = some (.tup (iV e))
  ok : GOk m n w A B s e
theorem IsGd.same {C : Addr} {H H' : Hp} {p : Addr} {m : Int} {n w : Nat} {A B : List (List Int)} {s e : List Int} {dx mt cl st en : Addr} (g : IsGd C H p m n w A B s e dx mt cl st en) (E : Same H H') : IsGd C H' p m n w A B s e dx mt cl st en := ⟨E _ _ g.ob, g.mt.same E, g.cl.same E, E _ _ g.st, E _ _ g.en, g.ok⟩
def add_ (m : Int) (xs ys : List Int) : List Int := (List.range xs.length).map fun i => (at_ xs i + at_ ys i) % m
theorem add_len {m : Int} {xs ys : List Int} : (add_ m xs ys).length = xs.length := by
  unfold add_
  rw [List.length_map, List.length_range]
theorem len_r {f : Nat → Int} {n : Nat} : ((List.range n).map f).length = n := by rw [List.length_map, List.length_range]
/-- the state behind a symbol -/
def stp_g (m : Int) (n w : Nat) (A B : List (List Int)) (s x : List Int) : List Int := add_ m (ap_ m n n A s) (ap_ m n w B x)
abbrev sAdd : Stmt := inClass (topS 30) 5
abbrev NAdd : List Str := ["self", "one", "other", "number", "more"]
def spAdd (C : Addr) : L2.Sp := fun vs H Q _ => ∃ (p a b : Addr) (m : Int) (n w : Nat) (A B : List (List Int)) (s e : List Int) (dx mt cl st en : Addr) (xs ys : List Int), vs = [.ref p, .ref a, .ref b] ∧ IsGd C H p m n w A B s e dx mt cl st en ∧ H a = some (.tup (iV xs)) ∧ H b = some (.tup (iV ys)) ∧ xs.length = n ∧ ys.length = n ∧
  ∀ D H', Same H H' → H' D = some (.tup (iV (add_ m xs ys))) → Q (.ref D) H'
abbrev sSb : Stmt := inClass (topS 30) 3
abbrev NSb : List Str := ["self", "state", "symbol", "moved"]
/-- few enough -/
def Lo (xs : List Int) : Prop := ∀ c, (at_ xs c).natAbs < 2 ^ 200
def spSb (C : Addr) : L2.Sp := fun vs H Q _ => ∃ (p a b : Addr) (m : Int) (n w : Nat) (A B : List (List Int)) (s e : List Int) (dx mt cl st en : Addr) (xs ys : List Int), vs = [.ref p, .ref a, .ref b] ∧ IsGd C H p m n w A B s e dx mt cl st en ∧ H a = some (.tup (iV xs)) ∧ H b = some (.tup (iV ys)) ∧ xs.length = n ∧ ys.length = w ∧ Lo xs ∧ Lo ys ∧
  ∀ D H', Same H H' → H' D = some (.tup (iV (stp_g m n w A B xs ys))) → Q (.ref D) H'
abbrev sEn : Stmt := inClass (topS 30) 4
def spEn (C : Addr) : L2.Sp := fun vs H Q _ => ∃ (p a : Addr) (m : Int) (n w : Nat) (A B : List (List Int)) (s e : List Int) (dx mt cl st en : Addr) (xs : List Int), vs = [.ref p, .ref a] ∧ IsGd C H p m n w A B s e dx mt cl st en ∧ H a = some (.tup (iV xs)) ∧ xs.length = n ∧
  ∀ D H', Same H H' → H' D = some (.tup (iV (add_ m xs e))) → Q (.ref D) H'
section
variable {P : Program} {w : World} {K : PySem.W.Frag} {mg : Str → Option Value} {base : Heap}
theorem scAdd : FnScope NAdd ["self", "one", "other"] (defScope sAdd) := ⟨rfl, rfl, rfl, by decide +kernel, rfl, by decide +kernel, by decide +kernel⟩
theorem ok_add {f C : Addr} {fd : FuncData} (F : Fun K "added" "Guard.added" sAdd f fd) (B : Bi mg) (Z : Bs mg) (T : TxG K C) : FnOk P w K mg base CX0 1 f fd ["self", "one", "other"] (spAdd C) := by
  refine F.ok scAdd (fun vs H Q E h => ?_) (fun cdv A outer s H vs Q E hr h => ?_)
  · obtain ⟨p, a, b, _, _, _, _, _, _, _, _, _, _, _, _, _, _, rfl, _⟩ := h
    rfl
  · obtain ⟨p, a, b, m, n, c, M, N, s0, e0, dx, mt, cl, st, en, xs, ys, rfl, g, ha, hb, lx, ly, q⟩ := h
    refine ⟨_, pss_one (ps_ret (pe_tupleOf rfl B.tuple (pe_lc (own := [("number", 3), ("more", 4)]) rfl scAdd.nd (ZM.pi_zipM true true Z.zip (pa_cons (pv 1) (pa_cons (pv 2) pa_nil))) (blkOk_by (N := NAdd) (sc := defScope sAdd) (by decide +kernel)) (fun _ _ _ _ _ => (pg_pairK K rfl rfl (pg_name (i := 3) scAdd.nd rfl (Or.inl rfl) (.inr rfl)) (pg_name (i := 4) scAdd.nd rfl (Or.inl rfl) (.inr rfl)))) (fun _ _ _ _ _ => pts_nil) (fun _ _ _ _ _ => (pe_op op_mod (pe_op op_add (pv 3) (pv 4)) (pe_fldK K rfl (pv 0) rfl)))))), ?_⟩
    have eN : min (iV xs).length (iV ys).length = xs.length := by rw [iV_len, iV_len, lx, ly, Nat.min_self]
    have G := g.ok
    have n2 := G.n2
    have m2 := G.mo.two
    refine ⟨_, rfl, _, rfl, a, b, iV xs, iV ys, rfl, SqT.of ha, SqT.of hb, fun D nD => lcM (ZM.walk_zipM eN.symm) (fun c => .int ((at_ xs c + at_ ys c) % m)) (by omega) nD (fun H' e => ⟨SqT.of (e _ _ ha), SqT.of (e _ _ hb)⟩) ?_ ?_⟩
    · rintro c' x H2 H3 N' hc e ⟨T0, y, z, rfl, nT0, rfl, hy, hz⟩ hN
      obtain ⟨i1, rfl⟩ := iV_get hy
      obtain ⟨i2, rfl⟩ := iV_get hz
      refine ⟨T0, _, rfl, SqT.of upd_same, rfl, _, _, rfl, _, _, rfl, rfl, rfl, ?_⟩
      have e3 := same_new (o := .tup [.int (at_ xs c'), .int (at_ ys c')]) nT0
      exact ⟨_, rfl, _, rfl, _, _, rfl, rfl, _, rfl, p, C, dx, _, _, rfl, e3 _ _ (e _ _ g.ob), T.cl, T.modulus, g_modulus _ _ _ _ _ _ _, _, _, rfl, rfl, by omega, hN _ e3⟩
    · intro H4 e4 hD
      rw [range_iV] at hD
      exact .inl ⟨D, _, rfl, SqL.of hD, fun t nt => q t _ (e4.trans (same_new nt)) upd_same⟩
theorem scSb : FnScope NSb ["self", "state", "symbol"] (defScope sSb) := ⟨rfl, rfl, rfl, by decide +kernel, rfl, by decide +kernel, by decide +kernel⟩
theorem ok_sb {f C : Addr} {fd : FuncData} (F : Fun K "state_behind" "Guard.state_behind" sSb f fd) (T : TxG K C) (cA : Cal CX0 P w K mg base 1 "applied" spAp) (mA : Met CX0 P w K mg base 1 C "added" (spAdd C)) : FnOk P w K mg base CX0 2 f fd ["self", "state", "symbol"] (spSb C) := by
  refine F.ok scSb (fun vs H Q E h => ?_) (fun cdv A outer s H vs Q E hr h => ?_)
  · obtain ⟨p, a, b, _, _, _, _, _, _, _, _, _, _, _, _, _, _, rfl, _⟩ := h
    rfl
  · obtain ⟨p, a, b, m, n, c, M, N, s0, e0, dx, mt, cl, st, en, xs, ys, rfl, g, ha, hb, lx, ly, ox, oy, q⟩ := h
    refine ⟨_, pss_cons (ps_set (i := 3) scSb.nd rfl (Or.inl rfl) (pe_c cA hr pass0 (pa_cons (pe_fld (pv 0) rfl) (pa_cons (pe_fld (pv 0) rfl) (pa_cons (pv 1) pa_nil)))))
      (pss_one (ps_ret (pe_mt mA hr pass0 (pv 0) (pa_cons (pv 3) (pa_cons (pe_c cA hr pass0 (pa_cons (pe_fld (pv 0) rfl) (pa_cons (pe_fld (pv 0) rfl) (pa_cons (pv 2) pa_nil)))) pa_nil))))), ?_⟩
    have G := g.ok
    have n2 := G.n2
    have w2 := G.w2
    refine ⟨_, rfl, p, C, dx, _, _, rfl, g.ob, T.cl, T.modulus, g_modulus _ _ _ _ _ _ _, _, rfl, p, C, dx, _, _, rfl, g.ob, T.cl, T.matrix, g_matrix _ _ _ _ _ _ _, _, rfl, ?_⟩
    refine ⟨m, mt, a, n, n, M, xs, rfl, G.mo, g.mt, ha, G.dA, lx, G.rA.bd G.mo, ox, by omega, by omega, fun D1 H1 e1 h1 => ?_⟩
    refine gN ?_
    dsimp only
    have g1 := g.same e1
    refine ⟨_, rfl, p, dx, _, rfl, g1.ob, g_no_added _ _ _ _ _ _ _, _, rfl, _, rfl, p, C, dx, _, _, rfl, g1.ob, T.cl, T.modulus, g_modulus _ _ _ _ _ _ _, _, rfl, p, C, dx, _, _, rfl, g1.ob, T.cl, T.columns, g_columns _ _ _ _ _ _ _, _, rfl, ?_⟩
    refine ⟨m, cl, b, n, c, N, ys, rfl, G.mo, g1.cl, e1 _ _ hb, G.dB, ly, G.rB.bd G.mo, oy, by omega, by omega, fun D2 H2 e2 h2 => ?_⟩
    exact ⟨p, D1, D2, m, n, c, M, N, s0, e0, dx, mt, cl, st, en, _, _, rfl, g1.same e2, e2 _ _ h1, h2, len_r, len_r, fun D H' e' hD => q D H' (e1.trans (e2.trans e')) hD⟩
theorem scEn : FnScope ["self", "state"] ["self", "state"] (defScope sEn) := ⟨rfl, rfl, rfl, by decide +kernel, rfl, by decide +kernel, by decide +kernel⟩
theorem ok_en {f C : Addr} {fd : FuncData} (F : Fun K "ended" "Guard.ended" sEn f fd) (T : TxG K C) (mA : Met CX0 P w K mg base 1 C "added" (spAdd C)) : FnOk P w K mg base CX0 2 f fd ["self", "state"] (spEn C) := by
  refine F.ok scEn (fun vs H Q E h => ?_) (fun cdv A outer s H vs Q E hr h => ?_)
  · obtain ⟨p, a, _, _, _, _, _, _, _, _, _, _, _, _, _, rfl, _⟩ := h
    rfl
  · obtain ⟨p, a, m, n, c, M, N, s0, e0, dx, mt, cl, st, en, xs, rfl, g, ha, lx, q⟩ := h
    refine ⟨_, pss_one (ps_ret (pe_mt mA hr pass0 (pv 0) (pa_cons (pv 1) (pa_cons (pe_fld (pv 0) rfl) pa_nil)))), ?_⟩
    refine ⟨_, rfl, p, dx, _, rfl, g.ob, g_no_added _ _ _ _ _ _ _, _, rfl, _, rfl, p, C, dx, _, _, rfl, g.ob, T.cl, T.end_, g_end _ _ _ _ _ _ _, ?_⟩
    exact ⟨p, a, en, m, n, c, M, N, s0, e0, dx, mt, cl, st, en, xs, e0, rfl, g, ha, g.en, lx, g.ok.le, q⟩
end
end K50
set_option Elab.async false
set_option linter.all false
set_option maxRecDepth 100001
set_option maxHeartbeats 3999999
namespace K50
open PySem L2
open Mx (sm cg dl)
/-! ### the sum of a block -/
theorem nextOf {D : Ends} {σ : St} {H : Hp} (h : D.nx σ H) : tNext D σ H := h
theorem lo_of {m : Int} (mo : Mo m) {xs : List Int} (h : ∀ i, 0 ≤ at_ xs i ∧ at_ xs i < m) : Lo xs := fun i => by
  have := h i
  have := pow_le mo
  omega
theorem add_rd {m : Int} (mo : Mo m) {xs ys : List Int} (i : Nat) : 0 ≤ at_ (add_ m xs ys) i ∧ at_ (add_ m xs ys) i < m := by
  have m2 := mo.two
  by_cases h : i < xs.length
  · unfold add_
    rw [at_range h]
    exact ⟨Int.emod_nonneg _ (by omega), Int.emod_lt_of_pos _ (by omega)⟩
  · rw [at_out (by rw [add_len]; omega)]
    omega
/-- symbols, a tuple each, in a list -/
structure Bk (H : Hp) (p : Addr) (w : Nat) (m : Int) (vs : List V) (xss : List (List Int)) : Prop where
  h : H p = some (.lst vs)
  len : vs.length = xss.length
  row : ∀ i, i < xss.length → ∃ a, vs[i]? = some (.ref a) ∧ H a = some (.tup (iV (rw_ xss i)))
  dm : ∀ i, i < xss.length → (rw_ xss i).length = w ∧ InM m (rw_ xss i)
def sum_ (m : Int) (n w : Nat) (A B : List (List Int)) (s e : List Int) (xss : List (List Int)) : List Int := add_ m (xss.foldl (stp_g m n w A B) s) e
theorem fold_len {m : Int} {n w : Nat} {A B : List (List Int)} {s : List Int} (l : s.length = n) : ∀ (xss : List (List Int)), (xss.foldl (stp_g m n w A B) s).length = n := fun xss => by
  induction xss generalizing s with
  | nil => exact l
  | cons x xss ih => exact ih (by unfold stp_g; rw [add_len]; exact len_r)
theorem fold_rd {m : Int} (mo : Mo m) {n w : Nat} {A B : List (List Int)} {s : List Int} (r : ∀ i, 0 ≤ at_ s i ∧ at_ s i < m) : ∀ (xss : List (List Int)) (i : Nat), 0 ≤ at_ (xss.foldl (stp_g m n w A B) s) i ∧ at_ (xss.foldl (stp_g m n w A B) s) i < m := fun xss => by
  induction xss generalizing s with
  | nil => exact r
  | cons x xss ih => exact ih fun i => add_rd mo i
theorem take_fold {α β : Type} (f : β → α → β) (s : β) {xs : List α} {i : Nat} (h : i < xs.length) : (xs.take (i + 1)).foldl f s = f ((xs.take i).foldl f s) xs[i] := by
  rw [List.take_succ_eq_append_getElem h, List.foldl_append]
  rfl
abbrev sSum : Stmt := inClass (topS 30) 2
abbrev NSum : List Str := ["self", "block", "index", "symbol", "state"]
def spSum (C : Addr) : L2.Sp := fun vs H Q _ => ∃ (p a : Addr) (m : Int) (n w : Nat) (A B : List (List Int)) (s e : List Int) (dx mt cl st en : Addr) (us : List V) (xss : List (List Int)), vs = [.ref p, .ref a] ∧ IsGd C H p m n w A B s e dx mt cl st en ∧ Bk H a w m us xss ∧ xss.length ≤ 1000 ∧
  ∀ D H', Same H H' → H' D = some (.tup (iV (sum_ m n w A B s e xss))) → Q (.ref D) H'
section
variable {P : Program} {w : World} {K : PySem.W.Frag} {mg : Str → Option Value} {base : Heap}
theorem scSum : FnScope NSum ["self", "block"] (defScope sSum) := ⟨rfl, rfl, rfl, by decide +kernel, rfl, by decide +kernel, by decide +kernel⟩
theorem ok_sum {f C C1 C2 : Addr} {sp1 sp2 : L2.Sp} {fd : FuncData} (F : Fun K "sum_of" "Guard.sum_of" sSum f fd) (B : Bi mg) (M : Cm mg) (T : TxG K C) (cN : Cal CX0 P w K mg base 3 "are_numbers" spAN) (xS : Xc P w K mg base 0 "BadSymbol" C1 sp1) (xT : Xc P w K mg base 0 "TooMany" C2 sp2)
    (mS : Met CX0 P w K mg base 2 C "state_behind" (spSb C)) (mE : Met CX0 P w K mg base 2 C "ended" (spEn C)) : FnOk P w K mg base (L2.CX P w) 4 f fd ["self", "block"] (spSum C) := by
  refine F.okX scSum (fun vs H Q E h => ?_) (fun cdv A outer s H vs Q E hr h => ?_)
  · obtain ⟨p, a, _, _, _, _, _, _, _, _, _, _, _, _, _, _, rfl, _⟩ := h
    rfl
  · obtain ⟨p, a, m, n, c, A1, B1, s0, e0, dx, mt, cl, st, en, us, xss, rfl, g, hb, l1, q⟩ := h
    refine ⟨_, pss_cons (ps_for (passes_of rfl) rfl (pi_en B.enum (pa_cons (pv 1) pa_nil)) (pg_tup rfl (pgs_cons (pg_name (i := 2) scSum.nd rfl (Or.inl rfl)) (pgs_cons (pg_name (i := 3) scSum.nd rfl (Or.inl rfl)) pgs_nil)))
        (pss_one (ps_if (PW.pt (pw_or (pt_not (pt_val (pe_isi B.isi (pa_cons (pv 3) (pa_cons (pe_ty "tuple" B.tuple) pa_nil))))) (pw_or1 (pt_not (pt_val (pe_c cN hr pass0 (pa_cons (pv 3) (pa_cons (pe_fld (pv 0) rfl) (pa_cons (pe_fld (pv 0) rfl) pa_nil))))))))) (pss_one (ps_raise rfl (takes_of rfl rfl rfl rfl) (pmk_x xS hr (pa_cons (pv 2) pa_nil)))) pss_nil)))
      (pss_cons (ps_if (pt_cmpR op_gt (pe_len B.len (pa_cons (pv 1) pa_nil)) (C8.pe_gc rfl M.symbols) (nomark _)) (pss_one (ps_raise rfl (takes_of rfl rfl rfl rfl) (pmk_x xT hr (pa_cons pe_str (pa_cons (pe_len B.len (pa_cons (pv 1) pa_nil)) (pa_cons (C8.pe_gc rfl M.symbols) pa_nil)))))) pss_nil)
      (pss_cons (ps_set (i := 4) scSum.nd rfl (Or.inl rfl) (pe_fld (pv 0) rfl))
      (pss_cons (ps_for (passes_of rfl) rfl (pi_sqA (pv 1)) (pg_name (i := 3) scSum.nd rfl (Or.inl rfl))
        (pss_one (ps_set (i := 4) scSum.nd rfl (Or.inl rfl) (pe_mt mS hr pass0 (pv 0) (pa_cons (pv 4) (pa_cons (pv 3) pa_nil))))))
      (pss_one (ps_ret (pe_mt mE hr pass0 (pv 0) (pa_cons (pv 4) pa_nil))))))), ?_⟩
    have G := g.ok
    have w2 := G.w2
    have w1 := G.w1
    refine ⟨_, rfl, a, us, rfl, .inl (SqL.of hb.h), fun J G' wk hG => for_it (D := { nx := _, rt := Q, bk := fun _ _ => False, ct := fun _ _ => False }) wk (fun i σ H' => ∃ (o2 o3 : Option V), σ = [some (.ref p), some (.ref a), o2, o3, none] ∧ Same H H') ⟨none, none, rfl, Same.refl _⟩ (fun i σ H' _ ⟨_, _, _, e⟩ => hG H' fun o z => e _ _ z) ?_ ?_⟩
    · rintro i x σ H2 H3 hi ⟨o2, o3, rfl, e2⟩ ⟨T0, y, v, rfl, nT0, rfl, ey, hv⟩
      rw [hb.len] at hi
      obtain ⟨r, hr', gr⟩ := hb.row i hi
      obtain ⟨lr, mr⟩ := hb.dm i hi
      have hv' := Option.some.inj (hv.symm.trans hr')
      subst hv'
      refine ⟨T0, _, rfl, SqT.of upd_same, rfl, _, _, rfl, _, _, rfl, rfl, ?_⟩
      have e3 := e2.trans (same_new (o := .tup [y, .ref r]) nT0)
      generalize upd H2 T0 (.tup [y, .ref r]) = H3 at e3 ⊢
      dsimp only
      have hk : Kn H3 (.ref r) := .tup (e3 _ _ gr)
      obtain ⟨t, ty, _, _, k3, _, _⟩ := hk.kinds K
      rw [isT_tup (e3 _ _ gr)] at k3
      refine ⟨_, rfl, _, _, _, _, _, rfl, .ty "tuple", ty, k3, _, rfl, ?_⟩
      refine iteF ?_
      refine ⟨_, rfl, _, rfl, p, C, dx, _, _, rfl, e3 _ _ g.ob, T.cl, T.width, g_width _ _ _ _ _ _ _, _, rfl, p, C, dx, _, _, rfl, e3 _ _ g.ob, T.cl, T.modulus, g_modulus _ _ _ _ _ _ _, r, rw_ xss i, m, by rw [lr]; rfl, .inr (e3 _ _ gr), mr, by omega, fun H5 e5 => ⟨_, rfl, ?_⟩⟩
      exact iteF ⟨_, _, rfl, e3.trans e5⟩
    · rintro σ H2 ⟨o2, o3, rfl, e2⟩
      dsimp only
      refine ⟨_, rfl, a, us, rfl, .inl (SqL.of (e2 _ _ hb.h)), ?_⟩
      rw [hb.len]
      refine ⟨_, _, rfl, rfl, _, rfl, ?_⟩
      rw [decide_eq_false (show ¬ (10000 : Int) < ((xss.length : Nat) : Int) by omega)]
      refine iteF (nextOf ?_)
      refine ⟨_, rfl, p, C, dx, _, _, rfl, e2 _ _ g.ob, T.cl, T.start, g_start _ _ _ _ _ _ _, ?_⟩
      refine gN ?_
      dsimp only
      have wall : ∀ i, i ≤ xss.length → Lo ((xss.take i).foldl (stp_g m n c A1 B1) s0) ∧ ((xss.take i).foldl (stp_g m n c A1 B1) s0).length = n := fun i hi => ⟨lo_of G.mo (fold_rd G.mo G.rs _), fold_len G.ls _⟩
      refine ⟨_, rfl, a, us, rfl, .inl (SqL.of (e2 _ _ hb.h)), fun J2 G2 wk2 hG2 => for_it (D := { nx := _, rt := Q, bk := fun _ _ => False, ct := fun _ _ => False }) wk2 (fun i σ H' => ∃ (o3 : Option V) (S : Addr), σ = [some (.ref p), some (.ref a), o2, o3, some (.ref S)] ∧ Same H H' ∧ H' S = some (.tup (iV ((xss.take i).foldl (stp_g m n c A1 B1) s0)))) ⟨o3, st, rfl, e2, e2 _ _ g.st⟩ (fun i σ H' _ ⟨_, _, _, e, _⟩ => hG2 H' fun o z => by
        rw [e2 _ _ hb.h] at z
        cases z
        exact e _ _ hb.h) ?_ ?_⟩
      · rintro i x σ H3 H4 hi ⟨o3, S, rfl, e3, hS⟩ ⟨rfl, hx⟩
        rw [hb.len] at hi
        obtain ⟨r, hr', gr⟩ := hb.row i hi
        obtain ⟨lr, mr⟩ := hb.dm i hi
        have hx' := Option.some.inj (hx.symm.trans hr')
        subst hx'
        refine gN ?_
        dsimp only
        obtain ⟨w1', w2'⟩ := wall i (by omega)
        have lo : Lo (rw_ xss i) := fun j => by
          by_cases h : j < (rw_ xss i).length
          · have := mr j h
            have := pow_le G.mo
            omega
          · rw [at_out (by omega)]
            decide +kernel
        refine ⟨_, rfl, p, dx, _, rfl, e3 _ _ g.ob, g_no_state_behind _ _ _ _ _ _ _, _, rfl, _, rfl, ?_⟩
        refine ⟨p, S, r, m, n, c, A1, B1, s0, e0, dx, mt, cl, st, en, _, rw_ xss i, rfl, g.same e3, hS, e3 _ _ gr, w2', lr, w1', lo, fun D H5 e5 hD => ?_⟩
        refine ⟨_, D, rfl, e3.trans e5, ?_⟩
        rw [hD, take_fold _ _ hi, rw_get hi]
      · rintro σ H3 ⟨o3, S, rfl, e3, hS⟩
        rw [hb.len, List.take_length] at hS
        dsimp only
        refine ⟨_, rfl, p, dx, _, rfl, e3 _ _ g.ob, g_no_ended _ _ _ _ _ _ _, _, rfl, ?_⟩
        exact ⟨p, S, m, n, c, A1, B1, s0, e0, dx, mt, cl, st, en, _, rfl, g.same e3, hS, fold_len G.ls _, fun D H' e' hD => q D H' (e3.trans e') hD⟩
end
end K50
set_option Elab.async false
set_option linter.all false
set_option maxRecDepth 100001
set_option maxHeartbeats 3999999
namespace K50
open PySem L2
open Mx (sm cg dl)
/-! ### Guard(..) -/
def dRow (r : List Int) : Fd := .nd (r.map fun x => .lf (.int x))
def dMat (A : List (List Int)) : Fd := .nd (A.map dRow)
theorem fin_int {K : PySem.W.Frag} {H : Hp} (i : Int) : FIn K 0 H (.int i) (.lf (.int i)) := ⟨rfl, .kn (.int i), rfl⟩
theorem paired_maps {α β γ : Type} {R : β → γ → Prop} (f : α → β) (g : α → γ) (h : ∀ x, R (f x) (g x)) : ∀ xs : List α, Paired R (xs.map f) (xs.map g)
  | [] => .nil
  | x :: xs => .cons (h x) (paired_maps f g h xs)
theorem fin_row {K : PySem.W.Frag} {H : Hp} {a : Addr} {r : List Int} (h : LT H a (iV r)) (l : r.length ≤ 20000) : FIn K 1 H (.ref a) (dRow r) := .inr ⟨a, _, _, rfl, rfl, h, by rw [iV_len]; exact l, paired_maps _ _ (fun x => fin_int x) r⟩
theorem fin_mat {K : PySem.W.Frag} {H : Hp} {a : Addr} {A : List (List Int)} (h : IsMl H a A) {r c : Nat} (d : Dm r c A) (lr : r ≤ 1000) (lc : c ≤ 1000) : FIn K 2 H (.ref a) (dMat A) := by
  obtain ⟨vs, h1, h2, h3⟩ := h
  refine .inr ⟨a, vs, _, rfl, rfl, .inl h1, by rw [h2, d.len]; omega, paired_of2 (by rw [h2, List.length_map]) fun i x y hx hy => ?_⟩
  rw [List.getElem?_map] at hy
  cases e : A[i]? with
  | none => rw [e] at hy; cases hy
  | some z =>
    rw [e] at hy
    cases hy
    obtain ⟨hi, ez⟩ := List.getElem?_eq_some_iff.mp e
    obtain ⟨t, ht, gt⟩ := h3 i hi
    have hx' := Option.some.inj (hx.symm.trans ht)
    subst hx'
    rw [rw_get hi, ez] at gt
    exact fin_row (.inl gt) (by
      have := d.mem z (by rw [← ez]; exact List.getElem_mem hi)
      omega)
theorem fout_int {H : Hp} {v : V} {i : Int} (h : FOut 0 H v (.lf (.int i))) : v = .int i := by
  cases h
  rfl
theorem fout_ints {H : Hp} : ∀ {xs : List V} {r : List Int}, Paired (FOut 0 H) xs (r.map fun x => .lf (.int x)) → xs = iV r := fun {xs r} => by
  induction r generalizing xs with
  | nil =>
    intro h
    cases h
    rfl
  | cons x r ih =>
    intro h
    cases h with
    | cons h1 h2 =>
      rw [fout_int h1, ih h2]
      rfl
theorem fout_row {H : Hp} {v : V} {r : List Int} (h : FOut 1 H v (dRow r)) : ∃ t, v = .ref t ∧ H t = some (.tup (iV r)) := by
  rcases h with h | ⟨a, xs, ds, rfl, h2, h3, h4⟩
  · cases h
  · unfold dRow at h2
    injection h2 with h2
    subst h2
    exact ⟨a, rfl, by rw [h3, fout_ints h4]⟩
theorem fout_rows {H : Hp} : ∀ {xs : List V} {A : List (List Int)}, Paired (FOut 1 H) xs (A.map dRow) → ∃ as : List Addr, xs = as.map V.ref ∧ RwI H as A := fun {xs A} => by
  induction A generalizing xs with
  | nil =>
    intro h
    cases h
    exact ⟨[], rfl, .nil⟩
  | cons x A ih =>
    intro h
    cases h with
    | cons h1 h2 =>
      obtain ⟨t, rfl, ht⟩ := fout_row h1
      obtain ⟨as, rfl, ha⟩ := ih h2
      exact ⟨t :: as, rfl, .cons ht ha⟩
theorem fout_mat {H : Hp} {v : V} {A : List (List Int)} (h : FOut 2 H v (dMat A)) : ∃ t, v = .ref t ∧ IsMt H t A := by
  rcases h with h | ⟨a, xs, ds, rfl, h2, h3, h4⟩
  · cases h
  · unfold dMat at h2
    injection h2 with h2
    subst h2
    obtain ⟨as, rfl, ha⟩ := fout_rows h4
    exact ⟨a, rfl, as, h3, ha⟩
abbrev sGI : Stmt := inClass (topS 30) 0
abbrev NGI : List Str := ["self", "modulus", "matrix", "columns", "start", "end", "index", "row", "wrong"]
def spGI (C : Addr) : L2.Sp := fun vs H Q _ => ∃ (p dx a b sa ea : Addr) (m : Int) (n w : Nat) (A B : List (List Int)) (s e : List Int) (H0 : Hp), vs = [.ref p, .int m, .ref a, .ref b, .ref sa, .ref ea] ∧ H p = some (.ins C dx []) ∧ H0 p = none ∧ Same H0 H ∧ IsMl H0 a A ∧ IsMl H0 b B ∧ H0 sa = some (.lst (iV s)) ∧ H0 ea = some (.lst (iV e)) ∧ GOk m n w A B s e ∧
  (∀ c, c < n → Mx.Sp m (fun i j => if j < n then ent A i j else 0) n (fun j => if j < n then dl c j else 0)) ∧ ∀ mt cl st en H', Same H0 H' → IsGd C H' p m n w A B s e dx mt cl st en → Q .non H'
theorem IsMt.ins {H : Hp} {p q C dx : Addr} {fs fs' : List (Str × V)} {M : List (List Int)} (h : IsMt H q M) (hp : H p = some (.ins C dx fs)) : IsMt (upd H p (.ins C dx fs')) q M := h.tt fun a xs z => (upd_ne (ne_of z hp fun y => nomatch y)).trans z
theorem sm_ins {H0 H : Hp} {p : Addr} {o : HO} (n : H0 p = none) (e : Same H0 H) : Same H0 (upd H p o) := fun b o' z => (upd_ne (ne_of_none z n)).trans (e _ _ z)
section
variable {P : Program} {w : World} {K : PySem.W.Frag} {mg : Str → Option Value} {base : Heap}
theorem scGI : FnScope NGI ["self", "modulus", "matrix", "columns", "start", "end"] (defScope sGI) := ⟨rfl, rfl, rfl, by decide +kernel, rfl, by decide +kernel, by decide +kernel⟩
theorem ok_gi {f C C1 C2 C3 C4 C5 C6 : Addr} {sp1 sp2 sp3 sp4 sp5 sp6 : L2.Sp} {fd : FuncData} (F : Fun K "__init__" "Guard.__init__" sGI f fd) (B : Bi mg) (M : Cm mg) (T : TxG K C) (cB : Cal CX0 P w K mg base 2 "is_between" spBetween) (cL : Cal CX0 P w K mg base 1 "is_list" spIsL) (cN : Cal CX0 P w K mg base 3 "are_numbers" spAN) (cU : Cal CX0 P w K mg base 2 "undone" spUn)
    (cC : Cal (L2.CX P w) P w K mg base 4 "check_columns" spCC) (cF : Cal CX0 P w K mg base 3 "first_wrong_number" spFN) (cZ : Cal CX0 P w K mg base 3 "frozen" (spFz K 2)) (xM : Xc P w K mg base 0 "BadModulus" C1 sp1) (xT : Xc P w K mg base 0 "TooMany" C2 sp2) (xX : Xc P w K mg base 0 "BadMatrix" C3 sp3) (xU : Xc P w K mg base 0 "NotUndone" C4 sp4) (xB : Xc P w K mg base 0 "BadBegin" C5 sp5) (xE : Xc P w K mg base 0 "BadEnd" C6 sp6) : FnOk P w K mg base (L2.CX P w) 5 f fd ["self", "modulus", "matrix", "columns", "start", "end"] (spGI C) := by
  refine F.okX scGI (fun vs H Q E h => ?_) (fun cdv A outer s H vs Q E hr h => ?_)
  · obtain ⟨p, dx, a, b, sa, ea, _, _, _, _, _, _, _, _, rfl, _⟩ := h
    rfl
  · obtain ⟨p, dx, a, b, sa, ea, m, n, c, A1, B1, s0, e0, H0, rfl, hp, n0, sm0, hA, hB, hs, he, G, sp, q⟩ := h
    refine ⟨_, pss_cons (ps_if (pt_not (pt_val (pe_c cB hr pass0 (pa_cons (pv 1) (pa_cons pe_int (pa_cons (C8.pe_gc rfl M.modulus) pa_nil)))))) (pss_one (ps_raise rfl (takes_of rfl rfl rfl rfl) (pmk_x xM hr (pa_cons (pv 1) pa_nil)))) pss_nil)
      (pss_cons (ps_if (pt_not (pt_chain op_le op_le pe_int (pe_len B.len (pa_cons (pv 2) pa_nil)) (C8.pe_gc rfl M.numbers))) (pss_one (ps_raise rfl (takes_of rfl rfl rfl rfl) (pmk_x xT hr (pa_cons pe_str (pa_cons (pe_len B.len (pa_cons (pv 2) pa_nil)) (pa_cons (C8.pe_gc rfl M.numbers) pa_nil)))))) pss_nil)
      (pss_cons (ps_for (passes_of rfl) rfl (pi_en B.enum (pa_cons (pv 2) pa_nil)) (pg_tup rfl (pgs_cons (pg_name (i := 6) scGI.nd rfl (Or.inl rfl)) (pgs_cons (pg_name (i := 7) scGI.nd rfl (Or.inl rfl)) pgs_nil)))
        (pss_one (ps_if (PW.pt (pw_or (pt_not (pt_val (pe_c cL hr pass0 (pa_cons (pv 7) pa_nil)))) (pw_or1 (pt_not (pt_val (pe_c cN hr pass0 (pa_cons (pv 7) (pa_cons (pe_len B.len (pa_cons (pv 2) pa_nil)) (pa_cons (pv 1) pa_nil))))))))) (pss_one (ps_raise rfl (takes_of rfl rfl rfl rfl) (pmk_x xX hr (pa_cons (pv 6) pa_nil)))) pss_nil)))
      (pss_cons (ps_if (pt_cmpR op_isN (pe_c cU hr pass0 (pa_cons (pv 1) (pa_cons (pv 2) pa_nil))) pe_non (nomark _)) (pss_one (ps_raise rfl (takes_of rfl rfl rfl rfl) (pmk_x0 xU hr))) pss_nil)
      (pss_cons (ps_expr (pe_c cC hr (passes_call (takes_of rfl rfl rfl rfl) fun _ _ _ _ h => h) (pa_cons (pv 3) (pa_cons (pe_len B.len (pa_cons (pv 2) pa_nil)) (pa_cons (pv 1) pa_nil)))))
      (pss_cons (ps_set (i := 8) scGI.nd rfl (Or.inl rfl) (pe_c cF hr pass0 (pa_cons (pv 4) (pa_cons (pe_len B.len (pa_cons (pv 2) pa_nil)) (pa_cons (pv 1) pa_nil)))))
      (pss_cons (ps_if (pt_cmpR op_notN (pv 8) pe_non (nomark _)) (pss_one (ps_raise rfl (takes_of rfl rfl rfl rfl) (pmk_x xB hr (pa_cons (pv 8) pa_nil)))) pss_nil)
      (pss_cons (ps_set (i := 8) scGI.nd rfl (Or.inl rfl) (pe_c cF hr pass0 (pa_cons (pv 5) (pa_cons (pe_len B.len (pa_cons (pv 2) pa_nil)) (pa_cons (pv 1) pa_nil)))))
      (pss_cons (ps_if (pt_cmpR op_notN (pv 8) pe_non (nomark _)) (pss_one (ps_raise rfl (takes_of rfl rfl rfl rfl) (pmk_x xE hr (pa_cons (pv 8) pa_nil)))) pss_nil)
      (pss_cons (ps_fld (pv 0) (pv 1) rfl)
      (pss_cons (ps_fld (pv 0) (pe_c cZ hr pass0 (pa_cons (pv 2) pa_nil)) rfl)
      (pss_cons (ps_fld (pv 0) (pe_c cZ hr pass0 (pa_cons (pv 3) pa_nil)) rfl)
      (pss_cons (ps_fld (pv 0) (pe_tupleOf rfl B.tuple (pv 4)) rfl)
      (pss_cons (ps_fld (pv 0) (pe_tupleOf rfl B.tuple (pv 5)) rfl)
      (pss_cons (ps_fld (pv 0) (pe_len B.len (pa_cons (pe_fld (pv 0) rfl) pa_nil)) rfl)
      (pss_one (ps_fld (pv 0) (pe_len B.len (pa_cons (pe_ix ix_tup (pe_fld (pv 0) rfl) pe_int (fun _ _ => rfl)) pa_nil)) rfl)))))))))))))))), ?_⟩
    have n1 := G.n1
    have n2 := G.n2
    have w1 := G.w1
    have w2 := G.w2
    have hA1 := hA.same sm0
    obtain ⟨vA, gA, lA, rA⟩ := hA
    rw [G.dA.len] at lA rA
    refine ⟨_, rfl, _, _, _, rfl, .int _, _, rfl, ?_⟩
    rw [show btw (.int m) 2 (10 ^ 18) = true by
      have := G.mo.two
      have := G.mo.few
      exact decide_eq_true ⟨by omega, by omega⟩]
    refine iteF (nextOf ?_)
    refine ⟨_, rfl, a, vA, rfl, .inl (SqL.of (sm0 _ _ gA)), ?_⟩
    rw [lA]
    refine ⟨_, _, rfl, rfl, _, rfl, ?_⟩
    rw [decide_eq_true (show (1 : Int) ≤ ((n : Nat) : Int) by omega)]
    refine iteT ⟨_, _, rfl, rfl, _, rfl, ?_⟩
    rw [decide_eq_true (show ((n : Nat) : Int) ≤ 16 by omega)]
    refine iteF (nextOf ?_)
    dsimp only
    refine ⟨_, rfl, a, vA, rfl, .inl (SqL.of (sm0 _ _ gA)), fun J G' wk hG => for_it (D := { nx := _, rt := Q, bk := fun _ _ => False, ct := fun _ _ => False }) wk (fun i σ H' => ∃ (o6 o7 : Option V), σ = [some (.ref p), some (.int m), some (.ref a), some (.ref b), some (.ref sa), some (.ref ea), o6, o7, none] ∧ Same H H') ⟨none, none, rfl, Same.refl _⟩ (fun i σ H' _ ⟨_, _, _, e⟩ => hG H' fun o z => e _ _ z) ?_ ?_⟩
    · rintro i x σ H2 H3 hi ⟨o6, o7, rfl, e2⟩ ⟨T0, y, v, rfl, nT0, rfl, ey, hv⟩
      rw [lA] at hi
      obtain ⟨r, hr', gr⟩ := rA i hi
      have hv' := Option.some.inj (hv.symm.trans hr')
      subst hv'
      have lr := G.dA.row i hi
      refine ⟨T0, _, rfl, SqT.of upd_same, rfl, _, _, rfl, _, _, rfl, rfl, ?_⟩
      have e3 := e2.trans (same_new (o := .tup [y, .ref r]) nT0)
      generalize upd H2 T0 (.tup [y, .ref r]) = H3 at e3 ⊢
      dsimp only
      have gr3 := e3 _ _ (sm0 _ _ gr)
      refine ⟨_, rfl, r, _, rfl, .inl gr3, fun H4 e4 => ⟨_, rfl, ?_⟩⟩
      refine iteF ?_
      refine ⟨_, rfl, _, rfl, a, vA, rfl, .inl (SqL.of (e4 _ _ (e3 _ _ (sm0 _ _ gA)))), ?_⟩
      rw [lA]
      refine ⟨_, rfl, r, rw_ A1 i, m, by rw [lr]; rfl, .inl (e4 _ _ gr3), fun j hj => G.rA i j, by omega, fun H5 e5 => ⟨_, rfl, ?_⟩⟩
      exact iteF ⟨_, _, rfl, e3.trans (e4.trans e5)⟩
    · rintro σ H2 ⟨o6, o7, rfl, e2⟩
      dsimp only
      refine ⟨_, rfl, _, rfl, m, a, n, A1, rfl, G.mo, hA1.same e2, G.dA, G.rA.bd G.mo, n1, by omega, fun D R H3 e3 _ _ _ _ _ _ => ?_, fun H' _ no => absurd sp no⟩
      refine ⟨rfl, _, rfl, ?_⟩
      rw [decide_eq_false (fun z => nomatch z)]
      refine iteF (nextOf ?_)
      have e3 := e2.trans e3
      refine ⟨_, rfl, _, rfl, a, vA, rfl, .inl (SqL.of (e3 _ _ (sm0 _ _ gA))), ?_⟩
      rw [lA]
      refine ⟨_, rfl, b, B1, m, n, c, rfl, (hB.same sm0).same e3, G.dB, G.rB, n1, by omega, w1, w2, fun H4 e4 => ?_⟩
      have e4 := e3.trans e4
      refine ⟨_, rfl, _, rfl, a, vA, rfl, .inl (SqL.of (e4 _ _ (sm0 _ _ gA))), ?_⟩
      rw [lA]
      refine ⟨_, rfl, sa, s0, m, by rw [G.ls]; rfl, .inl (e4 _ _ (sm0 _ _ hs)), fun j hj => G.rs j, by rw [G.ls]; omega, fun H5 e5 => ?_⟩
      have e5 := e4.trans e5
      refine gN ?_
      dsimp only
      refine ⟨_, rfl, rfl, _, rfl, ?_⟩
      rw [decide_eq_true rfl]
      refine iteF (nextOf ?_)
      refine ⟨_, rfl, _, rfl, a, vA, rfl, .inl (SqL.of (e5 _ _ (sm0 _ _ gA))), ?_⟩
      rw [lA]
      refine ⟨_, rfl, ea, e0, m, by rw [G.le]; rfl, .inl (e5 _ _ (sm0 _ _ he)), fun j hj => G.re j, by rw [G.le]; omega, fun H6 e6 => ?_⟩
      have e6 := e5.trans e6
      refine gN ?_
      dsimp only
      refine ⟨_, rfl, rfl, _, rfl, ?_⟩
      rw [decide_eq_true rfl]
      refine iteF (nextOf ?_)
      have hp6 := e6 _ _ hp
      have s6 := sm0.trans e6
      clear e6 e5 e4 e3 e2 hA1 sm0 hp wk hG
      refine ⟨_, rfl, _, rfl, p, C, dx, _, rfl, hp6, T.cl, T.modulus, by show 0 < 1000; decide, ?_⟩
      have s7 := sm_ins (o := .ins C dx (putF "modulus" (.int m) [])) n0 s6
      have hp7 : upd H6 p (.ins C dx (putF "modulus" (.int m) [])) p = some (.ins C dx (putF "modulus" (.int m) [])) := upd_same
      generalize upd H6 p (.ins C dx (putF "modulus" (.int m) [])) = H7 at s7 hp7 ⊢
      dsimp only
      have hA7 : IsMl H7 a A1 := ⟨vA, s7 _ _ gA, by rw [lA, G.dA.len], fun i hi => by
        obtain ⟨r, x, y⟩ := rA i (by rw [← G.dA.len]; exact hi)
        exact ⟨r, x, s7 _ _ y⟩⟩
      refine ⟨_, rfl, _, dMat A1, rfl, fin_mat hA7 G.dA (by omega) (by omega), fun v' H8 e8 o8 => ?_⟩
      obtain ⟨mt, rfl, hmt⟩ := fout_mat o8
      have hp8 := e8 _ _ hp7
      have s8 := s7.trans e8
      refine ⟨_, rfl, p, C, dx, _, rfl, hp8, T.cl, T.matrix, by show 1 < 1000; decide, ?_⟩
      obtain ⟨f1, hf1⟩ : ∃ f1, f1 = putF "matrix" (.ref mt) (putF "modulus" (.int m) []) := ⟨_, rfl⟩
      rw [← hf1]
      have s9 := sm_ins (o := .ins C dx f1) n0 s8
      have hp9 : upd H8 p (.ins C dx f1) p = some (.ins C dx f1) := upd_same
      have hmt := hmt.ins (fs' := f1) hp8
      generalize upd H8 p (.ins C dx f1) = H9 at s9 hp9 hmt ⊢
      dsimp only
      refine ⟨_, rfl, _, dMat B1, rfl, fin_mat (hB.same s9) G.dB (by omega) (by omega), fun v' H10 e10 o10 => ?_⟩
      obtain ⟨cl, rfl, hcl⟩ := fout_mat o10
      have hp10 := e10 _ _ hp9
      have s10 := s9.trans e10
      have hmt := hmt.same e10
      refine ⟨_, rfl, p, C, dx, _, rfl, hp10, T.cl, T.columns, by subst hf1; show 2 < 1000; decide, ?_⟩
      obtain ⟨f2, hf2⟩ : ∃ f2, f2 = putF "columns" (.ref cl) f1 := ⟨_, rfl⟩
      rw [← hf2]
      have s11 := sm_ins (o := .ins C dx f2) n0 s10
      have hp11 : upd H10 p (.ins C dx f2) p = some (.ins C dx f2) := upd_same
      have hmt := hmt.ins (fs' := f2) hp10
      have hcl := hcl.ins (fs' := f2) hp10
      generalize upd H10 p (.ins C dx f2) = H11 at s11 hp11 hmt hcl ⊢
      dsimp only
      refine ⟨_, rfl, .inl ⟨sa, _, rfl, SqL.of (s11 _ _ hs), fun st nst => ?_⟩⟩
      have e12 := same_new (o := .tup (iV s0)) nst
      have h12 : upd H11 st (.tup (iV s0)) st = some (.tup (iV s0)) := upd_same
      generalize upd H11 st (.tup (iV s0)) = H12 at e12 h12 ⊢
      have hp12 := e12 _ _ hp11
      have s12 := s11.trans e12
      have hmt := hmt.same e12
      have hcl := hcl.same e12
      refine ⟨_, rfl, p, C, dx, _, rfl, hp12, T.cl, T.start, by subst hf2 hf1; show 3 < 1000; decide, ?_⟩
      obtain ⟨f3, hf3⟩ : ∃ f3, f3 = putF "start" (.ref st) f2 := ⟨_, rfl⟩
      rw [← hf3]
      have s13 := sm_ins (o := .ins C dx f3) n0 s12
      have hp13 : upd H12 p (.ins C dx f3) p = some (.ins C dx f3) := upd_same
      have hmt := hmt.ins (fs' := f3) hp12
      have hcl := hcl.ins (fs' := f3) hp12
      have h13 : upd H12 p (.ins C dx f3) st = some (.tup (iV s0)) := (upd_ne (ne_of h12 hp12 fun y => nomatch y)).trans h12
      generalize upd H12 p (.ins C dx f3) = H13 at s13 hp13 hmt hcl h13 ⊢
      dsimp only
      refine ⟨_, rfl, .inl ⟨ea, _, rfl, SqL.of (s13 _ _ he), fun en nen => ?_⟩⟩
      have e14 := same_new (o := .tup (iV e0)) nen
      have k14 : upd H13 en (.tup (iV e0)) en = some (.tup (iV e0)) := upd_same
      generalize upd H13 en (.tup (iV e0)) = H14 at e14 k14 ⊢
      have hp14 := e14 _ _ hp13
      have s14 := s13.trans e14
      have hmt := hmt.same e14
      have hcl := hcl.same e14
      have h14 := e14 _ _ h13
      refine ⟨_, rfl, p, C, dx, _, rfl, hp14, T.cl, T.end_, by subst hf3 hf2 hf1; show 4 < 1000; decide, ?_⟩
      obtain ⟨f4, hf4⟩ : ∃ f4, f4 = putF "end" (.ref en) f3 := ⟨_, rfl⟩
      rw [← hf4]
      have s15 := sm_ins (o := .ins C dx f4) n0 s14
      have hp15 : upd H14 p (.ins C dx f4) p = some (.ins C dx f4) := upd_same
      have hmt := hmt.ins (fs' := f4) hp14
      have hcl := hcl.ins (fs' := f4) hp14
      have h15 : upd H14 p (.ins C dx f4) st = some (.tup (iV s0)) := (upd_ne (ne_of h14 hp14 fun y => nomatch y)).trans h14
      have k15 : upd H14 p (.ins C dx f4) en = some (.tup (iV e0)) := (upd_ne (ne_of k14 hp14 fun y => nomatch y)).trans k14
      generalize upd H14 p (.ins C dx f4) = H15 at s15 hp15 hmt hcl h15 k15 ⊢
      dsimp only
      have l1 : f4.lookup ("matrix" : Str) = some (.ref mt) := by
        subst hf4 hf3 hf2 hf1
        rw [lookup_putF, if_neg (by decide +kernel), lookup_putF, if_neg (by decide +kernel), lookup_putF, if_neg (by decide +kernel), lookup_putF, if_pos rfl]
      obtain ⟨vm, hvm, lvm, _⟩ := hmt.row
      rw [G.dA.len] at lvm
      refine ⟨_, rfl, p, C, dx, _, _, rfl, hp15, T.cl, T.matrix, l1, mt, vm, rfl, .inr (SqT.of hvm), ?_⟩
      rw [lvm]
      refine ⟨_, rfl, p, C, dx, _, rfl, hp15, T.cl, T.size, by subst hf4 hf3 hf2 hf1; show 5 < 1000; decide, ?_⟩
      obtain ⟨f5, hf5⟩ : ∃ f5, f5 = putF "size" (.int ((n : Nat) : Int)) f4 := ⟨_, rfl⟩
      rw [← hf5]
      have s16 := sm_ins (o := .ins C dx f5) n0 s15
      have hp16 : upd H15 p (.ins C dx f5) p = some (.ins C dx f5) := upd_same
      have hmt := hmt.ins (fs' := f5) hp15
      have hcl := hcl.ins (fs' := f5) hp15
      have h16 : upd H15 p (.ins C dx f5) st = some (.tup (iV s0)) := (upd_ne (ne_of h15 hp15 fun y => nomatch y)).trans h15
      have k16 : upd H15 p (.ins C dx f5) en = some (.tup (iV e0)) := (upd_ne (ne_of k15 hp15 fun y => nomatch y)).trans k15
      generalize upd H15 p (.ins C dx f5) = H16 at s16 hp16 hmt hcl h16 k16 ⊢
      dsimp only
      have l2 : f5.lookup ("columns" : Str) = some (.ref cl) := by
        subst hf5 hf4 hf3 hf2
        rw [lookup_putF, if_neg (by decide +kernel), lookup_putF, if_neg (by decide +kernel), lookup_putF, if_neg (by decide +kernel), lookup_putF, if_pos rfl]
      obtain ⟨vc, hvc, lvc, rvc⟩ := hcl.row
      rw [G.dB.len] at lvc rvc
      obtain ⟨r0, hr0, gr0⟩ := rvc 0 (by omega)
      refine ⟨_, rfl, p, C, dx, _, _, rfl, hp16, T.cl, T.columns, l2, cl, vc, 0, _, rfl, rfl, SqT.of hvc, atI_nat (j := 0) hr0, r0, _, rfl, .inr (SqT.of gr0), ?_⟩
      rw [iV_len, G.dB.row 0 (by omega)]
      refine ⟨_, rfl, p, C, dx, _, rfl, hp16, T.cl, T.width, by subst hf5 hf4 hf3 hf2 hf1; show 6 < 1000; decide, ?_⟩
      subst hf5 hf4 hf3 hf2 hf1
      refine q mt cl st en _ (sm_ins n0 s16) ⟨upd_same, hmt.ins hp16, hcl.ins hp16, (upd_ne (ne_of h16 hp16 fun y => nomatch y)).trans h16, (upd_ne (ne_of k16 hp16 fun y => nomatch y)).trans k16, G⟩
end
end K50
set_option Elab.async false
set_option linter.all false
set_option maxRecDepth 100001
set_option maxHeartbeats 3999999
namespace K50
open PySem L2
open Mx (sm cg dl)
/-! ### remainder -/
/-- the bits of q, the greatest first -/
def tl_ (w q : Nat) : List Int := (List.range w).map fun i => ((q / 2 ^ (w - 1 - i) % 2 : Nat) : Int)
def eM (w : Nat) (t : List Int) : List (List Int) := mk_ w w fun i j => if j = 0 then at_ t i else if j = i + 1 then 1 else 0
def cM (w : Nat) (t : List Int) : List (List Int) := mk_ w 1 fun i _ => at_ t i
def zs (w : Nat) : List Int := List.replicate w 0
theorem tl_len {w q : Nat} : (tl_ w q).length = w := len_r
theorem tl_at {w q i : Nat} : at_ (tl_ w q) i = 0 ∨ at_ (tl_ w q) i = 1 := by
  by_cases h : i < w
  · unfold tl_
    rw [at_range h]
    omega
  · exact .inl (at_out (by rw [tl_len]; omega))
theorem tl_last {w q : Nat} (w1 : 1 ≤ w) (o : q % 2 = 1) : at_ (tl_ w q) (w - 1) = 1 := by
  unfold tl_
  rw [at_range (by omega), show w - 1 - (w - 1) = 0 by omega, Nat.pow_zero, Nat.div_one, o]
  rfl
theorem zs_at {w i : Nat} : at_ (zs w) i = 0 := by
  by_cases h : i < w
  · rw [at_get (by unfold zs; rw [List.length_replicate]; exact h)]
    unfold zs
    rw [List.getElem_replicate]
  · exact at_out (by unfold zs; rw [List.length_replicate]; omega)
theorem g_ok {w q : Nat} (w1 : 1 ≤ w) (w2 : w ≤ 16) : GOk 2 w 1 (eM w (tl_ w q)) (cM w (tl_ w q)) (zs w) (zs w) where
  mo := ⟨by decide, by decide⟩
  dA := mk_dm
  dB := mk_dm
  rA := Rd.of (by decide) mk_dm fun i j hi hj => by
    unfold eM
    rw [mk_ent hi hj]
    rcases tl_at (w := w) (q := q) (i := i) with e | e <;> rw [e] <;> (repeat' split) <;> decide
  rB := Rd.of (by decide) mk_dm fun i j hi hj => by
    unfold cM
    rw [mk_ent hi hj]
    rcases tl_at (w := w) (q := q) (i := i) with e | e <;> rw [e] <;> decide
  ls := by unfold zs; exact List.length_replicate
  le := by unfold zs; exact List.length_replicate
  rs := fun i => by rw [zs_at]; decide
  re := fun i => by rw [zs_at]; decide
  n1 := w1
  n2 := w2
  w1 := by decide
  w2 := by decide
/-- the rows of a polynomial that is odd: all unit rows are sums of them -/
theorem e_span {w q : Nat} (w1 : 1 ≤ w) (o : q % 2 = 1) : ∀ c, c < w → Mx.Sp 2 (fun i j => if j < w then ent (eM w (tl_ w q)) i j else 0) w (fun j => if j < w then dl c j else 0) := fun c hc => by
  have last : Mx.Sp 2 (fun i j => if j < w then ent (eM w (tl_ w q)) i j else 0) w (fun j => if j < w then dl 0 j else 0) := Mx.Sp.row (i := w - 1) (by omega) fun j => by
    by_cases hj : j < w
    · simp only [if_pos hj]
      unfold eM
      rw [mk_ent (by omega) hj]
      by_cases j0 : j = 0
      · subst j0
        rw [if_pos rfl, tl_last w1 o]
        exact .refl
      · rw [if_neg j0, if_neg (by omega)]
        exact cg.of (by unfold dl; rw [if_neg (Ne.symm j0)])
    · simp only [if_neg hj]
      exact .refl
  by_cases c0 : c = 0
  · subst c0
    exact last
  · refine Mx.Sp.add (Mx.Sp.row (i := c - 1) (by omega) fun j => .refl) last (-(at_ (tl_ w q) (c - 1))) fun j => ?_
    by_cases hj : j < w
    · simp only [if_pos hj]
      unfold eM
      rw [mk_ent (by omega) hj]
      refine cg.of ?_
      by_cases j0 : j = 0
      · subst j0
        rw [if_pos rfl]
        unfold dl
        rw [if_neg c0, if_pos rfl]
        omega
      · rw [if_neg j0]
        unfold dl
        by_cases jc : c = j
        · subst jc
          rw [if_pos rfl, if_pos (by omega), if_neg (by omega)]
          omega
        · rw [if_neg jc, if_neg (by omega), if_neg (by omega)]
          omega
    · simp only [if_neg hj]
      exact cg.of (by omega)
theorem row_set {w q i : Nat} (hi : i < w) : (iV ((List.range w).map fun j => if j = i + 1 then (1 : Int) else 0)).set 0 (.int ((at_ ((List.range w).map fun j => if j = i + 1 then (1 : Int) else 0) 0 + at_ (tl_ w q) i) % 2)) = iV (rw_ (eM w (tl_ w q)) i) := by
  have e0 : at_ ((List.range w).map fun j => if j = i + 1 then (1 : Int) else 0) 0 = 0 := by
    rw [at_range (by omega), if_neg (by omega)]
  rw [e0, Int.zero_add]
  have e1 : at_ (tl_ w q) i % 2 = at_ (tl_ w q) i := by rcases tl_at (w := w) (q := q) (i := i) with e | e <;> rw [e] <;> rfl
  rw [e1]
  unfold iV eM
  rw [mk_row hi, ← List.map_set]
  refine congrArg _ (at_ext (by rw [List.length_set, len_r, len_r]) fun j hj => ?_)
  rw [List.length_set, len_r] at hj
  rw [at_range hj]
  unfold at_
  rw [List.getD_eq_getElem?_getD]
  by_cases c : j = 0
  · subst c
    rw [List.getElem?_set_self (by rw [len_r]; omega), if_pos rfl]
    rfl
  · rw [List.getElem?_set_ne (Ne.symm c), if_neg c, ← List.getD_eq_getElem?_getD]
    exact at_range hj
abbrev sRm : Stmt := topS 34
abbrev NRm : List Str := ["width", "polynomial", "turns", "place", "matrix", "row", "other", "bit"]
def spRm (C : Addr) : L2.Sp := fun vs H Q _ => ∃ w q : Nat, vs = [.int ((w : Nat) : Int), .int ((q : Nat) : Int)] ∧ 1 ≤ w ∧ w ≤ 16 ∧ q < 2 ^ w ∧ q % 2 = 1 ∧
  ∀ p dx mt cl st en H', Same H H' → H p = none → IsGd C H' p 2 w 1 (eM w (tl_ w q)) (cM w (tl_ w q)) (zs w) (zs w) dx mt cl st en → Q (.ref p) H'
/-- a polynomial that is none, of w bits -/
def badP (v : V) (w : Nat) : Prop := btw v 1 (2 ^ w - 1) = false ∨ ∃ i : Int, v = .int i ∧ i % 2 = 0
def spRmX (CW CP : Addr) : L2.Sp := fun vs H _ E => ∃ v u, vs = [v, u] ∧
  ((∃ d, Odd H v d ∧ btw v 1 16 = false ∧ ∀ dd H', RsO H H' dd "width" d → E (.ref CW) (some dd) H') ∨
   (∃ (w : Nat) (d : PyData), v = .int ((w : Nat) : Int) ∧ 1 ≤ w ∧ w ≤ 16 ∧ Odd H u d ∧ badP u w ∧ ∀ dd H', RsO H H' dd "polynomial" d → E (.ref CP) (some dd) H'))
section
variable {P : Program} {w : World} {K : PySem.W.Frag} {mg : Str → Option Value} {base : Heap}
theorem scRm : FnScope NRm ["width", "polynomial"] (defScope sRm) := ⟨rfl, rfl, rfl, by decide +kernel, rfl, by decide +kernel, by decide +kernel⟩
theorem ok_rm {f C CW CP : Addr} {fd : FuncData} (F : Fun K "remainder" "remainder" sRm f fd) (B : Bi mg) (cB : Cal CX0 P w K mg base 2 "is_between" spBetween) (xW : Xc P w K mg base 3 "BadWidth" CW (spXO K "width")) (xP : Xc P w K mg base 3 "BadPolynomial" CP (spXO K "polynomial")) (nW : PySem.W.findIn K (.ref CW) "width" = some none) (nP : PySem.W.findIn K (.ref CP) "polynomial" = some none)
    (mG : Mak (L2.CX P w) P w K mg base 5 "Guard" C (spGI C)) : FnOk P w K mg base (L2.CX P w) 7 f fd ["width", "polynomial"] (fun vs H Q E => spRm C vs H Q E ∨ spRmX CW CP vs H Q E) := by
  refine F.okX scRm (fun vs H Q E h => ?_) (fun cdv A outer s H vs Q E hr h => ?_)
  · rcases h with ⟨w, q, rfl, _⟩ | ⟨v, u, rfl, _⟩ <;> rfl
  · refine ⟨_, pss_cons (ps_if (pt_not (pt_val (pe_c cB hr pass0 (pa_cons (pv 0) (pa_cons pe_int (pa_cons pe_int pa_nil)))))) (pss_one (ps_raise rfl (takes_of rfl rfl rfl rfl) (pmk_x xW hr (pa_cons (pv 0) pa_nil)))) pss_nil)
      (pss_cons (ps_if (PW.pt (pw_or (pt_not (pt_val (pe_c cB hr pass0 (pa_cons (pv 1) (pa_cons pe_int (pa_cons (pe_op op_sub (pe_op op_shl pe_int (pv 0)) pe_int) pa_nil)))))) (pw_or1 (pt_cmpR op_eq (pe_op op_odd (pv 1) pe_int) pe_int (nomark _))))) (pss_one (ps_raise rfl (takes_of rfl rfl rfl rfl) (pmk_x xP hr (pa_cons (pv 1) pa_nil)))) pss_nil)
      (pss_cons (ps_setLc (i := 2) (own := [("place", 3)]) rfl scRm.nd rfl rfl (sw_true rfl rfl rfl (by decide +kernel)) (pi_range1 rfl B.range (pa_cons (pv 0) pa_nil)) (blkOk_by (N := NRm) (sc := defScope sRm) (by decide +kernel)) (fun _ _ _ _ _ => (pg_name (i := 3) scRm.nd rfl (Or.inl rfl))) (fun _ _ _ _ _ => pts_nil) (fun _ _ _ _ _ => (pe_op op_odd (pe_op op_shrN (pv 1) (pe_op op_sub (pe_op op_sub (pv 0) pe_int) (pv 3))) pe_int)))
      (pss_cons (ps_set (i := 4) scRm.nd rfl (Or.inl rfl) (pe_lst pa_nil))
      (pss_cons (ps_for (passes_of rfl) rfl (pi_range1 rfl B.range (pa_cons (pv 0) pa_nil)) (pg_name (i := 3) scRm.nd rfl (Or.inr rfl))
        (pss_cons (ps_setLc (i := 5) (own := [("other", 6)]) rfl scRm.nd rfl rfl (sw_true rfl rfl rfl (by decide +kernel)) (pi_range1 rfl B.range (pa_cons (pv 0) pa_nil)) (blkOk_by (N := NRm) (sc := defScope sRm) (by decide +kernel)) (fun _ _ _ _ _ => (pg_name (i := 6) scRm.nd rfl (Or.inl rfl))) (fun _ _ _ _ _ => pts_nil) (fun _ _ _ _ _ => (pe_ifExp (pt_cmpR op_eq (pv 6) (pe_op op_add (pv 3) pe_int) (nomark _)) pe_int pe_int)))
        (pss_cons (ps_asg (pe_op op_mod (pe_op op_add (pe_ix ix_list (pv 5) pe_int (fun _ _ => rfl)) (pe_ix ix_list (pv 2) (pv 3) (fun _ _ => rfl))) pe_int) (pg_sub (pv 5) pe_int set_list))
        (pss_one (ps_expr (pe_bm PySem.F.plainAttrs_list PySem.F.slot_list_append PySem.F.type_list_append mt_append (pv 4) (pa_cons (pv 5) pa_nil)))))))
      (pss_one (ps_ret (pe_mk mG hr (passes_call (takes_of rfl rfl rfl rfl) fun _ _ _ _ h => h) (pa_cons pe_int (pa_cons (pv 4) (pa_cons (pe_lc (own := [("bit", 7)]) rfl scRm.nd (pi_sqA (pv 2)) (blkOk_by (N := NRm) (sc := defScope sRm) (by decide +kernel)) (fun _ _ _ _ _ => (pg_name (i := 7) scRm.nd rfl (Or.inl rfl))) (fun _ _ _ _ _ => pts_nil) (fun _ _ _ _ _ => (pe_lst (pa_cons (pv 7) pa_nil)))) (pa_cons (pe_op op_rep (pe_lst (pa_cons pe_int pa_nil)) (pv 0)) (pa_cons (pe_op op_rep (pe_lst (pa_cons pe_int pa_nil)) (pv 0)) pa_nil)))))))))))), ?_⟩
    rcases h with ⟨wd, q0, rfl, w1, w2, q1, qo, q⟩ | ⟨v, u, rfl, alt⟩
    · have pw : (2 : Int) ^ wd = ((2 ^ wd : Nat) : Int) := by rw [Int.natCast_pow]; rfl
      refine ⟨_, rfl, _, _, _, rfl, .int _, _, rfl, ?_⟩
      rw [show btw (.int ((wd : Nat) : Int)) 1 16 = true from decide_eq_true ⟨by omega, by omega⟩]
      refine iteF (nextOf ?_)
      refine ⟨_, rfl, _, rfl, _, _, rfl, rfl, ⟨by omega, by omega, by decide⟩, _, _, rfl, rfl, _, _, _, rfl, .int _, _, rfl, ?_⟩
      rw [Int.toNat_natCast, Int.one_mul, pw]
      rw [show btw (.int ((q0 : Nat) : Int)) 1 (((2 ^ wd : Nat) : Int) - 1) = true from decide_eq_true ⟨by omega, by omega⟩]
      refine iteF ?_
      refine ⟨_, rfl, q0, rfl, rfl, rfl, _, rfl, ?_⟩
      rw [qo, decide_eq_false (by decide)]
      refine iteF (nextOf ?_)
      dsimp only
      refine ⟨_, rfl, _, rfl, by omega, by omega, fun D nD => lcM walk_range (fun i => .int (((q0 / 2 ^ (wd - 1 - i) % 2 : Nat)) : Int)) (by omega) nD (fun _ _ => True.intro) ?_ ?_⟩
      · rintro i x H2 H3 N hi e2 ⟨rfl, rfl⟩ fin
        rw [Int.toNat_natCast] at hi
        refine ⟨rfl, _, rfl, _, rfl, _, _, rfl, rfl, _, rfl, _, _, rfl, rfl, _, wd - 1 - i, rfl, ?_, ?_⟩
        · show V.int (((wd : Nat) : Int) - 1 - (0 + ((i : Nat) : Int))) = _
          rw [show ((wd : Nat) : Int) - 1 - (0 + ((i : Nat) : Int)) = ((wd - 1 - i : Nat) : Int) by omega]
        refine ⟨q0 / 2 ^ (wd - 1 - i), ?_, rfl, fin _ (Same.refl _)⟩
        congr 1
      intro H1 e1 hD
      rw [Int.toNat_natCast] at hD
      have hD : H1 D = some (.lst (iV (tl_ wd q0))) := by rw [hD, range_iV]; rfl
      refine gN ?_
      dsimp only
      refine ⟨by show 0 ≤ sizeLine; decide, fun L nL => ?_⟩
      have eL := e1.trans (same_new (o := .lst []) nL)
      have hL : upd H1 L (.lst []) L = some (.lst []) := upd_same
      have hD2 : upd H1 L (.lst []) D = some (.lst (iV (tl_ wd q0))) := same_new nL _ _ hD
      have nDL : D ≠ L := ne_of_none hD nL
      have nL0 := old_none_ e1 nL
      generalize upd H1 L (.lst []) = H2 at eL hL hD2 ⊢
      refine gN ?_
      dsimp only
      refine ⟨_, rfl, _, rfl, by omega, by omega, ?_⟩
      rw [Int.toNat_natCast]
      refine for_range (D := { nx := _, rt := Q, bk := fun _ _ => False, ct := fun _ _ => False }) (n := wd) (fun i σ H' => ∃ (o3 o5 : Option V) (ac : List V), σ = [some (.int ((wd : Nat) : Int)), some (.int ((q0 : Nat) : Int)), some (.ref D), o3, some (.ref L), o5, none, none] ∧ H' L = some (.lst ac) ∧ ac.length = i ∧ (∀ (x : Nat) (v : V), ac[x]? = some v → ∃ t, v = .ref t ∧ t ≠ L ∧ H' t = some (.lst (iV (rw_ (eM wd (tl_ wd q0)) x)))) ∧ BtL L H2 H') ⟨none, none, [], rfl, hL, rfl, fun x v z => by simp at z, .refl⟩ ?_ ?_
      · rintro i σ H3 hi ⟨o3, o5, ac, rfl, hL3, lac, rac, bt⟩
        refine gN ?_
        rw [Int.zero_add]
        dsimp only
        refine ⟨_, rfl, _, rfl, by omega, by omega, fun R nR => lcM walk_range (fun j => .int (if j = i + 1 then 1 else 0)) (by omega) nR (fun _ _ => True.intro) ?_ ?_⟩
        · rintro j x H4 H5 N hj e4 ⟨rfl, rfl⟩ fin
          refine ⟨rfl, _, rfl, _, rfl, _, _, rfl, rfl, rfl, _, rfl, ?_⟩
          by_cases c : j = i + 1
          · rw [decide_eq_true (by
              show V.int (0 + ((j : Nat) : Int)) = V.int (((i : Nat) : Int) + 1)
              rw [show (0 + ((j : Nat) : Int)) = ((i : Nat) : Int) + 1 by omega])]
            have := fin _ (Same.refl _)
            rw [if_pos c] at this
            exact iteT this
          · rw [decide_eq_false (fun z => c (by injection z with z; omega))]
            have := fin _ (Same.refl _)
            rw [if_neg c] at this
            exact iteF this
        intro H4 e4 hR
        rw [Int.toNat_natCast, range_iV] at hR
        refine gN ?_
        dsimp only
        have nRL : R ≠ L := fun z => by rw [z, hL3] at nR; cases nR
        have hD4 := e4 _ _ (bt _ _ nDL hD2)
        have hL4 := e4 _ _ hL3
        refine ⟨_, rfl, R, _, 0, _, rfl, rfl, SqL.of hR, atI_nat (j := 0) (iV_at (by rw [len_r]; omega)), _, rfl, _, rfl, D, _, _, _, rfl, rfl, SqL.of hD4, atI_nat (iV_at (by rw [tl_len]; exact hi)), _, _, rfl, rfl, _, _, rfl, rfl, (show (0 : Int) < 2 by decide), ?_⟩
        refine ⟨_, rfl, R, _, _, 0, rfl, rfl, hR, ixn (j := 0) (by rw [iV_len, len_r]; omega), ?_⟩
        rw [row_set hi]
        have h5 : upd H4 R (.lst (iV (rw_ (eM wd (tl_ wd q0)) i))) R = some (.lst (iV (rw_ (eM wd (tl_ wd q0)) i))) := upd_same
        have hL5 : upd H4 R (.lst (iV (rw_ (eM wd (tl_ wd q0)) i))) L = some (.lst ac) := (upd_ne (Ne.symm nRL)).trans hL4
        have bt5 : BtL L H2 (upd H4 R (.lst (iV (rw_ (eM wd (tl_ wd q0)) i)))) := fun x o n z => (upd_ne (ne_of_none (bt x o n z) nR)).trans (e4 _ _ (bt x o n z))
        have rac5 : ∀ (x : Nat) (v : V), ac[x]? = some v → ∃ t, v = .ref t ∧ t ≠ L ∧ upd H4 R (.lst (iV (rw_ (eM wd (tl_ wd q0)) i))) t = some (.lst (iV (rw_ (eM wd (tl_ wd q0)) x))) := fun x v z => by
          obtain ⟨t, e, n, h⟩ := rac x v z
          exact ⟨t, e, n, (upd_ne (ne_of_none h nR)).trans (e4 _ _ h)⟩
        generalize upd H4 R (.lst (iV (rw_ (eM wd (tl_ wd q0)) i))) = H5 at h5 hL5 bt5 rac5 ⊢
        dsimp only
        refine ⟨_, rfl, .inl ⟨rfl, ac, SqL.of hL5⟩, _, rfl, L, ac, _, rfl, rfl, hL5, by rw [lac]; exact small10 (by omega), ?_⟩
        refine ⟨_, _, ac ++ [.ref R], rfl, upd_same, by rw [List.length_append, lac]; rfl, fun x v hv => ?_, bt5.put⟩
        by_cases cx : x < ac.length
        · rw [List.getElem?_append_left cx] at hv
          obtain ⟨t, rfl, n, h⟩ := rac5 x v hv
          exact ⟨t, rfl, n, (upd_ne n).trans h⟩
        · have ex : x = ac.length := by
            have := (List.getElem?_eq_some_iff.mp hv).1
            rw [List.length_append] at this
            have : x < ac.length + 1 := this
            omega
          subst ex
          rw [List.getElem?_append_right (Nat.le_refl _), Nat.sub_self] at hv
          have hv : V.ref R = v := Option.some.inj hv
          subst hv
          exact ⟨R, rfl, nRL, (upd_ne nRL).trans (by rw [lac]; exact h5)⟩
      · rintro σ H3 ⟨o3, o5, ac, rfl, hL3, lac, rac, bt⟩
        dsimp only
        have hD3 := bt _ _ nDL hD2
        have sm3 : Same H H3 := fun x o z => bt x o (ne_of_none z nL0) (eL _ _ z)
        refine ⟨_, rfl, _, rfl, D, _, rfl, .inl (SqL.of hD3), fun J G wk hG C2 nC2 => lcO wk (fun i v H' => ∃ t, t ≠ C2 ∧ v = .ref t ∧ H' t = some (.lst (iV (rw_ (cM wd (tl_ wd q0)) i)))) (fun i v Ha Hb xs hD kp ⟨t, n, e, h⟩ => ⟨t, n, e, kp _ _ n h⟩) (by rw [iV_len, tl_len]; omega) nC2 (fun H' e => hG H' fun o z => e _ _ z) ?_ ?_⟩
        · rintro i x H4 H5 N hi e4 ⟨xs, hC⟩ ⟨rfl, hx⟩ fin
          obtain ⟨i1, rfl⟩ := iV_get hx
          refine ⟨rfl, _, rfl, by show 1 ≤ sizeLine; decide, fun t nt => fin _ _ (same_new nt) ⟨t, fun z => (by rw [z, hC] at nt; cases nt), rfl, ?_⟩⟩
          rw [upd_same]
          unfold cM
          rw [mk_row (by rw [tl_len] at i1; exact i1)]
          rfl
        · intro bc H4 e4 lbc rbc hC
          rw [iV_len, tl_len] at lbc
          have eR : (List.replicate wd [V.int 0]).flatten = iV (zs wd) := by
            unfold iV zs
            rw [List.map_replicate]
            exact List.flatten_replicate_singleton
          have sz : ([V.int 0] : List V).length * ((wd : Nat) : Int).toNat ≤ sizeLine := by
            rw [Int.toNat_natCast]
            exact Nat.le_of_lt (small10 (by show 1 * wd ≤ 10000; omega))
          refine ⟨by show 1 ≤ sizeLine; decide, fun z nz => ?_⟩
          have e5 := same_new (o := .lst [.int 0]) nz
          have z5 : upd H4 z (.lst [.int 0]) z = some (.lst [.int 0]) := upd_same
          generalize upd H4 z (.lst [.int 0]) = H5 at e5 z5 ⊢
          refine ⟨_, rfl, z, _, [.int 0], rfl, rfl, z5, by omega, by omega, sz, fun sa na => ?_⟩
          rw [Int.toNat_natCast, eR]
          have e6 := same_new (o := .lst (iV (zs wd))) na
          have k6 : upd H5 sa (.lst (iV (zs wd))) sa = some (.lst (iV (zs wd))) := upd_same
          generalize upd H5 sa (.lst (iV (zs wd))) = H6 at e6 k6 ⊢
          refine ⟨by show 1 ≤ sizeLine; decide, fun z2 nz2 => ?_⟩
          have e7 := same_new (o := .lst [.int 0]) nz2
          have z7 : upd H6 z2 (.lst [.int 0]) z2 = some (.lst [.int 0]) := upd_same
          generalize upd H6 z2 (.lst [.int 0]) = H7 at e7 z7 ⊢
          refine ⟨_, rfl, z2, _, [.int 0], rfl, rfl, z7, by omega, by omega, sz, fun ea nea => ?_⟩
          rw [Int.toNat_natCast, eR]
          have e8 := same_new (o := .lst (iV (zs wd))) nea
          have k8 : upd H7 ea (.lst (iV (zs wd))) ea = some (.lst (iV (zs wd))) := upd_same
          generalize upd H7 ea (.lst (iV (zs wd))) = H8 at e8 k8 ⊢
          intro p dx np ndx ne
          have e48 := e5.trans (e6.trans (e7.trans e8))
          have e38 := e4.trans e48
          have hL8 : IsMl H8 L (eM wd (tl_ wd q0)) := ⟨ac, e38 _ _ hL3, by rw [lac]; exact mk_dm.len.symm, fun x hx => by
            have hx' : x < ac.length := by have z := (g_ok (q := q0) w1 w2).dA.len; omega
            obtain ⟨t, e, n, h⟩ := rac x _ (List.getElem?_eq_getElem hx')
            exact ⟨t, by rw [List.getElem?_eq_getElem hx', e], e38 _ _ h⟩⟩
          have hC8 : IsMl H8 C2 (cM wd (tl_ wd q0)) := ⟨bc, e48 _ _ hC, by rw [lbc]; exact mk_dm.len.symm, fun x hx => by
            have hx' : x < bc.length := by have z := (g_ok (q := q0) w1 w2).dB.len; omega
            obtain ⟨t, n, e, h⟩ := rbc x _ (List.getElem?_eq_getElem hx')
            exact ⟨t, by rw [List.getElem?_eq_getElem hx', e], e48 _ _ h⟩⟩
          have eP : Same H8 (upd (upd H8 dx (.own p)) p (.ins C dx [])) := (same_new ndx).trans (same_new (by rw [upd_ne (Ne.symm ne)]; exact np))
          refine ⟨p, dx, L, C2, sa, ea, 2, wd, 1, _, _, _, _, H8, rfl, upd_same, np, eP, hL8, hC8, (e7.trans e8) _ _ k6, k8, g_ok w1 w2, e_span w1 qo, fun mt cl st en H' sm gd => ⟨rfl, ?_⟩⟩
          exact q p dx mt cl st en H' (sm3.trans (e38.trans sm)) (old_none_ (sm3.trans e38) np) gd
    · rcases alt with ⟨d, od, bw, ex⟩ | ⟨wd, d, rfl, w1, w2, od, bp, ex⟩
      · refine ⟨_, rfl, _, _, _, rfl, od.kn, _, rfl, ?_⟩
        rw [bw]
        exact iteT ⟨_, rfl, raiseO xW.T nW od ex⟩
      · refine ⟨_, rfl, _, _, _, rfl, .int _, _, rfl, ?_⟩
        rw [show btw (.int ((wd : Nat) : Int)) 1 16 = true from decide_eq_true ⟨by omega, by omega⟩]
        refine iteF (nextOf ?_)
        refine ⟨_, rfl, _, rfl, _, _, rfl, rfl, ⟨by omega, by omega, by decide⟩, _, _, rfl, rfl, _, _, _, rfl, od.kn, _, rfl, ?_⟩
        rw [Int.toNat_natCast, Int.one_mul]
        by_cases bt : btw u 1 (2 ^ wd - 1) = true
        · rcases bp with b1 | ⟨i, rfl, ev⟩
          · rw [b1] at bt
            cases bt
          · rw [bt]
            refine iteF ?_
            have := of_decide_eq_true (show decide ((1 : Int) ≤ i ∧ i ≤ 2 ^ wd - 1) = true from bt)
            obtain ⟨k, rfl⟩ := Int.eq_ofNat_of_zero_le (show 0 ≤ i by omega)
            refine ⟨_, rfl, k, rfl, rfl, rfl, _, rfl, ?_⟩
            rw [show k % 2 = 0 by omega]
            exact iteT ⟨_, rfl, raiseO xP.T nP od ex⟩
        · rw [show btw u 1 (2 ^ wd - 1) = false by simpa using bt]
          exact iteT ⟨_, rfl, raiseO xP.T nP od ex⟩
end
end K50
set_option Elab.async false
set_option linter.all false
set_option maxRecDepth 100001
set_option maxHeartbeats 3999999
namespace K50
open PySem L2
open Mx (sm cg dl)
/-! ### the law's digits and its long division -/
theorem tl_succ {i q : Nat} : (((q / 2 ^ i % 2 : Nat) : Int)) :: tl_ i q = tl_ (i + 1) q := by
  refine at_ext (by rw [List.length_cons, tl_len, tl_len]) fun j hj => ?_
  rw [List.length_cons, tl_len] at hj
  cases j with
  | zero =>
    unfold tl_
    rw [at_range (by omega), show i + 1 - 1 - 0 = i by omega]
    rfl
  | succ j =>
    show at_ (tl_ i q) j = _
    unfold tl_
    rw [at_range (by omega), at_range (by omega), show i + 1 - 1 - (j + 1) = i - 1 - j by omega]
theorem sm_two {t : Int} {i : Nat} {s : Nat → Int} : ∀ n, 1 ≤ n → sm (fun y => (if y = 0 then t else if y = i + 1 then 1 else 0) * s y) n = t * s 0 + (if i + 1 < n then s (i + 1) else 0)
  | 0, h => by omega
  | 1, _ => by
    show (0 : Int) + (if 0 = 0 then t else _) * s 0 = _
    rw [if_pos rfl, if_neg (by omega)]
    omega
  | n + 2, _ => by
    show sm _ (n + 1) + (if n + 1 = 0 then t else if n + 1 = i + 1 then 1 else 0) * s (n + 1) = _
    rw [sm_two (n + 1) (by omega), show (if n + 1 = 0 then t else if n + 1 = i + 1 then (1 : Int) else 0) = if n + 1 = i + 1 then 1 else 0 from if_neg (by omega)]
    by_cases c : n + 1 = i + 1
    · rw [if_pos c, if_neg (by omega), if_pos (by omega), c]
      omega
    · rw [if_neg c]
      by_cases d : i + 1 < n + 1
      · rw [if_pos d, if_pos (by omega)]
        omega
      · rw [if_neg d, if_neg (by omega)]
        omega
/-- the state behind so many bits -/
def stt (w q : Nat) (bits : List Int) : List Int := (bits.map fun x => [x]).foldl (stp_g 2 w 1 (eM w (tl_ w q)) (cM w (tl_ w q))) (zs w)
theorem zs_len {w : Nat} : (zs w).length = w := by
  unfold zs
  exact List.length_replicate
theorem stt_len {w q : Nat} (bits : List Int) : (stt w q bits).length = w := fold_len zs_len _
theorem stt_01 {w q : Nat} (bits : List Int) (i : Nat) : 0 ≤ at_ (stt w q bits) i ∧ at_ (stt w q bits) i < 2 := fold_rd (m := 2) ⟨by decide, by decide⟩ (fun i => by rw [zs_at]; decide) _ i
theorem stt_succ {w q : Nat} {bits : List Int} {a : Nat} (h : a < bits.length) : stt w q (bits.take (a + 1)) = stp_g 2 w 1 (eM w (tl_ w q)) (cM w (tl_ w q)) (stt w q (bits.take a)) [at_ bits a] := by
  unfold stt
  rw [List.take_succ_eq_append_getElem h, List.map_append, List.foldl_append, at_get h]
  rfl
theorem stp_at {w q : Nat} {s : List Int} {b : Int} (ls : s.length = w) {i : Nat} (hi : i < w) : at_ (stp_g 2 w 1 (eM w (tl_ w q)) (cM w (tl_ w q)) s [b]) i = (at_ (tl_ w q) i * at_ s 0 + at_ s (i + 1) + at_ (tl_ w q) i * b) % 2 := by
  unfold stp_g add_
  rw [at_range (by unfold ap_; rw [len_r]; exact hi)]
  unfold ap_
  rw [at_range hi, at_range hi]
  have e1 : sm (fun y => ent (eM w (tl_ w q)) i y * at_ s y) w = at_ (tl_ w q) i * at_ s 0 + at_ s (i + 1) := by
    rw [Mx.sm_congr (g := fun y => (if y = 0 then at_ (tl_ w q) i else if y = i + 1 then 1 else 0) * at_ s y) fun y hy => by unfold eM; rw [mk_ent hi hy], sm_two w (by omega)]
    by_cases c : i + 1 < w
    · rw [if_pos c]
    · rw [if_neg c, at_out (xs := s) (i := i + 1) (by omega)]
  have e2 : sm (fun y => ent (cM w (tl_ w q)) i y * at_ [b] y) 1 = at_ (tl_ w q) i * b := by
    show (0 : Int) + ent (cM w (tl_ w q)) i 0 * b = _
    unfold cM
    rw [mk_ent hi (by decide)]
    omega
  rw [e1, e2]
  omega
/-- the row in the midst of the division, behind a bits -/
structure Dv (w q : Nat) (bits : List Int) (a : Nat) (row : List Int) : Prop where
  len : row.length = bits.length + w
  near : ∀ j, j < w → at_ row (a + j) = (at_ (stt w q (bits.take a)) j + at_ bits (a + j)) % 2
  far : ∀ x, a + w ≤ x → at_ row x = at_ bits x
def B01 (bits : List Int) : Prop := ∀ i, at_ bits i = 0 ∨ at_ bits i = 1
theorem Dv.next {w q : Nat} {bits : List Int} (b : B01 bits) {a : Nat} (ha : a < bits.length) (w1 : 1 ≤ w) {row row' : List Int} (d : Dv w q bits a row) (l : row'.length = row.length)
    (h : ∀ x, at_ row' x = if at_ row a = 1 ∧ a + 1 ≤ x ∧ x < a + 1 + w then (at_ row x + at_ (tl_ w q) (x - (a + 1))) % 2 else at_ row x) : Dv w q bits (a + 1) row' := by
  refine ⟨l.trans d.len, fun j hj => ?_, fun x hx => ?_⟩
  · rw [h, stt_succ ha, stp_at (stt_len _) hj]
    have r0 := d.near 0 (by omega)
    rw [Nat.add_zero] at r0
    have s1 : at_ row (a + 1 + j) = (at_ (stt w q (bits.take a)) (j + 1) + at_ bits (a + 1 + j)) % 2 := by
      by_cases c : j + 1 < w
      · have := d.near (j + 1) c
        rw [show a + (j + 1) = a + 1 + j by omega] at this
        exact this
      · rw [d.far _ (by omega), at_out (xs := stt w q (bits.take a)) (i := j + 1) (by rw [stt_len]; omega)]
        rcases b (a + 1 + j) with e | e <;> rw [e] <;> rfl
    have z0 := stt_01 (w := w) (q := q) (bits.take a) 0
    have z1 := stt_01 (w := w) (q := q) (bits.take a) (j + 1)
    have ba := b a
    have bj := b (a + 1 + j)
    rw [show a + 1 + j - (a + 1) = j by omega]
    rcases tl_at (w := w) (q := q) (i := j) with e | e
    · rw [e, Int.zero_mul, Int.zero_mul]
      split <;> omega
    · rw [e, Int.one_mul, Int.one_mul]
      by_cases c : at_ row a = 1
      · rw [if_pos ⟨c, by omega, by omega⟩]
        omega
      · rw [if_neg (fun z => c z.1)]
        omega
  · rw [h, if_neg (by omega)]
    exact d.far x (by omega)
theorem Dv.start {w q : Nat} {bits : List Int} (b : B01 bits) : Dv w q bits 0 (bits ++ zs w) := by
  have e : ∀ x, at_ (bits ++ zs w) x = at_ bits x := fun x => by
    unfold at_
    rw [List.getD_eq_getElem?_getD, List.getD_eq_getElem?_getD]
    by_cases c : x < bits.length
    · rw [List.getElem?_append_left c]
    · rw [List.getElem?_append_right (by omega), List.getElem?_eq_none (l := bits) (by omega)]
      show (zs w)[x - bits.length]?.getD 0 = 0
      rw [← List.getD_eq_getElem?_getD]
      exact zs_at
  refine ⟨by rw [List.length_append, zs_len], fun j hj => ?_, fun x _ => e x⟩
  rw [e, Nat.zero_add, show at_ (stt w q (bits.take 0)) j = 0 from zs_at]
  rcases b j with z | z <;> rw [z] <;> rfl
theorem Dv.fin {w q : Nat} {bits row : List Int} (d : Dv w q bits bits.length row) : row.drop bits.length = stt w q bits := by
  refine at_ext (by rw [List.length_drop, d.len, stt_len]; omega) fun j hj => ?_
  rw [List.length_drop, d.len] at hj
  have := d.near j (by omega)
  rw [at_out (xs := bits) (i := bits.length + j) (by omega), List.take_length] at this
  have z := stt_01 (w := w) (q := q) bits j
  have e : at_ (row.drop bits.length) j = at_ row (bits.length + j) := by
    unfold at_
    rw [List.getD_eq_getElem?_getD, List.getD_eq_getElem?_getD, List.getElem?_drop]
  rw [e, this]
  omega
abbrev sDg : Stmt := topS 39
abbrev NDg : List Str := ["_law_number", "_law_size", "_law_found", "_law_turn"]
def spDg : L2.Sp := fun vs H Q _ => ∃ (q w : Nat), vs = [.int ((q : Nat) : Int), .int ((w : Nat) : Int)] ∧ w ≤ 100 ∧ ∀ D H', Same H H' → H D = none → H' D = some (.lst (iV (tl_ w q))) → Q (.ref D) H'
section
variable {P : Program} {w : World} {K : PySem.W.Frag} {mg : Str → Option Value} {base : Heap}
theorem scDg : FnScope NDg ["_law_number", "_law_size"] (defScope sDg) := ⟨rfl, rfl, rfl, by decide +kernel, rfl, by decide +kernel, by decide +kernel⟩
theorem ok_dg {f : Addr} {fd : FuncData} (F : Fun K "_law_digits" "_law_digits" sDg f fd) (B : Bi mg) : FnOk P w K mg base CX0 1 f fd ["_law_number", "_law_size"] spDg := by
  refine F.ok scDg (fun vs H Q E h => ?_) (fun cdv A outer s H vs Q E hr h => ?_)
  · obtain ⟨q0, wd, rfl, _⟩ := h
    rfl
  · obtain ⟨q0, wd, rfl, w1, q⟩ := h
    refine ⟨_, pss_cons (ps_set (i := 2) scDg.nd rfl (Or.inl rfl) (pe_lst pa_nil))
      (pss_cons (ps_for PassesOwn.never rfl (pi_range1 rfl B.range (pa_cons (pv 1) pa_nil)) (pg_name (i := 3) scDg.nd rfl (Or.inl rfl))
        (pss_cons (ps_set (i := 2) scDg.nd rfl (Or.inl rfl) (pe_op op_cat (pe_lst (pa_cons (pe_op op_mod (pe_int1 B.int (pa_cons (pv 0) pa_nil)) pe_int) pa_nil)) (pv 2)))
        (pss_one (ps_set (i := 0) scDg.nd rfl (Or.inl rfl) (pe_op op_fdiv (pv 0) pe_int)))))
      (pss_one (ps_ret (pv 2)))), ?_⟩
    refine ⟨by show 0 ≤ sizeLine; decide, fun L nL => ?_⟩
    have eL := same_new (o := .lst []) nL
    have hL : upd H L (.lst []) L = some (.lst []) := upd_same
    generalize upd H L (.lst []) = H1 at eL hL ⊢
    refine gN ?_
    dsimp only
    refine ⟨_, rfl, _, rfl, by omega, by omega, ?_⟩
    rw [Int.toNat_natCast]
    refine for_range (D := { nx := _, rt := Q, bk := fun _ _ => False, ct := fun _ _ => False }) (n := wd) (fun i σ H' => ∃ (o3 : Option V) (D : Addr), σ = [some (.int (((q0 / 2 ^ i : Nat)) : Int)), some (.int ((wd : Nat) : Int)), some (.ref D), o3] ∧ Same H H' ∧ H D = none ∧ H' D = some (.lst (iV (tl_ i q0)))) ⟨none, L, by rw [Nat.pow_zero, Nat.div_one]; rfl, eL, nL, hL⟩ ?_ ?_
    · rintro i σ H2 hi ⟨o3, D, rfl, e2, nD, hD⟩
      refine gN ?_
      dsimp only
      refine ⟨_, rfl, .inl ⟨_, rfl, _, _, rfl, rfl, (show (0 : Int) < 2 by decide), by show 1 ≤ sizeLine; decide, fun z nz => ?_⟩⟩
      have e3 := same_new (o := .lst [.int (((q0 / 2 ^ i : Nat) : Int) % 2)]) nz
      have hz : upd H2 z (.lst [.int (((q0 / 2 ^ i : Nat) : Int) % 2)]) z = some (.lst [.int (((q0 / 2 ^ i : Nat) : Int) % 2)]) := upd_same
      generalize upd H2 z (.lst [.int (((q0 / 2 ^ i : Nat) : Int) % 2)]) = H3 at e3 hz ⊢
      refine ⟨_, rfl, z, D, _, _, rfl, rfl, hz, e3 _ _ hD, ?_, fun y ny => ?_⟩
      · rw [iV_len, tl_len]
        exact Nat.le_of_lt (small10 (by show 1 + i ≤ 10000; omega))
      have ec : [V.int (((q0 / 2 ^ i : Nat) : Int) % 2)] ++ iV (tl_ i q0) = iV (tl_ (i + 1) q0) := by
        rw [← tl_succ]
        show V.int (((q0 / 2 ^ i : Nat) : Int) % 2) :: iV (tl_ i q0) = _
        rw [show ((q0 / 2 ^ i : Nat) : Int) % 2 = ((q0 / 2 ^ i % 2 : Nat) : Int) by omega]
        rfl
      rw [ec]
      refine gN ?_
      dsimp only
      refine ⟨_, rfl, _, _, rfl, rfl, ⟨by decide, by decide⟩, ?_⟩
      have e4 := e2.trans e3
      refine ⟨some (.int (0 + ((i : Nat) : Int))), y, ?_, e4.trans (same_new ny), old_none_ e4 ny, upd_same⟩
      have : ((q0 / 2 ^ i : Nat) : Int) / 2 = ((q0 / 2 ^ (i + 1) : Nat) : Int) := by
        rw [Nat.pow_succ, ← Nat.div_div_eq_div_mul]
        omega
      exact congrArg (fun z : Int => ([some (V.int z), some (.int ((wd : Nat) : Int)), some (.ref y), some (.int (0 + ((i : Nat) : Int)))] : St)) this
    · rintro σ H2 ⟨o3, D, rfl, e2, nD, hD⟩
      dsimp only
      exact ⟨_, rfl, q D H2 e2 nD hD⟩
end
end K50
set_option Elab.async false
set_option linter.all false
set_option maxRecDepth 100001
set_option maxHeartbeats 3999999
namespace K50
open PySem L2
open Mx (sm cg dl)
abbrev sLf : Stmt := topS 40
abbrev NLf : List Str := ["_law_bits", "_law_digits_here", "_law_row", "_law_at", "_law_k"]
def spLf : L2.Sp := fun vs H Q _ => ∃ (a b : Addr) (bits : List Int) (w q : Nat), vs = [.ref a, .ref b] ∧ H a = some (.lst (iV bits)) ∧ H b = some (.lst (iV (tl_ w q))) ∧ B01 bits ∧ bits.length ≤ 100 ∧ 1 ≤ w ∧ w ≤ 16 ∧ ∀ D H', Same H H' → H' D = some (.tup (iV (stt w q bits))) → Q (.ref D) H'
theorem iV_set (xs : List Int) (i : Nat) (v : Int) : (iV xs).set i (.int v) = iV (xs.set i v) := by
  unfold iV
  rw [List.map_set]
theorem at_set {xs : List Int} {i x : Nat} {v : Int} (h : i < xs.length) : at_ (xs.set i v) x = if x = i then v else at_ xs x := by
  unfold at_
  rw [List.getD_eq_getElem?_getD, List.getD_eq_getElem?_getD]
  by_cases c : x = i
  · subst c
    rw [List.getElem?_set_self h, if_pos rfl]
    rfl
  · rw [List.getElem?_set_ne (Ne.symm c), if_neg c]
section
variable {P : Program} {w : World} {K : PySem.W.Frag} {mg : Str → Option Value} {base : Heap}
theorem scLf : FnScope NLf ["_law_bits", "_law_digits_here"] (defScope sLf) := ⟨rfl, rfl, rfl, by decide +kernel, rfl, by decide +kernel, by decide +kernel⟩
theorem ok_lf {f : Addr} {fd : FuncData} (F : Fun K "_law_left" "_law_left" sLf f fd) (B : Bi mg) : FnOk P w K mg base CX0 1 f fd ["_law_bits", "_law_digits_here"] spLf := by
  refine F.ok scLf (fun vs H Q E h => ?_) (fun cdv A outer s H vs Q E hr h => ?_)
  · obtain ⟨a, b, bits, wd, q0, rfl, _⟩ := h
    rfl
  · obtain ⟨a, b, bits, wd, q0, rfl, ha, hb, b01, lb, w1, w2, q⟩ := h
    refine ⟨_, pss_cons (ps_set (i := 2) scLf.nd rfl (Or.inl rfl) (pe_op op_cat (pe_callTy call_list_of rfl B.list (by decide +kernel) (pa_cons (pv 0) pa_nil)) (pe_op op_rep (pe_lst (pa_cons pe_int pa_nil)) (pe_len B.len (pa_cons (pv 1) pa_nil)))))
      (pss_cons (ps_for PassesOwn.never rfl (pi_range1 rfl B.range (pa_cons (pe_len B.len (pa_cons (pv 0) pa_nil)) pa_nil)) (pg_name (i := 3) scLf.nd rfl (Or.inl rfl))
        (pss_one (ps_if (pt_cmpR op_eq (pe_ix ix_list (pv 2) (pv 3) (fun _ _ => rfl)) pe_int (nomark _)) (pss_one (ps_for PassesOwn.never rfl (pi_range1 rfl B.range (pa_cons (pe_len B.len (pa_cons (pv 1) pa_nil)) pa_nil)) (pg_name (i := 4) scLf.nd rfl (Or.inl rfl))
            (pss_one (ps_asg (pe_op op_mod (pe_int1 B.int (pa_cons (pe_op op_add (pe_ix ix_list (pv 2) (pe_op op_add (pe_op op_add (pv 3) pe_int) (pv 4)) (fun _ _ => rfl)) (pe_ix ix_list (pv 1) (pv 4) (fun _ _ => rfl))) pa_nil)) pe_int) (pg_sub (pv 2) (pe_op op_add (pe_op op_add (pv 3) pe_int) (pv 4)) set_list))))) pss_nil)))
      (pss_one (ps_ret (pe_tupleOf rfl B.tuple (pe_slice sl_list (pv 2) (po_some (pe_len B.len (pa_cons (pv 0) pa_nil))) po_none))))), ?_⟩
    have lt : (iV (tl_ wd q0)).length = wd := by rw [iV_len, tl_len]
    refine ⟨_, rfl, a, _, rfl, .inl (SqL.of ha), fun L1 n1 => ?_⟩
    have e1 := same_new (o := .lst (iV bits)) n1
    have h1 : upd H L1 (.lst (iV bits)) L1 = some (.lst (iV bits)) := upd_same
    generalize upd H L1 (.lst (iV bits)) = H1 at e1 h1 ⊢
    refine ⟨by show 1 ≤ sizeLine; decide, fun z nz => ?_⟩
    have e2 := same_new (o := .lst [.int 0]) nz
    have z2 : upd H1 z (.lst [.int 0]) z = some (.lst [.int 0]) := upd_same
    generalize upd H1 z (.lst [.int 0]) = H2 at e2 z2 ⊢
    refine ⟨_, rfl, b, _, rfl, .inl (SqL.of (e2 _ _ (e1 _ _ hb))), ?_⟩
    rw [lt]
    refine ⟨z, _, [.int 0], rfl, rfl, z2, by omega, by omega, ?_, fun L3 n3 => ?_⟩
    · rw [Int.toNat_natCast]
      exact Nat.le_of_lt (small10 (by show 1 * wd ≤ 10000; omega))
    have eR : (List.replicate wd [V.int 0]).flatten = iV (zs wd) := by
      unfold iV zs
      rw [List.map_replicate]
      exact List.flatten_replicate_singleton
    rw [Int.toNat_natCast, eR]
    have e3 := same_new (o := .lst (iV (zs wd))) n3
    have h3 : upd H2 L3 (.lst (iV (zs wd))) L3 = some (.lst (iV (zs wd))) := upd_same
    generalize upd H2 L3 (.lst (iV (zs wd))) = H3 at e3 h3 ⊢
    refine ⟨L1, L3, _, _, rfl, rfl, e3 _ _ (e2 _ _ h1), h3, ?_, fun R nR => ?_⟩
    · rw [iV_len, iV_len, zs_len]
      exact Nat.le_of_lt (small10 (by omega))
    have ec : iV bits ++ iV (zs wd) = iV (bits ++ zs wd) := List.map_append.symm
    rw [ec]
    have sm3 := e1.trans (e2.trans e3)
    have nR0 := old_none_ sm3 nR
    have e4 := sm3.trans (same_new (o := .lst (iV (bits ++ zs wd))) nR)
    have hR : upd H3 R (.lst (iV (bits ++ zs wd))) R = some (.lst (iV (bits ++ zs wd))) := upd_same
    generalize upd H3 R (.lst (iV (bits ++ zs wd))) = H4 at e4 hR ⊢
    clear sm3 e1 e2 e3 h1 z2 h3 nR
    refine gN ?_
    dsimp only
    refine ⟨_, rfl, a, _, rfl, .inl (SqL.of (e4 _ _ ha)), ?_⟩
    rw [iV_len]
    refine ⟨_, rfl, by omega, by omega, ?_⟩
    rw [Int.toNat_natCast]
    refine for_range (D := { nx := _, rt := Q, bk := fun _ _ => False, ct := fun _ _ => False }) (n := bits.length) (fun i σ H' => ∃ (o3 o4 : Option V) (row : List Int), σ = [some (.ref a), some (.ref b), some (.ref R), o3, o4] ∧ H' R = some (.lst (iV row)) ∧ BtL R H H' ∧ Dv wd q0 bits i row) ⟨none, none, _, rfl, hR, fun x o _ y => e4 _ _ y, .start b01⟩ ?_ ?_
    · clear e4 hR
      rintro i σ H5 hi ⟨o3, o4, row, rfl, hR, bt, dv⟩
      have lr := dv.len
      refine gN ?_
      rw [Int.zero_add]
      dsimp only
      refine ⟨_, rfl, _, rfl, R, _, _, _, rfl, rfl, SqL.of hR, atI_nat (iV_at (by omega)), rfl, _, rfl, ?_⟩
      rw [dec_int]
      by_cases c : at_ row i = 1
      · rw [show (at_ row i == 1) = true by rw [beq_iff_eq]; exact c]
        refine iteT ?_
        have nbR : b ≠ R := ne_of_none hb nR0
        refine ⟨_, rfl, b, _, rfl, .inl (SqL.of (bt _ _ nbR hb)), ?_⟩
        rw [lt]
        refine ⟨_, rfl, by omega, by omega, ?_⟩
        rw [Int.toNat_natCast]
        refine for_range (D := { nx := _, rt := _, bk := _, ct := _ }) (n := wd) (fun k σ H' => ∃ (o4 : Option V) (row' : List Int), σ = [some (.ref a), some (.ref b), some (.ref R), some (.int ((i : Nat) : Int)), o4] ∧ H' R = some (.lst (iV row')) ∧ BtL R H H' ∧ row'.length = row.length ∧ ∀ x, at_ row' x = if i + 1 ≤ x ∧ x < i + 1 + k then (at_ row x + at_ (tl_ wd q0) (x - (i + 1))) % 2 else at_ row x) ⟨o4, row, rfl, hR, bt, rfl, fun x => by rw [if_neg (by omega)]⟩ ?_ ?_
        · rintro k σ H6 hk ⟨o4, row', rfl, hR6, bt6, l6, at6⟩
          refine gN ?_
          rw [Int.zero_add]
          dsimp only
          have ek : ((i : Nat) : Int) + 1 + ((k : Nat) : Int) = ((i + 1 + k : Nat) : Int) := by omega
          refine ⟨_, rfl, _, rfl, _, _, rfl, rfl, _, rfl, _, _, rfl, rfl, ?_⟩
          dsimp only
          rw [ek]
          refine ⟨R, _, _, _, rfl, rfl, SqL.of hR6, atI_nat (iV_at (by omega)), _, rfl, _, rfl, b, _, _, _, rfl, rfl, SqL.of (bt6 _ _ nbR hb), atI_nat (iV_at (by rw [tl_len]; exact hk)), _, _, rfl, rfl, .inl ⟨_, rfl, _, _, rfl, rfl, (show (0 : Int) < 2 by decide), ?_⟩⟩
          refine ⟨_, rfl, _, rfl, _, _, rfl, rfl, _, rfl, _, _, rfl, rfl, ?_⟩
          dsimp only
          rw [ek]
          refine ⟨R, _, _, i + 1 + k, rfl, rfl, hR6, ixn (by rw [iV_len]; omega), ?_⟩
          rw [iV_set]
          refine ⟨_, _, rfl, upd_same, bt6.put, by rw [List.length_set]; exact l6, fun x => ?_⟩
          rw [at_set (by omega)]
          by_cases cx : x = i + 1 + k
          · subst cx
            rw [if_pos rfl, if_pos (by omega), at6, if_neg (by omega), show i + 1 + k - (i + 1) = k by omega]
          · rw [if_neg cx, at6]
            by_cases d : i + 1 ≤ x ∧ x < i + 1 + k
            · rw [if_pos d, if_pos (by omega)]
            · rw [if_neg d, if_neg (by omega)]
        · rintro σ H6 ⟨o4, row', rfl, hR6, bt6, l6, at6⟩
          refine ⟨_, o4, row', rfl, hR6, bt6, dv.next b01 hi w1 l6 fun x => ?_⟩
          rw [at6]
          by_cases d : i + 1 ≤ x ∧ x < i + 1 + wd
          · rw [if_pos d, if_pos ⟨c, d⟩]
          · rw [if_neg d, if_neg (fun z => d z.2)]
      · rw [show (at_ row i == 1) = false by rw [beq_eq_false_iff_ne]; exact c]
        refine iteF ?_
        exact ⟨_, o4, row, rfl, hR, bt, dv.next b01 hi w1 rfl fun x => by rw [if_neg (fun z => c z.1)]⟩
    · rintro σ H5 ⟨o3, o4, row, rfl, hR5, bt, dv⟩
      dsimp only
      have naR : a ≠ R := ne_of_none ha nR0
      refine ⟨_, rfl, ?_⟩
      simp only [tNoPart]
      refine ⟨_, rfl, a, _, rfl, .inl (SqL.of (bt _ _ naR ha)), ?_⟩
      rw [iV_len]
      refine ⟨_, rfl, R, _, rfl, SqL.of hR5, fun D nD => ?_⟩
      rw [cut_from (by rw [iV_len, dv.len]; omega)]
      have ed : (iV row).drop bits.length = iV (stt wd q0 bits) := by
        unfold iV
        rw [← List.map_drop, dv.fin]
      rw [ed]
      have s5 : Same H H5 := fun x o y => bt x o (ne_of_none y nR0) y
      have e6 := s5.trans (same_new (o := .lst (iV (stt wd q0 bits))) nD)
      refine .inl ⟨D, _, rfl, SqL.of upd_same, fun t nt => q t _ (e6.trans (same_new nt)) upd_same⟩
end
end K50
set_option Elab.async false
set_option linter.all false
set_option maxRecDepth 100001
set_option maxHeartbeats 3999999
/-! isinstance of a caught error that has fields -/
namespace ExF
open PySem PySem.W PySem.Spec PySem.Calls PyProof.Rows
section
variable {prog : Program} {w : World} {A : Around} {E : Value → Shared → Prop} {s : Shared} {K : Frag} {x D : Addr} {ox : Obj} {od : Option Obj}
/-- what the class must say -/
structure Says (K : Frag) (D : Addr) : Prop where
  hg : findIn K (.ref D) "__getattribute__" = some (some (.builtin "BaseException.__getattribute__"))
  hk : findIn K (.ref D) "__getattr__" = some none
  hs : subIn K (.ref D) (.type "BaseException") = some true
  hd : hasDictIn K D = true
  ha : findIn K (.ref D) "__class__" = some (some (.builtin "object.__class__"))
  hn : specialIn K (.builtin "object.__class__") "__get__" = some (some (.builtin "getset_descriptor.__get__"))
  ht : takesIn K (.builtin "object.__class__") = some true
  hm : mroIn K D (.type "object") = some true
theorem Says.isCls (S : Says K D) : (clsIn K D).isSome = true := by
  obtain ⟨cd, hc, _⟩ := any_some S.hd
  rw [hc]
  rfl
/-- __class__ is found by its descriptor, whatever the instance's dict holds -/
theorem Says.found (S : Says K D) : findObj K D od "__class__" = some (.bind (.builtin "getset_descriptor.__get__") (.builtin "object.__class__")) := by
  obtain ⟨cd, hc⟩ := Option.isSome_iff_exists.mp S.isCls
  simp [findObj, hc, S.ha, S.hn, S.ht]
/-- the slot itself -/
theorem slot_class {R : Result → Shared → Prop} {t : Nat} (S : Says K D) (X : K.In s.heap) (I : InstAt s.heap x ox D od) (h : R (.ok (.ret (.ref D))) s) :
    codeAny (model prog w) A (.call (.builtin "BaseException.__getattribute__") ⟨[.ref x, .str "__class__" t], []⟩) R s := by
  have T := I.type (M := model prog w)
  have B : Looks (model prog w) s.heap (isInstance (.ref x) (.type "BaseException")) true := T.andThen (looks_subIn X S.hs)
  have W := looks_find (M := model prog w) X I S.found
  refine codeAny_call_builtin PySem.F.excAttr_ValueError.ga.plain PySem.F.entry_bexc_ga ?_
  refine check_slot (M := model prog w) (i := "BaseException.__getattribute__") (owner := "BaseException") (n := "__getattribute__") (self := .ref x) (rest := [.str "__class__" t]) (kw := []) (by decide +kernel) (by decide +kernel) B (PySem.F.args_bexc_ga (.ref x) (.str "__class__" t)) ?_
  unfold Builtin.«object.__getattribute__»
  refine wpAny_bind (wpAny_of_eq (a := ((Value.ref x : Value), [Value.str "__class__" t])) (by first | rfl | (simp only [slotArgs]; rfl)) ?_)
  refine wpAny_bind (wpAny_pure (wpAny_bind (T.at (wpAny_bind (W.at ?_)))))
  show wpAny _ _ (Builtin.ObjectAttr.bindTo (.builtin "getset_descriptor.__get__") (.builtin "object.__class__") (.ref x) (.ref D)) _ _ _
  show wpAny _ _ (holding [Value.builtin "object.__class__"] (call (.builtin "getset_descriptor.__get__") [.builtin "object.__class__", .ref x, .ref D]) >>= ret) _ _ _
  refine wpAny_bind (wpAny_holding (wpAny_call (class_get (ox := ox) (od := od) X I S.hm ?_)))
  exact wpAny_pure h
/-- e.__class__ -/
theorem class_of {Q : Option Value → Shared → Prop} (S : Says K D) (X : K.In s.heap) (I : InstAt s.heap x ox D od) (h : Q (some (.ref D)) { s with toks := s.toks + 1 }) : wpAny (model prog w) A (getAttr? (.ref x) "__class__") Q E s := by
  have T := I.type (M := model prog w)
  have L1 := looks_findIn (M := model prog w) X S.hg
  have L2 := looks_findIn (M := model prog w) X S.hk
  have n2 : (Value.builtin "BaseException.__getattribute__" == Value.builtin "object.__getattribute__") = false := by decide +kernel
  unfold getAttr? getAttrBy? getAttrBy
  refine wpAny_bind (wpAny_mkText (wpAny_bind (wpAny_attempt (wpAny_holding (wpAny_bind (T.at (wpAny_bind (L1.at ?_))))))))
  show wpAny _ _ (if (onTheHeap (Value.ref D) && Value.builtin "BaseException.__getattribute__" == Value.builtin "object.__getattribute__") = true then _ else _) _ _ _
  rw [n2, Bool.and_false, if_neg Bool.false_ne_true]
  unfold getAttrByItsOwn hookBefore
  refine wpAny_bind ?_
  rw [if_pos (show onTheHeap (Value.ref D) = true from rfl)]
  refine L2.at (wpAny_bind (wpAny_attempt (wpAny_holding ?_)))
  unfold callGetattribute
  rw [if_neg (by decide)]
  unfold boundAndCalled
  rw [PySem.F.excAttr_ValueError.ga.bind (.ref x)]
  refine wpAny_bind (wpAny_pure ?_)
  refine wpAny_call (slot_class S X I ?_)
  show wpAny _ _ (handedOut (.ref D)) _ _ _
  rw [handedOut_of (v := .ref D) rfl]
  exact wpAny_pure (wpAny_pure h)
end
/-- what isinstance asks of an instance with a dict -/
theorem kit {K : Frag} {x D : Addr} {ox : Obj} {od : Option Obj} (S : Says K D) : KitX K (.ref x) (.ref D) (fun h => InstAt h x ox D od) where
  ty := fun _ _ _ I => I.type
  it := fun _ _ X _ => by
    have z := S.isCls
    unfold clsIn at z
    split at z
    · rename_i ho
      intro A' Q' E' s' k q
      unfold isType loadHead
      exact wpAny_bind (wpAny_loadPart (k _ _ (X _ _ ho)) (wpAny_pure q))
    · cases z
  ne := fun h tp dd its n sl X htp => by
    have z := S.isCls
    refine Bool.eq_false_iff.mpr fun q => ?_
    have e : D = tp := Value.ref.inj (beq_iff_eq.mp q)
    subst e
    unfold clsIn at z
    split at z
    · rename_i ho
      cases (X _ _ ho).symm.trans htp
    · cases z
  ca := fun X I k => class_of S X I k
end ExF
namespace ExF
open PySem PySem.Spec PyProof.Rows L2
/-- isinstance(e, c), e the caught error, with its fields in a dict -/
def rIsF (K : PySem.W.Frag) (D a : Addr) (cls : Value) (d : Option Addr) : List V → Hp → VK → Prop := fun xs H Q => ∃ (c : V) (cv : Value) (b : Bool), xs = [.ref a, c] ∧ cls = .ref D ∧ (∃ dd fs, d = some dd ∧ H dd = some (.xd fs)) ∧ (∀ u, RelV c u → u = cv) ∧ PySem.W.kitOne K (.ref D) cv = some b ∧ Q (.bl b) H
theorem call_isF {X : Cx} {a D : Addr} {oe : Obj} {cls : Value} {d : Option Addr} {pn : List (Addr × Obj)} (S : Says X.K D) (hz : Zc cls d oe) (hf : ∃ vs, oe.data = .fields vs) : CallR (X.suite a ((a, oe) :: pn)) (.builtin "isinstance") (rIsF X.K D a cls d) := by
  intro pins s σ H xs us Q I r h
  obtain ⟨c, cv, b, rfl, rfl, ⟨dd, fs, rfl, hdd⟩, hcv, e, q⟩ := h
  cases r with
  | cons rx rr =>
    cases rr with
    | cons rt rr =>
      cases rr
      cases rx
      have ec := hcv _ rt
      subst ec
      obtain ⟨ha, _⟩ := I.pin (a, oe) (List.mem_append_left _ List.mem_cons_self)
      obtain ⟨vs, hd⟩ := hf
      have hx : ObjOk X.prog X.w H s.heap dd (.xd fs) := I.hok dd _ hdd
      obtain ⟨mA, hns, _⟩ := hx
      obtain ⟨od, ho, _⟩ := lookIn_ns hns
      have J : PySem.W.InstAt s.heap a oe D (some od) := ⟨ha, hz.1, by unfold PySem.W.notCls; rw [hd] <;> rfl, by rw [hz.2]; exact ho⟩
      exact PySem.W.kia_one (kit S) I.kIn J e (fun z => nomatch z) fun tk => ⟨.bl b, H, I.kept (t' := tk) fun _ _ z => z, rfl, q⟩
end ExF
set_option Elab.async false
set_option linter.all false
set_option maxRecDepth 100001
set_option maxHeartbeats 3999999
namespace K50
open PySem L2 GFn
/-! ### a call that is refused -/
abbrev sRf : Stmt := topS 41
abbrev NRf : List Str := ["_law_call", "_law_told", "e"]
def rRp (K : PySem.W.Frag) : List V → Hp → VK → Prop := fun xs H Q => ∃ v d, xs = [v] ∧ Dp K H v d ∧ Tells d ∧ Q (.str d.shown) H
def tRf (K : PySem.W.Frag) (CV C : Addr) (n : Str) : Addr → Value → Option Addr → TS := fun a cls d => tAsg (tTup (tCons (tC (.str n)) (tCons (tCB (rRp K) (tCons (tXf a cls d C n (tVar 2)) tNil)) (tCons (tCB (ExF.rIsF K C a cls d) (tCons (tVar 2) (tCons (tC (.ref CV)) tNil))) tNil)))) (gName 1)
theorem takes_len {X : Cx} {W : WX} {n : Nat} (e : X.N.length = n) (tk : Takes X W) : Takes X (fun cls d σ H => σ.length = n → W cls d σ H) := fun u s' ⟨a, B, sI, pins, σ, H, cls, d, e1, I, nb, up, sky, na, os, ag, w⟩ =>
  tk u s' ⟨a, B, sI, pins, σ, H, cls, d, e1, I, nb, up, sky, na, os, ag, w (I.len.trans e)⟩
theorem pe_mono {X : Cx} {e : Expr} {te : TE} (h : PE X e te) : PE X e fun σ H Q => ∃ Q' : VK, (∀ x H1, Q' x H1 → Q x H1) ∧ te σ H Q' :=
  ⟨fun pins s σ H Q I ⟨Q', m, k⟩ => wpAny_mono (h.run pins s σ H Q' I k) (fun u s1 ⟨v, H1, I1, r, q⟩ => ⟨v, H1, I1, r, m _ _ q⟩) fun _ _ z => z⟩
def rR1 (C : Addr) (n : Str) (Q : VK) : XK := fun cls d H' => cls = .ref C ∧ ∃ dd v da, d = some dd ∧ H' dd = some (.xd [(n, v)]) ∧ Odd H' v da ∧ Tells da ∧ ∀ t, H' t = none → Q (.ref t) (upd H' t (.tup [.str n, .str da.shown, .bl true]))
/-- what comes of a call that is refused -/
def rRf (CW CP : Addr) (Q : VK) : XK := fun cls d H' => rR1 CW "width" Q cls d H' ∨ rR1 CP "polynomial" Q cls d H'
def TTr (CW CP : Addr) : (XK → Hp → VK → Prop) → Hp → VK → Prop := fun tl H Q => ∀ H1, Same H H1 → tl (rRf CW CP Q) H1 fun _ _ => False
structure Ctr (K : PySem.W.Frag) (mg : Str → Option Value) (CV CW CP : Addr) : Prop where
  xW : Ct K mg "BadWidth" CW
  xP : Ct K mg "BadPolynomial" CP
  nW : PySem.W.findIn K (.ref CW) "width" = some none
  nP : PySem.W.findIn K (.ref CP) "polynomial" = some none
  e10 : PySem.W.exmOne K (.ref CP) (.ref CW) = some false
  gV : mg "VaultError" = some (.ref CV)
  sW : ExF.Says K CW
  sP : ExF.Says K CP
  kW : PySem.W.kitOne K (.ref CW) (.ref CV) = some true
  kP : PySem.W.kitOne K (.ref CP) (.ref CV) = some true
  rp : mg "repr" = none
  isi : mg "isinstance" = none
theorem scRf : FnScope NRf ["_law_call"] (defScope sRf) := ⟨rfl, rfl, rfl, by decide +kernel, rfl, by decide +kernel, by decide +kernel⟩
theorem rf_gives {X : Cx} {g CV CW CP : Addr} {cdg : Value} {q : Str} (T : Ctr X.K X.mg CV CW CP) (gd : X.A.guards = some []) (hr : Room 1 X.A) : LamX.GivesTo X NRf "_law_refusal" (defScope sRf) g cdg (defBody sRf) "_law_call" q (TTr CW CP) := by
  intro f c' s H Q tl act hc h
  have g2 : (X.A.deeper (PyProof.Rows.envOfC "_law_refusal" (defScope sRf) s.heap.objs.size g cdg)).guards = some [] := guards_deeper gd
  have u2 : (X.A.deeper (PyProof.Rows.envOfC "_law_refusal" (defScope sRf) s.heap.objs.size g cdg)).units + 64 < cLine := (hr.deeper _).units
  refine ⟨_, pss_cons (ps_set (i := 1) scRf.nd rfl (Or.inl rfl) (pe_tup pa_nil)) (pss_cons (ps_try_clauses
      (tb := fun W D σ H => ∃ Ech : XK, (∀ cls d σ' H', Ech cls d H' → σ'.length = 3 → W cls d σ' H') ∧ σ[0]? = some (some (.ref f)) ∧ H c' = some (LamX.CodeO c' q) ∧ ∃ Q' : VK, (∀ x H1, Q' x H1 → D.nx σ H1) ∧ tl Ech H Q') (Wout := fun _ _ _ _ => False)
        (l := [(.ref CW, some 2, tRf X.K CV CW "width"), (.ref CP, some 2, tRf X.K CV CP "polynomial")]) rfl rfl scRf.nd LamX.takes0
        (fun W pn xe tk _ => ?_)
        (.named ⟨rfl, by decide, .inl T.xW.g⟩ rfl rfl (fun a oe cls d pn hz hf => pss_one (ps_set (i := 1) scRf.nd rfl (Or.inl rfl) (pe_tup (pa_cons pe_str (pa_cons (pe_callB (call_reprD g2 u2) rfl T.rp (by decide +kernel) (pa_cons (pe_xf T.xW.T T.nW hz hf (pv 2)) pa_nil)) (pa_cons (pe_callB (ExF.call_isF T.sW hz hf) rfl T.isi PyProof.Rows.boot_isinstance (pa_cons (pv 2) (pa_cons (pe_glob (v := .ref CV) rfl T.gV rfl) pa_nil))) pa_nil))))))
        (.named ⟨rfl, by decide, .inl T.xP.g⟩ rfl rfl (fun a oe cls d pn hz hf => pss_one (ps_set (i := 1) scRf.nd rfl (Or.inl rfl) (pe_tup (pa_cons pe_str (pa_cons (pe_callB (call_reprD g2 u2) rfl T.rp (by decide +kernel) (pa_cons (pe_xf T.xP.T T.nP hz hf (pv 2)) pa_nil)) (pa_cons (pe_callB (ExF.call_isF T.sP hz hf) rfl T.isi PyProof.Rows.boot_isinstance (pa_cons (pv 2) (pa_cons (pe_glob (v := .ref CV) rfl T.gV rfl) pa_nil))) pa_nil))))))
        .nil)))
      (pss_one (ps_ret (pv 1)))), ?_⟩
  · refine ⟨fun pins s' σ H' D I h' => ?_⟩
    obtain ⟨Eq, hW, h1, h2, Q', h4, h3⟩ := h'
    have hp := fun p1 p2 => pe_mono (act _ pn xe Eq p1 p2 (takes_len (n := 3) rfl tk) fun cls d σ' H' e => hW cls d σ' H' e)
    refine (pss_one (ps_expr (hp _ _))).run pins s' σ H' D I ?_
    exact ⟨Q', h4, h1, h2, h3⟩
  · refine ⟨by show 0 ≤ sizeLine; decide, fun t0 nt0 => ?_⟩
    have e0 := same_new (o := .tup []) nt0
    have h0 := h _ e0
    have hc0 := e0 _ _ hc
    generalize upd H t0 (.tup []) = H0 at e0 h0 hc0 ⊢
    refine gN ?_
    refine ⟨rRf CW CP Q, fun cls d σ' H' e hl => ?_, rfl, hc0, _, ?_, h0⟩
    · match σ', hl with
      | [u0, u1, u2], _ =>
        rcases e with ⟨rfl, dd, v, da, rfl, hd, od, te, k⟩ | ⟨rfl, dd, v, da, rfl, hd, od, te, k⟩
        · refine ⟨true, T.xW.me, fun _ a na => ?_, fun z => nomatch z⟩
          refine ⟨_, rfl, rfl, rfl, dd, _, _, rfl, hd, rfl, v, da, rfl, od.dp, te, _, rfl, .ref CV, .ref CV, true, rfl, rfl, ⟨dd, _, rfl, hd⟩, fun u ru => ru, T.kW, by show 3 ≤ sizeLine; decide, fun t nt => ?_⟩
          exact ⟨_, rfl, k t nt⟩
        · refine ⟨false, T.e10, (fun z => nomatch z), fun _ => ⟨true, T.xP.me, fun _ a na => ?_, fun z => nomatch z⟩⟩
          refine ⟨_, rfl, rfl, rfl, dd, _, _, rfl, hd, rfl, v, da, rfl, od.dp, te, _, rfl, .ref CV, .ref CV, true, rfl, rfl, ⟨dd, _, rfl, hd⟩, fun u ru => ru, T.kP, by show 3 ≤ sizeLine; decide, fun t nt => ?_⟩
          exact ⟨_, rfl, k t nt⟩
    · intro x H1 k
      exact k.elim
section
variable {X : Cx}
/-- _law_refusal(lambda: ..) -/
theorem pe_rf {Tb : List (Addr × Str)} {g c T CV CW CP : Addr} {fd : FuncData} {k j : Nat} {params : Arguments} {body : Expr} {scope : Scope} {t : XK → TE} {p lpos pos : Pos} (FA : Fun X.K "_law_refusal" "_law_refusal" sRf g fd) (bA : Binds X.K fd ["_law_call"] [])
    (gA : X.mg "_law_refusal" = some (.ref g)) (C : Ctr X.K X.mg CV CW CP) (gd : X.A.guards = some []) (TB : LamX.TabB X.base X.mg c T) (hmT : (T, X.env.qual ++ "<lambda>") ∈ Tb) (hu : ∀ p ∈ Tb, p.1 = T → p.2 = X.env.qual ++ "<lambda>") (hr : Room j X.A) (hk : k + 2 ≤ j) (L : LamX.LamS X.env.scope scope)
    (hbody : ∀ (A : Around) (outer : List Env) (s : Shared) (H : Hp) (E : XK) (f c' : Addr), Room k (A.deeper (LamX.lamEnv X scope s.heap.objs.size f c')) → PE (LamX.lamCx X A outer s H E scope f c') body (t E))
    (hg : Gl X "_law_refusal" := by rfl) (hcode : X.env.code = .ref c := by rfl) (hdef : defaultsOf params X.env = ([], []) := by rfl)
    (hbind : ∀ (q : Str) (cl : List (Str × Addr)) (pm cv ctv : Value), bindArgs (PySem.W.kla_fn "<lambda>" q params body scope cl pm cv ctv) ⟨[], []⟩ = pure [] := by intros; rfl) :
    PE X (.Call (.Name "_law_refusal" p) [.Lambda params body scope lpos] [] pos) (LamX.tLam Tb (TTr CW CP) t) := by
  obtain ⟨oc, od, kV, doc, pm, an, cdv, ct, osl, rfl, lk, hcd⟩ := FA.ex
  exact LamX.pe_lamcall (k := k) hg gA FA.kp lk hcd bA scRf rfl (.inl rfl) (rf_gives C gd (hr.mono (by omega))) TB hcode hmT hu (hr.mono hk) L hdef hbind hbody
end
end K50
set_option Elab.async false
set_option linter.all false
set_option maxRecDepth 100001
set_option maxHeartbeats 3999999
namespace K50
open PySem L2 GFn
/-! ### what is refused -/
structure FunL (K : PySem.W.Frag) (base : Heap) (mg : Str → Option Value) (x q : Str) (st : Stmt) (f c T : Addr) (fd : FuncData) : Prop where
  ex : ∃ (oc : Value) (od : Option Addr) (kV doc pm : Value) (an : Option Addr) (ct : Value) (osl : Array (Option Value)),
    fd = PySem.W.fnOf x q (defArgs st) (defBody st) (defScope st) .none kV doc pm an (.ref c) ct ∧ K.lookup f = some ⟨oc, od, .func fd, osl⟩ ∧ PySem.W.codeIn K (.ref c) q = true
  tab : LamX.TabB base mg c T
section
variable {P : Program} {w : World} {K : PySem.W.Frag} {mg : Str → Option Value} {base : Heap}
theorem FunL.okG {x q : Str} {st : Stmt} {f c T : Addr} {fd : FuncData} {N ps : List Str} {k : Nat} {sp : L2.Sp} (F : FunL K base mg x q st f c T fd) (S : FnScope N ps (defScope st)) (len : ∀ vs H Q E, sp vs H Q E → vs.length = ps.length)
    (hbody : ∀ (A : Around) (outer : List Env) (s : Shared) (H : Hp) (vs : List V) (Q : VK) (E : XK), (A.deeper (PyProof.Rows.envOfC q (defScope st) s.heap.objs.size f (.ref c))).guards = some [] → Room k (A.deeper (PyProof.Rows.envOfC q (defScope st) s.heap.objs.size f (.ref c))) → sp vs H Q E →
      ∃ t, PSs (cxOf CX0 P w K mg base N q (defScope st) f (.ref c) A outer s H E).nox (defBody st) t ∧ t { nx := fun _ H' => Q .non H', rt := Q } (L2.start N vs) H) : FnOkG P w K mg base CX0 (k + 1) f fd ps sp := by
  obtain ⟨oc, od, kV, doc, pm, an, ct, osl, rfl, lk, hcd⟩ := F.ex
  refine fn_ofG lk hcd S len fun A outer s H vs Q E g hr hsp => ?_
  obtain ⟨t, h, q⟩ := hbody A outer s H vs Q E (guards_deeper g) hr hsp
  exact ⟨t, h.nox, q⟩
end
theorem Odd.ext {H H' : Hp} {v : V} {d : PyData} (o : Odd H v d) (e : LamX.ExtN H H') : Odd H' v d := by
  cases o with
  | flat h => exact .flat h
  | tup e1 f => exact .tup (e _ _ e1 fun _ z => nomatch z) f
  | lst e1 f l => exact .lst (e _ _ e1 fun _ z => nomatch z) f l
/-- odd, and told -/
structure OdT (H : Hp) (v : V) (d : PyData) : Prop where
  od : Odd H v d
  te : Tells d
  so : PyData.strOk d.shown = true
theorem OdT.ext {H H' : Hp} {v : V} {d : PyData} (o : OdT H v d) (e : LamX.ExtN H H') : OdT H' v d := ⟨o.od.ext e, o.te, o.so⟩
theorem OdT.same {H H' : Hp} {v : V} {d : PyData} (o : OdT H v d) (e : Same H H') : OdT H' v d := ⟨o.od.same e, o.te, o.so⟩
theorem te_int (i : Int) (h1 : (PyData.int i).showable = true) (h2 : (PyData.int i).shown.length ≤ 1000) : Tells (.int i) := ⟨h1, rfl, by simp [PyData.depth], Nat.le_trans h2 (by decide)⟩
theorem odt_int {H : Hp} (i : Int) (h1 : (PyData.int i).showable = true) (h2 : (PyData.int i).shown.length ≤ 1000) (h3 : PyData.strOk (PyData.int i).shown = true) : OdT H (.int i) (.int i) := ⟨.flat (v := .int i) True.intro, te_int i h1 h2, h3⟩
theorem odt_non {H : Hp} : OdT H .non .none := ⟨.flat (v := .non) True.intro, ⟨rfl, rfl, by simp [PyData.depth], by decide +kernel⟩, by decide +kernel⟩
theorem odt_bl {H : Hp} (b : Bool) : OdT H (.bl b) (.bool b) := ⟨.flat (v := .bl b) True.intro, ⟨rfl, rfl, by simp [PyData.depth], by cases b <;> decide +kernel⟩, by cases b <;> decide +kernel⟩
theorem odt_three {H : Hp} : OdT H (.str "3") (.str "3") := ⟨.flat (v := .str "3") (show PyData.strOk _ = true by decide +kernel), ⟨by decide +kernel, rfl, by simp [PyData.depth], by decide +kernel⟩, by decide +kernel⟩
theorem odt_one {H : Hp} : OdT H (.str "1") (.str "1") := ⟨.flat (v := .str "1") (show PyData.strOk _ = true by decide +kernel), ⟨by decide +kernel, rfl, by simp [PyData.depth], by decide +kernel⟩, by decide +kernel⟩
theorem odt_tup {H : Hp} {t : Addr} (h : H t = some (.tup [.int 3])) : OdT H (.ref t) (.tuple [.int 3]) := ⟨.tup (x := .int 3) h True.intro, ⟨by decide +kernel, rfl, by decide +kernel, by decide +kernel⟩, by decide +kernel⟩
theorem odt_lst {H : Hp} {t : Addr} (h : H t = some (.lst [.int 1])) : OdT H (.ref t) (.list [.int 1]) := ⟨.lst (xs := [.int 1]) h (fun v hv => by
  rw [List.mem_singleton.mp hv]
  exact True.intro) (by decide), ⟨by decide +kernel, rfl, by decide +kernel, by decide +kernel⟩, by decide +kernel⟩
/-- no width -/
structure NoW (H : Hp) (v : V) (d : PyData) : Prop where
  o : OdT H v d
  b : btw v 1 16 = false
/-- no polynomial, of whatever width -/
structure NoP (H : Hp) (v : V) (d : PyData) : Prop where
  o : OdT H v d
  b : ∀ w : Nat, 1 ≤ w → w ≤ 16 → badP v w
theorem bad_even {i : Int} (h : i % 2 = 0) (w : Nat) : badP (.int i) w := .inr ⟨i, rfl, h⟩
theorem bad_low {i : Int} (h : i < 1) (w : Nat) : badP (.int i) w := .inl (decide_eq_false fun z => by omega)
theorem bad_high {i : Int} (h : 65535 < i) {w : Nat} (w2 : w ≤ 16) : badP (.int i) w := .inl (decide_eq_false fun z => by
  have : (2 : Int) ^ w ≤ 2 ^ 16 := by
    have := Nat.pow_le_pow_right (show 0 < 2 by decide) w2
    exact_mod_cast this
  omega)
end K50
set_option Elab.async false
set_option linter.all false
set_option maxRecDepth 100001
set_option maxHeartbeats 3999999
namespace K50
open PySem L2 GFn
theorem OdT.but {pn cl : Addr} {b : Nat} {H H' : Hp} {v : V} {d : PyData} (o : OdT H v d) (pen : Pen H pn cl b) (e : But pn H H') : OdT H' v d := by
  refine ⟨?_, o.te, o.so⟩
  cases o.od with
  | flat h => exact .flat h
  | tup e1 f => exact .tup (e _ _ (pen.ne e1 fun _ z => nomatch z) e1) f
  | lst e1 f l => exact .lst (e _ _ (pen.ne e1 fun _ z => nomatch z) e1) f l
/-- no polynomial, nor twice as much -/
structure NoB (H : Hp) (v : V) (d : PyData) : Prop where
  n : NoP H v d
  dbl : ∀ i, v = .int i → ∀ H', ∃ d', NoP H' (.int (i * 2)) d'
abbrev sRs : Stmt := topS 42
abbrev NRs : List Str := ["_law_pen", "_law_width", "_law_odd", "_law_bent"]
def spRs (Tb : List (Addr × Str)) : L2.Sp := fun vs H Q _ => ∃ (pn cl : Addr) (b : Nat), vs = [.ref pn] ∧ PT Tb H pn cl b ∧ b ≤ 900000 ∧ ∀ H', PT Tb H' pn cl (b + 4) → Q (.bl true) H'
/-- what is_refused calls -/
structure RfK (P : Program) (w : World) (K : PySem.W.Frag) (mg : Str → Option Value) (base : Heap) (f c T g C CV CW CP : Addr) (fd fdA : FuncData) (Tb : List (Addr × Str)) : Prop where
  F : FunL K base mg "_law_is_refused" "_law_is_refused" sRs f c T fd
  B : Bi mg
  cD : Cal CX0 P w K mg base 1 "_law_draw" spDraw
  cK : Cal CX0 P w K mg base 2 "_law_pick" spPick
  cRm : Cal (L2.CX P w) P w K mg base 7 "remainder" (fun vs H Q E => spRm C vs H Q E ∨ spRmX CW CP vs H Q E)
  FA : Fun K "_law_refusal" "_law_refusal" sRf g fdA
  bA : Binds K fdA ["_law_call"] []
  gA : mg "_law_refusal" = some (.ref g)
  Ts : Ctr K mg CV CW CP
  hmT : (T, (("_law_is_refused.<locals>.<lambda>" : String) : Str)) ∈ Tb
  hu : ∀ p ∈ Tb, p.1 = T → p.2 = (("_law_is_refused.<locals>.<lambda>" : String) : Str)
section
variable {P : Program} {w : World} {K : PySem.W.Frag} {mg : Str → Option Value} {base : Heap}
theorem scRs : FnScope NRs ["_law_pen"] (defScope sRs) := ⟨rfl, rfl, rfl, by decide +kernel, rfl, by decide +kernel, by decide +kernel⟩
theorem ok_rs {f c T g C CV CW CP : Addr} {fd fdA : FuncData} {Tb : List (Addr × Str)} (R : RfK P w K mg base f c T g C CV CW CP fd fdA Tb) : FnOkG P w K mg base CX0 10 f fd ["_law_pen"] (spRs Tb) := by
  have B := R.B
  refine R.F.okG scRs (fun vs H Q E h => ?_) (fun A outer s H vs Q E g0 hr h => ?_)
  · obtain ⟨pn, cl, b, rfl, _⟩ := h
    rfl
  · obtain ⟨pn, cl, b, rfl, pt, b1, q⟩ := h
    refine ⟨_, pss_cons (ps_set (i := 1) scRs.nd rfl (Or.inr rfl) (pe_op op_add pe_int (pe_c R.cD hr pass0 (pa_cons (pv 0) (pa_cons pe_int pa_nil)))))
      (pss_cons (ps_set (i := 2) scRs.nd rfl (Or.inr rfl) (pe_c R.cK hr pass0 (pa_cons (pv 0) (pa_cons (pe_lst (pa_cons pe_int (pa_cons pe_int (pa_cons (pe_un un_neg pe_int) (pa_cons pe_non (pa_cons pe_bl (pa_cons pe_str (pa_cons (pe_tup (pa_cons pe_int pa_nil)) (pa_cons (pe_op op_pow pe_int pe_int) (pa_cons pe_bl pa_nil)))))))))) pa_nil))))
      (pss_cons (ps_set (i := 3) scRs.nd rfl (Or.inr rfl) (pe_c R.cK hr pass0 (pa_cons (pv 0) (pa_cons (pe_lst (pa_cons pe_int (pa_cons pe_int (pa_cons (pe_op op_pow pe_int pe_int) (pa_cons (pe_op op_add (pe_op op_pow pe_int pe_int) pe_int) (pa_cons (pe_un un_neg pe_int) (pa_cons pe_non (pa_cons pe_bl (pa_cons pe_str (pa_cons (pe_lst (pa_cons pe_int pa_nil)) (pa_cons pe_int (pa_cons (pe_op op_add (pe_op op_pow pe_int pe_int) pe_int) pa_nil)))))))))))) pa_nil))))
      (pss_cons (ps_if (PW.pt (pw_and (pt_val (pe_isi B.isi (pa_cons (pv 3) (pa_cons (pe_ty "int" B.int) pa_nil)))) (pw_and (pt_not (pt_val (pe_isi B.isi (pa_cons (pv 3) (pa_cons (pe_ty "bool" B.bool) pa_nil))))) (pw_and1 (pt_cmpR op_eq (pe_c R.cD hr pass0 (pa_cons (pv 0) (pa_cons pe_int pa_nil))) pe_int (nomark _)))))) (pss_one (ps_set (i := 3) scRs.nd rfl (Or.inr rfl) (pe_op op_mul (pe_int1 B.int (pa_cons (pv 3) pa_nil)) pe_int))) pss_nil)
      (pss_cons (ps_if (pt_cmpR (op_neSmD (hu64 hr)) (by exact pe_rf (k := 7) (Tb := Tb) R.FA R.bA R.gA R.Ts g0 R.F.tab R.hmT R.hu hr (by decide) (LamX.lamS_by (sc := defScope sRs) (by decide +kernel)) (fun A outer s H E f c' hr' => pe_c R.cRm hr' (passes_call (takes_of rfl rfl rfl rfl) fun _ _ _ _ h => h) (pa_cons (pv 2) (pa_cons (pv 3) pa_nil)))) (pe_tup (pa_cons pe_str (pa_cons (pe_callB (call_reprD g0 hr.units) rfl R.Ts.rp (by decide +kernel) (pa_cons (pv 2) pa_nil)) (pa_cons pe_bl pa_nil)))) (nomark _)) (pss_one (ps_ret pe_bl)) pss_nil)
      (pss_one (ps_ret (pe_cmpR (op_eqSmD (hu64 hr)) (by exact pe_rf (k := 7) (Tb := Tb) R.FA R.bA R.gA R.Ts g0 R.F.tab R.hmT R.hu hr (by decide) (LamX.lamS_by (sc := defScope sRs) (by decide +kernel)) (fun A outer s H E f c' hr' => pe_c R.cRm hr' (passes_call (takes_of rfl rfl rfl rfl) fun _ _ _ _ h => h) (pa_cons (pv 1) (pa_cons (pv 3) pa_nil)))) (pe_tup (pa_cons pe_str (pa_cons (pe_callB (call_reprD g0 hr.units) rfl R.Ts.rp (by decide +kernel) (pa_cons (pv 3) pa_nil)) (pa_cons pe_bl pa_nil)))) (nomark _)))))))), ?_⟩
    refine ⟨_, rfl, pn, cl, _, _, rfl, pt.pen, by omega, by decide, by decide, fun x H1 x0 x1 bt1 p1 => ⟨_, _, rfl, rfl, ?_⟩⟩
    obtain ⟨wd, hwd⟩ := Int.eq_ofNat_of_zero_le (show 0 ≤ 1 + x by omega)
    have w1 : 1 ≤ wd := by omega
    have w2 : wd ≤ 16 := by omega
    have pt1 := pt.but bt1 p1
    refine gN ?_
    dsimp only
    rw [hwd]
    clear x0 x1 hwd pt bt1 p1
    have p30 : (10 : Int) ^ (30 : Int).toNat = 1000000000000000000000000000000 := by decide +kernel
    have p16 : (2 : Int) ^ (16 : Int).toNat = 65536 := by decide +kernel
    refine ⟨_, rfl, _, rfl, by show 1 ≤ sizeLine; decide, fun t3 nt3 => ⟨_, _, rfl, rfl, ⟨by decide, by decide, by decide⟩, by show 9 ≤ sizeLine; decide, fun l1 nl1 => ?_⟩⟩
    have e2 := same_new (o := .tup [.int 3]) nt3
    have h2 : upd H1 t3 (.tup [.int 3]) t3 = some (.tup [.int 3]) := upd_same
    have pt2 := pt1.same e2
    generalize upd H1 t3 (.tup [.int 3]) = H2 at h2 pt2 nl1 ⊢
    dsimp only
    rw [p30]
    refine ⟨pn, cl, l1, _, _, rfl, (pt2.same (same_new nl1)).pen, by omega, upd_same, (by show 0 < 9; decide), (by show 9 ≤ 1000; decide), fun o H3 ho bt3 p3 => ?_⟩
    have pt3 := (pt2.same (same_new nl1)).but bt3 p3
    have h3 : H3 t3 = some (.tup [.int 3]) := bt3 t3 _ (pt2.pen.ne h2 fun _ z => nomatch z) (same_new nl1 _ _ h2)
    obtain ⟨dO, nw⟩ : ∃ d, NoW H3 o d := by
      simp only [List.mem_cons, List.mem_singleton, List.not_mem_nil, or_false] at ho
      rcases ho with rfl | rfl | rfl | rfl | rfl | rfl | rfl | rfl | rfl
      · exact ⟨_, odt_int (H := H3) 0 (by decide +kernel) (by decide +kernel) (by decide +kernel), by decide⟩
      · exact ⟨_, odt_int (H := H3) 17 (by decide +kernel) (by decide +kernel) (by decide +kernel), by decide⟩
      · exact ⟨_, odt_int (H := H3) (-1) (by decide +kernel) (by decide +kernel) (by decide +kernel), by decide⟩
      · exact ⟨_, odt_non (H := H3), rfl⟩
      · exact ⟨_, odt_bl (H := H3) true, rfl⟩
      · exact ⟨_, odt_three (H := H3), rfl⟩
      · exact ⟨_, odt_tup h3, rfl⟩
      · exact ⟨_, odt_int (H := H3) _ (by decide +kernel) (by decide +kernel) (by decide +kernel), by decide⟩
      · exact ⟨_, odt_bl (H := H3) false, rfl⟩
    clear ho bt3 p3 h3 h2 nl1 e2 pt1 pt2
    refine gN ?_
    refine ⟨_, rfl, _, _, rfl, rfl, ⟨by decide, by decide, by decide⟩, _, _, rfl, rfl, ⟨by decide, by decide, by decide⟩, _, _, rfl, rfl, _, rfl, by show 1 ≤ sizeLine; decide, fun t4 nt4 => ⟨_, _, rfl, rfl, ⟨by decide, by decide, by decide⟩, _, _, rfl, rfl, by show 11 ≤ sizeLine; decide, fun l2 nl2 => ?_⟩⟩
    have e4 := same_new (o := .lst [.int 1]) nt4
    have h4 : upd H3 t4 (.lst [.int 1]) t4 = some (.lst [.int 1]) := upd_same
    have pt4 := pt3.same e4
    have nw4 : NoW _ o dO := ⟨nw.o.same e4, nw.b⟩
    generalize upd H3 t4 (.lst [.int 1]) = H4 at h4 pt4 nl2 nw4 ⊢
    dsimp only
    rw [p30, p16]
    refine ⟨pn, cl, l2, _, _, rfl, (pt4.same (same_new nl2)).pen, by omega, upd_same, (by show 0 < 11; decide), (by show 11 ≤ 1000; decide), fun v H5 hv bt5 p5 => ?_⟩
    have pt5 := (pt4.same (same_new nl2)).but bt5 p5
    have h5 : H5 t4 = some (.lst [.int 1]) := bt5 t4 _ (pt4.pen.ne h4 fun _ z => nomatch z) (same_new nl2 _ _ h4)
    have nw5 : OdT H5 o dO := (nw4.o.same (same_new nl2)).but (pt4.same (same_new nl2)).pen bt5
    obtain ⟨dV, nb⟩ : ∃ d, NoB H5 v d := by
      simp only [List.mem_cons, List.mem_singleton, List.not_mem_nil, or_false] at hv
      rcases hv with rfl | rfl | rfl | rfl | rfl | rfl | rfl | rfl | rfl | rfl | rfl
      · exact ⟨_, ⟨odt_int 0 (by decide +kernel) (by decide +kernel) (by decide +kernel), fun w _ _ => bad_low (by decide) w⟩, fun i e H' => by cases e; exact ⟨_, odt_int _ (by decide +kernel) (by decide +kernel) (by decide +kernel), fun w _ _ => bad_even (by decide) w⟩⟩
      · exact ⟨_, ⟨odt_int 2 (by decide +kernel) (by decide +kernel) (by decide +kernel), fun w _ _ => bad_even (by decide) w⟩, fun i e H' => by cases e; exact ⟨_, odt_int _ (by decide +kernel) (by decide +kernel) (by decide +kernel), fun w _ _ => bad_even (by decide) w⟩⟩
      · exact ⟨_, ⟨odt_int 65536 (by decide +kernel) (by decide +kernel) (by decide +kernel), fun w _ _ => bad_even (by decide) w⟩, fun i e H' => by cases e; exact ⟨_, odt_int _ (by decide +kernel) (by decide +kernel) (by decide +kernel), fun w _ _ => bad_even (by decide) w⟩⟩
      · exact ⟨_, ⟨odt_int _ (by decide +kernel) (by decide +kernel) (by decide +kernel), fun w _ w2 => bad_high (by decide) w2⟩, fun i e H' => by cases e; exact ⟨_, odt_int _ (by decide +kernel) (by decide +kernel) (by decide +kernel), fun w _ _ => bad_even (by decide) w⟩⟩
      · exact ⟨_, ⟨odt_int (-1) (by decide +kernel) (by decide +kernel) (by decide +kernel), fun w _ _ => bad_low (by decide) w⟩, fun i e H' => by cases e; exact ⟨_, odt_int _ (by decide +kernel) (by decide +kernel) (by decide +kernel), fun w _ _ => bad_even (by decide) w⟩⟩
      · exact ⟨_, ⟨odt_non, fun _ _ _ => .inl rfl⟩, fun i e => nomatch e⟩
      · exact ⟨_, ⟨odt_bl true, fun _ _ _ => .inl rfl⟩, fun i e => nomatch e⟩
      · exact ⟨_, ⟨odt_one, fun _ _ _ => .inl rfl⟩, fun i e => nomatch e⟩
      · exact ⟨_, ⟨odt_lst h5, fun _ _ _ => .inl rfl⟩, fun i e => nomatch e⟩
      · exact ⟨_, ⟨odt_int 4 (by decide +kernel) (by decide +kernel) (by decide +kernel), fun w _ _ => bad_even (by decide) w⟩, fun i e H' => by cases e; exact ⟨_, odt_int _ (by decide +kernel) (by decide +kernel) (by decide +kernel), fun w _ _ => bad_even (by decide) w⟩⟩
      · exact ⟨_, ⟨odt_int _ (by decide +kernel) (by decide +kernel) (by decide +kernel), fun w _ w2 => bad_high (by decide) w2⟩, fun i e H' => by cases e; exact ⟨_, odt_int _ (by decide +kernel) (by decide +kernel) (by decide +kernel), fun w _ _ => bad_even (by decide) w⟩⟩
    have ob := nw.b
    clear hv bt5 p5 h5 h4 nl2 e4 pt3 pt4 nw nw4 p30 p16
    refine gN ?_
    refine cutSeq (R := fun σ' H' => ∃ v d, σ' = [some (.ref pn), some (.int ((wd : Nat) : Int)), some o, some v] ∧ PT Tb H' pn cl (b + 4) ∧ OdT H' o dO ∧ NoP H' v d) (fun nx hnx => ?_) ?_
    · obtain ⟨t, ty, k1, k2, _⟩ := nb.n.o.od.kn.kinds K
      have pt5' : PT Tb H5 pn cl (b + 4) := ⟨pt5.pen.mono (by omega), pt5.tabs⟩
      by_cases cI : ∃ i, v = .int i
      · obtain ⟨i, rfl⟩ := cI
        refine ⟨_, rfl, _, _, _, _, _, rfl, .ty "int", ty, k1, _, rfl, ?_⟩
        refine iteT ?_
        refine ⟨_, rfl, _, _, _, _, _, rfl, .ty "bool", ty, k2, _, rfl, ?_⟩
        refine iteT ?_
        refine ⟨_, rfl, pn, cl, _, _, rfl, pt5.pen, by omega, by decide, by decide, fun k H6 k0 k1 bt6 p6 => ⟨rfl, _, rfl, ?_⟩⟩
        have pt6 : PT Tb H6 pn cl (b + 4) := pt5.but bt6 p6
        have oo := nw5.but pt5.pen bt6
        rw [dec_int]
        by_cases c0 : k = 0
        · rw [show (k == 0) = true by rw [beq_iff_eq]; exact c0]
          obtain ⟨d', np⟩ := nb.dbl i rfl H6
          exact iteT ⟨_, rfl, .inl ⟨_, rfl, _, _, rfl, rfl, .inr ⟨by decide, by decide⟩, hnx _ _ ⟨_, d', rfl, pt6, oo, np⟩⟩⟩
        · rw [show (k == 0) = false by rw [beq_eq_false_iff_ne]; exact c0]
          exact iteF (hnx _ _ ⟨_, dV, rfl, pt6, oo, nb.n.o.but pt5.pen bt6, nb.n.b⟩)
      · have hh := hnx _ H5 ⟨v, dV, rfl, pt5', nw5, nb.n⟩
        refine ⟨_, rfl, _, _, _, _, _, rfl, .ty "int", ty, k1, _, rfl, ?_⟩
        cases v with
        | int i => exact absurd ⟨i, rfl⟩ cI
        | bl bb =>
          refine iteT ?_
          refine ⟨_, rfl, _, _, _, _, _, rfl, .ty "bool", ty, k2, _, rfl, ?_⟩
          exact iteF (iteF hh)
        | _ => exact iteF (iteF hh)
    · rintro σ H6 ⟨v, dV, rfl, pt6, oo, np⟩
      clear pt5 nw5 nb
      refine ⟨pt6.tabs, fun H7 en7 tb7 H8 e8 => ⟨_, rfl, _, rfl, .inr ⟨o, v, rfl, .inl ⟨dO, ((oo.ext en7).same e8).od, ob, fun dd H9 r9 => .inl ?_⟩⟩⟩⟩
      obtain ⟨v', hv', od'⟩ := r9.at_
      refine ⟨rfl, dd, v', dO, rfl, hv', od', oo.te, fun t nt => ?_⟩
      have fl1 : ∀ x ∈ ([V.str "width", V.str dO.shown, V.bl true] : List V), Flat x := fun x hx => by
        simp only [List.mem_cons, List.mem_singleton, List.not_mem_nil, or_false] at hx
        rcases hx with rfl | rfl | rfl
        · show PyData.strOk _ = true
          decide +kernel
        · exact oo.so
        · exact True.intro
      have e79 : Same H7 H9 := e8.trans r9.same
      refine ⟨_, rfl, o, dO, rfl, (((oo.ext en7).same e79).same (same_new nt)).od.dp, oo.te, by show 3 ≤ sizeLine; decide, fun t2 nt2 => rSmD_of nt nt2 fl1 fun H10 e10 => ⟨_, rfl, iteF (nextOf ?_)⟩⟩
      have pt10 := ((pt6.ext en7 tb7).same e79).same e10
      have np10 : OdT H10 v dV := ((np.o.ext en7).same e79).same e10
      have bp := np.b wd w1 w2
      clear nt nt2 e10 e79 r9 e8 en7 tb7 pt6 oo np hv' od' fl1
      refine ⟨pt10.tabs, fun H11 en11 tb11 H12 e12 => ⟨_, rfl, _, rfl, .inr ⟨_, v, rfl, .inr ⟨wd, dV, rfl, w1, w2, ((np10.ext en11).same e12).od, bp, fun dd H13 r13 => .inr ?_⟩⟩⟩⟩
      obtain ⟨v', hv', od'⟩ := r13.at_
      refine ⟨rfl, dd, v', dV, rfl, hv', od', np10.te, fun t nt => ?_⟩
      have fl2 : ∀ x ∈ ([V.str "polynomial", V.str dV.shown, V.bl true] : List V), Flat x := fun x hx => by
        simp only [List.mem_cons, List.mem_singleton, List.not_mem_nil, or_false] at hx
        rcases hx with rfl | rfl | rfl
        · show PyData.strOk _ = true
          decide +kernel
        · exact np10.so
        · exact True.intro
      have e1113 : Same H11 H13 := e12.trans r13.same
      refine ⟨_, rfl, v, dV, rfl, (((np10.ext en11).same e1113).same (same_new nt)).od.dp, np10.te, by show 3 ≤ sizeLine; decide, fun t2 nt2 => rSmE_of nt nt2 fl2 fun H14 e14 => ?_⟩
      exact q H14 (((pt10.ext en11 tb11).same e1113).same e14)
end
end K50
set_option Elab.async false
set_option linter.all false
set_option maxRecDepth 100001
set_option maxHeartbeats 3999999
namespace K50
open PySem L2
open Mx (sm cg dl Sp Eqv)
/-- a comprehension of ints that takes from the pen -/
theorem lcI {J : It} {n : Nat} {G : Hp → Prop} {Y : Nat → Hp → V → Hp → Prop} (wk : Walk J n G Y) {g : TG} {te : TE} {vs : List Nat} {σ : St} {H1 : Hp} {D : Addr} {Qd : Hp → Prop} {pn cl : Addr} {b s : Nat} (R : Nat → Int → Prop) (hb : n ≤ 10000) (nD : H1 D = none) (pen : Pen H1 pn cl b)
    (hG : ∀ H', But pn H1 H' → G H')
    (hs : ∀ (i : Nat) (x : V) (H2 H3 : Hp) (N : VK), i < n → But pn H1 H2 → Pen H2 pn cl (b + s * i) → Y i H2 x H3 → (∀ (c : Int) H4, R i c → But pn H2 H4 → Pen H4 pn cl (b + s * i + s) → N (.int c) H4) → g x (wipe σ vs) H3 fun σ2 H4 => wipe σ2 vs = wipe σ vs ∧ te σ2 H4 N)
    (hd : ∀ (cs : List Int) H', cs.length = n → (∀ i, i < n → R i (at_ cs i)) → But pn H1 H' → Pen H' pn cl (b + s * n) → H' D = some (.lst (iV cs)) → Qd H') :
    ∃ W : Nat → Nat → Hp → Prop, (∃ m, W 0 m (upd H1 D (.lst []))) ∧ ∀ i m H, W i m H →
      (J.stop i H ∧ Qd H) ∨ (J.go i H ∧ ∃ Nx : Hp → Prop, (∀ H', Nx H' → ∃ m', m' < m ∧ W (i + 1) m' H') ∧ ∀ x H', J.yld i H x H' → g x (wipe σ vs) H' fun σ2 H2 => wipe σ2 vs = wipe σ vs ∧ tYes σ2 H2 fun b H3 =>
        if b = true then te σ2 H3 fun y H4 => ∃ acc, H4 D = some (.lst acc) ∧ acc.length < sizeLine ∧ Nx (upd H4 D (.lst (acc ++ [y]))) else Nx H3) := by
  refine lc_it wk (fun i H' => ∃ cs : List Int, cs.length = i ∧ H' D = some (.lst (iV cs)) ∧ (∀ j, j < i → R j (at_ cs j)) ∧ But pn H1 H' ∧ Pen H' pn cl (b + s * i)) ⟨[], rfl, upd_same, (fun c hc => absurd hc (Nat.not_lt_zero _)), fun c o _ z => same_new nD _ _ z, pen.same (same_new nD)⟩ (fun i H' _ ⟨_, _, _, _, bt, _⟩ => hG H' bt) ?_ (fun H' ⟨cs, lc, hD, cN, bt, p⟩ => hd cs H' lc cN bt p hD)
  rintro i x H2 H3 hi ⟨cs, lc, hD, cN, b2, pen2⟩ y
  refine hs i x _ _ _ hi b2 pen2 y fun c H4 hc b4 pen4 => ?_
  have hD4 := b4 _ _ (pen2.ne hD fun _ z => nomatch z) hD
  refine ⟨_, hD4, ?_, cs ++ [c], ?_, ?_, ?_, ?_, ?_⟩
  · rw [iV_len]
    exact small10 (by omega)
  · rw [List.length_append, lc]
    rfl
  · rw [upd_same]
    unfold iV
    rw [List.map_append]
    rfl
  · intro z hz
    unfold at_
    rw [List.getD_eq_getElem?_getD]
    by_cases q : z < i
    · rw [List.getElem?_append_left (by omega), ← List.getD_eq_getElem?_getD]
      exact cN z q
    · have : z = cs.length := by omega
      subst this
      rw [List.getElem?_append_right (Nat.le_refl _), Nat.sub_self]
      rw [lc]
      exact hc
  · intro c o n z
    rw [upd_ne (ne_of_none z nD)]
    exact b4 _ _ n (b2 _ _ n z)
  · have e1 : pn ≠ D := Ne.symm (pen4.ne hD4 fun _ z => nomatch z)
    rw [Nat.mul_add, Nat.mul_one, ← Nat.add_assoc]
    refine pen4.upd e1 ?_
    obtain ⟨_, _, _, _, p2, _⟩ := pen
    exact ne_of_none p2 nD
theorem old_but {pn cl : Addr} {H H' : Hp} {b : Nat} {a : Addr} (e : But pn H H') (pen : Pen H' pn cl b) (n : H' a = none) : H a = none := by
  cases c : H a with
  | none => rfl
  | some o =>
    by_cases z : a = pn
    · subst z
      obtain ⟨_, _, _, h1, _⟩ := pen
      rw [h1] at n
      cases n
    · rw [e a o z c] at n
      cases n
/-! ### matrices as data -/
def dRw (r : List Int) : PyData := .tuple (r.map PyData.int)
def dMt (M : List (List Int)) : PyData := .tuple (M.map dRw)
theorem dpAll_iV {K : PySem.W.Frag} {H : Hp} : ∀ xs : List Int, DpAll K H (iV xs) (xs.map PyData.int)
  | [] => .nil
  | x :: xs => .cons (.int x) (dpAll_iV xs)
theorem dp_rw {K : PySem.W.Frag} {H : Hp} {a : Addr} {xs : List Int} (h : H a = some (.tup (iV xs))) : Dp K H (.ref a) (dRw xs) := .tup (SqT.of h) (dpAll_iV xs)
theorem dpAll_rws {K : PySem.W.Frag} {H : Hp} {as : List Addr} {M : List (List Int)} (h : RwI H as M) : DpAll K H (as.map V.ref) (M.map dRw) := by
  induction h with
  | nil => exact .nil
  | cons h _ ih => exact .cons (dp_rw h) ih
theorem IsMt.dp {K : PySem.W.Frag} {H : Hp} {p : Addr} {M : List (List Int)} (h : IsMt H p M) : Dp K H (.ref p) (dMt M) := let ⟨_, h1, h2⟩ := h; .tup (SqT.of h1) (dpAll_rws h2)
theorem lay_all {xs : List PyData} (h : ∀ x ∈ xs, x.canLay0 = true) : PyData.canLayAll0 xs = true := by
  induction xs with
  | nil => rfl
  | cons x xs ih => rw [PyData.canLayAll0, h x List.mem_cons_self, ih fun y hy => h y (List.mem_cons_of_mem _ hy)]; rfl
theorem lay_rw (r : List Int) : (dRw r).canLay0 = true := by
  unfold dRw
  rw [PyData.canLay0]
  exact lay_all fun x hx => by
    obtain ⟨i, _, rfl⟩ := List.mem_map.mp hx
    rfl
theorem lay_mt (M : List (List Int)) : (dMt M).canLay0 = true := by
  unfold dMt
  rw [PyData.canLay0]
  exact lay_all fun x hx => by
    obtain ⟨r, _, rfl⟩ := List.mem_map.mp hx
    exact lay_rw r
theorem dep_rw (r : List Int) : (dRw r).depth ≤ 1 := by
  have := GFn.depthAll_of (n := 0) (xs := r.map PyData.int) fun x hx => by
    obtain ⟨i, _, rfl⟩ := List.mem_map.mp hx
    simp [PyData.depth]
  unfold dRw
  simp only [PyData.depth]
  omega
theorem dep_mt (M : List (List Int)) : (dMt M).depth ≤ 2 := by
  have := GFn.depthAll_of (n := 1) (xs := M.map dRw) fun x hx => by
    obtain ⟨r, _, rfl⟩ := List.mem_map.mp hx
    exact dep_rw r
  unfold dMt
  simp only [PyData.depth]
  omega
theorem shaped_mt (M : List (List Int)) : SeqAt.shaped (dMt M) = true := by
  show (PyData.canLay0 (dMt M) && decide (PyData.depth (dMt M) ≤ 64)) = true
  rw [Bool.and_eq_true]
  exact ⟨lay_mt M, decide_eq_true (by have := dep_mt M; omega)⟩
theorem eqv_mt (M : List (List Int)) : PyData.eqv (dMt M) (dMt M) = true := SeqAt.eqv_refl _ (lay_mt M)
theorem tells_rw {r : List Int} (h : ∀ x ∈ r, x.natAbs < 2 ^ 300) : GFn.TellsB 1 (3 + r.length * 1923) (dRw r) := by
  have := GFn.TellsB.tuple (n := 0) (b := 1921) (xs := r.map PyData.int) fun x hx => by
    obtain ⟨i, hi, rfl⟩ := List.mem_map.mp hx
    have := h i hi
    refine .int ?_
    by_cases c : i.natAbs = 0
    · rw [c]; decide
    · have := (Nat.log2_lt c).mpr this
      omega
  rw [List.length_map] at this
  exact this
theorem tells_mt {r c : Nat} {M : List (List Int)} (d : Dm r c M) (r5 : r ≤ 20) (c5 : c ≤ 20) (h : ∀ i j, (ent M i j).natAbs < 2 ^ 300) : GFn.Tells (dMt M) := by
  have := GFn.TellsB.tuple (n := 1) (b := 3 + 20 * 1923) (xs := M.map dRw) fun x hx => by
    obtain ⟨y, hy, rfl⟩ := List.mem_map.mp hx
    obtain ⟨i, hi, e⟩ := List.getElem_of_mem hy
    have ly := d.mem y hy
    have t := tells_rw (r := y) fun x hx => by
      obtain ⟨j, hj, e2⟩ := List.getElem_of_mem hx
      have := h i j
      unfold ent at this
      rw [rw_get hi, e, at_get hj, e2] at this
      exact this
    exact ⟨t.can, t.nod, t.dep, Nat.le_trans t.len (by rw [ly]; have := Nat.mul_le_mul_right 1923 c5; omega)⟩
  rw [List.length_map, d.len] at this
  exact this.tells (by decide) (Nat.le_trans (Nat.add_le_add_left (Nat.mul_le_mul_right _ r5) _) (by decide))
/-! ### what the sums are -/
theorem add_zs {w q : Nat} (bits : List Int) : add_ 2 (stt w q bits) (zs w) = stt w q bits := at_ext add_len fun i hi => by
  rw [add_len] at hi
  unfold add_
  rw [at_range hi, zs_at]
  have := stt_01 (w := w) (q := q) bits i
  omega
theorem stp_zs {w q : Nat} : stp_g 2 w 1 (eM w (tl_ w q)) (cM w (tl_ w q)) (zs w) [0] = zs w := at_ext (by unfold stp_g; rw [add_len, zs_len]; exact len_r) fun i hi => by
  have hi : i < w := by
    have e : (stp_g 2 w 1 (eM w (tl_ w q)) (cM w (tl_ w q)) (zs w) [0]).length = w := by unfold stp_g; rw [add_len]; exact len_r
    omega
  rw [stp_at zs_len hi, zs_at, zs_at, zs_at]
  simp
theorem stt_zeros {w q : Nat} (bits : List Int) : ∀ k, stt w q (List.replicate k 0 ++ bits) = stt w q bits
  | 0 => rfl
  | k + 1 => by
    have ih := stt_zeros (w := w) (q := q) bits k
    unfold stt at ih ⊢
    rw [List.replicate_succ, List.cons_append, List.map_cons, List.foldl_cons, stp_zs]
    exact ih
def syms (bits : List Int) : List (List Int) := bits.map fun x => [x]
theorem sum_stt {w q : Nat} (bits : List Int) : sum_ 2 w 1 (eM w (tl_ w q)) (cM w (tl_ w q)) (zs w) (zs w) (syms bits) = stt w q bits := add_zs bits
theorem syms_len (bits : List Int) : (syms bits).length = bits.length := List.length_map _
theorem syms_rw {bits : List Int} {i : Nat} (h : i < bits.length) : rw_ (syms bits) i = [at_ bits i] := by
  rw [rw_get (by rw [syms_len]; exact h)]
  unfold syms
  rw [List.getElem_map, at_get h]
/-- the bits, a tuple each, in a list -/
theorem bk_of {H : Hp} {p : Addr} {vs : List V} {bits : List Int} (b : B01 bits) (h : H p = some (.lst vs)) (l : vs.length = bits.length) (r : ∀ i v, vs[i]? = some v → ∃ t, v = .ref t ∧ H t = some (.tup [.int (at_ bits i)])) : Bk H p 1 2 vs (syms bits) := by
  refine ⟨h, by rw [l, syms_len], fun i hi => ?_, fun i hi => ?_⟩
  · rw [syms_len] at hi
    obtain ⟨t, e, g⟩ := r i _ (List.getElem?_eq_getElem (show i < vs.length by omega))
    exact ⟨t, by rw [List.getElem?_eq_getElem (by omega), e], by rw [g, syms_rw hi]; rfl⟩
  · rw [syms_len] at hi
    rw [syms_rw hi]
    refine ⟨rfl, fun j hj => ?_⟩
    have hj : j < 1 := hj
    obtain rfl : j = 0 := by omega
    show 0 ≤ at_ bits i ∧ at_ bits i < 2
    rcases b i with e | e <;> rw [e] <;> decide
theorem known_ok : stt 8 7 ((("123456789" : Str).cps.toList.map fun c => tl_ 8 c).flatten) = tl_ 8 244 := by decide +kernel
end K50
set_option Elab.async false
set_option linter.all false
set_option maxRecDepth 100001
set_option maxHeartbeats 3999999
/-! tuple * k for k from 1 on -/
namespace L2
open PySem.Spec PySem PyProof.Rows
theorem tuple_mul1 (l : Addr) (items : Array Value) (n : Nat) (dd : Option Addr) (sl : Array (Option Value)) (u : Tok) :
    Meets (Builtin.«tuple.__mul__» ⟨[.ref l, .int 1 u], []⟩) (fun _ R s => s.heap.get? l = some { cls := .type "tuple", dict := dd, data := .seq items n, slots := sl } ∧ R (.ok (.ret (Value.ref l))) s) :=
  .of_wp fun prog w A R s h => by
    obtain ⟨hp, g, d, tk, os⟩ := s
    obtain ⟨hl, h⟩ := h
    have f1 := AutoSeq1.idx_int
    wp_walk using wpAny_loadPart' hl
    exact ⟨_, rfl, h⟩
/-- tuple * k: itself for 1 -/
def rRepA (K : PySem.W.Frag) : R2 := fun x y H Q => ∃ l k xs, x = .ref l ∧ y = .int k ∧ SqT K H l xs ∧ xs ≠ [] ∧ 1 ≤ k ∧ k ≤ 1000 ∧ xs.length ≤ 1000 ∧ (k = 1 → Q (.ref l) H) ∧ (2 ≤ k → ∀ p, H p = none → Q (.ref p) (upd H p (.tup (List.replicate k.toNat xs).flatten)))
theorem op_repA {X : Cx} : OpR X (binaryOp .Mult) (rRepA X.K) := by
  intro pins s σ H x y v u Q I rx ry h
  obtain ⟨l, k, xs, rfl, rfl, hT, hne, h1, h2, hz, q1, q2⟩ := h
  by_cases c : 2 ≤ k
  · exact op_repT pins s σ H _ _ v u Q I rx ry ⟨l, k, xs, rfl, rfl, hT, hne, c, h2, hz, q2 c⟩
  · obtain rfl : k = 1 := by omega
    cases rx
    obtain ⟨t, rfl⟩ := ry
    obtain ⟨its, r, ⟨⟨cls, dd, data, sl⟩, ho, hc, n, hd⟩, hs⟩ := I.tuple hT
    simp only at hc hd
    subst hc hd
    refine wpAny_binaryOp_repeat_ref (T := "tuple") (U := "int") (by decide) ⟨_, ho, rfl⟩ (fun s' => typeIs_int s' 1 t) noFill_tuple_mul F.fills_int_mul F.slot_int_rmul repeat_tuple F.slot_int_index.lookup
      (call_meets F.slot_int_rmul (typeIs_int s 1 t) F.entry_int_rmul (F.args_int_rmul_2 _ _) (int_rmul_tuple 1 t l its.toArray n dd sl)
        ⟨ho, rfl, ⟨_, ho, rfl⟩, call_meets F.slot_tuple_mul ⟨_, ho, rfl⟩ F.entry_tuple_mul (F.args_tuple_mul_2 _ _) (tuple_mul1 l its.toArray n dd sl t) ⟨ho, ?_⟩⟩)
    exact ⟨.ref l, _, I, rfl, q1 rfl⟩
end L2
set_option Elab.async false
set_option linter.all false
set_option maxRecDepth 100001
set_option maxHeartbeats 3999999
namespace K50
open PySem L2 GFn
structure CalG (CX : CXT) (P : Program) (w : World) (K : PySem.W.Frag) (mg : Str → Option Value) (base : Heap) (k : Nat) (x : Str) (sp : L2.Sp) : Prop where
  ex : ∃ (f : Addr) (fd : FuncData) (ps : List Str), FnOkG P w K mg base CX k f fd ps sp ∧ mg x = some (.ref f) ∧ PySem.W.keepIn K (.ref f) = true ∧ Binds K fd ps []
section
variable {X : Cx} {CX : CXT} {k j : Nat} {x : Str} {sp : L2.Sp} {p pos : Pos} {e : Expr} {es : List Expr} {t : TA} {E : XK}
theorem pe_cG (c : CalG CX X.prog X.w X.K X.mg X.base k x sp) (g : X.A.guards = some []) (hr : Room j X.A) (hx : Passes CX X E) (ha : PA X (e :: es) t) (hk : k ≤ j := by decide) (hg : Gl X x := by rfl) (hdb : (x == ("__debug__" : Str)) = false := by decide)
    (he : starEach (e :: es) X.env = (false, eval e X.env) :: starEach es X.env := by rfl) (hpl : (backTo pos (starEach es X.env)).any (·.1) = false := by rfl) : PE X (.Call (.Name x p) (e :: es) [] pos) (tCall sp [] E t) := by
  obtain ⟨f, fd, ps, F, hm, kp, b⟩ := c.ex
  exact pe_callG F g (hr.mono hk) hg hm kp b hx ha hdb he hpl
end
section
variable {P : Program} {w : World} {K : PySem.W.Frag} {mg : Str → Option Value} {base : Heap}
theorem okG {x qual : Str} {st : Stmt} {f : Addr} {fd : FuncData} {N ps : List Str} {k : Nat} {sp : L2.Sp} (F : Fun K x qual st f fd) (S : FnScope N ps (defScope st)) (len : ∀ vs H Q E, sp vs H Q E → vs.length = ps.length)
    (hbody : ∀ (cdv : Value) (A : Around) (outer : List Env) (s : Shared) (H : Hp) (vs : List V) (Q : VK) (E : XK), (A.deeper (PyProof.Rows.envOfC qual (defScope st) s.heap.objs.size f cdv)).guards = some [] → Room k (A.deeper (PyProof.Rows.envOfC qual (defScope st) s.heap.objs.size f cdv)) → sp vs H Q E →
      ∃ t, PSs (cxOf CX0 P w K mg base N qual (defScope st) f cdv A outer s H E).nox (defBody st) t ∧ t { nx := fun _ H' => Q .non H', rt := Q } (L2.start N vs) H) : FnOkG P w K mg base CX0 (k + 1) f fd ps sp := by
  obtain ⟨oc, od, kV, doc, pm, an, cdv, ct, osl, rfl, lk, hcd⟩ := F.ex
  refine fn_ofG lk hcd S len fun A outer s H vs Q E g hr hsp => ?_
  obtain ⟨t, h, q⟩ := hbody cdv A outer s H vs Q E (guards_deeper g) hr hsp
  exact ⟨t, h.nox, q⟩
end
theorem IsMt.but {pn cl : Addr} {b : Nat} {H H' : Hp} {p : Addr} {M : List (List Int)} (h : IsMt H p M) (pen : Pen H pn cl b) (e : But pn H H') : IsMt H' p M := h.tt fun a _ z => e _ _ (pen.ne z fun _ y => nomatch y) z
theorem IsGd.but {pn c : Addr} {b : Nat} {C : Addr} {H H' : Hp} {p : Addr} {m : Int} {n w : Nat} {A B : List (List Int)} {s e : List Int} {dx mt cl st en : Addr} (g : IsGd C H p m n w A B s e dx mt cl st en) (pen : Pen H pn c b) (E : But pn H H') : IsGd C H' p m n w A B s e dx mt cl st en :=
  ⟨E _ _ (pen.ne g.ob fun _ z => nomatch z) g.ob, g.mt.but pen E, g.cl.but pen E, E _ _ (pen.ne g.st fun _ z => nomatch z) g.st, E _ _ (pen.ne g.en fun _ z => nomatch z) g.en, g.ok⟩
/-- the text that is known -/
def kz : Str := "123456789"
def kb (i : Nat) : List Int := ((kz.cps.toList.take i).map fun c => tl_ 8 c).flatten
theorem kb_succ {i c : Nat} (h : kz.cps[i]? = some c) : kb (i + 1) = kb i ++ tl_ 8 c := by
  have h' : kz.cps.toList[i]? = some c := by rw [← h]; simp
  obtain ⟨hi, e⟩ := List.getElem?_eq_some_iff.mp h'
  unfold kb
  rw [List.take_succ_eq_append_getElem hi, List.map_append, List.flatten_append, e]
  simp
theorem kb_all : stt 8 7 (kb 9) = tl_ 8 244 := by decide +kernel
theorem kb_01 : B01 (kb 9) := fun i => by
  have h : ∀ x ∈ kb 9, x = 0 ∨ x = 1 := by decide +kernel
  by_cases c : i < (kb 9).length
  · rw [at_get c]
    exact h _ (List.getElem_mem c)
  · exact .inl (at_out (by omega))
theorem at_app {xs ys : List Int} {i : Nat} : at_ (xs ++ ys) i = if i < xs.length then at_ xs i else at_ ys (i - xs.length) := by
  unfold at_
  rw [List.getD_eq_getElem?_getD, List.getD_eq_getElem?_getD, List.getD_eq_getElem?_getD]
  split
  · rw [List.getElem?_append_left (by assumption)]
  · rw [List.getElem?_append_right (by omega)]
theorem shL_ints (xs : List Int) : SeqAt.shaped (.list (xs.map PyData.int)) = true := by
  have := GFn.depthAll_of (n := 0) (xs := xs.map PyData.int) fun x hx => by
    obtain ⟨i, _, rfl⟩ := List.mem_map.mp hx
    simp [PyData.depth]
  show (PyData.canLay0 (.list (xs.map PyData.int)) && decide (PyData.depth (.list (xs.map PyData.int)) ≤ 64)) = true
  rw [Bool.and_eq_true]
  refine ⟨?_, decide_eq_true ?_⟩
  · rw [PyData.canLay0]
    exact lay_all fun x hx => by
      obtain ⟨i, _, rfl⟩ := List.mem_map.mp hx
      rfl
  · simp only [PyData.depth]
    omega
abbrev sLaw : Stmt := topS 43
abbrev NLaw : List Str := ["_law_script", "_law_pen", "_law_turn", "_law_width", "_law_polynomial", "_law_k", "_law_guard", "_law_bits", "_law_due", "_law_bit", "_law_known", "_law_sign"]
def spLaw (K : PySem.W.Frag) (Tb : List (Addr × Str)) : L2.Sp := fun vs H Q _ => ∃ (a : Addr) (is : List Int), vs = [.ref a] ∧ SqL K H a (is.map V.int) ∧ LamX.Tabs Tb H ∧ ∀ H', Q (.bl true) H'
/-- what the law calls -/
structure LwC (P : Program) (w : World) (K : PySem.W.Frag) (mg : Str → Option Value) (base : Heap) (f C CW CP : Addr) (fd : FuncData) (Tb : List (Addr × Str)) : Prop where
  F : Fun K "law" "law" sLaw f fd
  B : Bi mg
  T : TxG K C
  O : ObC K C
  U : ObK K
  kC : PySem.W.kitOne K (.ref C) (.ref C) = some true
  gG : mg "Guard" = some (.ref C)
  rp : mg "repr" = none
  od : mg "ord" = none
  cPe : Cal CX0 P w K mg base 1 "_law_pen_of" (spPen K)
  cD : Cal CX0 P w K mg base 1 "_law_draw" spDraw
  cRm : Cal (L2.CX P w) P w K mg base 7 "remainder" (fun vs H Q E => spRm C vs H Q E ∨ spRmX CW CP vs H Q E)
  mS : Met (L2.CX P w) P w K mg base 4 C "sum_of" (spSum C)
  cLf : Cal CX0 P w K mg base 1 "_law_left" spLf
  cDg : Cal CX0 P w K mg base 1 "_law_digits" spDg
  cRs : CalG CX0 P w K mg base 10 "_law_is_refused" (spRs Tb)
section
variable {P : Program} {w : World} {K : PySem.W.Frag} {mg : Str → Option Value} {base : Heap}
theorem scLaw : FnScope NLaw ["_law_script"] (defScope sLaw) := ⟨rfl, rfl, rfl, by decide +kernel, rfl, by decide +kernel, by decide +kernel⟩
theorem ok_law {f C CW CP : Addr} {fd : FuncData} {Tb : List (Addr × Str)} (R : LwC P w K mg base f C CW CP fd Tb) : FnOkG P w K mg base CX0 11 f fd ["_law_script"] (spLaw K Tb) := by
  have B := R.B
  have T := R.T
  refine okG R.F scLaw (fun vs H Q E h => ?_) (fun cdv A outer s H vs Q E g hr h => ?_)
  · obtain ⟨a, is, rfl, _⟩ := h
    rfl
  · obtain ⟨a, is, rfl, ha, tabs, q⟩ := h
    refine ⟨_, pss_cons (ps_set (i := 1) scLaw.nd rfl (Or.inr rfl) (pe_c R.cPe hr pass0 (pa_cons (pv 0) pa_nil)))
      (pss_cons (ps_for PassesOwn.never rfl (pi_range1 rfl B.range (pa_cons pe_int pa_nil)) (pg_name (i := 2) scLaw.nd rfl (Or.inl rfl))
        (pss_cons (ps_par (i := 3) (j := 4) rfl scLaw.nd rfl rfl (by decide) rfl rfl (pa_cons (pe_op op_add pe_int (pe_c R.cD hr pass0 (pa_cons (pv 1) (pa_cons pe_int pa_nil)))) (pa_cons pe_int pa_nil)) rfl)
        (pss_cons (ps_for PassesOwn.never rfl (pi_range1 rfl B.range (pa_cons (pv 3) pa_nil)) (pg_name (i := 5) scLaw.nd rfl (Or.inl rfl))
          (pss_one (ps_set (i := 4) scLaw.nd rfl (Or.inl rfl) (pe_op op_add (pe_op op_mul (pv 4) pe_int) (pe_c R.cD hr pass0 (pa_cons (pv 1) (pa_cons pe_int pa_nil)))))))
        (pss_cons (ps_set (i := 4) scLaw.nd rfl (Or.inl rfl) (pe_op op_add (pe_op op_mul (pe_op op_fdiv (pv 4) pe_int) pe_int) pe_int))
        (pss_cons (ps_set (i := 6) scLaw.nd rfl (Or.inl rfl) (pe_c R.cRm hr passL (pa_cons (pv 3) (pa_cons (pv 4) pa_nil))))
        (pss_cons (ps_if (PW.pt (pw_or (pt_not (pt_val (pe_isi B.isi (pa_cons (pv 6) (pa_cons (pe_glob (v := .ref C) rfl R.gG rfl) pa_nil))))) (pw_or1 (pt_cmpR (op_neSmD (hu64 hr)) (pe_tup (pa_cons (pe_fld (pv 6) rfl) (pa_cons (pe_fld (pv 6) rfl) (pa_cons (pe_fld (pv 6) rfl) pa_nil)))) (pe_tup (pa_cons pe_int (pa_cons (pv 3) (pa_cons pe_int pa_nil)))) (nomark _))))) (pss_one (ps_ret pe_bl)) pss_nil)
        (pss_cons (ps_if (pt_cmpR op_ne (pe_callB (call_reprD g hr.units) rfl R.rp (by decide +kernel) (pa_cons (pe_tup (pa_cons (pe_fld (pv 6) rfl) (pa_cons (pe_fld (pv 6) rfl) pa_nil))) pa_nil)) (pe_callB (call_reprD g hr.units) rfl R.rp (by decide +kernel) (pa_cons (pe_tup (pa_cons (pe_op op_repA (pe_tup (pa_cons pe_int pa_nil)) (pv 3)) (pa_cons (pe_op op_repA (pe_tup (pa_cons pe_int pa_nil)) (pv 3)) pa_nil))) pa_nil)) (nomark _)) (pss_one (ps_ret pe_bl)) pss_nil)
        (pss_cons (ps_setLc (i := 7) (own := [("_law_k", 5)]) rfl scLaw.nd rfl rfl (sw_true rfl rfl rfl (by decide +kernel)) (pi_range1 rfl B.range (pa_cons (pe_c R.cD hr pass0 (pa_cons (pv 1) (pa_cons pe_int pa_nil))) pa_nil)) (blkOk_by (N := NLaw) (sc := defScope sLaw) (by decide +kernel)) (fun _ _ _ _ _ => (pg_name (i := 5) scLaw.nd rfl (Or.inl rfl))) (fun _ _ _ _ _ => pts_nil) (fun _ _ _ _ _ => (pe_c R.cD hr pass0 (pa_cons (pv 1) (pa_cons pe_int pa_nil)))))
        (pss_cons (ps_set (i := 8) scLaw.nd rfl (Or.inl rfl) (pe_c R.cLf hr pass0 (pa_cons (pv 7) (pa_cons (pe_c R.cDg hr pass0 (pa_cons (pv 4) (pa_cons (pv 3) pa_nil))) pa_nil))))
        (pss_cons (ps_if (pt_cmpR op_ne (pe_callB (call_reprD g hr.units) rfl R.rp (by decide +kernel) (pa_cons (pe_mt R.mS hr passL (pv 6) (pa_cons (pe_lc (own := [("_law_bit", 9)]) rfl scLaw.nd (pi_sqA (pv 7)) (blkOk_by (N := NLaw) (sc := defScope sLaw) (by decide +kernel)) (fun _ _ _ _ _ => (pg_name (i := 9) scLaw.nd rfl (Or.inl rfl))) (fun _ _ _ _ _ => pts_nil) (fun _ _ _ _ _ => (pe_tup (pa_cons (pv 9) pa_nil)))) pa_nil)) pa_nil)) (pe_callB (call_reprD g hr.units) rfl R.rp (by decide +kernel) (pa_cons (pv 8) pa_nil)) (nomark _)) (pss_one (ps_ret pe_bl)) pss_nil)
        (pss_cons (ps_if (pt_cmpR op_ne (pe_callB (call_reprD g hr.units) rfl R.rp (by decide +kernel) (pa_cons (pe_mt R.mS hr passL (pv 6) (pa_cons (pe_op op_cat (pe_op op_rep (pe_lst (pa_cons (pe_tup (pa_cons pe_int pa_nil)) pa_nil)) (pe_c R.cD hr pass0 (pa_cons (pv 1) (pa_cons pe_int pa_nil)))) (pe_lc (own := [("_law_bit", 9)]) rfl scLaw.nd (pi_sqA (pv 7)) (blkOk_by (N := NLaw) (sc := defScope sLaw) (by decide +kernel)) (fun _ _ _ _ _ => (pg_name (i := 9) scLaw.nd rfl (Or.inl rfl))) (fun _ _ _ _ _ => pts_nil) (fun _ _ _ _ _ => (pe_tup (pa_cons (pv 9) pa_nil))))) pa_nil)) pa_nil)) (pe_callB (call_reprD g hr.units) rfl R.rp (by decide +kernel) (pa_cons (pv 8) pa_nil)) (nomark _)) (pss_one (ps_ret pe_bl)) pss_nil)
        (pss_one (ps_if (pt_not (pt_val (pe_cG R.cRs g hr pass0 (pa_cons (pv 1) pa_nil)))) (pss_one (ps_ret pe_bl)) pss_nil)))))))))))))
      (pss_cons (ps_set (i := 10) scLaw.nd rfl (Or.inl rfl) (pe_lst pa_nil))
      (pss_cons (ps_for PassesOwn.never rfl (pi_str pe_str) (pg_name (i := 11) scLaw.nd rfl (Or.inl rfl))
        (pss_one (ps_expr (pe_bm PySem.F.plainAttrs_list PySem.F.slot_list_extend PySem.F.type_list_extend mt_extend (pv 10) (pa_cons (pe_lc (own := [("_law_bit", 9)]) rfl scLaw.nd (pi_sqA (pe_c R.cDg hr pass0 (pa_cons (pe_callB call_ord rfl R.od (by decide +kernel) (pa_cons (pv 11) pa_nil)) (pa_cons pe_int pa_nil)))) (blkOk_by (N := NLaw) (sc := defScope sLaw) (by decide +kernel)) (fun _ _ _ _ _ => (pg_name (i := 9) scLaw.nd rfl (Or.inl rfl))) (fun _ _ _ _ _ => pts_nil) (fun _ _ _ _ _ => (pe_tup (pa_cons (pv 9) pa_nil)))) pa_nil)))))
      (pss_one (ps_ret (pe_cmpR (op_eqSmD (hu64 hr)) (pe_callTy call_list_of rfl B.list (by decide +kernel) (pa_cons (pe_mt R.mS hr passL (pe_c R.cRm hr passL (pa_cons pe_int (pa_cons pe_int pa_nil))) (pa_cons (pv 10) pa_nil)) pa_nil)) (pe_c R.cDg hr pass0 (pa_cons pe_int (pa_cons pe_int pa_nil))) (nomark _))))))), ?_⟩
    have gb : True := True.intro
    refine ⟨_, rfl, a, is, rfl, ha, fun pn cl H0 npn ncl e0 pen0 => ?_⟩
    have pt0 : PT Tb H0 pn cl 0 := ⟨pen0, tabs.ext e0⟩
    refine gN ?_
    dsimp only
    refine ⟨_, rfl, by omega, by omega, ?_⟩
    rw [show (4 : Int).toNat = 4 from rfl]
    refine for_range (D := { nx := _, rt := Q, bk := fun _ _ => False, ct := fun _ _ => False }) (n := 4) (fun i σ H' => ∃ (o2 o3 o4 o5 o6 o7 o8 : Option V), σ = [some (.ref a), some (.ref pn), o2, o3, o4, o5, o6, o7, o8, none, none, none] ∧ PT Tb H' pn cl (100 * i)) ⟨none, none, none, none, none, none, none, rfl, pt0⟩ ?_ ?_
    · clear pt0 pen0 e0 ncl npn
      rintro i σ H1 hi ⟨o2, o3, o4, o5, o6, o7, o8, rfl, pt1⟩
      refine gN ?_
      dsimp only
      obtain ⟨b, hb⟩ : ∃ b, b = 100 * i := ⟨_, rfl⟩
      rw [← hb] at pt1
      have b9 : b ≤ 1000 := by omega
      refine ⟨_, rfl, pn, cl, _, _, rfl, pt1.pen, by omega, by decide, by decide, fun x H2 x0 x1 bt2 p2 => ⟨_, _, rfl, rfl, _, _, rfl, ?_⟩⟩
      obtain ⟨wd, hwd⟩ := Int.eq_ofNat_of_zero_le (show 0 ≤ 1 + x by omega)
      have w1 : 1 ≤ wd := by omega
      have w2 : wd ≤ 16 := by omega
      have pt2 := pt1.but bt2 p2
      dsimp only
      rw [hwd]
      clear x0 x1 hwd pt1 bt2 p2
      refine cutSeq (R := fun σ' H' => ∃ (o5 : Option V) (q0 : Nat), σ' = [some (.ref a), some (.ref pn), some (.int (0 + ((i : Nat) : Int))), some (.int ((wd : Nat) : Int)), some (.int ((q0 : Nat) : Int)), o5, o6, o7, o8, none, none, none] ∧ q0 < 2 ^ wd ∧ PT Tb H' pn cl (b + 17)) (fun nx hnx => ?_) ?_
      · refine ⟨_, rfl, _, rfl, by omega, by omega, ?_⟩
        rw [Int.toNat_natCast]
        refine for_range (D := { nx := _, rt := _, bk := _, ct := _ }) (n := wd) (fun k σ H' => ∃ (o5 : Option V) (q0 : Nat), σ = [some (.ref a), some (.ref pn), some (.int (0 + ((i : Nat) : Int))), some (.int ((wd : Nat) : Int)), some (.int ((q0 : Nat) : Int)), o5, o6, o7, o8, none, none, none] ∧ q0 < 2 ^ k ∧ PT Tb H' pn cl (b + 1 + k)) ⟨o5, 0, rfl, by decide, pt2⟩ ?_ ?_
        · rintro k σ H3 hk ⟨o5, q0, rfl, hq, pt3⟩
          refine gN ?_
          dsimp only
          refine ⟨_, rfl, _, _, rfl, rfl, .inr ⟨by decide, by decide⟩, _, rfl, pn, cl, _, _, rfl, pt3.pen, by omega, by decide, by decide, fun r H4 r0 r1 bt4 p4 => ⟨_, _, rfl, rfl, ?_⟩⟩
          obtain ⟨r, rfl⟩ := Int.eq_ofNat_of_zero_le r0
          refine ⟨some (.int (0 + ((k : Nat) : Int))), q0 * 2 + r, ?_, by rw [Nat.pow_succ]; omega, (pt3.but bt4 p4)⟩
          exact congrArg (fun z : Int => ([some (.ref a), some (.ref pn), some (.int (0 + ((i : Nat) : Int))), some (.int ((wd : Nat) : Int)), some (.int z), some (.int (0 + ((k : Nat) : Int))), o6, o7, o8, none, none, none] : St)) (show ((q0 : Nat) : Int) * 2 + ((r : Nat) : Int) = ((q0 * 2 + r : Nat) : Int) by omega)
        · rintro σ H3 ⟨o5, q0, rfl, hq, pt3⟩
          exact hnx _ _ ⟨o5, q0, rfl, hq, pt3.pen.mono (by omega), pt3.tabs⟩
      · clear pt2
        rintro σ H3 ⟨o5, q1, rfl, hq1, pt3⟩
        obtain ⟨q0, hq0⟩ : ∃ q0, q0 = q1 / 2 * 2 + 1 := ⟨_, rfl⟩
        have ev : 2 ^ wd % 2 = 0 := by
          obtain ⟨k, rfl⟩ : ∃ k, wd = k + 1 := ⟨wd - 1, by omega⟩
          rw [Nat.pow_succ, Nat.mul_mod_left]
        have qlt : q0 < 2 ^ wd := by omega
        have qo : q0 % 2 = 1 := by omega
        refine ⟨_, rfl, _, _, rfl, rfl, ⟨by decide, by decide⟩, _, _, rfl, rfl, .inr ⟨by decide, by decide⟩, _, _, rfl, rfl, ?_⟩
        refine gN ?_
        dsimp only
        rw [show ((q1 : Nat) : Int) / 2 * 2 + 1 = ((q0 : Nat) : Int) by omega]
        clear hq1 hq0 ev
        refine ⟨_, rfl, _, rfl, .inl ⟨wd, q0, rfl, w1, w2, qlt, qo, fun p dx mt cl2 st en H4 e4 np gd => ?_⟩⟩
        have pt4 := pt3.same e4
        refine gN ?_
        clear pt3 e4 np
        refine ⟨_, rfl, .ref p, .ref C, .ref C, .ref C, true, rfl, ClsV.own C, .base (.ins gd.ob R.O.cl R.O.cc R.U.gg R.U.tk R.O.mr), R.kC, _, rfl, ?_⟩
        refine iteF ?_
        refine ⟨_, rfl, p, C, dx, _, _, rfl, gd.ob, T.cl, T.modulus, g_modulus _ _ _ _ _ _ _, _, rfl, p, C, dx, _, _, rfl, gd.ob, T.cl, T.size, g_size _ _ _ _ _ _ _, _, rfl, p, C, dx, _, _, rfl, gd.ob, T.cl, T.width, g_width _ _ _ _ _ _ _, by show 3 ≤ sizeLine; decide, fun t nt => ⟨_, rfl, by show 3 ≤ sizeLine; decide, fun t2 nt2 => rSmD_of nt nt2 (fun v hv => ?_) fun H5 e5 => ⟨_, rfl, iteF (nextOf ?_)⟩⟩⟩
        · simp only [List.mem_cons, List.mem_singleton, List.not_mem_nil, or_false] at hv
          rcases hv with rfl | rfl | rfl <;> exact True.intro
        have gd := gd.same e5
        have pt5 := pt4.same e5
        clear nt nt2 e5 pt4
        dsimp only
        have tz : Tells (.tuple [dRw (zs wd), dRw (zs wd)]) := by
          have t1 := tells_rw (r := zs wd) fun x hx => by
            unfold zs at hx
            rw [List.eq_of_mem_replicate hx]
            decide +kernel
          have t2 : TellsB 1 (3 + 16 * 1923) (dRw (zs wd)) := ⟨t1.can, t1.nod, t1.dep, Nat.le_trans t1.len (by rw [zs_len]; have := Nat.mul_le_mul_right 1923 w2; omega)⟩
          exact (TellsB.tuple (n := 1) (b := 3 + 16 * 1923) (xs := [dRw (zs wd), dRw (zs wd)]) fun x hx => by
            simp only [List.mem_cons, List.mem_singleton, List.not_mem_nil, or_false] at hx
            rcases hx with rfl | rfl <;> exact t2).tells (by decide) (by show 3 + 2 * (3 + 16 * 1923 + 2) ≤ sizeLine; decide)
        have dpz : ∀ {H : Hp} {t a1 a2 : Addr}, H t = some (.tup [.ref a1, .ref a2]) → H a1 = some (.tup (iV (zs wd))) → H a2 = some (.tup (iV (zs wd))) → Dp K H (.ref t) (.tuple [dRw (zs wd), dRw (zs wd)]) := fun h1 h2 h3 => .tup (SqT.of h1) (.cons (dp_rw h2) (.cons (dp_rw h3) .nil))
        refine ⟨_, rfl, p, C, dx, _, _, rfl, gd.ob, T.cl, T.start, g_start _ _ _ _ _ _ _, _, rfl, p, C, dx, _, _, rfl, gd.ob, T.cl, T.end_, g_end _ _ _ _ _ _ _, by show 2 ≤ sizeLine; decide, fun t nt => ?_⟩
        have e6 := same_new (o := .tup [.ref st, .ref en]) nt
        refine ⟨_, _, rfl, dpz upd_same (e6 _ _ gd.st) (e6 _ _ gd.en), tz, ?_⟩
        have gd := gd.same e6
        have pt6 := pt5.same e6
        generalize upd H5 t (.tup [.ref st, .ref en]) = H6 at gd pt6 ⊢
        clear e6 nt pt5
        have rep : ∀ (H : Hp) (Q' : VK), (∀ t H', Same H H' → H' t = some (.tup (iV (zs wd))) → Q' (.ref t) H') → ∀ σ : St, σ[3]? = some (some (.int ((wd : Nat) : Int))) → tOp (rRepA K) (tTup (tCons (tC (.int 0)) tNil)) (tVar 3) σ H Q' := fun H Q' k σ hσ => by
          refine ⟨by show 1 ≤ sizeLine; decide, fun z nz => ?_⟩
          have e1 := same_new (o := .tup [.int 0]) nz
          have h1 : upd H z (.tup [.int 0]) z = some (.tup [.int 0]) := upd_same
          generalize upd H z (.tup [.int 0]) = H1 at e1 h1 ⊢
          refine ⟨_, hσ, z, _, [.int 0], rfl, rfl, SqT.of h1, by simp, by omega, by omega, by decide, fun c => ?_, fun c y ny => ?_⟩
          · have : wd = 1 := by omega
            subst this
            exact k z H1 e1 h1
          · refine k y _ (e1.trans (same_new ny)) ?_
            rw [upd_same, Int.toNat_natCast]
            congr 2
            unfold iV zs
            rw [List.map_replicate]
            exact List.flatten_replicate_singleton
        refine rep _ _ (fun a1 H7 e7 h7 => ?_) _ rfl
        refine rep _ _ (fun a2 H8 e8 h8 => ?_) _ rfl
        refine ⟨by show 2 ≤ sizeLine; decide, fun t2 nt2 => ?_⟩
        have e9 := same_new (o := .tup [.ref a1, .ref a2]) nt2
        refine ⟨_, _, rfl, dpz upd_same (e9 _ _ (e8 _ _ h7)) (e9 _ _ h8), tz, rfl, _, rfl, ?_⟩
        rw [decide_eq_true rfl]
        refine iteF (nextOf ?_)
        have e69 := e7.trans (e8.trans e9)
        have gd := gd.same e69
        have pt9 := pt6.same e69
        generalize upd H8 t2 (.tup [.ref a1, .ref a2]) = H9 at gd pt9 ⊢
        clear e7 e8 e9 e69 h7 h8 nt2 tz dpz rep pt6
        dsimp only
        refine ⟨_, rfl, pn, cl, _, _, rfl, pt9.pen, by omega, by decide, by decide, fun m H10 m0 m1 bt10 p10 => ?_⟩
        obtain ⟨m, rfl⟩ := Int.eq_ofNat_of_zero_le m0
        have gd := gd.but pt9.pen bt10
        have pt10 := pt9.but bt10 p10
        clear bt10 p10 m0 pt9
        refine ⟨_, rfl, by omega, by omega, fun D nD => lcI (s := 1) walk_range (fun _ x => x = 0 ∨ x = 1) (by omega) nD pt10.pen (fun _ _ => True.intro) ?_ ?_⟩
        · rintro j y H11 H12 N hj b11 p11 ⟨rfl, rfl⟩ fin
          refine ⟨rfl, _, rfl, pn, cl, _, _, rfl, p11, by rw [Int.toNat_natCast] at hj; omega, by decide, by decide, fun r H13 r0 r1 b13 p13 => fin r H13 (by omega) b13 p13⟩
        intro bits H11 lbits hbits bt11 p11 hD
        rw [Int.toNat_natCast] at lbits hbits p11
        have b01 : B01 bits := fun i => by
          by_cases h : i < m
          · exact hbits i h
          · exact .inl (at_out (by omega))
        have gd := gd.but pt10.pen bt11
        have pt11 : PT Tb H11 pn cl (b + 40) := ⟨p11.mono (by omega), (pt10.but bt11 p11).tabs⟩
        clear bt11 p11 hbits nD pt10
        refine gN ?_
        refine ⟨_, rfl, _, rfl, _, rfl, q0, wd, rfl, by omega, fun G1 H12 e12 _ g12 => ?_⟩
        refine ⟨D, G1, bits, wd, q0, rfl, e12 _ _ hD, g12, b01, by omega, w1, w2, fun D8 H13 e13 h13 => ?_⟩
        have e113 := e12.trans e13
        have gd := gd.same e113
        have pt13 := pt11.same e113
        have hD := e113 _ _ hD
        refine gN ?_
        clear e12 e13 e113 g12 pt11
        dsimp only
        have ts : Tells (dRw (stt wd q0 bits)) := (tells_rw (r := stt wd q0 bits) fun x hx => by
          obtain ⟨i, hi, rfl⟩ := List.getElem_of_mem hx
          have := stt_01 (w := wd) (q := q0) bits i
          rw [at_get hi] at this
          have : (stt wd q0 bits)[i].natAbs < 2 := by omega
          exact Nat.lt_of_lt_of_le this (by decide +kernel)).tells (by decide) (by
            rw [stt_len]
            exact Nat.le_trans (Nat.add_le_add_left (Nat.mul_le_mul_right _ w2) _) (by decide))
        have cmp : ∀ (H : Hp) (Q' : VK) (x2 x3 x4 x5 x6 x8 : Option V), H D = some (.lst (iV bits)) → (∀ L vs H', Same H H' → H L = none → H' L = some (.lst vs) → vs.length = bits.length → (∀ i v, vs[i]? = some v → ∃ t, v = .ref t ∧ H' t = some (.tup [.int (at_ bits i)])) → Q' (.ref L) H') →
            tLc (iSqA K (tVar 7)) (gName 9) tYes (tTup (tCons (tVar 9) tNil)) [9] [some (.ref a), some (.ref pn), x2, x3, x4, x5, x6, some (.ref D), x8, none, none, none] H Q' := fun H Q' x2 x3 x4 x5 x6 x8 h7 k => by
          refine ⟨_, rfl, D, _, rfl, .inl (SqL.of h7), fun J G wk hG L nL => lcO wk (fun i v H' => ∃ t, v = .ref t ∧ H' t = some (.tup [.int (at_ bits i)])) (fun j v Ha Hb xs hD kp ⟨t, e, h⟩ => ⟨t, e, kp _ _ (ne_of h hD fun y => nomatch y) h⟩) (by rw [iV_len]; omega) nL (fun H' e => hG H' fun o z => e _ _ z) ?_ ?_⟩
          · rintro i x Ha Hb N2 hi e4 _ ⟨rfl, hx⟩ fin
            obtain ⟨i1, rfl⟩ := iV_get hx
            exact ⟨rfl, _, rfl, by show 1 ≤ sizeLine; decide, fun t nt => fin _ _ (same_new nt) ⟨t, rfl, upd_same⟩⟩
          · intro acc Ha e4 lacc racc hL
            rw [iV_len] at lacc
            exact k L acc Ha e4 nL hL lacc racc
        refine ⟨_, rfl, p, dx, _, rfl, gd.ob, g_no_sum_of _ _ _ _ _ _ _, cmp _ _ _ _ _ _ _ _ hD fun L vs H14 e14 _ hL lv rv => ?_⟩
        refine ⟨p, L, 2, wd, 1, _, _, _, _, dx, mt, cl2, st, en, vs, syms bits, rfl, gd.same e14, bk_of b01 hL lv rv, by rw [syms_len]; omega, fun D2 H15 e15 h15 => ?_⟩
        rw [sum_stt] at h15
        refine ⟨_, _, rfl, dp_rw h15, ts, _, rfl, _, _, rfl, dp_rw (e15 _ _ (e14 _ _ h13)), ts, rfl, _, rfl, ?_⟩
        rw [decide_eq_true rfl]
        refine iteF (nextOf ?_)
        have e1315 := e14.trans e15
        have gd := gd.same e1315
        have pt15 := pt13.same e1315
        have hD := e1315 _ _ hD
        have h13 := e1315 _ _ h13
        clear e14 e15 e1315 h15 hL lv rv pt13
        dsimp only
        refine ⟨_, rfl, p, dx, _, rfl, gd.ob, g_no_sum_of _ _ _ _ _ _ _, ?_⟩
        refine ⟨by show 1 ≤ sizeLine; decide, fun t0 nt0 => ?_⟩
        have e16 := same_new (o := .tup [.int 0]) nt0
        have h16 : upd H15 t0 (.tup [.int 0]) t0 = some (.tup [.int 0]) := upd_same
        generalize upd H15 t0 (.tup [.int 0]) = H16 at e16 h16 ⊢
        refine ⟨by show 1 ≤ sizeLine; decide, fun z nz => ?_⟩
        have e17 := same_new (o := .lst [.ref t0]) nz
        have h17 : upd H16 z (.lst [.ref t0]) z = some (.lst [.ref t0]) := upd_same
        generalize upd H16 z (.lst [.ref t0]) = H17 at e17 h17 ⊢
        have gd := gd.same (e16.trans e17)
        have pt17 := pt15.same (e16.trans e17)
        have hD := (e16.trans e17) _ _ hD
        have h13 := (e16.trans e17) _ _ h13
        have h16 := e17 _ _ h16
        clear e16 e17 pt15
        refine ⟨_, rfl, pn, cl, _, _, rfl, pt17.pen, by omega, by decide, by decide, fun k H18 k0 k1 bt18 p18 => ?_⟩
        obtain ⟨k, rfl⟩ := Int.eq_ofNat_of_zero_le k0
        have gd := gd.but pt17.pen bt18
        have hD := bt18 _ _ (pt17.pen.ne hD fun _ z => nomatch z) hD
        have h13 := bt18 _ _ (pt17.pen.ne h13 fun _ z => nomatch z) h13
        have h16 := bt18 _ _ (pt17.pen.ne h16 fun _ z => nomatch z) h16
        have h17 := bt18 _ _ (pt17.pen.ne h17 fun _ z => nomatch z) h17
        have pt18 := pt17.but bt18 p18
        clear bt18 p18 pt17
        refine ⟨z, _, [.ref t0], rfl, rfl, h17, by omega, by omega, ?_, fun R1 nR1 => ?_⟩
        · rw [Int.toNat_natCast]
          exact Nat.le_of_lt (small10 (by show 1 * k ≤ 10000; omega))
        have eR : (List.replicate ((k : Nat) : Int).toNat [V.ref t0]).flatten = List.replicate k (.ref t0) := by
          rw [Int.toNat_natCast]
          exact List.flatten_replicate_singleton
        rw [eR]
        have e19 := same_new (o := .lst (List.replicate k (.ref t0))) nR1
        have h19 : upd H18 R1 (.lst (List.replicate k (.ref t0))) R1 = some (.lst (List.replicate k (.ref t0))) := upd_same
        generalize upd H18 R1 (.lst (List.replicate k (.ref t0))) = H19 at e19 h19 ⊢
        have gd := gd.same e19
        have pt19 := pt18.same e19
        have hD := e19 _ _ hD
        have h13 := e19 _ _ h13
        have h16 := e19 _ _ h16
        clear e19 nR1 pt18 h17
        refine cmp _ _ _ _ _ _ _ _ hD fun L vs H20 e20 _ hL lv rv => ?_
        refine ⟨R1, L, _, _, rfl, rfl, e20 _ _ h19, hL, ?_, fun R2 nR2 => ?_⟩
        · rw [List.length_replicate, lv]
          exact Nat.le_of_lt (small10 (by omega))
        have e21 := e20.trans (same_new (o := .lst (List.replicate k (.ref t0) ++ vs)) nR2)
        have h21 : upd H20 R2 (.lst (List.replicate k (.ref t0) ++ vs)) R2 = some (.lst (List.replicate k (.ref t0) ++ vs)) := upd_same
        have rv21 : ∀ i v, vs[i]? = some v → ∃ t, v = .ref t ∧ upd H20 R2 (.lst (List.replicate k (.ref t0) ++ vs)) t = some (.tup [.int (at_ bits i)]) := fun i v hv => by
          obtain ⟨t, e, h⟩ := rv i v hv
          exact ⟨t, e, same_new nR2 _ _ h⟩
        generalize upd H20 R2 (.lst (List.replicate k (.ref t0) ++ vs)) = H21 at e21 h21 rv21 ⊢
        have bz : B01 (List.replicate k 0 ++ bits) := fun i => by
          unfold at_
          rw [List.getD_eq_getElem?_getD]
          by_cases c : i < k
          · rw [List.getElem?_append_left (by rw [List.length_replicate]; exact c), List.getElem?_replicate, if_pos c]
            exact .inl rfl
          · rw [List.getElem?_append_right (by rw [List.length_replicate]; omega), ← List.getD_eq_getElem?_getD]
            exact b01 _
        have bk : Bk H21 R2 1 2 (List.replicate k (.ref t0) ++ vs) (syms (List.replicate k 0 ++ bits)) := bk_of bz h21 (by rw [List.length_append, List.length_append, List.length_replicate, List.length_replicate, lv]) fun i v hv => by
          by_cases c : i < k
          · rw [List.getElem?_append_left (by rw [List.length_replicate]; exact c), List.getElem?_replicate, if_pos c] at hv
            cases hv
            refine ⟨t0, rfl, ?_⟩
            rw [e21 _ _ h16]
            unfold at_
            rw [List.getD_eq_getElem?_getD, List.getElem?_append_left (by rw [List.length_replicate]; exact c), List.getElem?_replicate, if_pos c]
            rfl
          · rw [List.getElem?_append_right (by rw [List.length_replicate]; omega), List.length_replicate] at hv
            obtain ⟨t, e, h⟩ := rv21 _ _ hv
            refine ⟨t, e, ?_⟩
            rw [h]
            unfold at_
            rw [List.getD_eq_getElem?_getD, List.getD_eq_getElem?_getD, List.getElem?_append_right (by rw [List.length_replicate]; omega), List.length_replicate]
        refine ⟨p, R2, 2, wd, 1, _, _, _, _, dx, mt, cl2, st, en, _, _, rfl, gd.same e21, bk, by rw [syms_len, List.length_append, List.length_replicate]; omega, fun D2 H22 e22 h22 => ?_⟩
        rw [sum_stt, stt_zeros] at h22
        refine ⟨_, _, rfl, dp_rw h22, ts, _, rfl, _, _, rfl, dp_rw (e22 _ _ (e21 _ _ h13)), ts, rfl, _, rfl, ?_⟩
        rw [decide_eq_true rfl]
        refine iteF (nextOf ?_)
        have pt22 := pt19.same (e21.trans e22)
        clear gd hD h13 h16 e21 e22 h22 bk bz rv21 h21 rv lv hL e20 h19 pt19
        dsimp only
        refine ⟨_, rfl, pn, cl, _, rfl, pt22, by omega, fun H23 pt23 => ⟨_, rfl, iteF ?_⟩⟩
        exact ⟨_, _, _, _, _, _, _, rfl, pt23.pen.mono (by omega), pt23.tabs⟩
    · rintro σ H1 ⟨o2, o3, o4, o5, o6, o7, o8, rfl, pt1⟩
      dsimp only
      refine ⟨by show 0 ≤ sizeLine; decide, fun L nL => ?_⟩
      have hL : upd H1 L (.lst []) L = some (.lst []) := upd_same
      generalize upd H1 L (.lst []) = H2 at hL ⊢
      clear pt1 nL
      refine gN ?_
      dsimp only
      refine ⟨kz, rfl, for_it (D := { nx := _, rt := Q, bk := fun _ _ => False, ct := fun _ _ => False }) walk_str (fun i σ H' => ∃ (o11 : Option V) (vs : List V), σ = [some (.ref a), some (.ref pn), o2, o3, o4, o5, o6, o7, o8, none, some (.ref L), o11] ∧ H' L = some (.lst vs) ∧ vs.length = (kb i).length ∧ (kb i).length = 8 * i ∧ ∀ j v, vs[j]? = some v → ∃ t, v = .ref t ∧ H' t = some (.tup [.int (at_ (kb i) j)])) ⟨none, [], rfl, hL, rfl, rfl, fun j v z => by simp at z⟩ (fun _ _ _ _ _ => True.intro) ?_ ?_⟩
      · rintro i x σ H3 H3' hi ⟨o11, vs, rfl, hL3, lv, lk, rv⟩ ⟨rfl, ch, hch, rfl⟩
        have i9 : i < 9 := hi
        refine gN ?_
        dsimp only
        refine ⟨_, rfl, .inl ⟨rfl, vs, SqL.of hL3⟩, ?_⟩
        refine ⟨_, rfl, _, rfl, rfl, ch, 8, rfl, by decide, fun D1 H4 e4 _ h4 => ?_⟩
        have lt : (iV (tl_ 8 ch)).length = 8 := by rw [iV_len, tl_len]
        refine ⟨D1, _, rfl, .inl (SqL.of h4), fun J G wk hG D2 nD2 => lcO wk (fun i v H' => ∃ t, v = .ref t ∧ H' t = some (.tup [.int (at_ (tl_ 8 ch) i)])) (fun j v Ha Hb xs hD kp ⟨t, e, h⟩ => ⟨t, e, kp _ _ (ne_of h hD fun y => nomatch y) h⟩) (by rw [lt]; decide) nD2 (fun H' e => hG H' fun o z => e _ _ z) ?_ ?_⟩
        · rintro j x Ha Hb N2 hj e5 _ ⟨rfl, hx⟩ fin
          obtain ⟨i1, rfl⟩ := iV_get hx
          exact ⟨rfl, _, rfl, by show 1 ≤ sizeLine; decide, fun t nt => fin _ _ (same_new nt) ⟨t, rfl, upd_same⟩⟩
        · intro acc H5 e5 lacc racc hD2
          rw [lt] at lacc
          have e45 := e4.trans e5
          refine ⟨L, D2, vs, acc, rfl, rfl, e45 _ _ hL3, hD2, by rw [lv, lacc, lk]; exact Nat.le_of_lt (small10 (by omega)), ?_⟩
          have hL5 := e45 _ _ hL3
          refine ⟨_, vs ++ acc, rfl, upd_same, by rw [kb_succ hch, List.length_append, List.length_append, lv, lacc, tl_len], by rw [kb_succ hch, List.length_append, tl_len, lk]; omega, fun j v hv => ?_⟩
          rw [kb_succ hch, at_app]
          by_cases cj : j < vs.length
          · rw [List.getElem?_append_left cj] at hv
            obtain ⟨t, rfl, ht⟩ := rv j v hv
            rw [if_pos (by omega)]
            exact ⟨t, rfl, (upd_ne (ne_of (e45 _ _ ht) hL5 fun y => nomatch y)).trans (e45 _ _ ht)⟩
          · rw [List.getElem?_append_right (by omega)] at hv
            obtain ⟨t, rfl, ht⟩ := racc _ v hv
            rw [if_neg (by omega), ← lv]
            exact ⟨t, rfl, (upd_ne (ne_of ht hL5 fun y => nomatch y)).trans ht⟩
      · rintro σ H3 ⟨o11, vs, rfl, hL3, lv, lk, rv⟩
        have ke : kz.cps.size = 9 := by decide +kernel
        rw [ke] at lv lk rv
        dsimp only
        refine .inl ⟨8, 7, rfl, by decide, by decide, by decide, by decide, fun p dx mt cl2 st en H4 e4 _ gd => ?_⟩
        refine ⟨p, dx, _, rfl, gd.ob, g_no_sum_of _ _ _ _ _ _ _, _, rfl, ?_⟩
        have bk : Bk H4 L 1 2 vs (syms (kb 9)) := bk_of kb_01 (e4 _ _ hL3) lv fun j v hv => by
          obtain ⟨t, e, h⟩ := rv j v hv
          exact ⟨t, e, e4 _ _ h⟩
        refine ⟨p, L, 2, 8, 1, _, _, _, _, dx, mt, cl2, st, en, vs, _, rfl, gd, bk, by rw [syms_len, lk]; decide, fun D H5 e5 h5 => ?_⟩
        rw [sum_stt, kb_all] at h5
        refine ⟨D, _, rfl, .inr (SqT.of h5), fun l nl => ?_⟩
        have h6 : upd H5 l (.lst (iV (tl_ 8 244))) l = some (.lst (iV (tl_ 8 244))) := upd_same
        generalize upd H5 l (.lst (iV (tl_ 8 244))) = H6 at h6 ⊢
        refine ⟨244, 8, rfl, by decide, fun D3 H7 e7 _ h7 => ?_⟩
        exact ⟨.list ((tl_ 8 244).map PyData.int), .lst (SqL.of (e7 _ _ h6)) (dpAll_iV _), .lst (SqL.of h7) (dpAll_iV _), shL_ints _, q H7⟩
end
end K50
set_option Elab.async false
set_option linter.all false
set_option maxRecDepth 100001
set_option maxHeartbeats 3999999
namespace K50
open PySem L2
abbrev sTMany : Stmt := inClass (topS 10) 0
abbrev sBWid : Stmt := inClass (topS 11) 0
abbrev sBMod : Stmt := inClass (topS 12) 0
abbrev sNUnd : Stmt := inClass (topS 13) 0
abbrev sBMat : Stmt := inClass (topS 14) 0
abbrev sBCol : Stmt := inClass (topS 15) 0
abbrev sBBeg : Stmt := inClass (topS 16) 0
abbrev sBEnd : Stmt := inClass (topS 17) 0
abbrev sBSym : Stmt := inClass (topS 18) 0
abbrev sBPol : Stmt := inClass (topS 19) 0
section
variable {P : Program} {w : World} {K : PySem.W.Frag} {mg : Str → Option Value} {base : Heap}
theorem never {CX : CXT} {k : Nat} {f : Addr} {fd : FuncData} {ps : List Str} : FnOk P w K mg base CX k f fd ps (fun _ _ _ _ => False) := ⟨fun _ _ _ _ h => h.elim, fun _ _ _ _ _ _ _ _ _ _ _ _ _ h => h.elim⟩
theorem scBWid : FnScope ["self", "width"] ["self", "width"] (defScope sBWid) := ⟨rfl, rfl, rfl, by decide +kernel, rfl, by decide +kernel, by decide +kernel⟩
theorem ok_BWid {f : Addr} {fd : FuncData} (F : Fun K "__init__" "BadWidth.__init__" sBWid f fd) (cC : Cal CX0 P w K mg base 2 "copied" spCopy2) : FnOk P w K mg base CX0 3 f fd ["self", "width"] (spXO K "width") := by
  refine F.ok scBWid (fun vs H Q E h => ?_) (fun cdv A outer s H vs Q E hr h => ?_)
  · obtain ⟨a, C, v, d, rfl, _⟩ := h
    rfl
  · obtain ⟨a, C, v, d, rfl, T, no, od, ha, q⟩ := h
    refine ⟨_, pss_one (ps_ost (pv 0) (pe_c cC hr pass0 (pa_cons (pv 1) pa_nil))), ?_⟩
    exact ⟨_, rfl, v, d, rfl, od, fun v' H1 e1 o1 => ⟨_, rfl, a, C, rfl, T, no, .inl ⟨e1 _ _ ha, fun dx nd ne => q v' H1 dx e1 o1 nd ne⟩⟩⟩
theorem scBPol : FnScope ["self", "polynomial"] ["self", "polynomial"] (defScope sBPol) := ⟨rfl, rfl, rfl, by decide +kernel, rfl, by decide +kernel, by decide +kernel⟩
theorem ok_BPol {f : Addr} {fd : FuncData} (F : Fun K "__init__" "BadPolynomial.__init__" sBPol f fd) (cC : Cal CX0 P w K mg base 2 "copied" spCopy2) : FnOk P w K mg base CX0 3 f fd ["self", "polynomial"] (spXO K "polynomial") := by
  refine F.ok scBPol (fun vs H Q E h => ?_) (fun cdv A outer s H vs Q E hr h => ?_)
  · obtain ⟨a, C, v, d, rfl, _⟩ := h
    rfl
  · obtain ⟨a, C, v, d, rfl, T, no, od, ha, q⟩ := h
    refine ⟨_, pss_one (ps_ost (pv 0) (pe_c cC hr pass0 (pa_cons (pv 1) pa_nil))), ?_⟩
    exact ⟨_, rfl, v, d, rfl, od, fun v' H1 e1 o1 => ⟨_, rfl, a, C, rfl, T, no, .inl ⟨e1 _ _ ha, fun dx nd ne => q v' H1 dx e1 o1 nd ne⟩⟩⟩
end
end K50
set_option Elab.async false
set_option linter.all false
set_option maxRecDepth 100001
set_option maxHeartbeats 3999999
namespace K50
open PySem L2
/-! ### what the top leaves -/
/-- an own exception class as the rules want it -/
def oexB (K : PySem.W.Frag) (C : Addr) : Bool := (match K.lookup C with
  | some ⟨.type "type", _, .cls cd, sl⟩ => (match sl.toList, cd.mro with
    | [_, _, _, _, some (.builtin nw), _], .ref D :: bm => decide (D = C) && (decide (nw = "ValueError.__new__") && (!cd.hasDel && (cd.hasDict && PySem.HandSPX.refsVE bm)))
    | _, _ => false)
  | _ => false) && (He.eqO (PySem.W.findIn K (.ref C) "__setattr__") (some (some (.builtin "object.__setattr__"))) && (decide (PySem.W.subIn K (.ref C) (.type "BaseException") = some true) && (decide (PySem.W.typeIn K (.ref C) = some (.type "type")) && PySem.W.keepIn K (.ref C))))
theorem oexB_ok {K : PySem.W.Frag} {C : Addr} (h : oexB K C = true) : OexC K C := by
  obtain ⟨h1, h⟩ := He.ba h
  obtain ⟨h2, h⟩ := He.ba h
  obtain ⟨h3, h⟩ := He.ba h
  obtain ⟨h4, h5⟩ := He.ba h
  refine ⟨?_, He.eqO_ok h2, of_decide_eq_true h3, of_decide_eq_true h4, h5⟩
  split at h1
  · rename_i dd cd sl ho
    split at h1
    · rename_i x0 x1 x2 x3 nw x5 D bm hs hm
      obtain ⟨g1, g⟩ := He.ba h1
      obtain ⟨g2, g⟩ := He.ba g
      obtain ⟨g3, g⟩ := He.ba g
      obtain ⟨g4, g5⟩ := He.ba g
      have e1 := of_decide_eq_true g1
      have e2 := of_decide_eq_true g2
      subst e1 e2
      obtain ⟨nm, bs, mro, ns, qn, hd, sn, sub, ab, col, del⟩ := cd
      dsimp only at hm g3 g4
      subst hm g4
      have e3 : del = false := by
        cases del with
        | false => rfl
        | true => cases g3
      subst e3
      have hsl : sl = #[x0, x1, x2, x3, some (.builtin "ValueError.__new__"), x5] := by
        obtain ⟨l⟩ := sl
        have h' : l = _ := hs
        rw [h']
      subst hsl
      exact ⟨nm, qn, ns, bs, bm, sn, sub, ab, col, dd, x0, x1, x2, x3, x5, ho, g5⟩
    · cases h1
  · cases h1
def fa0 : List He.Fa := [.glo "is_whole", .glo "is_between", .glo "is_list", .glo "copied", .glo "frozen", .glo "applied", .glo "identity", .glo "undone", .glo "less", .glo "inverse_of", .glo "are_numbers", .glo "check_columns", .glo "first_wrong_number", .glo "remainder", .glo "_law_pen_of", .glo "_law_draw", .glo "_law_pick", .glo "_law_digits", .glo "_law_left", .glo "_law_refusal", .glo "_law_is_refused", .glo "law", .glo "TooMany", .glo "BadWidth", .glo "BadModulus", .glo "NotUndone", .glo "BadMatrix", .glo "BadColumns", .glo "BadBegin", .glo "BadEnd"]
def fa1 : List He.Fa := [.glo "BadSymbol", .glo "BadPolynomial", .glo "Guard", .free "isinstance", .free "int", .free "bool", .free "tuple", .free "list", .free "dict", .free "len", .free "enumerate", .free "range", .free "abs", .free "max", .free "min", .free "sum", .free "zip", .int "MOST_MODULUS" 1000000000000000000, .int "MOST_NUMBERS" 16, .int "MOST_SYMBOLS" 10000, .cls "Guard", .mkr "Guard", .noat "TooMany" "what", .noat "TooMany" "many", .noat "TooMany" "most", .noat "BadWidth" "width", .noat "BadModulus" "modulus", .noat "BadMatrix" "index", .noat "BadColumns" "index", .noat "BadBegin" "index"]
def fa2 : List He.Fa := [.noat "BadEnd" "index", .noat "BadSymbol" "index", .noat "BadPolynomial" "polynomial", .noat "Guard" "modulus", .noat "Guard" "matrix", .noat "Guard" "columns", .noat "Guard" "start", .noat "Guard" "end", .noat "Guard" "size", .noat "Guard" "width", .meth "TooMany" "__init__", .meth "BadWidth" "__init__", .meth "BadModulus" "__init__", .meth "NotUndone" "__init__", .meth "BadMatrix" "__init__", .meth "BadColumns" "__init__", .meth "BadBegin" "__init__", .meth "BadEnd" "__init__", .meth "BadSymbol" "__init__", .meth "BadPolynomial" "__init__", .meth "Guard" "__init__", .meth "Guard" "sum_of", .meth "Guard" "state_behind", .meth "Guard" "ended", .meth "Guard" "added", .exm "BadWidth" "BadWidth" true, .exm "BadPolynomial" "BadPolynomial" true, .exm "BadPolynomial" "BadWidth" false, .free "all", .free "repr"]
def fa3 : List He.Fa := [.free "ord", .glo "VaultError"]
def faA : List He.Fa := fa0 ++ fa1 ++ fa2 ++ fa3
def dd0 : He.DefD := ⟨("is_whole", none), "is_whole", "is_whole", defArgs sWhole, defBody sWhole, defScope sWhole, [], []⟩
def dd1 : He.DefD := ⟨("is_between", none), "is_between", "is_between", defArgs sBetween, defBody sBetween, defScope sBetween, [], []⟩
def dd2 : He.DefD := ⟨("is_list", none), "is_list", "is_list", defArgs sIsL, defBody sIsL, defScope sIsL, [], []⟩
def dd3 : He.DefD := ⟨("copied", none), "copied", "copied", defArgs sCopied, defBody sCopied, defScope sCopied, [], []⟩
def dd4 : He.DefD := ⟨("frozen", none), "frozen", "frozen", defArgs sFrz, defBody sFrz, defScope sFrz, [], []⟩
def dd5 : He.DefD := ⟨("applied", none), "applied", "applied", defArgs sAp, defBody sAp, defScope sAp, [], []⟩
def dd6 : He.DefD := ⟨("identity", none), "identity", "identity", defArgs sId, defBody sId, defScope sId, [], []⟩
def dd7 : He.DefD := ⟨("undone", none), "undone", "undone", defArgs sUn, defBody sUn, defScope sUn, [], []⟩
def dd8 : He.DefD := ⟨("less", none), "less", "less", defArgs sLs, defBody sLs, defScope sLs, [], []⟩
def dd9 : He.DefD := ⟨("inverse_of", none), "inverse_of", "inverse_of", defArgs sIv, defBody sIv, defScope sIv, [], []⟩
def dd10 : He.DefD := ⟨("are_numbers", none), "are_numbers", "are_numbers", defArgs sAN, defBody sAN, defScope sAN, [], []⟩
def dd11 : He.DefD := ⟨("check_columns", none), "check_columns", "check_columns", defArgs sCC, defBody sCC, defScope sCC, [], []⟩
def dd12 : He.DefD := ⟨("first_wrong_number", none), "first_wrong_number", "first_wrong_number", defArgs sFN, defBody sFN, defScope sFN, [], []⟩
def dd13 : He.DefD := ⟨("remainder", none), "remainder", "remainder", defArgs sRm, defBody sRm, defScope sRm, [], []⟩
def dd14 : He.DefD := ⟨("_law_pen_of", none), "_law_pen_of", "_law_pen_of", defArgs sPen, defBody sPen, defScope sPen, [], []⟩
def dd15 : He.DefD := ⟨("_law_draw", none), "_law_draw", "_law_draw", defArgs sDraw, defBody sDraw, defScope sDraw, [], []⟩
def dd16 : He.DefD := ⟨("_law_pick", none), "_law_pick", "_law_pick", defArgs sPick, defBody sPick, defScope sPick, [], []⟩
def dd17 : He.DefD := ⟨("_law_digits", none), "_law_digits", "_law_digits", defArgs sDg, defBody sDg, defScope sDg, [], []⟩
def dd18 : He.DefD := ⟨("_law_left", none), "_law_left", "_law_left", defArgs sLf, defBody sLf, defScope sLf, [], []⟩
def dd19 : He.DefD := ⟨("_law_refusal", none), "_law_refusal", "_law_refusal", defArgs sRf, defBody sRf, defScope sRf, [], []⟩
def dd20 : He.DefD := ⟨("_law_is_refused", none), "_law_is_refused", "_law_is_refused", defArgs sRs, defBody sRs, defScope sRs, [], []⟩
def dd21 : He.DefD := ⟨("law", none), "law", "law", defArgs sLaw, defBody sLaw, defScope sLaw, [], []⟩
def dd22 : He.DefD := ⟨("TooMany", some "__init__"), "__init__", "TooMany.__init__", defArgs sTMany, defBody sTMany, defScope sTMany, [], []⟩
def dd23 : He.DefD := ⟨("BadWidth", some "__init__"), "__init__", "BadWidth.__init__", defArgs sBWid, defBody sBWid, defScope sBWid, [], []⟩
def dd24 : He.DefD := ⟨("BadModulus", some "__init__"), "__init__", "BadModulus.__init__", defArgs sBMod, defBody sBMod, defScope sBMod, [], []⟩
def dd25 : He.DefD := ⟨("NotUndone", some "__init__"), "__init__", "NotUndone.__init__", defArgs sNUnd, defBody sNUnd, defScope sNUnd, [], []⟩
def dd26 : He.DefD := ⟨("BadMatrix", some "__init__"), "__init__", "BadMatrix.__init__", defArgs sBMat, defBody sBMat, defScope sBMat, [], []⟩
def dd27 : He.DefD := ⟨("BadColumns", some "__init__"), "__init__", "BadColumns.__init__", defArgs sBCol, defBody sBCol, defScope sBCol, [], []⟩
def dd28 : He.DefD := ⟨("BadBegin", some "__init__"), "__init__", "BadBegin.__init__", defArgs sBBeg, defBody sBBeg, defScope sBBeg, [], []⟩
def dd29 : He.DefD := ⟨("BadEnd", some "__init__"), "__init__", "BadEnd.__init__", defArgs sBEnd, defBody sBEnd, defScope sBEnd, [], []⟩
def dd30 : He.DefD := ⟨("BadSymbol", some "__init__"), "__init__", "BadSymbol.__init__", defArgs sBSym, defBody sBSym, defScope sBSym, [], []⟩
def dd31 : He.DefD := ⟨("BadPolynomial", some "__init__"), "__init__", "BadPolynomial.__init__", defArgs sBPol, defBody sBPol, defScope sBPol, [], []⟩
def dd32 : He.DefD := ⟨("Guard", some "__init__"), "__init__", "Guard.__init__", defArgs sGI, defBody sGI, defScope sGI, [], []⟩
def dd33 : He.DefD := ⟨("Guard", some "sum_of"), "sum_of", "Guard.sum_of", defArgs sSum, defBody sSum, defScope sSum, [], []⟩
def dd34 : He.DefD := ⟨("Guard", some "state_behind"), "state_behind", "Guard.state_behind", defArgs sSb, defBody sSb, defScope sSb, [], []⟩
def dd35 : He.DefD := ⟨("Guard", some "ended"), "ended", "Guard.ended", defArgs sEn, defBody sEn, defScope sEn, [], []⟩
def dd36 : He.DefD := ⟨("Guard", some "added"), "added", "Guard.added", defArgs sAdd, defBody sAdd, defScope sAdd, [], []⟩
def fnA : List He.DefD := [dd0, dd1, dd2, dd3, dd4, dd5, dd6, dd7, dd8, dd9, dd10, dd11, dd12, dd13, dd14, dd15, dd16, dd17, dd18, dd19, dd20, dd21, dd22, dd23, dd24, dd25, dd26, dd27, dd28, dd29, dd30, dd31, dd32, dd33, dd34, dd35, dd36]
abbrev rsD : Str × Option Str := ("_law_is_refused", none)
/-- what else is asked of K, and of the tables ts -/
def exA (K : PySem.W.Frag) (ts : List Addr) : Bool := ((oexB K (He.ga K "TooMany") && xfB K (He.ga K "TooMany")) && ((oexB K (He.ga K "BadWidth") && xfB K (He.ga K "BadWidth")) && ((oexB K (He.ga K "BadModulus") && xfB K (He.ga K "BadModulus")) && ((oexB K (He.ga K "NotUndone") && xfB K (He.ga K "NotUndone")) && ((oexB K (He.ga K "BadMatrix") && xfB K (He.ga K "BadMatrix")) && ((oexB K (He.ga K "BadColumns") && xfB K (He.ga K "BadColumns")) && ((oexB K (He.ga K "BadBegin") && xfB K (He.ga K "BadBegin")) && ((oexB K (He.ga K "BadEnd") && xfB K (He.ga K "BadEnd")) && ((oexB K (He.ga K "BadSymbol") && xfB K (He.ga K "BadSymbol")) && ((oexB K (He.ga K "BadPolynomial") && xfB K (He.ga K "BadPolynomial")) && (He.eqO (PySem.W.specialIn K (.builtin "object.__class__") "__get__") (some (some (.builtin "getset_descriptor.__get__"))) && (decide (PySem.W.takesIn K (.builtin "object.__class__") = some true) && (He.eqO (PySem.W.findIn K (.ref (He.ga K "Guard")) "__class__") (some (some (.builtin "object.__class__"))) && (decide (PySem.W.mroIn K (He.ga K "Guard") (.type "object") = some true) && (decide (PySem.W.kitOne K (.ref (He.ga K "Guard")) (.type "int") = some false) && (decide (PySem.W.kitOne K (.ref (He.ga K "Guard")) (.type "bool") = some false) && (decide (PySem.W.kitOne K (.ref (He.ga K "Guard")) (.type "tuple") = some false) && (decide (PySem.W.kitOne K (.ref (He.ga K "Guard")) (.type "list") = some false) && (decide (PySem.W.kitOne K (.ref (He.ga K "Guard")) (.type "dict") = some false) && (decide (PySem.W.kitOne K (.ref (He.ga K "Guard")) (.ref (He.ga K "Guard")) = some true) && (He.eqO (PySem.W.findIn K (.ref (He.ga K "BadWidth")) "__class__") (some (some (.builtin "object.__class__"))) && (decide (PySem.W.mroIn K (He.ga K "BadWidth") (.type "object") = some true) && (decide (PySem.W.kitOne K (.ref (He.ga K "BadWidth")) (.ref (He.ga K "VaultError")) = some true) && (He.eqO (PySem.W.findIn K (.ref (He.ga K "BadPolynomial")) "__class__") (some (some (.builtin "object.__class__"))) && (decide (PySem.W.mroIn K (He.ga K "BadPolynomial") (.type "object") = some true) && (decide (PySem.W.kitOne K (.ref (He.ga K "BadPolynomial")) (.ref (He.ga K "VaultError")) = some true) && (decide ((He.cT K rsD).2 ∈ ts) && (PySem.W.codeHdIn K (He.cT K rsD).1 (He.cT K rsD).2 && (K.lookup (He.cT K rsD).2).isNone))))))))))))))))))))))))))))
theorem fun_ofD {K : PySem.W.Frag} {x qual : Str} {st : Stmt} {f : Addr} {fd : FuncData} (F : FunD K x qual (defArgs st) (defBody st) (defScope st) [] [] f fd) : Fun K x qual st f fd := by
  obtain ⟨oc, od, dV, kV, doc, pm, an, cdv, ct, osl, e, lk, hcd, dv, _⟩ := F.ex
  rcases dv with ⟨_, rfl⟩ | ⟨h, _⟩
  · exact ⟨⟨oc, od, kV, doc, pm, an, cdv, ct, osl, e, lk, hcd⟩, F.kp⟩
  · exact absurd rfl h
theorem funL_of {K : PySem.W.Frag} {base : Heap} {mg : Str → Option Value} {x q : Str} {kq : Str × Option Str} {st : Stmt} {fd : FuncData} (F : Fun K x q st (He.fAd K kq) fd) (T : LamX.TabB base mg (He.cT K kq).1 (He.cT K kq).2) :
    FunL K base mg x q st (He.fAd K kq) (He.cT K kq).1 (He.cT K kq).2 fd := by
  obtain ⟨oc, od, kV, doc, pm, an, cdv, ct, osl, e, lk, hcd⟩ := F.ex
  obtain ⟨c, rfl⟩ := He.codeIn_ref hcd
  have e2 : (He.cT K kq).1 = c := by
    refine He.codeOf_eq lk ?_
    rw [e] <;> rfl
  exact ⟨⟨oc, od, kV, doc, pm, an, ct, osl, by rw [e2]; exact e, lk, by rw [e2]; exact hcd⟩, T⟩
theorem isNone_of {α : Type} {o : Option α} (h : o.isNone = true) : o = none := by
  cases o with
  | none => rfl
  | some _ => cases h
abbrev TbK (K : PySem.W.Frag) : List (Addr × Str) := [((He.cT K rsD).2, (("_law_is_refused.<locals>.<lambda>" : String) : Str))]
/-- the law's promise, of what the top leaves -/
theorem at_law {l : PySem.W.OpenLaw} {w : World} {K : PySem.W.Frag} {h : Heap} {mg : Str → Option Value} {fl : Addr} {ts : List Addr} (KX : K.In h) (G : h.Ns mainGlobals mg) (hfl : mg ("law" : Str) = some (.ref fl)) (c : He.SaysD faA fnA K) (ex : exA K ts = true) (hT : ∀ P ∈ ts, h.get? P = some { cls := .none, data := .fields #[] }) :
    GFn.LawAtG l w K CX0 11 63 "_law_script" mg fl h := by
  obtain ⟨x0, ex⟩ := He.ba ex
  obtain ⟨x1, ex⟩ := He.ba ex
  obtain ⟨x2, ex⟩ := He.ba ex
  obtain ⟨x3, ex⟩ := He.ba ex
  obtain ⟨x4, ex⟩ := He.ba ex
  obtain ⟨x5, ex⟩ := He.ba ex
  obtain ⟨x6, ex⟩ := He.ba ex
  obtain ⟨x7, ex⟩ := He.ba ex
  obtain ⟨x8, ex⟩ := He.ba ex
  obtain ⟨x9, ex⟩ := He.ba ex
  obtain ⟨x10, ex⟩ := He.ba ex
  obtain ⟨x11, ex⟩ := He.ba ex
  obtain ⟨x12, ex⟩ := He.ba ex
  obtain ⟨x13, ex⟩ := He.ba ex
  obtain ⟨x14, ex⟩ := He.ba ex
  obtain ⟨x15, ex⟩ := He.ba ex
  obtain ⟨x16, ex⟩ := He.ba ex
  obtain ⟨x17, ex⟩ := He.ba ex
  obtain ⟨x18, ex⟩ := He.ba ex
  obtain ⟨x19, ex⟩ := He.ba ex
  obtain ⟨x20, ex⟩ := He.ba ex
  obtain ⟨x21, ex⟩ := He.ba ex
  obtain ⟨x22, ex⟩ := He.ba ex
  obtain ⟨x23, ex⟩ := He.ba ex
  obtain ⟨x24, ex⟩ := He.ba ex
  obtain ⟨x25, ex⟩ := He.ba ex
  obtain ⟨x26, ex⟩ := He.ba ex
  obtain ⟨x27, ex⟩ := He.ba ex
  have x28 := ex
  obtain ⟨o0, f0⟩ := He.ba x0
  obtain ⟨o1, f1⟩ := He.ba x1
  obtain ⟨o2, f2⟩ := He.ba x2
  obtain ⟨o3, f3⟩ := He.ba x3
  obtain ⟨o4, f4⟩ := He.ba x4
  obtain ⟨o5, f5⟩ := He.ba x5
  obtain ⟨o6, f6⟩ := He.ba x6
  obtain ⟨o7, f7⟩ := He.ba x7
  obtain ⟨o8, f8⟩ := He.ba x8
  obtain ⟨o9, f9⟩ := He.ba x9
  have B : Bi mg := ⟨He.free_ok KX G (c.fact 33 (f := .free "isinstance") rfl), He.free_ok KX G (c.fact 34 (f := .free "int") rfl), He.free_ok KX G (c.fact 35 (f := .free "bool") rfl), He.free_ok KX G (c.fact 36 (f := .free "tuple") rfl), He.free_ok KX G (c.fact 37 (f := .free "list") rfl), He.free_ok KX G (c.fact 38 (f := .free "dict") rfl), He.free_ok KX G (c.fact 39 (f := .free "len") rfl), He.free_ok KX G (c.fact 40 (f := .free "enumerate") rfl), He.free_ok KX G (c.fact 41 (f := .free "range") rfl), He.free_ok KX G (c.fact 42 (f := .free "abs") rfl), He.free_ok KX G (c.fact 43 (f := .free "max") rfl), He.free_ok KX G (c.fact 44 (f := .free "min") rfl)⟩
  have Bz : Bs mg := ⟨He.free_ok KX G (c.fact 45 (f := .free "sum") rfl), He.free_ok KX G (c.fact 46 (f := .free "zip") rfl)⟩
  obtain ⟨u0, g0⟩ := He.int_ok KX G (c.fact 47 (f := .int "MOST_MODULUS" 1000000000000000000) rfl)
  obtain ⟨u1, g1⟩ := He.int_ok KX G (c.fact 48 (f := .int "MOST_NUMBERS" 16) rfl)
  obtain ⟨u2, g2⟩ := He.int_ok KX G (c.fact 49 (f := .int "MOST_SYMBOLS" 10000) rfl)
  obtain ⟨d0, D0⟩ := c.def_ 0 (d := dd0) rfl
  have F0 : Fun K "is_whole" "is_whole" sWhole (He.ga K "is_whole") d0 := fun_ofD D0
  have b0 : Binds K d0 ["value"] [] := F0.binds fun _ _ _ _ _ _ us hl => match us, hl with | [_], _ => rfl
  obtain ⟨d1, D1⟩ := c.def_ 1 (d := dd1) rfl
  have F1 : Fun K "is_between" "is_between" sBetween (He.ga K "is_between") d1 := fun_ofD D1
  have b1 : Binds K d1 ["value", "low", "high"] [] := F1.binds fun _ _ _ _ _ _ us hl => match us, hl with | [_, _, _], _ => rfl
  obtain ⟨d2, D2⟩ := c.def_ 2 (d := dd2) rfl
  have F2 : Fun K "is_list" "is_list" sIsL (He.ga K "is_list") d2 := fun_ofD D2
  have b2 : Binds K d2 ["value"] [] := F2.binds fun _ _ _ _ _ _ us hl => match us, hl with | [_], _ => rfl
  obtain ⟨d3, D3⟩ := c.def_ 3 (d := dd3) rfl
  have F3 : Fun K "copied" "copied" sCopied (He.ga K "copied") d3 := fun_ofD D3
  have b3 : Binds K d3 ["value"] [] := F3.binds fun _ _ _ _ _ _ us hl => match us, hl with | [_], _ => rfl
  obtain ⟨d4, D4⟩ := c.def_ 4 (d := dd4) rfl
  have F4 : Fun K "frozen" "frozen" sFrz (He.ga K "frozen") d4 := fun_ofD D4
  have b4 : Binds K d4 ["value"] [] := F4.binds fun _ _ _ _ _ _ us hl => match us, hl with | [_], _ => rfl
  obtain ⟨d5, D5⟩ := c.def_ 5 (d := dd5) rfl
  have F5 : Fun K "applied" "applied" sAp (He.ga K "applied") d5 := fun_ofD D5
  have b5 : Binds K d5 ["modulus", "matrix", "row"] [] := F5.binds fun _ _ _ _ _ _ us hl => match us, hl with | [_, _, _], _ => rfl
  obtain ⟨d6, D6⟩ := c.def_ 6 (d := dd6) rfl
  have F6 : Fun K "identity" "identity" sId (He.ga K "identity") d6 := fun_ofD D6
  have b6 : Binds K d6 ["size"] [] := F6.binds fun _ _ _ _ _ _ us hl => match us, hl with | [_], _ => rfl
  obtain ⟨d7, D7⟩ := c.def_ 7 (d := dd7) rfl
  have F7 : Fun K "undone" "undone" sUn (He.ga K "undone") d7 := fun_ofD D7
  have b7 : Binds K d7 ["modulus", "matrix"] [] := F7.binds fun _ _ _ _ _ _ us hl => match us, hl with | [_, _], _ => rfl
  obtain ⟨d8, D8⟩ := c.def_ 8 (d := dd8) rfl
  have F8 : Fun K "less" "less" sLs (He.ga K "less") d8 := fun_ofD D8
  have b8 : Binds K d8 ["modulus", "row", "times", "other"] [] := F8.binds fun _ _ _ _ _ _ us hl => match us, hl with | [_, _, _, _], _ => rfl
  obtain ⟨d9, D9⟩ := c.def_ 9 (d := dd9) rfl
  have F9 : Fun K "inverse_of" "inverse_of" sIv (He.ga K "inverse_of") d9 := fun_ofD D9
  have b9 : Binds K d9 ["modulus", "number"] [] := F9.binds fun _ _ _ _ _ _ us hl => match us, hl with | [_, _], _ => rfl
  obtain ⟨d10, D10⟩ := c.def_ 10 (d := dd10) rfl
  have F10 : Fun K "are_numbers" "are_numbers" sAN (He.ga K "are_numbers") d10 := fun_ofD D10
  have b10 : Binds K d10 ["row", "many", "modulus"] [] := F10.binds fun _ _ _ _ _ _ us hl => match us, hl with | [_, _, _], _ => rfl
  obtain ⟨d11, D11⟩ := c.def_ 11 (d := dd11) rfl
  have F11 : Fun K "check_columns" "check_columns" sCC (He.ga K "check_columns") d11 := fun_ofD D11
  have b11 : Binds K d11 ["columns", "size", "modulus"] [] := F11.binds fun _ _ _ _ _ _ us hl => match us, hl with | [_, _, _], _ => rfl
  obtain ⟨d12, D12⟩ := c.def_ 12 (d := dd12) rfl
  have F12 : Fun K "first_wrong_number" "first_wrong_number" sFN (He.ga K "first_wrong_number") d12 := fun_ofD D12
  have b12 : Binds K d12 ["row", "many", "modulus"] [] := F12.binds fun _ _ _ _ _ _ us hl => match us, hl with | [_, _, _], _ => rfl
  obtain ⟨d13, D13⟩ := c.def_ 13 (d := dd13) rfl
  have F13 : Fun K "remainder" "remainder" sRm (He.ga K "remainder") d13 := fun_ofD D13
  have b13 : Binds K d13 ["width", "polynomial"] [] := F13.binds fun _ _ _ _ _ _ us hl => match us, hl with | [_, _], _ => rfl
  obtain ⟨d14, D14⟩ := c.def_ 14 (d := dd14) rfl
  have F14 : Fun K "_law_pen_of" "_law_pen_of" sPen (He.ga K "_law_pen_of") d14 := fun_ofD D14
  have b14 : Binds K d14 ["_law_script"] [] := F14.binds fun _ _ _ _ _ _ us hl => match us, hl with | [_], _ => rfl
  obtain ⟨d15, D15⟩ := c.def_ 15 (d := dd15) rfl
  have F15 : Fun K "_law_draw" "_law_draw" sDraw (He.ga K "_law_draw") d15 := fun_ofD D15
  have b15 : Binds K d15 ["_law_pen", "_law_many"] [] := F15.binds fun _ _ _ _ _ _ us hl => match us, hl with | [_, _], _ => rfl
  obtain ⟨d16, D16⟩ := c.def_ 16 (d := dd16) rfl
  have F16 : Fun K "_law_pick" "_law_pick" sPick (He.ga K "_law_pick") d16 := fun_ofD D16
  have b16 : Binds K d16 ["_law_pen", "_law_items"] [] := F16.binds fun _ _ _ _ _ _ us hl => match us, hl with | [_, _], _ => rfl
  obtain ⟨d17, D17⟩ := c.def_ 17 (d := dd17) rfl
  have F17 : Fun K "_law_digits" "_law_digits" sDg (He.ga K "_law_digits") d17 := fun_ofD D17
  have b17 : Binds K d17 ["_law_number", "_law_size"] [] := F17.binds fun _ _ _ _ _ _ us hl => match us, hl with | [_, _], _ => rfl
  obtain ⟨d18, D18⟩ := c.def_ 18 (d := dd18) rfl
  have F18 : Fun K "_law_left" "_law_left" sLf (He.ga K "_law_left") d18 := fun_ofD D18
  have b18 : Binds K d18 ["_law_bits", "_law_digits_here"] [] := F18.binds fun _ _ _ _ _ _ us hl => match us, hl with | [_, _], _ => rfl
  obtain ⟨d19, D19⟩ := c.def_ 19 (d := dd19) rfl
  have F19 : Fun K "_law_refusal" "_law_refusal" sRf (He.ga K "_law_refusal") d19 := fun_ofD D19
  have b19 : Binds K d19 ["_law_call"] [] := F19.binds fun _ _ _ _ _ _ us hl => match us, hl with | [_], _ => rfl
  obtain ⟨d20, D20⟩ := c.def_ 20 (d := dd20) rfl
  have F20 : Fun K "_law_is_refused" "_law_is_refused" sRs (He.ga K "_law_is_refused") d20 := fun_ofD D20
  have b20 : Binds K d20 ["_law_pen"] [] := F20.binds fun _ _ _ _ _ _ us hl => match us, hl with | [_], _ => rfl
  obtain ⟨d21, D21⟩ := c.def_ 21 (d := dd21) rfl
  have F21 : Fun K "law" "law" sLaw (He.ga K "law") d21 := fun_ofD D21
  have b21 : Binds K d21 ["_law_script"] [] := F21.binds fun _ _ _ _ _ _ us hl => match us, hl with | [_], _ => rfl
  obtain ⟨d22, D22⟩ := c.def_ 22 (d := dd22) rfl
  have F22 : Fun K "__init__" "TooMany.__init__" sTMany (He.ma K (He.ga K "TooMany") "__init__") d22 := fun_ofD D22
  have b22 : Binds K d22 ["self", "what", "many", "most"] [] := F22.binds fun _ _ _ _ _ _ us hl => match us, hl with | [_, _, _, _], _ => rfl
  have m22 : Meth K (He.ga K "TooMany") "__init__" (He.ma K (He.ga K "TooMany") "__init__") := He.meth_ok (c.fact 70 (f := .meth "TooMany" "__init__") rfl)
  obtain ⟨d23, D23⟩ := c.def_ 23 (d := dd23) rfl
  have F23 : Fun K "__init__" "BadWidth.__init__" sBWid (He.ma K (He.ga K "BadWidth") "__init__") d23 := fun_ofD D23
  have b23 : Binds K d23 ["self", "width"] [] := F23.binds fun _ _ _ _ _ _ us hl => match us, hl with | [_, _], _ => rfl
  have m23 : Meth K (He.ga K "BadWidth") "__init__" (He.ma K (He.ga K "BadWidth") "__init__") := He.meth_ok (c.fact 71 (f := .meth "BadWidth" "__init__") rfl)
  obtain ⟨d24, D24⟩ := c.def_ 24 (d := dd24) rfl
  have F24 : Fun K "__init__" "BadModulus.__init__" sBMod (He.ma K (He.ga K "BadModulus") "__init__") d24 := fun_ofD D24
  have b24 : Binds K d24 ["self", "modulus"] [] := F24.binds fun _ _ _ _ _ _ us hl => match us, hl with | [_, _], _ => rfl
  have m24 : Meth K (He.ga K "BadModulus") "__init__" (He.ma K (He.ga K "BadModulus") "__init__") := He.meth_ok (c.fact 72 (f := .meth "BadModulus" "__init__") rfl)
  obtain ⟨d25, D25⟩ := c.def_ 25 (d := dd25) rfl
  have F25 : Fun K "__init__" "NotUndone.__init__" sNUnd (He.ma K (He.ga K "NotUndone") "__init__") d25 := fun_ofD D25
  have b25 : Binds K d25 ["self"] [] := F25.binds fun _ _ _ _ _ _ us hl => match us, hl with | [_], _ => rfl
  have m25 : Meth K (He.ga K "NotUndone") "__init__" (He.ma K (He.ga K "NotUndone") "__init__") := He.meth_ok (c.fact 73 (f := .meth "NotUndone" "__init__") rfl)
  obtain ⟨d26, D26⟩ := c.def_ 26 (d := dd26) rfl
  have F26 : Fun K "__init__" "BadMatrix.__init__" sBMat (He.ma K (He.ga K "BadMatrix") "__init__") d26 := fun_ofD D26
  have b26 : Binds K d26 ["self", "index"] [] := F26.binds fun _ _ _ _ _ _ us hl => match us, hl with | [_, _], _ => rfl
  have m26 : Meth K (He.ga K "BadMatrix") "__init__" (He.ma K (He.ga K "BadMatrix") "__init__") := He.meth_ok (c.fact 74 (f := .meth "BadMatrix" "__init__") rfl)
  obtain ⟨d27, D27⟩ := c.def_ 27 (d := dd27) rfl
  have F27 : Fun K "__init__" "BadColumns.__init__" sBCol (He.ma K (He.ga K "BadColumns") "__init__") d27 := fun_ofD D27
  have b27 : Binds K d27 ["self", "index"] [] := F27.binds fun _ _ _ _ _ _ us hl => match us, hl with | [_, _], _ => rfl
  have m27 : Meth K (He.ga K "BadColumns") "__init__" (He.ma K (He.ga K "BadColumns") "__init__") := He.meth_ok (c.fact 75 (f := .meth "BadColumns" "__init__") rfl)
  obtain ⟨d28, D28⟩ := c.def_ 28 (d := dd28) rfl
  have F28 : Fun K "__init__" "BadBegin.__init__" sBBeg (He.ma K (He.ga K "BadBegin") "__init__") d28 := fun_ofD D28
  have b28 : Binds K d28 ["self", "index"] [] := F28.binds fun _ _ _ _ _ _ us hl => match us, hl with | [_, _], _ => rfl
  have m28 : Meth K (He.ga K "BadBegin") "__init__" (He.ma K (He.ga K "BadBegin") "__init__") := He.meth_ok (c.fact 76 (f := .meth "BadBegin" "__init__") rfl)
  obtain ⟨d29, D29⟩ := c.def_ 29 (d := dd29) rfl
  have F29 : Fun K "__init__" "BadEnd.__init__" sBEnd (He.ma K (He.ga K "BadEnd") "__init__") d29 := fun_ofD D29
  have b29 : Binds K d29 ["self", "index"] [] := F29.binds fun _ _ _ _ _ _ us hl => match us, hl with | [_, _], _ => rfl
  have m29 : Meth K (He.ga K "BadEnd") "__init__" (He.ma K (He.ga K "BadEnd") "__init__") := He.meth_ok (c.fact 77 (f := .meth "BadEnd" "__init__") rfl)
  obtain ⟨d30, D30⟩ := c.def_ 30 (d := dd30) rfl
  have F30 : Fun K "__init__" "BadSymbol.__init__" sBSym (He.ma K (He.ga K "BadSymbol") "__init__") d30 := fun_ofD D30
  have b30 : Binds K d30 ["self", "index"] [] := F30.binds fun _ _ _ _ _ _ us hl => match us, hl with | [_, _], _ => rfl
  have m30 : Meth K (He.ga K "BadSymbol") "__init__" (He.ma K (He.ga K "BadSymbol") "__init__") := He.meth_ok (c.fact 78 (f := .meth "BadSymbol" "__init__") rfl)
  obtain ⟨d31, D31⟩ := c.def_ 31 (d := dd31) rfl
  have F31 : Fun K "__init__" "BadPolynomial.__init__" sBPol (He.ma K (He.ga K "BadPolynomial") "__init__") d31 := fun_ofD D31
  have b31 : Binds K d31 ["self", "polynomial"] [] := F31.binds fun _ _ _ _ _ _ us hl => match us, hl with | [_, _], _ => rfl
  have m31 : Meth K (He.ga K "BadPolynomial") "__init__" (He.ma K (He.ga K "BadPolynomial") "__init__") := He.meth_ok (c.fact 79 (f := .meth "BadPolynomial" "__init__") rfl)
  obtain ⟨d32, D32⟩ := c.def_ 32 (d := dd32) rfl
  have F32 : Fun K "__init__" "Guard.__init__" sGI (He.ma K (He.ga K "Guard") "__init__") d32 := fun_ofD D32
  have b32 : Binds K d32 ["self", "modulus", "matrix", "columns", "start", "end"] [] := F32.binds fun _ _ _ _ _ _ us hl => match us, hl with | [_, _, _, _, _, _], _ => rfl
  have m32 : Meth K (He.ga K "Guard") "__init__" (He.ma K (He.ga K "Guard") "__init__") := He.meth_ok (c.fact 80 (f := .meth "Guard" "__init__") rfl)
  obtain ⟨d33, D33⟩ := c.def_ 33 (d := dd33) rfl
  have F33 : Fun K "sum_of" "Guard.sum_of" sSum (He.ma K (He.ga K "Guard") "sum_of") d33 := fun_ofD D33
  have b33 : Binds K d33 ["self", "block"] [] := F33.binds fun _ _ _ _ _ _ us hl => match us, hl with | [_, _], _ => rfl
  have m33 : Meth K (He.ga K "Guard") "sum_of" (He.ma K (He.ga K "Guard") "sum_of") := He.meth_ok (c.fact 81 (f := .meth "Guard" "sum_of") rfl)
  obtain ⟨d34, D34⟩ := c.def_ 34 (d := dd34) rfl
  have F34 : Fun K "state_behind" "Guard.state_behind" sSb (He.ma K (He.ga K "Guard") "state_behind") d34 := fun_ofD D34
  have b34 : Binds K d34 ["self", "state", "symbol"] [] := F34.binds fun _ _ _ _ _ _ us hl => match us, hl with | [_, _, _], _ => rfl
  have m34 : Meth K (He.ga K "Guard") "state_behind" (He.ma K (He.ga K "Guard") "state_behind") := He.meth_ok (c.fact 82 (f := .meth "Guard" "state_behind") rfl)
  obtain ⟨d35, D35⟩ := c.def_ 35 (d := dd35) rfl
  have F35 : Fun K "ended" "Guard.ended" sEn (He.ma K (He.ga K "Guard") "ended") d35 := fun_ofD D35
  have b35 : Binds K d35 ["self", "state"] [] := F35.binds fun _ _ _ _ _ _ us hl => match us, hl with | [_, _], _ => rfl
  have m35 : Meth K (He.ga K "Guard") "ended" (He.ma K (He.ga K "Guard") "ended") := He.meth_ok (c.fact 83 (f := .meth "Guard" "ended") rfl)
  obtain ⟨d36, D36⟩ := c.def_ 36 (d := dd36) rfl
  have F36 : Fun K "added" "Guard.added" sAdd (He.ma K (He.ga K "Guard") "added") d36 := fun_ofD D36
  have b36 : Binds K d36 ["self", "one", "other"] [] := F36.binds fun _ _ _ _ _ _ us hl => match us, hl with | [_, _, _], _ => rfl
  have m36 : Meth K (He.ga K "Guard") "added" (He.ma K (He.ga K "Guard") "added") := He.meth_ok (c.fact 84 (f := .meth "Guard" "added") rfl)
  have q_TooMany_what : PySem.W.findIn K (.ref (He.ga K "TooMany")) "what" = some none := He.noat_ok (c.fact 52 (f := .noat "TooMany" "what") rfl)
  have q_TooMany_many : PySem.W.findIn K (.ref (He.ga K "TooMany")) "many" = some none := He.noat_ok (c.fact 53 (f := .noat "TooMany" "many") rfl)
  have q_TooMany_most : PySem.W.findIn K (.ref (He.ga K "TooMany")) "most" = some none := He.noat_ok (c.fact 54 (f := .noat "TooMany" "most") rfl)
  have q_BadWidth_width : PySem.W.findIn K (.ref (He.ga K "BadWidth")) "width" = some none := He.noat_ok (c.fact 55 (f := .noat "BadWidth" "width") rfl)
  have q_BadModulus_modulus : PySem.W.findIn K (.ref (He.ga K "BadModulus")) "modulus" = some none := He.noat_ok (c.fact 56 (f := .noat "BadModulus" "modulus") rfl)
  have q_BadMatrix_index : PySem.W.findIn K (.ref (He.ga K "BadMatrix")) "index" = some none := He.noat_ok (c.fact 57 (f := .noat "BadMatrix" "index") rfl)
  have q_BadColumns_index : PySem.W.findIn K (.ref (He.ga K "BadColumns")) "index" = some none := He.noat_ok (c.fact 58 (f := .noat "BadColumns" "index") rfl)
  have q_BadBegin_index : PySem.W.findIn K (.ref (He.ga K "BadBegin")) "index" = some none := He.noat_ok (c.fact 59 (f := .noat "BadBegin" "index") rfl)
  have q_BadEnd_index : PySem.W.findIn K (.ref (He.ga K "BadEnd")) "index" = some none := He.noat_ok (c.fact 60 (f := .noat "BadEnd" "index") rfl)
  have q_BadSymbol_index : PySem.W.findIn K (.ref (He.ga K "BadSymbol")) "index" = some none := He.noat_ok (c.fact 61 (f := .noat "BadSymbol" "index") rfl)
  have q_BadPolynomial_polynomial : PySem.W.findIn K (.ref (He.ga K "BadPolynomial")) "polynomial" = some none := He.noat_ok (c.fact 62 (f := .noat "BadPolynomial" "polynomial") rfl)
  have q_Guard_modulus : PySem.W.findIn K (.ref (He.ga K "Guard")) "modulus" = some none := He.noat_ok (c.fact 63 (f := .noat "Guard" "modulus") rfl)
  have q_Guard_matrix : PySem.W.findIn K (.ref (He.ga K "Guard")) "matrix" = some none := He.noat_ok (c.fact 64 (f := .noat "Guard" "matrix") rfl)
  have q_Guard_columns : PySem.W.findIn K (.ref (He.ga K "Guard")) "columns" = some none := He.noat_ok (c.fact 65 (f := .noat "Guard" "columns") rfl)
  have q_Guard_start : PySem.W.findIn K (.ref (He.ga K "Guard")) "start" = some none := He.noat_ok (c.fact 66 (f := .noat "Guard" "start") rfl)
  have q_Guard_end : PySem.W.findIn K (.ref (He.ga K "Guard")) "end" = some none := He.noat_ok (c.fact 67 (f := .noat "Guard" "end") rfl)
  have q_Guard_size : PySem.W.findIn K (.ref (He.ga K "Guard")) "size" = some none := He.noat_ok (c.fact 68 (f := .noat "Guard" "size") rfl)
  have q_Guard_width : PySem.W.findIn K (.ref (He.ga K "Guard")) "width" = some none := He.noat_ok (c.fact 69 (f := .noat "Guard" "width") rfl)
  have MK_Guard : Mk K (He.ga K "Guard") (He.ma K (He.ga K "Guard") "__init__") := He.mkr_ok (c.fact 51 (f := .mkr "Guard") rfl)
  have ct_BadWidth : Ct K mg "BadWidth" (He.ga K "BadWidth") := ⟨(He.glo_ok KX G (c.fact 23 (f := .glo "BadWidth") rfl)), xfB_ok f1, He.exm_ok (c.fact 85 (f := .exm "BadWidth" "BadWidth" true) rfl)⟩
  have ct_BadPolynomial : Ct K mg "BadPolynomial" (He.ga K "BadPolynomial") := ⟨(He.glo_ok KX G (c.fact 31 (f := .glo "BadPolynomial") rfl)), xfB_ok f9, He.exm_ok (c.fact 86 (f := .exm "BadPolynomial" "BadPolynomial" true) rfl)⟩
  have MM : Cm mg := ⟨⟨_, g0, ⟨_, rfl⟩⟩, ⟨_, g1, ⟨_, rfl⟩⟩, ⟨_, g2, ⟨_, rfl⟩⟩⟩
  have TG : TxG K (He.ga K "Guard") := ⟨He.cls_ok (c.fact 50 (f := .cls "Guard") rfl), q_Guard_modulus, q_Guard_matrix, q_Guard_columns, q_Guard_start, q_Guard_end, q_Guard_size, q_Guard_width⟩
  have U : ObK K := ⟨He.eqO_ok x10, of_decide_eq_true x11⟩
  have OC : ObC K (He.ga K "Guard") := ⟨TG.cl, He.eqO_ok x12, of_decide_eq_true x13, of_decide_eq_true x14, of_decide_eq_true x15, of_decide_eq_true x16, of_decide_eq_true x17, of_decide_eq_true x18⟩
  have kC : PySem.W.kitOne K (.ref (He.ga K "Guard")) (.ref (He.ga K "Guard")) = some true := of_decide_eq_true x19
  have Ts : Ctr K mg (He.ga K "VaultError") (He.ga K "BadWidth") (He.ga K "BadPolynomial") := ⟨ct_BadWidth, ct_BadPolynomial, q_BadWidth_width, q_BadPolynomial_polynomial, He.exm_ok (c.fact 87 (f := .exm "BadPolynomial" "BadWidth" false) rfl), (He.glo_ok KX G (c.fact 91 (f := .glo "VaultError") rfl)), ⟨ct_BadWidth.T.ga, ct_BadWidth.T.gg, ct_BadWidth.T.exC, ct_BadWidth.T.hdC, He.eqO_ok x20, U.gg, U.tk, of_decide_eq_true x21⟩, ⟨ct_BadPolynomial.T.ga, ct_BadPolynomial.T.gg, ct_BadPolynomial.T.exC, ct_BadPolynomial.T.hdC, He.eqO_ok x23, U.gg, U.tk, of_decide_eq_true x24⟩, of_decide_eq_true x22, of_decide_eq_true x25, He.free_ok KX G (c.fact 89 (f := .free "repr") rfl), He.free_ok KX G (c.fact 33 (f := .free "isinstance") rfl)⟩
  have el : fl = He.ga K "law" := by
    have e := hfl.symm.trans (He.glo_ok KX G (c.fact 21 (f := .glo "law") rfl))
    cases e
    rfl
  subst el
  refine ⟨d21, [He.cT K rsD], spLaw K (TbK K), ?_, ?_, ?_, ?_, ?_, ?_⟩
  · intro p hp
    simp only [List.mem_cons, List.not_mem_nil, or_false] at hp
    rcases hp with rfl
    · exact hT _ (of_decide_eq_true x26)
  · intro p hp
    simp only [List.mem_cons, List.not_mem_nil, or_false] at hp
    rcases hp with rfl
    · exact isNone_of x28
  · intro p hp
    simp only [List.mem_cons, List.not_mem_nil, or_false] at hp
    rcases hp with rfl
    · exact PySem.W.codeHd_of_K KX x27
  · exact fun s u => FunD.bindsA (ps := ["_law_script"]) D21 (fun _ _ _ _ _ _ us hl => match us, hl with | [_], _ => rfl) s [u] rfl
  · intro H a ns hl hb hH hS
    refine ⟨a, ns, rfl, hS, fun p hp => ?_, fun _ => rfl⟩
    simp only [List.mem_cons, List.not_mem_nil, or_false] at hp
    rcases hp with rfl
    · exact LamX.TabS.nil (hH (He.cT K rsD) List.mem_cons_self)
  · intro base KB GB TB
    have hu0 : ∀ p ∈ TbK K, p.1 = (He.cT K rsD).2 → p.2 = (("_law_is_refused.<locals>.<lambda>" : String) : Str) := fun p hp e => by
      simp only [List.mem_cons, List.not_mem_nil, or_false] at hp
      rcases hp with rfl
      · exact rfl
    have LF0 : FunL K base mg "_law_is_refused" "_law_is_refused" sRs (He.ga K "_law_is_refused") (He.cT K rsD).1 (He.cT K rsD).2 d20 := funL_of (kq := rsD) F20 (TB _ List.mem_cons_self)
    have cWh : Cal CX0 l.prog w K mg base 1 "is_whole" spWhole := ⟨_, d0, _, ok_whole F0 B, (He.glo_ok KX G (c.fact 0 (f := .glo "is_whole") rfl)), F0.kp, b0⟩
    have cB : Cal CX0 l.prog w K mg base 2 "is_between" spBetween := ⟨_, d1, _, ok_between F1 cWh, (He.glo_ok KX G (c.fact 1 (f := .glo "is_between") rfl)), F1.kp, b1⟩
    have cIL : Cal CX0 l.prog w K mg base 1 "is_list" spIsL := ⟨_, d2, _, ok_isL F2 B, (He.glo_ok KX G (c.fact 2 (f := .glo "is_list") rfl)), F2.kp, b2⟩
    have cC1 : Cal CX0 l.prog w K mg base 1 "copied" spCopied := ⟨_, d3, _, ok_copied F3 B, (He.glo_ok KX G (c.fact 3 (f := .glo "copied") rfl)), F3.kp, b3⟩
    have cC2 : Cal CX0 l.prog w K mg base 2 "copied" spCopy2 := ⟨_, d3, _, ok_copy2 F3 B cC1, (He.glo_ok KX G (c.fact 3 (f := .glo "copied") rfl)), F3.kp, b3⟩
    have xTooMany : Xc l.prog w K mg base 0 "TooMany" (He.ga K "TooMany") (fun _ _ _ _ => False) := ⟨oexB_ok o0, (He.glo_ok KX G (c.fact 22 (f := .glo "TooMany") rfl)), _, d22, _, m22.at_, beq_iff_eq.mp m22.fn, never, b22⟩
    have xBadModulus : Xc l.prog w K mg base 0 "BadModulus" (He.ga K "BadModulus") (fun _ _ _ _ => False) := ⟨oexB_ok o2, (He.glo_ok KX G (c.fact 24 (f := .glo "BadModulus") rfl)), _, d24, _, m24.at_, beq_iff_eq.mp m24.fn, never, b24⟩
    have xNotUndone : Xc l.prog w K mg base 0 "NotUndone" (He.ga K "NotUndone") (fun _ _ _ _ => False) := ⟨oexB_ok o3, (He.glo_ok KX G (c.fact 25 (f := .glo "NotUndone") rfl)), _, d25, _, m25.at_, beq_iff_eq.mp m25.fn, never, b25⟩
    have xBadMatrix : Xc l.prog w K mg base 0 "BadMatrix" (He.ga K "BadMatrix") (fun _ _ _ _ => False) := ⟨oexB_ok o4, (He.glo_ok KX G (c.fact 26 (f := .glo "BadMatrix") rfl)), _, d26, _, m26.at_, beq_iff_eq.mp m26.fn, never, b26⟩
    have xBadColumns : Xc l.prog w K mg base 0 "BadColumns" (He.ga K "BadColumns") (fun _ _ _ _ => False) := ⟨oexB_ok o5, (He.glo_ok KX G (c.fact 27 (f := .glo "BadColumns") rfl)), _, d27, _, m27.at_, beq_iff_eq.mp m27.fn, never, b27⟩
    have xBadBegin : Xc l.prog w K mg base 0 "BadBegin" (He.ga K "BadBegin") (fun _ _ _ _ => False) := ⟨oexB_ok o6, (He.glo_ok KX G (c.fact 28 (f := .glo "BadBegin") rfl)), _, d28, _, m28.at_, beq_iff_eq.mp m28.fn, never, b28⟩
    have xBadEnd : Xc l.prog w K mg base 0 "BadEnd" (He.ga K "BadEnd") (fun _ _ _ _ => False) := ⟨oexB_ok o7, (He.glo_ok KX G (c.fact 29 (f := .glo "BadEnd") rfl)), _, d29, _, m29.at_, beq_iff_eq.mp m29.fn, never, b29⟩
    have xBadSymbol : Xc l.prog w K mg base 0 "BadSymbol" (He.ga K "BadSymbol") (fun _ _ _ _ => False) := ⟨oexB_ok o8, (He.glo_ok KX G (c.fact 30 (f := .glo "BadSymbol") rfl)), _, d30, _, m30.at_, beq_iff_eq.mp m30.fn, never, b30⟩
    have xBadWidth : Xc l.prog w K mg base 3 "BadWidth" (He.ga K "BadWidth") (spXO K "width") := ⟨oexB_ok o1, (He.glo_ok KX G (c.fact 23 (f := .glo "BadWidth") rfl)), _, d23, _, m23.at_, beq_iff_eq.mp m23.fn, ok_BWid F23 cC2, b23⟩
    have xBadPolynomial : Xc l.prog w K mg base 3 "BadPolynomial" (He.ga K "BadPolynomial") (spXO K "polynomial") := ⟨oexB_ok o9, (He.glo_ok KX G (c.fact 31 (f := .glo "BadPolynomial") rfl)), _, d31, _, m31.at_, beq_iff_eq.mp m31.fn, ok_BPol F31 cC2, b31⟩
    have cF0 : Cal CX0 l.prog w K mg base 1 "frozen" (spFz K 0) := ⟨_, d4, _, ok_fz0 F4 B, (He.glo_ok KX G (c.fact 4 (f := .glo "frozen") rfl)), F4.kp, b4⟩
    have cF1 : Cal CX0 l.prog w K mg base 2 "frozen" (spFz K 1) := ⟨_, d4, _, ok_fzS F4 B cF0, (He.glo_ok KX G (c.fact 4 (f := .glo "frozen") rfl)), F4.kp, b4⟩
    have cF2 : Cal CX0 l.prog w K mg base 3 "frozen" (spFz K 2) := ⟨_, d4, _, ok_fzS F4 B cF1, (He.glo_ok KX G (c.fact 4 (f := .glo "frozen") rfl)), F4.kp, b4⟩
    have cAp : Cal CX0 l.prog w K mg base 1 "applied" spAp := ⟨_, d5, _, ok_ap F5 B Bz, (He.glo_ok KX G (c.fact 5 (f := .glo "applied") rfl)), F5.kp, b5⟩
    have cId : Cal CX0 l.prog w K mg base 1 "identity" spId := ⟨_, d6, _, ok_id F6 B, (He.glo_ok KX G (c.fact 6 (f := .glo "identity") rfl)), F6.kp, b6⟩
    have cLs : Cal CX0 l.prog w K mg base 1 "less" spLs := ⟨_, d8, _, ok_ls F8 Bz, (He.glo_ok KX G (c.fact 8 (f := .glo "less") rfl)), F8.kp, b8⟩
    have cIv : Cal CX0 l.prog w K mg base 1 "inverse_of" spIv := ⟨_, d9, _, ok_iv F9, (He.glo_ok KX G (c.fact 9 (f := .glo "inverse_of") rfl)), F9.kp, b9⟩
    have cUn : Cal CX0 l.prog w K mg base 2 "undone" spUn := ⟨_, d7, _, ok_un F7 B Bz cId cLs cIv, (He.glo_ok KX G (c.fact 7 (f := .glo "undone") rfl)), F7.kp, b7⟩
    have cAN : Cal CX0 l.prog w K mg base 3 "are_numbers" spAN := ⟨_, d10, _, ok_an F10 B (He.free_ok KX G (c.fact 88 (f := .free "all") rfl)) cB, (He.glo_ok KX G (c.fact 10 (f := .glo "are_numbers") rfl)), F10.kp, b10⟩
    have cCC : Cal (L2.CX l.prog w) l.prog w K mg base 4 "check_columns" spCC := ⟨_, d11, _, ok_cc F11 B MM cIL cAN xBadColumns, (He.glo_ok KX G (c.fact 11 (f := .glo "check_columns") rfl)), F11.kp, b11⟩
    have cFN : Cal CX0 l.prog w K mg base 3 "first_wrong_number" spFN := ⟨_, d12, _, ok_fn F12 B cB, (He.glo_ok KX G (c.fact 12 (f := .glo "first_wrong_number") rfl)), F12.kp, b12⟩
    have mA : Met CX0 l.prog w K mg base 1 (He.ga K "Guard") "added" (spAdd (He.ga K "Guard")) := ⟨_, d36, _, TG.cl, m36, ok_add F36 B Bz TG, b36⟩
    have mSb : Met CX0 l.prog w K mg base 2 (He.ga K "Guard") "state_behind" (spSb (He.ga K "Guard")) := ⟨_, d34, _, TG.cl, m34, ok_sb F34 TG cAp mA, b34⟩
    have mEn : Met CX0 l.prog w K mg base 2 (He.ga K "Guard") "ended" (spEn (He.ga K "Guard")) := ⟨_, d35, _, TG.cl, m35, ok_en F35 TG mA, b35⟩
    have mSum : Met (L2.CX l.prog w) l.prog w K mg base 4 (He.ga K "Guard") "sum_of" (spSum (He.ga K "Guard")) := ⟨_, d33, _, TG.cl, m33, ok_sum F33 B MM TG cAN xBadSymbol xTooMany mSb mEn, b33⟩
    have mG : Mak (L2.CX l.prog w) l.prog w K mg base 5 "Guard" (He.ga K "Guard") (spGI (He.ga K "Guard")) := ⟨_, d32, _, MK_Guard, ok_gi F32 B MM TG cB cIL cAN cUn cCC cFN cF2 xBadModulus xTooMany xBadMatrix xNotUndone xBadBegin xBadEnd, (He.glo_ok KX G (c.fact 32 (f := .glo "Guard") rfl)), b32⟩
    have cRm : Cal (L2.CX l.prog w) l.prog w K mg base 7 "remainder" (fun vs H Q E => spRm (He.ga K "Guard") vs H Q E ∨ spRmX (He.ga K "BadWidth") (He.ga K "BadPolynomial") vs H Q E) := ⟨_, d13, _, ok_rm F13 B cB xBadWidth xBadPolynomial q_BadWidth_width q_BadPolynomial_polynomial mG, (He.glo_ok KX G (c.fact 13 (f := .glo "remainder") rfl)), F13.kp, b13⟩
    have cPen : Cal CX0 l.prog w K mg base 1 "_law_pen_of" (spPen K) := ⟨_, d14, _, ok_pen F14 B, (He.glo_ok KX G (c.fact 14 (f := .glo "_law_pen_of") rfl)), F14.kp, b14⟩
    have cD : Cal CX0 l.prog w K mg base 1 "_law_draw" spDraw := ⟨_, d15, _, ok_draw F15 B, (He.glo_ok KX G (c.fact 15 (f := .glo "_law_draw") rfl)), F15.kp, b15⟩
    have cPk : Cal CX0 l.prog w K mg base 2 "_law_pick" spPick := ⟨_, d16, _, ok_pick F16 B cD, (He.glo_ok KX G (c.fact 16 (f := .glo "_law_pick") rfl)), F16.kp, b16⟩
    have cDg : Cal CX0 l.prog w K mg base 1 "_law_digits" spDg := ⟨_, d17, _, ok_dg F17 B, (He.glo_ok KX G (c.fact 17 (f := .glo "_law_digits") rfl)), F17.kp, b17⟩
    have cLf : Cal CX0 l.prog w K mg base 1 "_law_left" spLf := ⟨_, d18, _, ok_lf F18 B, (He.glo_ok KX G (c.fact 18 (f := .glo "_law_left") rfl)), F18.kp, b18⟩
    have cRs : CalG CX0 l.prog w K mg base 10 "_law_is_refused" (spRs (TbK K)) := ⟨_, d20, _, ok_rs ⟨LF0, B, cD, cPk, cRm, F19, b19, (He.glo_ok KX G (c.fact 19 (f := .glo "_law_refusal") rfl)), Ts, List.mem_cons_self, hu0⟩, (He.glo_ok KX G (c.fact 20 (f := .glo "_law_is_refused") rfl)), F20.kp, b20⟩
    exact ok_law ⟨F21, B, TG, OC, U, kC, (He.glo_ok KX G (c.fact 32 (f := .glo "Guard") rfl)), He.free_ok KX G (c.fact 89 (f := .free "repr") rfl), He.free_ok KX G (c.fact 90 (f := .free "ord") rfl), cPen, cD, cRm, mSum, cLf, cDg, cRs⟩
end K50
set_option Elab.async false
open PySem.W PySem PyProof.Rows in
set_option maxRecDepth 100001 in
set_option maxHeartbeats 0 in
theorem PySem.Challenge.cw_wordvault_k50_whole_remainders_holds : PySem.Challenge.rw_wordvault_k50_whole_remainders.Holds := by
  w_on; o_law
  k_head
  case hw => w_witness2
  k_fill
  refine GFn.walk_ofG (l := PySem.Challenge.rw_wordvault_k50_whole_remainders) (n := 63) (k := 11) (x := "_law_script") (CX := fun _ => L2.CX0) rfl (by decide) rfl ⟨rfl, by decide, by decide⟩ (fun w h Y => PySem.W.km_in_of Y) ?F (fun _ _ _ _ _ z => z)
  case F =>
    intro w mg fa h Y KX G hmg
    refine K50.at_law KX G hmg ?c ?e (PySem.W.km_tabs_of Y)
    case c =>
      show He.obsD K50.faA K50.fnA _ = He.valD K50.fnA
      kernel_rfl
    case e => kernel_rfl
