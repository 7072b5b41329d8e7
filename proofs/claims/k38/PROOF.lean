import PyProof.Rows.All
import Wide.All
import OpenK.AllK
import Wide.FinOn
import KE.GoesEnum
import HandS.ForMost
import HandS.Walk
import HandS.ForExc
import HandS.ExcInit
import HandS.TryMany
import HandS.Lambda
import HandS.SortKw
import KE.KSortKey
import PyProof.Rows.SortStr
import PyProof.Rows.SortKeyStr
import HandS.Text
import KE.LtSeq
import KE.KRevSl
import PyProof.ListStr
import PyProof.StrOps2
import PyProof.SliceStr2
import PyProof.Rows.StrJoinStr
import HandS.DictComp
import HandS.NoneIn
import HandS.IsInst
import HandS.Conv
import HandS.Flow
import HandS.Deep
import HandS.Codes
import HandS.Wide
import HandS.TupAny
import HandS.EndTab
import HandS.ExcField
import HandS.Strs
import HandS.SortInts
import HandS.WideBits
import PyProof.Rows.StrIntSpec
import PyProof.FString4
import HandS.FStr
import HandS.StrMore
import HandS.Zip
import HandS.SortRule
import HandS.More
import HandS.ExcOwn
import HandS.Call
import HandS.Style
import HandS.HeadHook4
import KE.KNestM
import PySem.Challenge.RW_wordvault_k38_whole_counted_signs
set_option Elab.async false
set_option maxRecDepth 100001
set_option maxHeartbeats 1999999
/-! enumerate over a tuple. -/
namespace PySem
theorem enumT_new {v : Value} {o : Obj} {G : Heap → Prop} (B : Begins v o G) : Meets (Builtin.«enumerate.__new__» ⟨[.type "enumerate", v], []⟩)
    (fun _ R z => G z.heap ∧ R (.ok (.ret (.ref (z.heap.push o).objs.size)))
      { z with heap := (z.heap.push o).push { cls := .type "enumerate", data := .fields #[.none, .bool false, .ref z.heap.objs.size, rawInt 0, .none, .none] } }) :=
  .of_wp fun P W A R z hz => by
    obtain ⟨hp, gs, dr, tk, os⟩ := z
    obtain ⟨g0, r0⟩ := hz
    have su := sub_enumerate
    have it0 : ∀ {A' : Around} {E : Value → Shared → Prop} {Q : Value → Shared → Prop}, Q (.ref hp.objs.size) ⟨hp.push o, gs, dr, tk, os⟩ → wpAny (model P W) A' (pyIter v) Q E ⟨hp, gs, dr, tk, os⟩ :=
      fun q => B.iter P W _ _ ⟨hp, gs, dr, tk, os⟩ _ g0 q
    wp_walk using it0
    refine wpAny_stack_any fun sk => wpAny_pure ?_
    split
    next c _ _ _ _ _ =>
      cases (c == Value.type "enumerate") <;> (wp_walk using it0; exact ⟨_, rfl, r0⟩)
    next => wp_walk using it0; exact ⟨_, rfl, r0⟩
theorem enumT_call {P : Program} {W : World} {A : Around} {E : Value → Shared → Prop} {z : Shared} {v : Value} {o : Obj} {G : Heap → Prop} {Q : Value → Shared → Prop} (B : Begins v o G) (g0 : G z.heap)
    (k : ∀ h2, IsEnum h2 (z.heap.objs.size + 1) z.heap.objs.size 0 .none → h2.get? z.heap.objs.size = some o → (∀ b u, z.heap.get? b = some u → h2.get? b = some u) → Q (.ref (z.heap.objs.size + 1)) { z with heap := h2 }) :
    wpAny (model P W) A (call (.type "enumerate") [v]) Q E z := by
  refine callType_new F.called_enumerate (by decide) (F.typeCall_enumerate_1 _) (F.newCall_enumerate_1 _) (fun ob => F.args_object_init_2 ob _) F.entry_enumerate_new (enumT_new B) ⟨g0, ?_⟩
  have sz : (z.heap.push o).objs.size = z.heap.objs.size + 1 := Heap.size_push ..
  show _ ∧ _
  rw [sz]
  have en : IsEnum ((z.heap.push o).push { cls := .type "enumerate", data := .fields #[.none, .bool false, .ref z.heap.objs.size, rawInt 0, .none, .none] }) (z.heap.objs.size + 1) z.heap.objs.size 0 .none := by
    have q := Heap.get?_push_size (z.heap.push o) (o := { cls := .type "enumerate", data := .fields #[.none, .bool false, .ref z.heap.objs.size, rawInt 0, .none, .none] }) rfl
    rw [sz] at q
    exact q
  exact ⟨⟨_, en, rfl⟩, k _ en (Heap.get?_push_of_some _ (Heap.get?_push_size _ B.free)) fun b u e => Heap.get?_push_of_some _ (Heap.get?_push_of_some _ e)⟩
end PySem
namespace L2
open PySem.Spec PySem PyProof.Rows
/-- the tuple at a, each item in a new pair behind its number -/
def ItEnT (K : PySem.W.Frag) (a : Addr) : It where
  go := fun i H => ∃ (xs : List V) (x : V), SqT K H a xs ∧ xs[i]? = some x
  yld := fun i H v H2 => ∃ p x, v = .ref p ∧ H p = none ∧ H2 = upd H p (.tup [.int (i : Nat), x]) ∧ ∀ xs, SqT K H a xs → xs[i]? = some x
  stop := fun i H => ∃ xs : List V, SqT K H a xs ∧ xs.length ≤ i
theorem two_of {b e d : Addr} (h : b ∈ [e, d]) : b = e ∨ b = d := by simpa using h
theorem turn_enT {P : Program} {W : World} {K : PySem.W.Frag} {es : List Expr} {kk : Nat} {tp : Pos} (a e d : Addr) :
    Turn P W K (.Tuple es kk tp) (ItEnT K a) [e, d] e (fun i h => (∃ was, IsEnum h e d ((i : Nat) : Int) was) ∧ h.IsTupleIter d a i ∧ e ≠ d) where
  mem := List.mem_cons_self
  obj := fun i h st b hb => by
    obtain ⟨⟨was, he⟩, ⟨o, ho, hc, hd⟩, _⟩ := st
    rcases two_of hb with rfl | rfl
    · exact ⟨_, he, fun _ q => nomatch q⟩
    · exact ⟨o, ho, fun _ q => by rw [hd] at q; cases q⟩
  keep := fun i h h2 st k => ⟨let ⟨was, he⟩ := st.1; ⟨was, k e (by simp) _ he⟩, st.2.1.at fun o q => k d (by simp) o q, st.2.2⟩
  item := by
    intro X hP hW hK hc i pins s σ H E I hf st hg
    subst hP hW hK
    obtain ⟨⟨was, he⟩, hit, hne⟩ := st
    obtain ⟨xs, x, hq, hx⟩ := hg
    obtain ⟨its, rv, p, hz⟩ := I.tuple hq
    obtain ⟨u, hu, ru⟩ := rv.get hx
    have le : e < s.heap.objs.size := Heap.lt_size he
    have ld : d < s.heap.objs.size := let ⟨_, q, _⟩ := hit; Heap.lt_size q
    have la : a < s.heap.objs.size := p.lt
    have had : a ≠ d := fun z => by
      obtain ⟨o1, h1, c1, _⟩ := hit
      obtain ⟨o2, h2, c2, _⟩ := p
      rw [z, h1] at h2
      have := Option.some.inj h2
      subst this
      rw [c1] at c2
      exact absurd c2 (by decide)
    have hae : a ≠ e := fun z => by
      obtain ⟨o2, h2, c2, _⟩ := p
      have h1 : s.heap.get? e = some _ := he
      rw [z, h1] at h2
      have := Option.some.inj h2
      subst this
      exact absurd (show Value.type "enumerate" = Value.type "tuple" from c2) (by decide)
    have hi : i < its.toArray.size := by
      have := (List.getElem?_eq_some_iff.mp hu).1
      simpa using this
    have D := Draws.tuple (prog := X.prog) (w := X.w) (A := X.A.in1) (I.ok.hd hc) d a had its.toArray
    refine wpAny_pyNext_enum_itemD (n := its.toArray.size) (i := i) D he ⟨hit, p⟩ hi hne (fun m => ?_) fun y h2 tk hy ho hs2 hT hsz hk => ?_
    · rcases two_of m with z | z
      · exact hne z
      · exact hae z.symm
    have ey : y = u := by
      have q : its.toArray[i]? = some u := by simpa using hu
      rw [hy] at q
      exact Option.some.inj q
    subst ey
    refine ⟨_, rfl, wpAny_letOwnedTupleGo_enum (s := { s with heap := h2, toks := tk + 1 }) ho fun h3 he3 sb => ?_⟩
    have hT3 : h3.get? s.heap.objs.size = some { cls := .type "tuple", data := .seq #[.int i tk, y] } := (sb.2 _ (Nat.ne_of_gt le)).trans hT
    have new : ObjOk X.prog X.w (upd H s.heap.objs.size (.tup [.int (i : Nat), x])) h3 s.heap.objs.size (.tup [.int (i : Nat), x]) :=
      ⟨by show 2 ≤ sizeLine; decide, [.int i tk, y], .cons ⟨_, rfl⟩ (.cons ru .nil), ⟨_, hT3, rfl, _, rfl⟩⟩
    have J : Inv X pins σ (upd H s.heap.objs.size (.tup [.int (i : Nat), x])) { s with heap := h3, toks := tk + 1 } :=
      I.turnedNew (ch := [e, d]) (fun b o hb q => (sb.2 b fun z => hb (by simp [z])).trans (hk b o (fun z => hb (by simp [z])) (fun z => hb (by simp [z])) q)) hf (Nat.le_refl _) new
    refine ⟨.ref s.heap.objs.size, _, J, rfl, ⟨_, x, rfl, I.hok.fresh (Nat.le_refl _), rfl, fun ys hy2 => by rw [I.tuple_inj hy2 hq]; exact hx⟩, ⟨⟨y, ?_⟩, hs2.1.at fun o q => (sb.2 d (Ne.symm hne)).trans q, hne⟩, fun b hb => ?_⟩
    · have e1 : ((i + 1 : Nat) : Int) = (i : Int) + 1 := by omega
      rw [e1]
      exact he3
    · have lb : b < s.heap.objs.size := by
        rcases two_of hb with z | z
        · rw [z]; exact le
        · rw [z]; exact ld
      rw [upd_ne (Nat.ne_of_lt lb)]
      exact (hf b hb).1
  done := by
    intro X hP hW hK hc i pins s σ H E I hf st hg
    subst hP hW hK
    obtain ⟨⟨was, he⟩, hit, hne⟩ := st
    obtain ⟨xs, hq, hx⟩ := hg
    obtain ⟨its, rv, p, hz⟩ := I.tuple hq
    obtain ⟨f0, f1, f2, f3, f4, f5⟩ := hf d (by simp)
    have hl := rv.length
    unfold pyNext
    refine wpAny_bind (wpAny_attempt (wpAny_callSpecial?_slot (name := Str.ofString "__next__") ⟨_, he, rfl⟩ F.slot_enumerate_next
      (wpAny_call_entry F.slot_enumerate_next ⟨_, he, rfl⟩ F.entry_enumerate_next ?_ (F.args_enumerate_next_1 _))))
    show wpAny _ _ (field (.ref e) 2 >>= _) _ _ _
    refine wpAny_bind (wpAny_field he rfl (x := .ref d) rfl ?_)
    refine wpAny_bind (wpAny_nextOf_tuple_end (I.ok.hd hc) hit p (by simp; omega) fun h2 x eb hx2 => ?_)
    obtain ⟨o, ho, hcl⟩ := hx2
    refine wpAny_bind (wpAny_isInstance (T := "StopIteration") (b := true) ⟨o, ho, hcl⟩ isSubtype_stop ?_)
    exact wpAny_pure ⟨rfl, I.turned (t' := s.toks) (fun b o hb q => eb b o hb q) f0 f1 f3 f4 f5⟩
  self := fun A i s Q E st h => let ⟨⟨_, he⟩, _⟩ := st; wpAny_pyIter_enum he h
def iEnT (K : PySem.W.Frag) (ta : TA) : TI := fun σ H R => ta σ H fun vs H1 => ∃ a xs, vs = [.ref a] ∧ SqT K H1 a xs ∧ R (ItEnT K a) H1
theorem pi_enT {X : Cx} {e : Expr} {ta : TA} {p pos tp : Pos} {es : List Expr} {kk : Nat} (hg : Gl X "enumerate") (hm : X.mg "enumerate" = none) (ha : PA X [e] ta) (hs : starEach [e] X.env = [(false, eval e X.env)] := by rfl) :
    PI X (.Tuple es kk tp) (.Call (.Name "enumerate" p) [e] [] pos) (iEnT X.K ta) := by
  constructor
  intro pins s σ H R I h
  refine Call_ (ld_blt I hg hm boot_enumerate (PyProof.Rows.callWith_type1 (thn (ha.run pos pins s σ H _ I h) fun us s1 hh => ?_) hs rfl))
  obtain ⟨vs, H1, I1, r1, a, xs, ex, hq, q⟩ := hh
  subst ex
  cases r1 with
  | cons r rr =>
    cases rr
    cases r
    obtain ⟨its, rv, p2, hz⟩ := I1.tuple hq
    refine enumT_call (begins_tuple a its.toArray) p2 fun h2 he hd hk => wpAny_pyIter_enum he ?_
    have I2 : Inv X pins σ H1 { s1 with heap := h2 } := I1.kept (t' := s1.toks) hk
    refine ⟨s1.heap.objs.size + 1, [s1.heap.objs.size + 1, s1.heap.objs.size], _, _, H1, rfl, I2, turn_enT a (s1.heap.objs.size + 1) s1.heap.objs.size, ⟨⟨.none, he⟩, ⟨_, hd, rfl, rfl⟩, Nat.succ_ne_self _⟩, fun b hb => ?_, q⟩
    have ge : s1.heap.objs.size ≤ b := by
      rcases two_of hb with z | z
      · rw [z]; exact Nat.le_add_right _ _
      · rw [z]; exact Nat.le_refl _
    exact I1.fpOk ge (I1.hok.fresh ge)
theorem walk_enT {K : PySem.W.Frag} {a : Addr} {xs : List V} : Walk (ItEnT K a) xs.length (fun H => SqT K H a xs) (YPair (fun i => some (.int (i : Nat))) (fun i => xs[i]?)) where
  goes := fun i _ hi q => ⟨xs, xs[i], q, by simp [hi]⟩
  stops := fun _ q => ⟨xs, q, Nat.le_refl _⟩
  yields := fun i H v H2 _ q y => let ⟨p, x, h1, h2, h3, h4⟩ := y; ⟨p, .int (i : Nat), x, h1, h2, h3, rfl, h4 xs q⟩
end L2
set_option Elab.async false
set_option linter.all false
set_option maxRecDepth 100001
set_option maxHeartbeats 1999999
/-! enumerate over a text. -/
namespace L2
open PySem.Spec PySem PyProof.Rows
def ItEnS (x : Str) : It where
  go := fun i _ => i < x.cps.size
  yld := fun i H v H2 => ∃ p c, v = .ref p ∧ H p = none ∧ H2 = upd H p (.tup [.int (i : Nat), .str ⟨#[c]⟩]) ∧ x.cps[i]? = some c
  stop := fun i _ => x.cps.size ≤ i
theorem strIter_at {h h' : Heap} {a : Addr} {ty : String} {x : Str} {t : Tok} {i : Nat} (y : h.IsStrIter a ty x t i) (k : ∀ o, h.get? a = some o → h'.get? a = some o) : h'.IsStrIter a ty x t i := let ⟨o, ho, r⟩ := y; ⟨o, k o ho, r⟩
theorem text_end {prog : Program} {w : World} {A : Around} {E : Value → Shared → Prop} {s : Shared} {it : Addr} {x : Str} {t : Tok} {i : Nat} {Q : Value → Shared → Prop} (hh : A.handled = none) (hit : s.heap.IsStrIter it (strIterType x) x t i) (hx : x.cps[i]? = none)
    (hE : ∀ h' e, Heap.ExtBut it s.heap h' → (∃ o, h'.get? e = some o ∧ o.cls = .type "StopIteration") → E (.ref e) { s with heap := h' }) : wpAny (model prog w) A (Builtin.SmallTypes.nextOf (.ref it)) Q E s := by
  cases ha : x.cps.all (· < 128)
  · simp only [strIterType, ha, Bool.false_eq_true, if_false] at hit
    exact wpAny_nextOf_wide_end hh hit hx hE
  · simp only [strIterType, ha, if_true] at hit
    exact wpAny_nextOf_ascii_end hh hit hx hE
theorem turn_enS {P : Program} {W : World} {K : PySem.W.Frag} {es : List Expr} {kk : Nat} {tp : Pos} (x : Str) (t : Tok) (e d : Addr) :
    Turn P W K (.Tuple es kk tp) (ItEnS x) [e, d] e (fun i h => (∃ was, IsEnum h e d ((i : Nat) : Int) was) ∧ h.IsStrIter d (strIterType x) x t i ∧ e ≠ d) where
  mem := List.mem_cons_self
  obj := fun i h st b hb => by
    obtain ⟨⟨was, he⟩, ⟨o, ho, hc, hd⟩, _⟩ := st
    rcases two_of hb with rfl | rfl
    · exact ⟨_, he, fun _ q => nomatch q⟩
    · exact ⟨o, ho, fun _ q => by rw [hd] at q; cases q⟩
  keep := fun i h h2 st k => ⟨let ⟨was, he⟩ := st.1; ⟨was, k e (by simp) _ he⟩, strIter_at st.2.1 fun o q => k d (by simp) o q, st.2.2⟩
  item := by
    intro X hP hW hK hc i pins s σ H E I hf st hg
    subst hP hW hK
    obtain ⟨⟨was, he⟩, hit, hne⟩ := st
    have hi : i < x.cps.size := hg
    have le : e < s.heap.objs.size := Heap.lt_size he
    have ld : d < s.heap.objs.size := let ⟨_, q, _⟩ := hit; Heap.lt_size q
    have D := Draws.text (prog := X.prog) (w := X.w) (A := X.A.in1) (I.ok.hd hc) d x t
    refine wpAny_pyNext_enum_itemD (n := x.cps.size) (i := i) D he hit hi hne (fun m => ?_) fun y h2 tk hy ho hs2 hT hsz hk => ?_
    · exact hne (by simpa using m)
    obtain ⟨c, u, hcx, rfl⟩ := hy
    refine ⟨_, rfl, wpAny_letOwnedTupleGo_enum (s := { s with heap := h2, toks := tk + 1 }) ho fun h3 he3 sb => ?_⟩
    have hT3 : h3.get? s.heap.objs.size = some { cls := .type "tuple", data := .seq #[.int i tk, .str ⟨#[c]⟩ u] } := (sb.2 _ (Nat.ne_of_gt le)).trans hT
    have new : ObjOk X.prog X.w (upd H s.heap.objs.size (.tup [.int (i : Nat), .str ⟨#[c]⟩])) h3 s.heap.objs.size (.tup [.int (i : Nat), .str ⟨#[c]⟩]) :=
      ⟨by show 2 ≤ sizeLine; decide, [.int i tk, .str ⟨#[c]⟩ u], .cons ⟨_, rfl⟩ (.cons ⟨_, rfl⟩ .nil), ⟨_, hT3, rfl, _, rfl⟩⟩
    have J : Inv X pins σ (upd H s.heap.objs.size (.tup [.int (i : Nat), .str ⟨#[c]⟩])) { s with heap := h3, toks := tk + 1 } :=
      I.turnedNew (ch := [e, d]) (fun b o hb q => (sb.2 b fun z => hb (by simp [z])).trans (hk b o (fun z => hb (by simp [z])) (fun z => hb (by simp [z])) q)) hf (Nat.le_refl _) new
    refine ⟨.ref s.heap.objs.size, _, J, rfl, ⟨_, c, rfl, I.hok.fresh (Nat.le_refl _), rfl, hcx⟩, ⟨⟨.str ⟨#[c]⟩ u, ?_⟩, strIter_at hs2 fun o q => (sb.2 d (Ne.symm hne)).trans q, hne⟩, fun b hb => ?_⟩
    · have e1 : ((i + 1 : Nat) : Int) = (i : Int) + 1 := by omega
      rw [e1]
      exact he3
    · have lb : b < s.heap.objs.size := by
        rcases two_of hb with z | z
        · rw [z]; exact le
        · rw [z]; exact ld
      rw [upd_ne (Nat.ne_of_lt lb)]
      exact (hf b hb).1
  done := by
    intro X hP hW hK hc i pins s σ H E I hf st hg
    subst hP hW hK
    obtain ⟨⟨was, he⟩, hit, hne⟩ := st
    have hx : x.cps.size ≤ i := hg
    obtain ⟨f0, f1, f2, f3, f4, f5⟩ := hf d (by simp)
    unfold pyNext
    refine wpAny_bind (wpAny_attempt (wpAny_callSpecial?_slot (name := Str.ofString "__next__") ⟨_, he, rfl⟩ F.slot_enumerate_next
      (wpAny_call_entry F.slot_enumerate_next ⟨_, he, rfl⟩ F.entry_enumerate_next ?_ (F.args_enumerate_next_1 _))))
    show wpAny _ _ (field (.ref e) 2 >>= _) _ _ _
    refine wpAny_bind (wpAny_field he rfl (x := .ref d) rfl ?_)
    have none : x.cps[i]? = none := by simp [hx]
    refine wpAny_bind (text_end (I.ok.hd hc) hit none fun h2 ex eb hx2 => ?_)
    obtain ⟨o, ho, hcl⟩ := hx2
    refine wpAny_bind (wpAny_isInstance (T := "StopIteration") (b := true) ⟨o, ho, hcl⟩ isSubtype_stop ?_)
    exact wpAny_pure ⟨rfl, I.turned (t' := s.toks) (fun b o hb q => eb b o hb q) f0 f1 f3 f4 f5⟩
  self := fun A i s Q E st h => let ⟨⟨_, he⟩, _⟩ := st; wpAny_pyIter_enum he h
def iEnS (ta : TA) : TI := fun σ H R => ta σ H fun vs H1 => ∃ x, vs = [.str x] ∧ R (ItEnS x) H1
theorem pi_enS {X : Cx} {e : Expr} {ta : TA} {p pos tp : Pos} {es : List Expr} {kk : Nat} (hg : Gl X "enumerate") (hm : X.mg "enumerate" = none) (ha : PA X [e] ta) (hs : starEach [e] X.env = [(false, eval e X.env)] := by rfl) :
    PI X (.Tuple es kk tp) (.Call (.Name "enumerate" p) [e] [] pos) (iEnS ta) := by
  constructor
  intro pins s σ H R I h
  refine Call_ (ld_blt I hg hm boot_enumerate (PyProof.Rows.callWith_type1 (thn (ha.run pos pins s σ H _ I h) fun us s1 hh => ?_) hs rfl))
  obtain ⟨vs, H1, I1, r1, x, ex, q⟩ := hh
  subst ex
  cases r1 with
  | cons r rr =>
    cases rr
    obtain ⟨t, rfl⟩ := r
    refine enumT_call (begins_text x t) trivial fun h2 he hd hk => wpAny_pyIter_enum he ?_
    have I2 : Inv X pins σ H1 { s1 with heap := h2 } := I1.kept (t' := s1.toks) hk
    refine ⟨s1.heap.objs.size + 1, [s1.heap.objs.size + 1, s1.heap.objs.size], _, _, H1, rfl, I2, turn_enS x t (s1.heap.objs.size + 1) s1.heap.objs.size, ⟨⟨.none, he⟩, ⟨_, hd, rfl, rfl⟩, Nat.succ_ne_self _⟩, fun b hb => ?_, q⟩
    have ge : s1.heap.objs.size ≤ b := by
      rcases two_of hb with z | z
      · rw [z]; exact Nat.le_add_right _ _
      · rw [z]; exact Nat.le_refl _
    exact I1.fpOk ge (I1.hok.fresh ge)
theorem walk_enS {x : Str} : Walk (ItEnS x) x.cps.size (fun _ => True) (YPair (fun i => some (.int (i : Nat))) (fun i => (x.cps[i]?).map fun c => V.str ⟨#[c]⟩)) where
  goes := fun i _ hi _ => hi
  stops := fun _ _ => Nat.le_refl _
  yields := fun i H v H2 _ _ y => let ⟨p, c, h1, h2, h3, h4⟩ := y; ⟨p, .int (i : Nat), .str ⟨#[c]⟩, h1, h2, h3, rfl, by show Option.map _ _ = _; rw [h4]; rfl⟩
end L2
set_option Elab.async false
set_option maxRecDepth 100001
set_option maxHeartbeats 3999999
/-! raise C(), C an own class whose own __init__ stores nothing. -/
namespace L2
open PySem.Spec PySem PyProof.Rows
section
variable {X : Cx}
theorem mk_bare {pins : List (Addr × Obj)} {σ : St} {H1 H2 : Hp} {Q : XK} {hp hp2 h2 : Heap} {g1 g2 : Array GenState} {d1 d2 : Drawn} {t1 t2 : Nat} {o1 o2 : OsState} {a C : Addr} (T : Raises X (.ref C))
    (I1 : Inv X pins σ H1 ⟨hp, g1, d1, t1, o1⟩) (big : hp.objs.size ≤ a) (k : ∀ b o, hp.get? b = some o → hp2.get? b = some o) (un : Un (frs X.stack) [] (upd H1 a (exo a C none)) H2 hp2 h2)
    (hok : HOk X.prog X.w H2 h2) (ho : o2 = o1) (hb : AllBare g2) (ea : H2 a = some (exo a C none)) (q : Q (.ref C) none (del H2 a)) : MkP X pins σ Q (.ref a) ⟨h2, g2, d2, t2, o2⟩ := by
  obtain ⟨t0, he⟩ := exo_at hok ea
  have na : H1 a = none := I1.hok.fresh big
  obtain ⟨G, gyes, gno⟩ := restrict h2 fun b => decide (b ≠ a)
  have gk : ∀ b, b ≠ a → G.get? b = h2.get? b := fun b z => gyes b (decide_eq_true z)
  have ga : G.get? a = none := gno a (by simp)
  have ne : ∀ {b : Addr} {o : Obj}, hp.get? b = some o → b ≠ a := fun z => Nat.ne_of_lt (Nat.lt_of_lt_of_le (Heap.lt_size z) big)
  have free : ∀ {b : Addr}, b ≠ a → H1 b = none → upd H1 a (exo a C none) b = none := fun z n => (upd_ne z).trans n
  have U : Un (frs X.stack) [] H1 (del H2 a) hp G := {
    keep := fun b o z n hf hx => (gk b (ne z)).trans (un.keep b o (k b o z) (free (ne z) n) hf hx)
    slot := fun b o z n hf hx => let ⟨sl, e⟩ := un.slot b o (k b o z) (free (ne z) n) hf hx; ⟨sl, (gk b (ne z)).trans e⟩
    free := fun b o z n hx => (del_ne (ne z)).trans (un.free b o (k b o z) (free (ne z) n) hx)
    there := fun b o z hx => let ⟨o', e⟩ := un.there b o (k b o z) hx; ⟨o', (gk b (ne z)).trans e⟩
    tups := fun b xs z => (del_ne (ne_of_none z na)).trans (un.tups b xs ((upd_ne (ne_of_none z na)).trans z))
    frzs := fun b o v z => (del_ne (ne_of_none z na)).trans (un.frzs b o v ((upd_ne (ne_of_none z na)).trans z))
    tbls := fun b ps z => let ⟨m, e⟩ := un.tbls b ps ((upd_ne (ne_of_none z na)).trans z); ⟨m, (del_ne (ne_of_none z na)).trans e⟩ }
  have hG : HOk X.prog X.w (del H2 a) G := fun b o z => by
    have hba : b ≠ a := fun e => by
      rw [e, del_same] at z
      cases z
    rw [del_ne hba] at z
    have own : ∀ {c : Addr}, H2 c = some (.own b) → c ≠ a := fun hc => at_ne ea hc exo_own
    refine (hok b o z).stay (fun c v hc y => ?_) (fun c hc => (del_ne (own hc)).trans hc) fun c xs hc => (del_ne (at_ne ea hc exo_tup)).trans hc
    refine (gk c ?_).trans y
    rcases hc with rfl | hc
    · exact hba
    · exact own hc
  have J : Inv X pins σ (del H2 a) ⟨G, g2, d2, t2, o2⟩ := I1.call' (ch := []) ho U hG hb fun b z => absurd z (by simp)
  refine ⟨a, _, _, ⟨G, g2, d2, t2, o2⟩, _, .ref C, none, rfl, J, fun b o z => ?_, ga, he, ⟨rfl, rfl⟩, rfl, rfl, del_same, rfl, hb, T, q⟩
  have hba : b ≠ a := fun e => by
    rw [e] at z
    have z' : G.get? a = some o := z
    rw [ga] at z'
    cases z'
  exact (gk b hba).symm.trans z
/-- C(): what its __init__ keeps, at the fresh exception -/
def tMkO0 (C : Addr) (sp : Sp) : St → Hp → XK → Prop := fun _ H Q => ∀ a, H a = none → sp [.ref a] (upd H a (exo a C none)) (fun v H2 => v = .non ∧ H2 a = some (exo a C none) ∧ Q (.ref C) none (del H2 a)) (fun _ _ _ => False)
theorem pmk_oex0 {CX : CXT} {x : Str} {p pos : Pos} {C fI : Addr} {k : Nat} {fd : FuncData} {ps : List Str} {sp : Sp} (T : OexC X.K C) (iC : PySem.W.findIn X.K (.ref C) "__init__" = some (some (.ref fI))) (tI : PySem.W.typeIn X.K (.ref fI) = some (.type "function"))
    (F1 : FnOk X.prog X.w X.K X.mg X.base CX k fI fd ps sp) (hr : Room (k + 1) X.A) (hb : Binds X.K fd ps []) (hx : Passes CX X (fun _ _ _ => False)) (hg : Gl X x) (hm : X.mg x = some (.ref C)) (hdb : (x == ("__debug__" : Str)) = false := by decide) :
    PMk X (.Call (.Name x p) [] [] pos) (tMkO0 C sp) := by
  intro pins s σ H Q I h
  obtain ⟨nm, qn, N, bs, bm, sn, sb, ab, col, dd, j0, j1, j2, j3, j5, hC, hbm⟩ := T.cls
  refine wpAny_Call_Name_kw (ld_glob I hg hm ?_ hdb)
  refine PySem.W.callWith_K0 I.kIn T.kC ?_
  show wpAny _ _ (call (.ref C) []) _ _ _
  obtain ⟨hp, g, dr, tk, os⟩ := s
  have big : hp.objs.size ≤ hp.objs.size + 1 := Nat.le_succ _
  have hn : H (hp.objs.size + 1) = none := I.hok.fresh big
  have hq := h (hp.objs.size + 1) hn
  have kk : ∀ b o, hp.get? b = some o → ((hp.push (PySem.W.kdv_tup [])).push (PySem.HandSPX.excO C hp.objs.size)).get? b = some o := fun b o e => Heap.get?_push_of_some _ (Heap.get?_push_of_some _ e)
  have hget : ((hp.push (PySem.W.kdv_tup [])).push (PySem.HandSPX.excO C hp.objs.size)).get? (hp.objs.size + 1) = some (PySem.HandSPX.excO C hp.objs.size) := by heap_get
  have I2 : Inv X pins σ (upd H (hp.objs.size + 1) (exo (hp.objs.size + 1) C none)) ⟨(hp.push (PySem.W.kdv_tup [])).push (PySem.HandSPX.excO C hp.objs.size), g, dr, tk, os⟩ := I.laid (t' := tk) kk big (exo_ok hget)
  have r2 : Vals [V.ref (hp.objs.size + 1)] [Value.ref (hp.objs.size + 1)] := .cons rfl .nil
  have hl : ([Value.ref (hp.objs.size + 1)] ++ ([] : List Value)).length = ps.length := (F1.len _ _ _ _ hq)
  refine wpAny_call (PySem.HandSPX.call_own F.excBase_ValueError (fun Y => PySem.HandSPX.refsVE_contains Y bm hbm) (I.kIn _ _ hC) (PySem.W.looks_findIn I.kIn iC) (fun self => PySem.W.bind_fn I.kIn self tI) (by show 0 ≤ sizeLine; exact Nat.zero_le _)
    (codeAny_mono (F1.run _ X.stack _ _ ⟨[Value.ref (hp.objs.size + 1)], []⟩ [Value.ref (hp.objs.size + 1)] _ _ (fun _ _ _ => False) (hr.make C [] []) (I2.env0.make C [] []) (hb _ [Value.ref (hp.objs.size + 1)] I2.kIn hl) r2 hq) fun r s2 hq2 => ?_))
  cases r with
  | error er => exact hx pins σ _ _ er s2 I2 hq2
  | ok fl =>
    cases fl with
    | ret u =>
      obtain ⟨v, H2, os2, bare2, un2, hok2, rv, ev, ea, q2⟩ := hq2
      subst ev
      obtain ⟨h2, g2, d2, t2, o2⟩ := s2
      exact ⟨rv, mk_bare (raises_own T.exC T.tyC) I big kk un2 hok2 os2 bare2 ea q2⟩
    | next => exact hq2.elim
    | brk => exact hq2.elim
    | cont => exact hq2.elim
end
end L2
set_option Elab.async false
set_option maxRecDepth 100001
set_option maxHeartbeats 3999999
/-! try with several clauses, some of which name the exception. -/
namespace L2
open PySem.Spec PySem PyProof.Rows
/-- a clause: its class, the slot of its name, its suite's reading -/
abbrev Clause := Value × Option Nat × (Addr → Value → Option Addr → TS)
def endsOf : Option Nat → Ends → Ends
  | none, D => D
  | some i, D => ⟨fun σ H => D.nx (σ.set i none) H, D.rt, fun σ H => D.bk (σ.set i none) H, fun σ H => D.ct (σ.set i none) H⟩
def slotOf : Option Nat → Addr → St → St
  | none, _, σ => σ
  | some i, a, σ => σ.set i (some (.ref a))
def wClauses (K : PySem.W.Frag) (Wout : WX) (D : Ends) : List Clause → WX
  | [], cls, d, σ, H => Wout cls d σ H
  | (c, i, ts) :: r, cls, d, σ, H => ∃ b, PySem.W.exmOne K cls c = some b ∧ (b = true → ∀ a, H a = none → ts a cls d (endsOf i D) (slotOf i a σ) H) ∧ (b = false → wClauses K Wout D r cls d σ H)
def SuiteOk (X : Cx) (sts : List Stmt) (ts : Addr → Value → Option Addr → TS) : Prop :=
  ∀ (a : Addr) (oe : Obj) (cls : Value) (d : Option Addr) (pn : List (Addr × Obj)), Zc cls d oe → (∃ vs, oe.data = .fields vs) → PSs (X.suite a ((a, oe) :: pn)) sts (ts a cls d)
inductive ClausesOk (X : Cx) : List ExceptHandler → List Clause → Prop
  | nil : ClausesOk X [] []
  | plain {x c ts b₀ su np p2 hds l} (hc : Names X x c) (ok : SuiteOk X (b₀ :: su) ts) (r : ClausesOk X hds l) : ClausesOk X (.ExceptHandler (some (.Name x np)) none (b₀ :: su) p2 :: hds) ((c, none, ts) :: l)
  | named {x c ts b₀ su np p2 hds l n i} (hc : Names X x c) (hi : X.N[i]? = some n) (hn : X.env.kindOf n = some .local) (ok : SuiteOk X (b₀ :: su) ts) (r : ClausesOk X hds l) :
      ClausesOk X (.ExceptHandler (some (.Name x np)) (some n) (b₀ :: su) p2 :: hds) ((c, some i, ts) :: l)
section
variable {X : Cx} {pins : List (Addr × Obj)} {σ : St} {H : Hp} {z sI : Shared} {a : Addr} {cls : Value} {d : Option Addr} {B h : Heap} {D : Ends}
/-- an exception that has come to its try: what is known there -/
structure Come (X : Cx) (pins : List (Addr × Obj)) (σ : St) (H : Hp) (sI z : Shared) (a : Addr) (cls : Value) (d : Option Addr) (B h : Heap) : Prop where
  hs : X.stack = X.env :: X.outer
  hf : X.env.frame = some X.env.locals
  J : Inv X pins σ H sI
  nb : ∀ b o, sI.heap.get? b = some o → b ∉ frs X.stack → B.get? b = some o
  fl : HandSPX.FlyingZ B (X.env :: X.outer) a (Zc cls d) h
  up : sI.heap.UpToSlots h
  na : H a = none
  os : z.os = sI.os
  ag : AllBare z.gens
theorem Come.inv (C : Come X pins σ H sI z a cls d B h) : Inv X pins σ H { z with heap := h } := C.J.landed C.nb C.fl.1 C.up C.os C.ag
theorem Come.apart (C : Come X pins σ H sI z a cls d B h) : a ≠ X.env.locals ∧ a ∉ X.fs := by
  obtain ⟨oe, vs, he, _, hd⟩ := C.fl.there
  have no : a ∉ frs (X.env :: X.outer) := fun m => by
    obtain ⟨_, o, e, q⟩ := C.fl.2.2.1.mem m
    rw [he] at e
    cases e
    exact q _ hd
  refine ⟨fun e => no (List.mem_filterMap.mpr ⟨X.env, List.mem_cons_self, by rw [C.hf, e]⟩), fun m => ?_⟩
  obtain ⟨e, he, q⟩ := List.mem_filterMap.mp m
  exact no (List.mem_filterMap.mpr ⟨e, List.mem_cons_of_mem _ he, q⟩)
theorem Come.suite (C : Come X pins σ H sI z a cls d B h) : ∃ oe, Zc cls d oe ∧ (∃ vs, oe.data = .fields vs) ∧ h.get? a = some oe ∧ Inv (X.suite a ((a, oe) :: (X.pn ++ pins))) [] σ H { z with heap := h } := by
  obtain ⟨oe, vs, he, hz, hd⟩ := C.fl.there
  exact ⟨oe, hz, ⟨vs, hd⟩, he, C.inv.suite he hd C.na C.apart.1 C.apart.2⟩
theorem Come.step (C : Come X pins σ H sI z a cls d B h) {h2 : Heap} (fl : HandSPX.FlyingZ B (X.env :: X.outer) a (Zc cls d) h2) (up : h.UpToSlots h2) : Come X pins σ H sI z a cls d B h2 :=
  ⟨C.hs, C.hf, C.J, C.nb, fl, C.up.trans up, C.na, C.os, C.ag⟩
/-- the class of a clause is looked at -/
theorem Come.test (C : Come X pins σ H sI z a cls d B h) {x : Str} {c : Value} {np : Pos} {b : Bool} (hc : Names X x c) (hb : PySem.W.exmOne X.K cls c = some b) {Q : Bool → Shared → Prop} {E E2 : Value → Shared → Prop} (q : Q b { z with heap := h }) :
    wpAny (model X.prog X.w) (X.A.mark (some (.ref a))) (eval (.Name x np) X.env) (fun u s1 => wpAny (model X.prog X.w) (X.A.mark (some (.ref a))) (excMatches (.ref a) u) Q E2 s1) E { z with heap := h } := by
  obtain ⟨oe, hz, _, he, S⟩ := C.suite
  have LT : PySem.W.Looks (model X.prog X.w) h (typeOf (.ref a)) cls := fun _ _ _ _ k q2 => wpAny_typeOf_ref (k _ _ he) (by rw [hz.1]; exact q2)
  have LM := (PySem.W.exm_one (M := model X.prog X.w) C.inv.kIn LT hb).here (A := X.A.mark (some (.ref a))) (Q := Q) (E := E2) (s := { z with heap := h }) q
  obtain ⟨hg, hdb, hm | ⟨hm, hv, hnn⟩⟩ := hc
  · exact ld_glob (X := X.suite a ((a, oe) :: (X.pn ++ pins))) S hg hm LM hdb
  · exact ld_blt (X := X.suite a ((a, oe) :: (X.pn ++ pins))) S hg hm hv LM hnn hdb
/-- no clause is left: it goes on -/
theorem Come.on {Wout : WX} (C : Come X pins σ H sI z a cls d B h) (tk : Takes X Wout) (wo : Wout cls d σ H) :
    wpAny (model X.prog X.w) X.A (handleBy (.ref a) X.env []) (SP X pins D) X.xe { z with heap := h } := by
  refine wpAny_handleBy_nil ?_
  obtain ⟨_, _, _, oe, vs, T, oT, ts, he, _, hd, h1, _⟩ := id C.fl
  unfold PySem.passOn
  refine wpAny_bind (wpAny_field he hd h1 ?_)
  rw [if_neg (show ¬ ((Value.ref T == Value.none) = true) from by simp)]
  have fin : wpAny (model X.prog X.w) X.A (setFlight (.ref a) X.env.frame) (fun _ s4 => wpAny (model X.prog X.w) X.A (throw (.ref a) : Sem Flow) (SP X pins D) X.xe s4) X.xe { z with heap := h } := by
    rw [C.hf]
    refine HandSPX.setFlight_upZ C.fl fun h4 hh4 up4 => wpAny_throw (tk _ _ ?_)
    exact ⟨a, B, sI, pins, σ, H, cls, d, rfl, C.J, C.nb, C.up.trans up4, .inr (.inr (by rw [C.hs]; exact hh4)), C.na, C.os, C.ag, wo⟩
  first | exact wpAny_bind (wpAny_pure (wpAny_bind fin)) | exact wpAny_bind fin
theorem Come.run {Wout : WX} {hds : List ExceptHandler} {l : List Clause} (hN : X.N.Nodup) (tk : Takes X Wout) (ok : ClausesOk X hds l) : ∀ {h : Heap}, Come X pins σ H sI z a cls d B h → wClauses X.K Wout D l cls d σ H →
    wpAny (model X.prog X.w) X.A (handleBy (.ref a) X.env hds) (SP X pins D) X.xe { z with heap := h } := by
  induction ok with
  | nil => exact fun C w => C.on tk w
  | plain hc su r ih =>
    intro h C w
    obtain ⟨b, hb, yes, no⟩ := w
    refine wpAny_handleBy_cons (codeAny_handlers_test (C.test hc hb ?_)) (by intro q; cases q)
    cases b with
    | false => exact ih C (no rfl)
    | true =>
      refine codeAny_handlers_suite ?_
      refine HandSPX.lands_againZ C.fl fun h4 fl4 up4 => ?_
      have C4 := C.step fl4 up4
      obtain ⟨oe, hz, hd, he, S⟩ := C4.suite
      refine wpAny_mono ((su a oe cls d (X.pn ++ pins) hz hd).run [] _ _ H _ S (yes rfl a C.na)) (fun f s6 hsp => ?_) (fun _ _ q => False.elim q)
      cases f with
      | next => exact let ⟨_, _, S6, q6⟩ := hsp; ⟨_, _, S6.unsuite C.J.ok, q6⟩
      | brk => exact let ⟨_, _, S6, q6⟩ := hsp; ⟨_, _, S6.unsuite C.J.ok, q6⟩
      | cont => exact let ⟨_, _, S6, q6⟩ := hsp; ⟨_, _, S6.unsuite C.J.ok, q6⟩
      | ret u => exact let ⟨_, _, _, S6, r6, q6⟩ := hsp; ⟨_, _, _, S6.unsuite C.J.ok, r6, q6⟩
  | @named x c ts b₀ suite np p2 hds l n i hc hi hn su r ih =>
    intro h C w
    obtain ⟨b, hb, yes, no⟩ := w
    refine wpAny_handleBy_cons (codeAny_handlers_test (C.test hc hb ?_)) (by intro q; cases q)
    cases b with
    | false => exact ih C (no rfl)
    | true =>
      refine codeAny_handlers_suite_as ?_
      refine HandSPX.lands_againZ C.fl fun h4 fl4 up4 => ?_
      have C4 := C.step fl4 up4
      obtain ⟨oe, hz, hd, he, S⟩ := C4.suite
      refine store_ok (X := X.suite a ((a, oe) :: (X.pn ++ pins))) (v := .ref a) S hN hi (.inl hn) rfl (fun s5 S5 => ?_) (.inr hn)
      refine wpAny_mono ((su a oe cls d (X.pn ++ pins) hz hd).run [] s5 _ H _ S5 (yes rfl a C.na)) (fun f s6 hsp => ?_) (fun _ _ q => False.elim q)
      have away : ∀ {σ6 : St} {H6 : Hp} {Q : Shared → Prop}, Inv (X.suite a ((a, oe) :: (X.pn ++ pins))) [] σ6 H6 s6 → (∀ s7, Inv X pins (σ6.set i none) H6 s7 → Q s7) →
          wpAny (model X.prog X.w) X.A (do bindName X.env n .none; unbindBehindTheSuite X.env n p2) (fun _ s7 => Q s7) X.xe s6 := fun S6 hq => gone_ok (S6.unsuite C.J.ok) hN hi hn hq
      cases f with
      | next => exact let ⟨_, _, S6, q6⟩ := hsp; away S6 fun s7 J7 => ⟨_, _, J7, q6⟩
      | brk => exact let ⟨_, _, S6, q6⟩ := hsp; away S6 fun s7 J7 => ⟨_, _, J7, q6⟩
      | cont => exact let ⟨_, _, S6, q6⟩ := hsp; away S6 fun s7 J7 => ⟨_, _, J7, q6⟩
      | ret u => exact let ⟨_, _, _, S6, r6, q6⟩ := hsp; away S6 fun s7 J7 => ⟨_, _, _, J7, r6, q6⟩
end
/-- try: body / except C1 as n: .. / except C2: .. -/
theorem ps_try_clauses {X : Cx} {body : List Stmt} {hd₀ : ExceptHandler} {hds : List ExceptHandler} {l : List Clause} {pos : Pos} {tb : WX → TS} {Wout : WX} (hs : X.stack = X.env :: X.outer) (hf : X.env.frame = some X.env.locals) (hN : X.N.Nodup) (tk : Takes X Wout)
    (hb : ∀ (W : WX) (pn : List (Addr × Obj)) (xe : Value → Shared → Prop), Takes (X.tr pn xe) W → PassesOwn (model X.prog X.w) X.A X.env xe → PSs (X.tr pn xe) body (tb W)) (ok : ClausesOk X (hd₀ :: hds) l) :
    PS X (.Try body (hd₀ :: hds) [] [] pos) (fun D σ H => tb (wClauses X.K Wout D l) D σ H) := by
  constructor
  intro pins s σ H D I h
  have oX := I.ok
  have fr : X.A.frames = some (X.env :: X.outer) := by rw [oX.frames, hs]
  refine wpAny_Try_except ?_
  refine wpAny_mono ((hb (wClauses X.K Wout D l) (X.pn ++ pins) (fun e s₁ => wpAny (model X.prog X.w) X.A (noteFrame e X.env) (fun _ s₂ => wpAny (model X.prog X.w) X.A (setFlight e none) (fun _ s₃ =>
    wpAny (model X.prog X.w) X.A (handleBy e X.env (hd₀ :: hds)) (SP X pins D) X.xe s₃) X.xe s₂) X.xe s₁) (fun u s1 xx => ?_) PassesOwn.looking).run [] s σ H D (I.toTry _) h) (fun f s1 hsp => ?_) fun _ _ he => he
  · obtain ⟨a, B, sI, pins', σ', H', cls, d, rfl, J', nb, up, sky, na, os, ag, w⟩ := xx
    have sky' : Sky B (X.env :: X.outer) a (Zc cls d) X.env.locals s1.heap := by rw [← hs]; exact sky
    show wpAny (model X.prog X.w) X.A (noteFrame (.ref a) X.env) _ _ _
    refine Sky.land Zc.steady fr hf sky' fun h3 fl3 up3 => ?_
    exact Come.run (z := s1) hN tk ok ⟨hs, hf, J'.ofTry oX, nb, fl3, up.trans up3, na, os, ag⟩ w
  · cases f with
    | next => exact let ⟨σ', H', J', q⟩ := hsp; wpAny_execs_nil ⟨σ', H', J'.ofTry oX, q⟩
    | brk => exact let ⟨σ', H', J', q⟩ := hsp; ⟨σ', H', J'.ofTry oX, q⟩
    | cont => exact let ⟨σ', H', J', q⟩ := hsp; ⟨σ', H', J'.ofTry oX, q⟩
    | ret u => exact let ⟨v, σ', H', J', r, q⟩ := hsp; ⟨v, σ', H', J'.ofTry oX, r, q⟩
end L2
set_option Elab.async false
set_option linter.all false
set_option maxRecDepth 100001
set_option maxHeartbeats 3999999
/-! sorted(xs, key=lambda x: ..): any order of the keys that the sort can tell. -/
namespace SrtL
open PySem PyProof.Rows Srt SrtO
theorem zip_list (ks vs : List Value) : (ks.toArray.zip vs.toArray).toList = ks.zip vs := by
  rw [ksk_zip]
section
variable {prog : Program} {w : World} {A : Around} {E : Value → Shared → Prop} {s : Shared} {a kS : Addr} {e1 ek : Nat} {vs ks : List Value} {ltv : Value → Value → Bool} {R : PySem.Fin → Shared → Prop}
/-- what is left when the list is sorted -/
def doneHeap (h : Heap) (kS a : Addr) (out : Array Value) : Heap := (h.update kS (Obj.mapSeq fun _ => (#[] : Array Value))).update a (Obj.mapSeq fun _ => out)
theorem tail_ord {st : SortSt} (hk : s.heap.get? kS = some (seqObj "list" ks.toArray ek)) (ha : s.heap.get? a = some (seqObj "list" #[] e1)) (ne : kS ≠ a) (hz : vs.length ≤ sizeLine) (hl : ks.length = vs.length) (hsz : (arrOf st).size = vs.length) (hfl : failedOf st = none)
    (h : R (.done (.ret .none)) { s with heap := doneHeap s.heap kS a ((arrOf st).map (·.2)) }) : wpAny (model prog w) A (ksk_tail a false e1 (.ref kS) st) R E s := by
  have s1 := Heap.SameBut.update s.heap kS (Obj.mapSeq fun _ => (#[] : Array Value))
  have na1 : (s.heap.update kS (Obj.mapSeq fun _ => (#[] : Array Value))).get? a = some (seqObj "list" #[] e1) := (s1.2 a ne.symm).trans ha
  unfold ksk_tail
  try dsimp only
  refine wpAny_bind (listUpdate_at hk rfl ?_ (by rw [List.size_toArray]; omega) (Nat.zero_le _))
  refine wpAny_bind (wpAny_letGo ?_)
  refine wpAny_bind (seqEpoch_at na1 rfl ?_)
  refine wpAny_bind (listUpdate_at na1 rfl ?_ (Nat.zero_le _) (by simp only [Bool.false_eq_true, if_false, Array.size_map]; omega))
  rw [hfl]
  simp only [bne_self_eq_false, Bool.false_eq_true, if_false]
  exact wpAny_pure h
theorem end_ord (O : Swo ltv) (hk : s.heap.get? kS = some (seqObj "list" ks.toArray ek)) (ha : s.heap.get? a = some (seqObj "list" #[] e1)) (ne : kS ≠ a) (hz : vs.length ≤ sizeLine) (hl : ks.length = vs.length)
    (hS : 2 ≤ vs.length → ∃ κ, (∀ (Q : SortKind → Shared → Prop) (E : Value → Shared → Prop), Q κ s → wpAny (model prog w) A (keyKind' ks.toArray) Q E s) ∧ Cmp prog w A s κ (fun p => p.1 ∈ ks) (lt2 ltv))
    (h : ∀ ps : List Keyed, Srtd (lt2 ltv) ps → Stb (lt2 ltv) ps (ks.zip vs) → R (.done (.ret .none)) { s with heap := doneHeap s.heap kS a (ps.map (·.2)).toArray }) :
    wpAny (model prog w) A (ksk_end a false vs.toArray e1 (.ref kS) ks.toArray) R E s := by
  have hzs : (ks.toArray.zip vs.toArray).size = vs.length := by rw [Array.size_zip, List.size_toArray, List.size_toArray, hl, Nat.min_self]
  have fin : ∀ st : SortSt, Srtd (lt2 ltv) (arrOf st).toList → Stb (lt2 ltv) (arrOf st).toList (ks.toArray.zip vs.toArray).toList → R (.done (.ret .none)) { s with heap := doneHeap s.heap kS a ((arrOf st).map (·.2)) } := by
    intro st h1 h2
    rw [zip_list] at h2
    have h3 := h _ h1 h2
    have e : ((arrOf st).toList.map (·.2)).toArray = (arrOf st).map (·.2) := by
      rw [← Array.toList_map, Array.toArray_toList]
    rw [e] at h3
    exact h3
  have size : ∀ st : SortSt, Stb (lt2 ltv) (arrOf st).toList (ks.toArray.zip vs.toArray).toList → (arrOf st).size = vs.length := by
    intro st h2
    have := h2.perm.length_eq
    rw [Array.length_toList, Array.length_toList, hzs] at this
    exact this
  unfold ksk_end
  try dsimp only
  simp only [Bool.false_eq_true, if_false]
  by_cases h2 : vs.toArray.size < 2
  · rw [if_pos h2, if_pos h2]
    refine wpAny_bind (wpAny_pure ?_)
    rw [StateT.run_pure]
    refine wpAny_bind (wpAny_pure ?_)
    try dsimp only
    rw [List.size_toArray] at h2
    refine tail_ord (st := SortSt.mk' general' (ks.toArray.zip vs.toArray) #[] 7 none) hk ha ne hz hl hzs rfl (fin (SortSt.mk' general' (ks.toArray.zip vs.toArray) #[] 7 none) ?_ (Stb.refl _))
    show Srtd (lt2 ltv) (ks.toArray.zip vs.toArray).toList
    have hlz : (ks.toArray.zip vs.toArray).toList.length < 2 := by rw [Array.length_toList, hzs]; exact h2
    revert hlz
    generalize (ks.toArray.zip vs.toArray).toList = l
    intro hlz
    match l, hlz with
    | [], _ => exact List.Pairwise.nil
    | [v], _ => exact List.pairwise_singleton _ _
    | _ :: _ :: l, h => exact absurd h (by rw [List.length_cons, List.length_cons]; omega)
  · rw [if_neg h2, if_neg h2]
    rw [List.size_toArray] at h2
    obtain ⟨κ, hkind, hT⟩ := hS (by omega)
    refine wpAny_bind (hkind _ _ ?_)
    have hall : AllL (fun p : Keyed => p.1 ∈ ks) (ks.toArray.zip vs.toArray).toList := fun p hm => by
      rw [zip_list] at hm
      obtain ⟨x, y⟩ := p
      exact (List.of_mem_zip hm).1
    refine wpAny_bind (wpAny_mono (wpS_sortO (st0 := SortSt.mk' κ (ks.toArray.zip vs.toArray) #[] 7 none)
      (Q := fun _ st' => Srtd (lt2 ltv) (arrOf st').toList ∧ Stb (lt2 ltv) (arrOf st').toList (ks.toArray.zip vs.toArray).toList ∧ failedOf st' = none) (swo2 O) hT rfl hall rfl rfl fun st' a1 a2 a3 => ⟨a1, a2, a3⟩) ?_ fun _ _ e => e)
    rintro ⟨⟨⟩, st'⟩ s' ⟨rfl, hp1, hp2, hf⟩
    try dsimp only
    exact tail_ord hk ha ne hz hl (size st' hp2) hf (fin st' hp1 hp2)
/-- what is asked of the keys' making: J of the keys so far -/
structure Keys (prog : Program) (w : World) (A : Around) (f : Value) (vs : List Value) (ltv : Value → Value → Bool) (R : PySem.Fin → Shared → Prop) (a kS : Addr) (e1 : Nat) (J : List Value → Shared → Prop) : Prop where
  obj : ∀ ks s, J ks s → (∃ ek, s.heap.get? kS = some (seqObj "list" ks.toArray ek)) ∧ s.heap.get? a = some (seqObj "list" #[] e1)
  turn : ∀ (ks : List Value) (v : Value) (s : Shared), J ks s → vs[ks.length]? = some v → wpAny (model prog w) A (call f [v]) (fun k s' => (∃ ek, s'.heap.get? kS = some (seqObj "list" ks.toArray ek)) ∧ J (ks ++ [k]) { s' with heap := s'.heap.update kS (Obj.mapSeq (·.push k)) }) (fun _ _ => False) s
  kind : ∀ ks s, J ks s → ks.length = vs.length → 2 ≤ vs.length → ∃ κ, (∀ (Q : SortKind → Shared → Prop) (E : Value → Shared → Prop), Q κ s → wpAny (model prog w) A (keyKind' ks.toArray) Q E s) ∧ Cmp prog w A s κ (fun p => p.1 ∈ ks) (lt2 ltv)
  fin : ∀ ks s, J ks s → ks.length = vs.length → ∀ ps : List Keyed, Srtd (lt2 ltv) ps → Stb (lt2 ltv) ps (ks.zip vs) → R (.done (.ret .none)) { s with heap := doneHeap s.heap kS a (ps.map (·.2)).toArray }
theorem rest_ord {f : Value} {J : List Value → Shared → Prop} (O : Swo ltv) (ne : kS ≠ a) (hz : vs.length ≤ sizeLine) (h0 : J [] s) (Y : Keys prog w A f vs ltv R a kS e1 J) : wpAny (model prog w) A (ksk_rest a f false vs.toArray e1 (.ref kS)) R E s := by
  unfold ksk_rest
  refine wpAny_bind (wpAny_rule ?_)
  first
    | rw [List.forIn_toArray]
    | (rw [← Array.forIn_toList]; simp only [List.toList_toArray])
    | rw [← Array.forIn_toList]
  refine wpAny_bind (ksk_fold (fun i s' => ∃ ks, J ks s' ∧ ks.length = i) vs 0 s ⟨[], h0, rfl⟩ ?step ?done)
  case step =>
    rintro j x s' hx ⟨ks, hJ, lk⟩
    simp only [Nat.zero_add] at lk ⊢
    have hj : j < vs.length := (List.getElem?_eq_some_iff.mp hx).1
    refine wpAny_bind (wpAny_attempt (wpAny_mono (Y.turn ks x s' hJ (by rw [lk]; exact hx)) (fun k s'' he => ?_) fun _ _ hF => hF.elim))
    obtain ⟨⟨ek, hk⟩, hJ2⟩ := he
    try dsimp only
    refine wpAny_bind (listUpdate_at hk rfl ?_ (by rw [List.size_toArray]; omega) (Nat.le_trans (Nat.le_of_eq (Array.size_push ..)) (by rw [List.size_toArray]; omega)))
    exact wpAny_pure ⟨rfl, _, hJ2, by rw [List.length_append, lk]; rfl⟩
  case done =>
    rintro s' ⟨ks, hJ, lk⟩
    rw [Nat.zero_add] at lk
    obtain ⟨⟨ek, hk⟩, ha⟩ := Y.obj ks s' hJ
    try dsimp only
    refine wpAny_bind (listItems_at hk rfl ?_)
    exact end_ord O hk ha ne hz lk (Y.kind ks s' hJ lk) (Y.fin ks s' hJ lk)
theorem tree_ord {f : Value} {n : Nat} (O : Swo ltv) (ho : s.heap.get? a = some (seqObj "list" vs.toArray n)) (hz : vs.length ≤ sizeLine)
    (h : ∀ (h1 : Heap) (kS : Addr) (e1 : Nat), (∀ b o, b ≠ a → s.heap.get? b = some o → h1.get? b = some o) → h1.get? a = some (seqObj "list" #[] e1) → h1.get? kS = some (seqObj "list" #[] 0) → s.heap.objs.size ≤ kS →
      ∃ J, J [] { s with heap := h1 } ∧ Keys prog w A f vs ltv R a kS e1 J) : wpAny (model prog w) A (ksk_tree a f false) R E s := by
  have ha : a < s.heap.objs.size := Heap.lt_size ho
  have s1 := Heap.SameBut.update s.heap a (Obj.mapSeq fun _ => (#[] : Array Value))
  obtain ⟨e1, ho1⟩ : ∃ e1, (s.heap.update a (Obj.mapSeq fun _ => (#[] : Array Value))).get? a = some (seqObj "list" #[] e1) := ⟨_, get?_update_seq ho fun _ => #[]⟩
  have hkS : ((s.heap.update a (Obj.mapSeq fun _ => (#[] : Array Value))).push (seqObj "tuple" vs.toArray 0)).objs.size = s.heap.objs.size + 1 := by rw [size_push', Heap.size_update]
  unfold ksk_tree
  refine wpAny_bind (listItems_at ho rfl ?_)
  refine wpAny_bind (listUpdate_at ho rfl ?_ (by rw [List.size_toArray]; omega) (Nat.zero_le _))
  refine wpAny_bind (seqEpoch_at ho1 rfl ?_)
  refine wpAny_bind (wpAny_newTuple ?_ (by show vs.length ≤ _; exact hz))
  refine wpAny_bind (wpAny_newList ?_ (Nat.zero_le _))
  refine wpAny_holding ?_
  obtain ⟨J, j0, Y⟩ := h (((s.heap.update a (Obj.mapSeq fun _ => (#[] : Array Value))).push (seqObj "tuple" vs.toArray 0)).push (seqObj "list" #[] 0)) ((s.heap.update a (Obj.mapSeq fun _ => (#[] : Array Value))).push (seqObj "tuple" vs.toArray 0)).objs.size e1
    (fun b o hb e => Heap.get?_push_of_some _ (Heap.get?_push_of_some _ ((Heap.get?_update_ne _ _ _ _ hb).trans e))) (Heap.get?_push_of_some _ (Heap.get?_push_of_some _ ho1)) (Heap.get?_push_size _ rfl) (by rw [hkS]; exact Nat.le_succ _)
  exact rest_ord (s := { s with heap := ((s.heap.update a (Obj.mapSeq fun _ => (#[] : Array Value))).push (seqObj "tuple" vs.toArray 0)).push (seqObj "list" #[] 0) }) O (by rw [hkS]; exact Nat.ne_of_gt (Nat.lt_succ_of_lt ha)) hz j0 Y
/-- sorted(l, key=q) -/
theorem sorted_ord {l q : Addr} {Q : Value → Shared → Prop} (O : Swo ltv) (hl : s.heap.IsList l vs.toArray) (hz : vs.length ≤ sizeLine)
    (h : ∀ (h1 : Heap) (d kS : Addr) (e1 : Nat), (∀ b o, s.heap.get? b = some o → h1.get? b = some o) → h1.get? d = some (seqObj "list" #[] e1) → h1.get? kS = some (seqObj "list" #[] 0) → s.heap.objs.size ≤ d → s.heap.objs.size ≤ kS → kS ≠ d →
      ∃ J, J [] { s with heap := h1 } ∧ Keys prog w A.in1.in1 (.ref q) vs ltv (fun r s' => r = .done (.ret .none) ∧ Q (.ref d) s') d kS e1 J) :
    wpAny (model prog w) A (call (.builtin "sorted") [.ref l] [(Str.ofString "key", .ref q)]) Q E s := by
  refine call_function_entry_kw kind_sorted plain_sorted entry_sorted (ksk_s1 _ _) ?_
  unfold Builtin.«sorted»
  refine wpAny_bind (m := checkCount "sorted" 1 1 _) (wpAny_pure ?_)
  refine wpAny_bind (collect_list hl ?_ hz)
  refine wpAny_bind (wpAny_newList ?_ hz)
  have hsz : ((s.heap.push (seqObj "list" #[] 0)).update s.heap.objs.size (Obj.mapSeq (· ++ vs.toArray))).objs.size = s.heap.objs.size + 1 := by
    rw [Heap.size_update, size_push']
  have hoL : (((s.heap.push (seqObj "list" #[] 0)).update s.heap.objs.size (Obj.mapSeq (· ++ vs.toArray))).push (seqObj "list" vs.toArray 0)).get? (s.heap.objs.size + 1) = some (seqObj "list" vs.toArray 0) := by
    rw [← hsz]; exact Heap.get?_push_size _ rfl
  have keep : ∀ b o, s.heap.get? b = some o → b ≠ s.heap.objs.size + 1 ∧ (((s.heap.push (seqObj "list" #[] 0)).update s.heap.objs.size (Obj.mapSeq (· ++ vs.toArray))).push (seqObj "list" vs.toArray 0)).get? b = some o := fun b o q => by
    have hlt : b < s.heap.objs.size := Heap.lt_size q
    refine ⟨Nat.ne_of_lt (Nat.lt_succ_of_lt hlt), Heap.get?_push_of_some _ ?_⟩
    rw [Heap.get?_update_ne _ _ _ _ (Nat.ne_of_lt hlt)]
    exact Heap.get?_push_of_some _ q
  have size2 : (((s.heap.push (seqObj "list" #[] 0)).update s.heap.objs.size (Obj.mapSeq (· ++ vs.toArray))).push (seqObj "list" vs.toArray 0)).objs.size = s.heap.objs.size + 2 := by rw [size_push', hsz]
  show wpAny _ _ _ _ _ { s with heap := ((s.heap.push (seqObj "list" #[] 0)).update s.heap.objs.size (Obj.mapSeq (· ++ vs.toArray))).push (seqObj "list" vs.toArray 0) }
  rw [hsz]
  refine wpAny_bind (wpAny_holding (wpAny_call_entry_kw slot_list_sort ⟨_, hoL, rfl⟩ entry_list_sort ?_ (ksk_l1 _ _)))
  rw [ksk_t1]
  refine tree_ord O hoL hz fun h1 kS e1 hk ha hkS hge => ?_
  dsimp only at hge hk
  rw [size2] at hge
  obtain ⟨J, j0, Y⟩ := h h1 (s.heap.objs.size + 1) kS e1 (fun b o q => hk b o (keep b o q).1 (keep b o q).2) ha hkS (Nat.le_succ _) (Nat.le_trans (Nat.le_add_right _ 2) hge) (Nat.ne_of_gt (Nat.lt_of_lt_of_le (Nat.lt_succ_self _) hge))
  refine ⟨J, j0, ⟨Y.obj, Y.turn, Y.kind, fun ks s' hJ hl ps h1 h2 => ?_⟩⟩
  obtain ⟨_, z⟩ := Y.fin ks s' hJ hl ps h1 h2
  exact ⟨_, rfl, wpAny_pure ⟨_, rfl, z⟩⟩
end
end SrtL
set_option Elab.async false
set_option linter.all false
set_option maxRecDepth 100001
set_option maxHeartbeats 3999999
namespace LamX
open PySem PySem.Spec PyProof.Rows L2
/-! ### a lambda of one parameter -/
structure LamP (sc scope : Scope) (a : Str) : Prop where
  kind : scope.kind = .function
  co : scope.isCoroutine = false
  gen : scope.isGenerator = false
  par : scope.names.lookup a = some .local
  own : ∀ y ∈ scope.names, y.2 ≠ .cell ∧ (y.2 = .local → y.1 = a)
  free : ∀ y ∈ scope.names, y.2 = .free → sc.names.lookup y.1 = some .cell ∨ sc.names.lookup y.1 = some .free
def lamPB (sc scope : Scope) (a : Str) : Bool :=
  decide (scope.kind = .function) && !scope.isCoroutine && !scope.isGenerator && decide (scope.names.lookup a = some .local) && scope.names.all fun y => !decide (y.2 = .cell) && (!decide (y.2 = .local) || decide (y.1 = a)) && (!decide (y.2 = .free) || decide (sc.names.lookup y.1 = some .cell) || decide (sc.names.lookup y.1 = some .free))
theorem lamP_by {sc scope : Scope} {a : Str} (h : lamPB sc scope a = true) : LamP sc scope a := by
  unfold lamPB at h
  simp only [Bool.and_eq_true, Bool.or_eq_true, Bool.not_eq_true', decide_eq_true_eq, decide_eq_false_iff_not, List.all_eq_true] at h
  obtain ⟨⟨⟨⟨h1, h2⟩, h3⟩, h0⟩, h4⟩ := h
  refine ⟨h1, h2, h3, h0, fun y hy => ⟨(h4 y hy).1.1, fun e => ?_⟩, fun y hy e => ?_⟩
  · rcases (h4 y hy).1.2 with z | z
    · exact absurd e z
    · exact z
  · rcases (h4 y hy).2 with (z | z) | z
    · exact absurd e z
    · exact .inl z
    · exact .inr z
theorem LamP.has {X : Cx} {scope : Scope} {a : Str} (L : LamP X.env.scope scope a) (ok : X.Ok) : ∀ y ∈ scope.names, y.2 = .free → ∃ c, X.env.cells.lookup y.1 = some c := fun y hy e => by
  rcases L.free y hy e with k | k
  · exact ok.has _ (.inl k)
  · exact ok.has _ (.inr k)
section
variable {X : Cx} {pins : List (Addr × Obj)} {σ : L2.St} {H : Hp} {s : Shared}
theorem lam_start1 {A : Around} {E : XK} {scope : Scope} {a : Str} {i : Nat} {v : V} {u : Value} {f c' : Addr} {h₁ : Heap} {tk : Nat} (I : Inv X pins σ H s) (L : LamP X.env.scope scope a) (hA : A.frames = some X.stack) (hd : A.handled = none) (nd : X.N.Nodup) (hN : X.N[i]? = some a) (rv : RelV v u)
    (hns : h₁.Ns s.heap.objs.size fun y => ([(a, u)] : List (Str × Value)).reverse.lookup y) (kp : ∀ b o, s.heap.get? b = some o → h₁.get? b = some o) :
    Inv (lamCx X A X.stack s H E scope f c') [] (σ.set i (some v)) H { s with heap := h₁, toks := tk } := by
  have e0 := I.env0
  have hfree := L.has I.ok
  have cm : ∀ {y c}, (cloFrom X.env.cells scope.names []).lookup y = some c → X.env.cells.lookup y = some c := fun {y c} e => by
    rcases cloFrom_mem (PySem.mem_of_lookup e) with hm | ⟨h1, h2⟩
    · cases hm
    · obtain ⟨c1, hc⟩ := hfree _ h1 rfl
      have hc : X.env.cells.lookup y = some c1 := hc
      have e2 : c = c1 := by
        rw [h2, hc] <;> rfl
      rw [e2]
      exact hc
  have look : ∀ {y}, scope.names.lookup y = some .free → ∃ c, (cloFrom X.env.cells scope.names []).lookup y = some c := fun {y} hl => by
    have hy : (y, NameKind.free) ∈ scope.names := PySem.mem_of_lookup hl
    exact mem_lookup (cloFrom_has (cells := X.env.cells) (acc := []) hy)
  have cellK : ∀ {c : Addr} {v : Option Value}, s.heap.IsCell c v → h₁.IsCell c v := fun {c v} ⟨o, ho, hd⟩ => ⟨o, kp _ _ ho, hd⟩
  have noA : ∀ b : Addr, b ∉ (lamCx X A X.stack s H E scope f c').ex := fun b z => absurd (show b ∈ ([] : List Addr) from z) (by simp)
  refine ⟨⟨e0.mod, L.kind, rfl, rfl, Nat.le_refl _, fun y z c e1 e2 => I.ok.inj y z c (cm e1) (cm e2), fun y hy => ?_, fun y c z _ => ?_, fun _ => hd, Around.frames_deeper hA, .inr ⟨rfl, rfl⟩, fun b z => absurd z (noA b), e0.bs, e0.bsz, fun b _ _ => noA b,
      fun b z => absurd z (noA b), e0.funs, e0.frf⟩,
    rfl, e0.bare, Un.kept kp, ⟨_, hns, fun j y w e1 e2 e3 => ?_⟩, fun y c e => ?_, e0.hok.fresh (Nat.le_refl _), fun y c e => I.freeC y c (cm e), fun q hq => absurd (show q ∈ ([] : List (Addr × Obj)) ++ [] from hq) (by simp), e0.hok.kept kp, by rw [List.length_set]; exact I.len⟩
  · have hy : scope.names.lookup y = some .cell ∨ scope.names.lookup y = some .free := hy
    rcases hy with hy | hy
    · exact absurd rfl (L.own _ (PySem.mem_of_lookup hy)).1
    · exact look hy
  · have z : false = true := z
    cases z
  · have e1 : X.N[j]? = some y := e1
    by_cases ej : j = i
    · rw [ej] at e1 e2
      rw [hN] at e1
      cases e1
      have lt : i < σ.length := by rw [I.len]; exact (List.getElem?_eq_some_iff.mp hN).1
      rw [List.getElem?_set_self lt] at e2
      cases e2
      refine ⟨u, rv, .inl ⟨L.par, ?_⟩⟩
      simp [List.lookup]
    · rw [List.getElem?_set_ne (fun z => ej z.symm)] at e2
      have ya : y ≠ a := fun z => ej (nodup_ix nd (z ▸ e1) hN)
      have e3 : Vis scope y := e3
      rcases e3 with k | k | k
      · exact absurd ((L.own _ (PySem.mem_of_lookup k)).2 rfl) ya
      · exact absurd rfl (L.own _ (PySem.mem_of_lookup k)).1
      · obtain ⟨m, hn, hl⟩ := I.loc
        have hvis : Vis X.env.scope y := (L.free _ (PySem.mem_of_lookup k) rfl).elim (fun k => .inr (.inl k)) (fun k => .inr (.inr k))
        obtain ⟨w', r, q⟩ := hl j y w e1 e2 hvis
        obtain ⟨c2, h2⟩ := look k
        refine ⟨w', r, .inr ⟨.inr k, c2, h2, ?_⟩⟩
        have c1 := cm h2
        rcases q with ⟨k', _⟩ | ⟨_, c3, e', z⟩
        · have k' : X.env.scope.names.lookup y = some .local := k'
          rcases L.free _ (PySem.mem_of_lookup k) rfl with k2 | k2 <;> rw [show X.env.scope.names.lookup y = _ from k2] at k' <;> cases k'
        · rw [c1] at e'
          cases e'
          exact cellK z
  · obtain ⟨w', z⟩ := I.cell y c (cm e)
    exact ⟨w', cellK z⟩
/-- the lambda called with one value, in the def that made it -/
theorem lam_call1 {A : Around} {scope : Scope} {a : Str} {i k : Nat} {v : V} {u pm ctv : Value} {f c' : Addr} {params : Arguments} {body : Expr} {tb : TE} {Q : VK} (I : Inv X pins σ H s) (L : LamP X.env.scope scope a) (hA : A.frames = some X.stack) (hr : Room (k + 1) A) (nd : X.N.Nodup) (hN : X.N[i]? = some a) (rv : RelV v u)
    (hf : s.heap.get? f = some (PySem.W.kla_obj "<lambda>" (X.env.qual ++ "<lambda>") params body scope (cloFrom X.env.cells scope.names []) pm c' ctv)) (hc : H c' = some (CodeO c' (X.env.qual ++ "<lambda>")))
    (hbind : bindArgs (PySem.W.kla_fn "<lambda>" (X.env.qual ++ "<lambda>") params body scope (cloFrom X.env.cells scope.names []) pm (.ref c') ctv) ⟨[u], []⟩ = pure [(a, u)])
    (hbody : Room k (A.deeper (lamEnv X scope s.heap.objs.size f c')) → PE (lamCx X A X.stack s H C8.E0 scope f c') body tb) (ht : tb (σ.set i (some v)) H Q) :
    codeAny (model X.prog X.w) A (.call (.ref f) ⟨[u], []⟩) (CR (L2.CX X.prog X.w) X.stack X.prog X.w H s Q C8.E0) s := by
  obtain ⟨⟨oc, vs, t, hoc, hdc, hvc⟩, _, _⟩ := I.hok c' _ hc
  refine PySem.W.kla_callFunE hr.depth hf rfl L.co L.gen rfl ⟨c', oc, vs, t, rfl, hoc, hdc, hvc⟩ ?_
  rw [hbind]
  refine wpAny_pure (wpAny_newFunctionEnv (fun y hy => (L.own y hy).1) (fun y hy => ?_) (fun h₁ hns hsb => ⟨I.nolimit.fresh _ hsb, ?_⟩) L.kind)
  · rw [List.mem_singleton.mp hy]
    exact L.par
  show codeAny _ _ (.expr body (lamEnv X scope s.heap.objs.size f c')) _ _
  have kp : ∀ b o, s.heap.get? b = some o → h₁.get? b = some o := fun b o e => hsb.extBut b o (Nat.ne_of_lt (Heap.lt_size e)) (Heap.get?_push_of_some _ e)
  have J : Inv (lamCx X A X.stack s H C8.E0 scope f c') [] (σ.set i (some v)) H { s with heap := h₁, toks := s.toks + ([(a, u)] : List (Str × Value)).length } := lam_start1 I L hA hr.hd nd hN rv hns kp
  refine PySem.W.kla_codeExpr (wpAny_mono ((hbody (hr.deeper _)).run [] _ _ H Q J ht) (fun v s' hq => ?_) fun e s' hq => hq)
  obtain ⟨w', H', J', rv, q⟩ := hq
  exact ⟨w', H', J'.os, J'.bare, J'.base, J'.hok, rv, q⟩
end
end LamX
set_option Elab.async false
set_option linter.all false
set_option maxRecDepth 100001
set_option maxHeartbeats 3999999
namespace SrtL
open PySem PyProof.Rows Srt SrtO L2 LamX
/-! ### orders of keys -/
structure KeyOrd (α : Type) where
  lt : α → α → Bool
  enc : α → V
  dec : Value → α
  val : α → Value
  swo : Swo lt
  rel : ∀ k u, RelV (enc k) u → dec u = k
  back : ∀ k, dec (val k) = k
  sortable : ∀ {prog : Program} {w : World} {A : Around} {s : Shared} (us : List Value), (∀ u ∈ us, ∃ k, RelV (enc k) u) → 2 ≤ us.length →
    ∃ κ, (∀ (Q : SortKind → Shared → Prop) (E : Value → Shared → Prop), Q κ s → wpAny (model prog w) A (keyKind' us.toArray) Q E s) ∧ Cmp prog w A s κ (fun p => p.1 ∈ us) (lt2 fun x y => lt (dec x) (dec y))
theorem swo_dec {α β : Type} {lt : α → α → Bool} (O : Swo lt) (f : β → α) : Swo fun x y => lt (f x) (f y) := ⟨fun x y h => O.asym _ _ h, fun x y z h1 h2 => O.tr _ _ _ h1 h2⟩
def decI : Value → Int
  | .int i _ => i
  | _ => 0
def decS : Value → Str
  | .str z _ => z
  | _ => Str.empty
theorem ints_dec : ∀ {us : List Value}, (∀ u ∈ us, ∃ k, RelV (.int k) u) → IntsAre us (us.map decI)
  | [], _ => .nil
  | u :: us, h => by
    obtain ⟨k, t, e⟩ := h u List.mem_cons_self
    subst e
    exact .cons k t (ints_dec fun v hv => h v (List.mem_cons_of_mem _ hv))
def ordInt : KeyOrd Int where
  lt i j := decide (i < j)
  enc := .int
  dec := decI
  val i := .int i 0
  swo := ⟨fun x y h => by have := of_decide_eq_true h; exact decide_eq_false (by omega), fun x y z h1 h2 => by have := of_decide_eq_false h1; have := of_decide_eq_false h2; exact decide_eq_false (by omega)⟩
  rel k u h := by obtain ⟨t, rfl⟩ := h; rfl
  back k := rfl
  sortable us h h2 := by
    have hI := ints_dec h
    refine ⟨oneType', fun Q E hq => ?_, fun p q hm hm' => ?_⟩
    · match us, hI, h2 with
      | v1 :: v2 :: rest, hI, _ =>
        rw [keyKind_ints hI]
        exact wpAny_pure hq
      | [], _, h => exact absurd h (by decide)
      | [v], _, h => exact absurd h (by simp)
    · obtain ⟨a, t, e⟩ := h _ hm
      obtain ⟨b, u, e'⟩ := h _ hm'
      show wpAny _ _ (keyLt' oneType' p.1 q.1) (fun r s' => s' = _ ∧ r = decide (decI p.1 < decI q.1)) (fun _ _ => False) _
      rw [e, e', keyLt'_oneType]
      exact oneLt_int ⟨rfl, rfl⟩
theorem strs_dec : ∀ {us : List Value}, (∀ u ∈ us, ∃ k, RelV (.str k) u) → StrsAre us (us.map decS)
  | [], _ => .nil
  | u :: us, h => by
    obtain ⟨k, t, e⟩ := h u List.mem_cons_self
    subst e
    exact .cons k t (strs_dec fun v hv => h v (List.mem_cons_of_mem _ hv))
theorem swo_nats : Swo fun (a b : List Nat) => decide (a < b) := by
  refine ⟨fun x y h => ?_, fun x y z h1 h2 => ?_⟩
  · have h := of_decide_eq_true h
    exact decide_eq_false fun z => List.lt_irrefl x (List.lt_trans h z)
  · have h1 := List.not_lt.mp (of_decide_eq_false h1)
    have h2 := List.not_lt.mp (of_decide_eq_false h2)
    exact decide_eq_false (List.not_lt.mpr (List.le_trans h1 h2))
def ordStr : KeyOrd Str where
  lt a b := decide (a.cps.toList < b.cps.toList)
  enc := .str
  dec := decS
  val z := .str z 0
  swo := swo_dec swo_nats fun a : Str => a.cps.toList
  rel k u h := by obtain ⟨t, rfl⟩ := h; rfl
  back k := rfl
  sortable us h h2 := by
    have hI := strs_dec h
    refine ⟨oneType', fun Q E hq => ?_, fun p q hm hm' => ?_⟩
    · match us, hI, h2 with
      | v1 :: v2 :: rest, hI, _ =>
        rw [keyKind_strs hI]
        exact wpAny_pure hq
      | [], _, h => exact absurd h (by decide)
      | [v], _, h => exact absurd h (by simp)
    · obtain ⟨a, t, e⟩ := h _ hm
      obtain ⟨b, u, e'⟩ := h _ hm'
      show wpAny _ _ (keyLt' oneType' p.1 q.1) (fun r s' => s' = _ ∧ r = decide ((decS p.1).cps.toList < (decS q.1).cps.toList)) (fun _ _ => False) _
      rw [e, e', keyLt'_oneType]
      exact oneLt_str ⟨rfl, rfl⟩
end SrtL
set_option Elab.async false
set_option linter.all false
set_option maxRecDepth 100001
set_option maxHeartbeats 3999999
namespace SrtL
open PySem PyProof.Rows Srt SrtO L2 LamX
def bk (u : Value) : V := (absV u).getD .non
theorem bk_rel {x : V} {u : Value} (r : RelV x u) : bk u = x := by
  unfold bk
  rw [r.abs]
  rfl
section
variable {α : Type} (O : KeyOrd α) (g : V → α)
theorem zip_fact : ∀ {xs : List V} {vs ks : List Value}, Vals xs vs → Vals (xs.map fun x => O.enc (g x)) ks → (∀ p ∈ ks.zip vs, O.dec p.1 = g (bk p.2) ∧ RelV (bk p.2) p.2) ∧ (ks.zip vs).map (fun p => bk p.2) = xs
  | [], _, _, .nil, .nil => ⟨fun _ h => (by simp at h), rfl⟩
  | x :: xs, _, _, .cons r t, .cons r2 t2 => by
    obtain ⟨h1, h2⟩ := zip_fact t t2
    refine ⟨fun p hp => ?_, ?_⟩
    · rw [List.zip_cons_cons] at hp
      rcases List.mem_cons.mp hp with rfl | hp
      · rw [bk_rel r]
        exact ⟨O.rel _ _ r2, r⟩
      · exact h1 p hp
    · rw [List.zip_cons_cons, List.map_cons, h2]
      show bk _ :: xs = x :: xs
      rw [bk_rel r]
abbrev ltG (x y : V) : Bool := O.lt (g x) (g y)
abbrev ltD (x y : Value) : Bool := O.lt (O.dec x) (O.dec y)
theorem conv {xs : List V} {vs ks : List Value} {ps : List Keyed} (hv : Vals xs vs) (hk : Vals (xs.map fun x => O.enc (g x)) ks) (h1 : Srtd (lt2 (ltD O)) ps) (h2 : Stb (lt2 (ltD O)) ps (ks.zip vs)) :
    Vals (ps.map fun p => bk p.2) (ps.map (·.2)) ∧ Srtd (ltG O g) (ps.map fun p => bk p.2) ∧ Stb (ltG O g) (ps.map fun p => bk p.2) xs := by
  obtain ⟨f1, f2⟩ := zip_fact O g hv hk
  have mem : ∀ p ∈ ps, O.dec p.1 = g (bk p.2) ∧ RelV (bk p.2) p.2 := fun p hp => f1 p (h2.perm.mem_iff.mp hp)
  refine ⟨?_, ?_, ?_⟩
  · clear h1 h2
    induction ps with
    | nil => exact .nil
    | cons p ps ih => exact .cons (mem p List.mem_cons_self).2 (ih fun q hq => mem q (List.mem_cons_of_mem _ hq))
  · refine srtd_map (f := fun p : Keyed => bk p.2) (lt := ltG O g) ?_
    refine List.Pairwise.imp_of_mem (fun {p q} hp hq hr => ?_) h1
    show O.lt (g (bk q.2)) (g (bk p.2)) = false
    rw [← (mem p hp).1, ← (mem q hq).1]
    exact hr
  · have h3 : Stb (fun p q : Keyed => ltG O g (bk p.2) (bk q.2)) ps (ks.zip vs) := by
      refine ⟨h2.perm, fun x => ?_⟩
      have e : ∀ p : Keyed, O.dec p.1 = g (bk p.2) → eqv (fun p q : Keyed => ltG O g (bk p.2) (bk q.2)) x p = eqv (lt2 (ltD O)) (O.val (g (bk x.2)), x.2) p := by
        intro p hp
        show (!O.lt (g (bk x.2)) (g (bk p.2)) && !O.lt (g (bk p.2)) (g (bk x.2))) = (!O.lt (O.dec (O.val (g (bk x.2)))) (O.dec p.1) && !O.lt (O.dec p.1) (O.dec (O.val (g (bk x.2)))))
        rw [O.back, hp]
      rw [List.filter_congr fun p hp => e p (mem p hp).1, List.filter_congr fun p hp => e p (f1 p hp).1]
      exact h2.cls _
    have h4 := Stb.map (swo_dec O.swo g) (fun p : Keyed => bk p.2) h3
    rw [f2] at h4
    exact h4
end
/-- sorted(e, key=lambda x: tb): the keys are read at one and the same heap -/
def tSortLam {α : Type} (Tb : List (Addr × Str)) (K : PySem.W.Frag) (O : KeyOrd α) (i : Nat) (te tb : TE) : TE := fun σ H Q => te σ H fun x H1 => ∃ (a : Addr) (xs : List V) (g : V → α), x = .ref a ∧ SqL K H1 a xs ∧ Tabs Tb H1 ∧
  ∀ H2, ExtN H1 H2 → Tabs Tb H2 → SqL K H2 a xs ∧ (∀ v ∈ xs, tb (σ.set i (some v)) H2 fun kv H4 => kv = O.enc (g v) ∧ H4 = H2) ∧
    ∀ ys p, Srtd (ltG O g) ys → Stb (ltG O g) ys xs → H2 p = none → Q (.ref p) (upd H2 p (.lst ys))
section
variable {X : Cx} {pins : List (Addr × Obj)} {σ : L2.St} {H : Hp} {s : Shared}
theorem fp_keep {b : Addr} {o : Obj} {H' : Hp} {h' : Heap} (I : Inv X pins σ H s) (un : Un (frs X.stack) [] H H' s.heap h') (hn : H b = none) (hf : b ∉ frs X.stack) (hb : s.heap.get? b = some o) : h'.get? b = some o := un.keep b o hb hn hf (by simp)
theorem fp_nofr {b : Addr} (I : Inv X pins σ H s) (hf : FpOk X pins H b) : b ∉ frs X.stack := fun z => by
  rcases List.mem_cons.mp (I.stkSub _ z) with e | e
  · exact hf.2.1 e
  · exact hf.2.2.1 e
/-- the sorted list is known from now on -/
theorem inv_done {kS d : Addr} {ks out : List Value} {ys : List V} {ek e1 : Nat} (I : Inv X pins σ H s) (fk : FpOk X pins H kS) (fd : FpOk X pins H d) (ne : kS ≠ d) (hk : s.heap.get? kS = some (seqObj "list" ks.toArray ek)) (hd : s.heap.get? d = some (seqObj "list" #[] e1))
    (hl : ys.length ≤ sizeLine) (hv : Vals ys out) : Inv X pins σ (upd H d (.lst ys)) { s with heap := doneHeap s.heap kS d out.toArray } := by
  have s1 := Heap.SameBut.update s.heap kS (Obj.mapSeq fun _ => (#[] : Array Value))
  have nd1 : (s.heap.update kS (Obj.mapSeq fun _ => (#[] : Array Value))).get? d = some (seqObj "list" #[] e1) := (s1.2 d ne.symm).trans hd
  obtain ⟨e2, hd2⟩ : ∃ e2, (doneHeap s.heap kS d out.toArray).get? d = some (seqObj "list" out.toArray e2) := ⟨_, get?_update_seq nd1 fun _ => out.toArray⟩
  obtain ⟨e3, hk3⟩ : ∃ e3, (s.heap.update kS (Obj.mapSeq fun _ => (#[] : Array Value))).get? kS = some (seqObj "list" #[] e3) := ⟨_, get?_update_seq hk fun _ => #[]⟩
  have kp : ∀ b o, b ≠ kS → b ≠ d → s.heap.get? b = some o → (doneHeap s.heap kS d out.toArray).get? b = some o := fun b o h1 h2 e => by
    show ((s.heap.update kS (Obj.mapSeq fun _ => (#[] : Array Value))).update d _).get? b = _
    rw [Heap.get?_update_ne _ _ _ _ h2, Heap.get?_update_ne _ _ _ _ h1]
    exact e
  have nK : ∀ b u, H b = some u → b ≠ kS := fun b u e z => by rw [z, fk.1] at e; cases e
  have nD : ∀ b u, H b = some u → b ≠ d := fun b u e z => by rw [z, fd.1] at e; cases e
  have stay : ∀ b u, H b = some u → upd H d (.lst ys) b = some u := fun b u e => (upd_ne (nD b u e)).trans e
  refine I.step (g' := s.gens) (t' := s.toks) (d' := s.drawn) (ch := [kS, d]) (fun b hb => ?_) (fun b o _ _ hc e _ => kp b o (fun z => hc (by simp [z])) (fun z => hc (by simp [z])) e) (fun b o _ _ hc e _ => ⟨o.slots, kp b o (fun z => hc (by simp [z])) (fun z => hc (by simp [z])) e⟩)
    (fun b o hc _ n => (upd_ne (fun z => hc (by simp [z]))).trans n) (fun b o hc e => ⟨o, kp b o (fun z => hc (by simp [z])) (fun z => hc (by simp [z])) e⟩) (fun b xs e => stay _ _ e) (fun b o u e => stay _ _ e) (fun b ps e => ⟨#[], by rw [stay _ _ e]; simp⟩) (fun m hm => ?_) (fun b u e => ?_) I.bare
  · rcases List.mem_cons.mp hb with rfl | hb
    · exact ⟨fk.2.2.2.1, fk.2.1, fk.2.2.2.2.1, fk.2.2.2.2.2⟩
    · rw [List.mem_singleton.mp hb]
      exact ⟨fd.2.2.2.1, fd.2.1, fd.2.2.2.2.1, fd.2.2.2.2.2⟩
  · obtain ⟨o, es, ep, ho, r⟩ := hm
    exact ⟨o, es, ep, kp _ o (Ne.symm fk.2.1) (Ne.symm fd.2.1) ho, r⟩
  · by_cases hb : b = d
    · rw [hb, upd_same] at e
      cases e
      rw [hb]
      exact ⟨hl, out, e2, hv, hd2⟩
    · rw [upd_ne hb] at e
      refine (I.hok b u e).stay (fun c v hc q => ?_) (fun _ q => stay _ _ q) fun _ _ q => stay _ _ q
      rcases hc with z | z
      · rw [z] at q ⊢
        exact kp _ _ (nK b u e) hb q
      · exact kp _ _ (nK c _ z) (nD c _ z) q
end
end SrtL
set_option Elab.async false
set_option linter.all false
set_option maxRecDepth 100001
set_option maxHeartbeats 3999999
namespace SrtL
open PySem PyProof.Rows Srt SrtO L2 LamX
section
variable {X : Cx} {p lpos kpos pos : Pos} {e : Expr} {te tb : TE} {α : Type}
theorem frames2 (I : X.Ok) : X.A.in1.in1.frames = some X.stack := I.frames
theorem pe_sortLam (O : KeyOrd α) {Tb : List (Addr × Str)} {c T : Addr} {k i : Nat} {a : Str} {params : Arguments} {body : Expr} {scope : Scope} (hg : Gl X "sorted") (hm : X.mg "sorted" = none) (he : PE X e te) (TB : TabB X.base X.mg c T) (hmT : (T, X.env.qual ++ "<lambda>") ∈ Tb) (hu : ∀ p ∈ Tb, p.1 = T → p.2 = X.env.qual ++ "<lambda>")
    (hr : Room (k + 3) X.A) (L : LamP X.env.scope scope a) (nd : X.N.Nodup) (hN : X.N[i]? = some a)
    (hbody : ∀ (s : Shared) (H : Hp) (f c' : Addr), Room k (X.A.in1.in1.deeper (lamEnv X scope s.heap.objs.size f c')) → PE (lamCx X X.A.in1.in1 X.stack s H C8.E0 scope f c') body tb)
    (hcode : X.env.code = .ref c := by rfl) (hdef : defaultsOf params X.env = ([], []) := by rfl)
    (hbind : ∀ (q : Str) (cl : List (Str × Addr)) (pm cv ctv u : Value), bindArgs (PySem.W.kla_fn "<lambda>" q params body scope cl pm cv ctv) ⟨[u], []⟩ = pure [(a, u)] := by intros; rfl)
    (hs0 : starEach [e] X.env = (false, eval e X.env) :: starEach [] X.env := by rfl) (hs : backTo pos (starEach [e] X.env) = (false, eval e X.env) :: backTo pos (starEach [] X.env) := by rfl) (hpl : (backTo pos (starEach [e] X.env)).any (·.1) = false := by rfl) :
    PE X (.Call (.Name "sorted" p) [e] [⟨some "key", .Lambda params body scope lpos, kpos⟩] pos) (tSortLam Tb X.K O i te tb) := by
  refine ⟨fun pins s σ H Q I h => ?_⟩
  refine wpAny_Call_Name_kw (ld_blt (u := Value.builtin "sorted") I hg hm (by decide +kernel) ?_ (by decide) (by decide))
  refine PyProof.Rows.callWith_kw (thn ((pa_cons he pa_nil hs0).run pos pins s σ H (fun vs H1 => match vs with
    | [x] => ∃ (a : Addr) (xs : List V) (g : V → α), x = .ref a ∧ SqL X.K H1 a xs ∧ Tabs Tb H1 ∧
  ∀ H2, ExtN H1 H2 → Tabs Tb H2 → SqL X.K H2 a xs ∧ (∀ v ∈ xs, tb (σ.set i (some v)) H2 fun kv H4 => kv = O.enc (g v) ∧ H4 = H2) ∧
    ∀ ys p, Srtd (ltG O g) ys → Stb (ltG O g) ys xs → H2 p = none → Q (.ref p) (upd H2 p (.lst ys))
    | _ => False) I h) fun us s1 ⟨vs, H1, I1, r1, q1⟩ => ?_) hs hpl (by rfl) (by rfl)
  obtain ⟨x, rfl, u, rfl, rx, q1⟩ : ∃ x, vs = [x] ∧ ∃ u, us = [u] ∧ RelV x u ∧ ∃ (a : Addr) (xs : List V) (g : V → α), x = .ref a ∧ SqL X.K H1 a xs ∧ Tabs Tb H1 ∧
      ∀ H2, ExtN H1 H2 → Tabs Tb H2 → SqL X.K H2 a xs ∧ (∀ v ∈ xs, tb (σ.set i (some v)) H2 fun kv H4 => kv = O.enc (g v) ∧ H4 = H2) ∧
        ∀ ys p, Srtd (ltG O g) ys → Stb (ltG O g) ys xs → H2 p = none → Q (.ref p) (upd H2 p (.lst ys)) := by
    cases vs with
    | nil => exact q1.elim
    | cons x r =>
      cases r with
      | nil =>
        cases r1 with
        | cons rx t =>
          cases t
          exact ⟨x, rfl, _, rfl, rx, q1⟩
      | cons y r => exact q1.elim
  obtain ⟨l, xs, g, rfl, hl1, hT1, q1⟩ := q1
  obtain rfl : u = Value.ref l := rx
  show wpAny _ _ (evalAll ((do let v ← eval (.Lambda params body scope lpos) X.env; standAt pos; pure v) :: (backToKw pos (keywordEach [] X.env)).map (·.2))) _ _ s1
  refine wpAny_evalAll_cons (wpAny_bind (lam_make2 I1 TB hcode hmT hu hT1 hdef (L.has I1.ok) fun f c' pm ctv H2 s2 I2 e12 hT2 hf hfn hfr hc => wpAny_bind (wpAny_standAt (wpAny_pure ?_))))
  refine wpAny_evalAll_nil ?_
  show wpAny _ _ (call (.builtin "sorted") [.ref l] [(Str.ofString "key", .ref f)]) _ _ s2
  obtain ⟨hl2, hkey, hend⟩ := q1 H2 e12 hT2
  obtain ⟨its, rv, hil, hz⟩ := I2.list hl2
  refine sorted_ord (vs := its) (ltv := ltD O) (swo_dec O.swo O.dec) hil.isList (by rw [← rv.length]; exact hz) fun h1 d kS e1 hkp hd hkS gd gk nkd => ?_
  have fk : FpOk X pins H2 kS := I2.fpOk gk (I2.hok.fresh gk)
  have fd : FpOk X pins H2 d := I2.fpOk gd (I2.hok.fresh gd)
  have hroom : Room (k + 1) X.A.in1.in1 := (Room.in1 (Room.in1 hr))
  refine ⟨fun ks s' => Inv X pins σ H2 s' ∧ (∃ ek, s'.heap.get? kS = some (seqObj "list" ks.toArray ek)) ∧ s'.heap.get? d = some (seqObj "list" #[] e1) ∧ s'.heap.get? f = some (PySem.W.kla_obj "<lambda>" (X.env.qual ++ "<lambda>") params body scope (cloFrom X.env.cells scope.names []) pm c' ctv) ∧ Vals ((xs.take ks.length).map fun x => O.enc (g x)) ks,
    ⟨I2.kept (t' := s2.toks) hkp, ⟨0, hkS⟩, hd, hkp _ _ hf, by rw [List.length_nil, List.take_zero]; exact .nil⟩, ⟨fun ks s' h => ⟨h.2.1, h.2.2.1⟩, ?_, ?_, ?_⟩⟩
  · rintro ks u s' ⟨J, ⟨ek, jk⟩, jd, jf, jv⟩ hu2
    obtain ⟨x, hx, rx⟩ : ∃ x, xs[ks.length]? = some x ∧ RelV x u := by
      have lt : ks.length < xs.length := by rw [rv.length]; exact (List.getElem?_eq_some_iff.mp hu2).1
      obtain ⟨u', h1, h2⟩ := rv.get (List.getElem?_eq_getElem lt)
      rw [hu2] at h1
      cases h1
      exact ⟨_, List.getElem?_eq_getElem lt, h2⟩
    refine wpAny_call (codeAny_mono (lam_call1 (A := X.A.in1.in1) (i := i) (Q := fun kv H4 => kv = O.enc (g x) ∧ H4 = H2) J L J.ok.frames hroom nd hN rx jf hc (hbind _ _ _ _ _ _) (fun _ => hbody s' H2 f c' ‹_›) (hkey x (List.mem_of_getElem? hx))) fun r s'' hq => ?_)
    cases r with
    | error e =>
      obtain ⟨_, _, _, _, _, _, _, _, _, _, _, _, z⟩ := hq
      exact z
    | ok fl =>
      cases fl with
      | ret kv =>
        obtain ⟨v, H', os, bare, un, hok, rk, rfl, rfl⟩ := id hq
        obtain ⟨v2, H3, J2, _, _, rfl⟩ := J.after hq
        have kept : ∀ b o, H3 b = none → b ∉ frs X.stack → s'.heap.get? b = some o → s''.heap.get? b = some o := fun b o h1 h2 h3 => un.keep b o h3 h1 h2 (by simp)
        have jk2 := kept _ _ fk.1 (fp_nofr J fk) jk
        have jd2 := kept _ _ fd.1 (fp_nofr J fd) jd
        have jf2 := kept _ _ hfn hfr jf
        have sb := Heap.SameBut.update s''.heap kS (Obj.mapSeq (·.push kv))
        have kb : ∀ b o, b ≠ kS → s''.heap.get? b = some o → (s''.heap.update kS (Obj.mapSeq (·.push kv))).get? b = some o := fun b o hb e => (sb.2 b hb).trans e
        obtain ⟨c2, hc2⟩ : ∃ c2, (s''.heap.update kS (Obj.mapSeq (·.push kv))).get? kS = some (seqObj "list" (ks.toArray.push kv) c2) := ⟨_, get?_update_seq jk2 (·.push kv)⟩
        have nf : f ≠ kS := fun z => Nat.lt_irrefl _ (Nat.lt_of_lt_of_le (z ▸ Heap.lt_size hf) gk)
        refine ⟨⟨ek, jk2⟩, J2.turned (t' := s''.toks) kb fk.1 fk.2.1 fk.2.2.2.1 fk.2.2.2.2.1 fk.2.2.2.2.2, ⟨c2, by rw [hc2, List.push_toArray]⟩, kb _ _ nkd.symm jd2, kb _ _ nf jf2, ?_⟩
        have e1 : xs.take (ks ++ [kv]).length = xs.take ks.length ++ [x] := by
          rw [List.length_append, List.length_singleton, List.take_add_one, hx]
          rfl
        rw [e1, List.map_append]
        exact Paired.snoc jv rk
      | next => exact False.elim hq
      | brk => exact False.elim hq
      | cont => exact False.elim hq
  · rintro ks s' ⟨J, _, _, _, jv⟩ lk h2
    refine O.sortable ks (fun u hu => ?_) (by omega)
    obtain ⟨j, hj⟩ := List.mem_iff_getElem?.mp hu
    obtain ⟨lt, _⟩ := List.getElem?_eq_some_iff.mp hj
    have lt2 : j < ((xs.take ks.length).map fun x => O.enc (g x)).length := by rw [jv.length]; exact lt
    obtain ⟨u', h3, h4⟩ := jv.get (List.getElem?_eq_getElem lt2)
    rw [hj] at h3
    cases h3
    rw [List.getElem_map] at h4
    exact ⟨_, h4⟩
  · rintro ks s' ⟨J, ⟨ek, jk⟩, jd, _, jv⟩ lk ps h1 h2
    have lx : xs.length = ks.length := by rw [rv.length, lk]
    rw [← lx, List.take_length] at jv
    obtain ⟨y1, y2, y3⟩ := conv O g rv jv h1 h2
    refine ⟨rfl, .ref d, _, inv_done (ys := ps.map fun p => bk p.2) J fk fd nkd jk jd (by rw [y3.len]; exact hz) y1, rfl, hend _ d y2 y3 fd.1⟩
end
end SrtL
set_option Elab.async false
set_option linter.all false
set_option maxRecDepth 100001
set_option maxHeartbeats 1999999
/-! rules for texts: list(s), s * n, s[::-1], and for lists of ints: xs < ys. -/
namespace L2
open PySem.Spec PySem PyProof.Rows
def sgn (c : Nat) : V := .str ⟨#[c]⟩
def sgns (z : Str) : List V := z.cps.toList.map sgn
theorem vals_get : ∀ {xs : List V} {us : List Value}, xs.length = us.length → (∀ (j : Nat) x u, xs[j]? = some x → us[j]? = some u → RelV x u) → Vals xs us
  | [], [], _, _ => .nil
  | [], _ :: _, h, _ => by simp at h
  | _ :: _, [], h, _ => by simp at h
  | x :: xs, u :: us, h, k => .cons (k 0 x u rfl rfl) (vals_get (by simpa using h) fun j a b h1 h2 => k (j + 1) a b (by simpa using h1) (by simpa using h2))
section
variable {X : Cx}
/-- list(s) -/
theorem call_listS (hc : X.calm = true) : CallR X (.type "list") (fun xs H Q => ∃ z : Str, xs = [.str z] ∧ z.length ≤ sizeLine ∧ ∀ p, H p = none → Q (.ref p) (upd H p (.lst (sgns z)))) := by
  intro pins s σ H xs us Q I r h
  obtain ⟨z, rfl, hz, q⟩ := h
  obtain ⟨u, rfl, rx⟩ := vals1 r
  obtain ⟨t, rfl⟩ := rx
  refine PySem.call_list_str (I.ok.hd hc) z t (fun h' tk acc' c' hk hS hacc => ?_) hz
  refine ⟨.ref _, upd H s.heap.objs.size (.lst (sgns z)), I.laid (t' := tk) hk (Nat.le_refl _) ⟨?_, acc'.toList, c', ?_, by rw [hS]⟩, rfl, q _ (I.hok.fresh (Nat.le_refl _))⟩
  · unfold sgns
    rw [List.length_map, Array.length_toList]
    exact hz
  · refine vals_get ?_ fun j x u h1 h2 => ?_
    · unfold sgns
      rw [List.length_map, Array.length_toList, Array.length_toList, hacc.1]
    · unfold sgns at h1
      rw [List.getElem?_map] at h1
      rw [Array.getElem?_toList] at h2
      obtain ⟨c, t', hc', rfl⟩ := hacc.2 j u h2
      rw [Array.getElem?_toList, hc'] at h1
      cases h1
      exact ⟨t', rfl⟩
/-! ### xs < ys -/
theorem firstLt_map (e r : Nat → Bool) (fin : Bool) : ∀ l : List Nat, SeqAt.firstLt e r fin (l.map (· + 1)) = SeqAt.firstLt (fun j => e (j + 1)) (fun j => r (j + 1)) fin l
  | [] => rfl
  | j :: l => by
    rw [List.map_cons]
    unfold SeqAt.firstLt
    rw [firstLt_map e r fin l]
theorem firstLt_lex : ∀ ns ms : List Int, SeqAt.firstLt (fun j => ns.getD j 0 == ms.getD j 0) (fun j => decide (ns.getD j 0 < ms.getD j 0)) (decide (ns.length < ms.length)) (List.range (min ns.length ms.length)) = HT.lexLt ns ms
  | [], [] => rfl
  | [], y :: ys => by simp [SeqAt.firstLt, HT.lexLt]
  | x :: xs, [] => by simp [SeqAt.firstLt, HT.lexLt]
  | x :: xs, y :: ys => by
    have ih := firstLt_lex xs ys
    have e : List.range (min (x :: xs).length (y :: ys).length) = 0 :: (List.range (min xs.length ys.length)).map (· + 1) := by
      rw [List.length_cons, List.length_cons, Nat.succ_min_succ, List.range_succ_eq_map]
    rw [e, HT.lexLt_cons]
    show (if (x == y) = true then _ else decide (x < y)) = _
    by_cases c : x = y
    · rw [if_pos (by simpa using c), if_pos c, firstLt_map, ← ih]
      simp
    · rw [if_neg (by simpa using c), if_neg c]
theorem ints_get : ∀ {ns : List Int} {us : List Value}, Vals (ns.map V.int) us → ∀ (j : Nat) u, us[j]? = some u → ∃ t, u = .int (ns.getD j 0) t
  | [], _, .nil, j, u, h => by simp at h
  | n :: ns, _, .cons ⟨t, e⟩ r, 0, u, h => by
    simp at h
    subst h e
    exact ⟨t, rfl⟩
  | n :: ns, _, .cons _ r, j + 1, u, h => by
    obtain ⟨t, e⟩ := ints_get r j u (by simpa using h)
    exact ⟨t, by simpa using e⟩
def rLtLI (K : PySem.W.Frag) : R2 := fun x y H Q => ∃ a b ns ms, x = .ref a ∧ y = .ref b ∧ SqL K H a (ns.map V.int) ∧ SqL K H b (ms.map V.int) ∧ Q (.bl (HT.lexLt ns ms)) H
theorem op_ltLI (hu : X.A.units < cLine) : OpR X (compareOp .Lt) (rLtLI X.K) := by
  intro pins s σ H x y v u Q I rx ry h
  obtain ⟨a, b, ns, ms, rfl, rfl, ha, hb, q⟩ := h
  cases rx
  cases ry
  obtain ⟨its, r1, p1, _⟩ := I.list ha
  obtain ⟨its2, r2, p2, _⟩ := I.list hb
  have l1 : its.toArray.size = ns.length := by have := r1.length; simp at this ⊢; omega
  have l2 : its2.toArray.size = ms.length := by have := r2.length; simp at this ⊢; omega
  have g1 : ∀ j (h : j < its.toArray.size), ∃ t, its.toArray[j] = .int (ns.getD j 0) t := fun j h => ints_get r1 j _ (by simpa using (List.getElem?_eq_getElem (by simpa using h)))
  have g2 : ∀ j (h : j < its2.toArray.size), ∃ t, its2.toArray[j] = .int (ms.getD j 0) t := fun j h => ints_get r2 j _ (by simpa using (List.getElem?_eq_getElem (by simpa using h)))
  refine SeqAt.RcLt.lists (e := fun j => ns.getD j 0 == ms.getD j 0) (r := fun j => decide (ns.getD j 0 < ms.getD j 0)) p1.isList p2.isList hu (fun j h1 h2 => ?_) (fun j h1 h2 _ => ?_) X.prog X.w _ _ ?_
  · obtain ⟨t, e1⟩ := g1 j h1
    obtain ⟨t', e2⟩ := g2 j h2
    rw [e1, e2]
    exact SeqAt.EqAt.int_int _ _ _ _
  · obtain ⟨t, e1⟩ := g1 j h1
    obtain ⟨t', e2⟩ := g2 j h2
    rw [e1, e2]
    exact fun prog w E Q h => HT.rcLt_int _ _ _ _ _ _ prog w E Q h
  · rw [l1, l2, firstLt_lex]
    exact ⟨.bl _, H, I, rfl, q⟩
/-! ### s * n -/
def repS (z : Str) (k : Nat) : Str := ⟨((List.replicate k z.cps.toList).flatten).toArray⟩
theorem fold_rep (z : Array Nat) : ∀ (k : Nat) (a : Array Nat), ((List.replicate k z).foldl (· ++ ·) a) = a ++ ((List.replicate k z.toList).flatten).toArray
  | 0, a => by simp
  | k + 1, a => by
    rw [List.replicate_succ, List.foldl_cons, fold_rep z k, List.replicate_succ, List.flatten_cons]
    refine Array.ext' ?_
    simp
def rMulS : R2 := fun x y H Q => ∃ (z : Str) (k : Nat), x = .str z ∧ y = .int (k : Nat) ∧ 2 ≤ k ∧ k ≤ 1000 ∧ 1 ≤ z.length ∧ z.length ≤ 1000 ∧ Q (.str (repS z k)) H
theorem op_mulS : OpR X (binaryOp .Mult) rMulS := by
  intro pins s σ H x y v u Q I rx ry h
  obtain ⟨z, k, rfl, rfl, k2, k1, z1, z2, q⟩ := h
  obtain ⟨t, rfl⟩ := rx
  obtain ⟨t', rfl⟩ := ry
  have n1 : ¬ ((k : Nat) : Int) < 1 := by omega
  have n2 : (((k : Nat) : Int) == 1 || z.length == 0) = false := by
    simp
    omega
  refine P.mul_str (by simp; omega) (fun _ _ => ?_) (fun _ _ => ?_) ?_
  · have hk : (9007199254740 : Int) ≤ (2 ^ 63 - 1) / ((k : Nat) : Int) := by
      refine (Int.le_ediv_iff_mul_le (by omega)).mpr ?_
      have : (9007199254740 : Int) * ((k : Nat) : Int) ≤ 9007199254740 * 1000 := Int.mul_le_mul_of_nonneg_left (by omega) (by decide)
      have e : (9007199254740 : Int) * 1000 ≤ 2 ^ 63 - 1 := by decide
      omega
    omega
  · rw [Int.toNat_natCast]
    have : z.length * k ≤ 1000 * 1000 := Nat.mul_le_mul z2 k1
    exact decide_eq_false (Nat.not_lt.mpr (Nat.le_trans this (by decide)))
  · rw [if_neg n1, if_neg (by rw [n2]; decide), Int.toNat_natCast, fold_rep]
    have e : (#[] ++ ((List.replicate k z.cps.toList).flatten).toArray : Array Nat) = ((List.replicate k z.cps.toList).flatten).toArray := by simp
    rw [e]
    refine ⟨?_, .str (repS z k), H, I.tok _, ⟨_, rfl⟩, q⟩
    show (((List.replicate k z.cps.toList).flatten).toArray).size ≤ sizeLine
    rw [List.size_toArray, List.length_flatten, List.map_replicate, List.sum_replicate_nat, Array.length_toList]
    have : k * z.length ≤ 1000 * 1000 := Nat.mul_le_mul k1 z2
    exact Nat.le_trans this (by decide)
/-! ### s[::-1] -/
def revS (z : Str) : Str := ⟨z.cps.toList.reverse.toArray⟩
def tRevS (te : TE) : TE := fun σ H Q => te σ H fun x H1 => ∃ z : Str, x = .str z ∧ z.length ≤ sizeLine ∧ Q (.str (revS z)) H1
theorem pick_rev (z : Str) : (Builtin.Str.strSliceIndices none none (-1) z.length).filterMap (z.cps[·]?) = z.cps.toList.reverse := by
  show (sliceRange ((z.cps.size : Int) - 1) (-1) (-1)).filterMap (z.cps[·]?) = _
  rw [PySem.W.krv_sliceRange, PySem.W.krv_range, List.filterMap_reverse, PySem.W.krv_all]
theorem pe_revS {e : Expr} {te : TE} {k : Nat} {p1 p2 p3 pos : Pos} (he : PE X e te) : PE X (.Subscript e (.Slice none none (some (.UnaryOp .USub (.Constant (.int 1) k p1) p2)) p3) pos) (tRevS te) := by
  refine ⟨fun pins s σ H Q I h => ?_⟩
  refine Subscript_ (thn (he.run pins s σ H _ I h) fun v s1 ⟨x, H1, I1, r1, q1⟩ => ?_)
  obtain ⟨z, ex, hz, q⟩ := q1
  subst ex
  obtain ⟨t, rfl⟩ := r1
  have hst : PO X (some (.UnaryOp .USub (.Constant (.int 1) k p1) p2)) (tPart (tUn (rU fun i => .int (-i)) (tC (.int 1)))) := po_some (pe_un un_neg pe_int)
  refine wpAny_Slice (thn (po_none.run pins s1 σ H1 (fun o H2 => o = none ∧ H2 = H1) I1 ⟨rfl, rfl⟩) fun vl s2 ⟨l, H2, I2, pl, el, e2⟩ => ?_)
  subst el e2
  refine thn (po_none.run pins s2 σ H2 (fun o H3 => o = none ∧ H3 = H2) I2 ⟨rfl, rfl⟩) fun vu s3 ⟨u, H3, I3, pu, eu, e3⟩ => ?_
  subst eu e3
  refine thn (hst.run pins s3 σ H3 (fun o H4 => o = some (-1) ∧ H4 = H3) I3 ⟨1, rfl, -1, rfl, rfl, rfl⟩) fun vs s4 ⟨o, H4, I4, ps, eo, e4⟩ => ?_
  subst eo e4
  have I5 : Inv X pins σ H4 { s4 with heap := s4.heap.push { cls := .type "slice", data := .fields #[vl, vu, vs] } } := I4.kept (t' := s4.toks) fun b ob q => Heap.get?_push_of_some _ q
  obtain ⟨l0, rfl, e0⟩ := IsPart.raw pl
  obtain ⟨u0, rfl, e1⟩ := IsPart.raw pu
  obtain ⟨v0, rfl, e2⟩ := IsPart.raw ps
  have l0n : l0 = none := by cases l0 with | none => rfl | some _ => cases e0
  have u0n : u0 = none := by cases u0 with | none => rfl | some _ => cases e1
  subst l0n u0n
  obtain ⟨tk, rfl⟩ : ∃ tk, v0 = some (-1, tk) := by
    cases v0 with
    | none => cases e2
    | some p =>
      obtain ⟨a, b⟩ := p
      have : a = -1 := Option.some.inj e2
      exact ⟨b, by rw [this]⟩
  show wpAny (model X.prog X.w) X.A (subscriptTail e (.Slice none none (some (.UnaryOp .USub (.Constant (.int 1) k p1) p2)) p3) (.str z t) (.ref s4.heap.objs.size)) (EP X pins σ Q) X.xe _
  refine tail_any (ops := [.str z t, .ref s4.heap.objs.size]) (typeIs_str _ z t) F.slot_str_getitem.lookup ?_ (by with_unfolding_all rfl)
  refine wpAny_getItem_str_slice (l := none) (u := none) (st := some (-1, tk)) ⟨_, Heap.get?_push_size _ rfl, rfl, rfl⟩ rfl ?_
  show Made.post (if ((-1 : Int) == 1 && (Builtin.Str.strSliceIndices none none (-1) z.length).length == z.length) = true then Made.val (.str z t) else Made.str ⟨((Builtin.Str.strSliceIndices none none (-1) z.length).filterMap (z.cps[·]?)).toArray⟩) _ _
  rw [if_neg (by simp), pick_rev]
  refine ⟨?_, .str (revS z), H4, I5.tok _, ⟨_, rfl⟩, q⟩
  show (z.cps.toList.reverse.toArray).size ≤ sizeLine
  rw [List.size_toArray, List.length_reverse, Array.length_toList]
  exact hz
/-! ### sep.join(s), s a text -/
theorem mt_joinS (hc : X.calm = true) : MtR X "str.join" (fun x xs H Q => ∃ a z : Str, x = .str a ∧ xs = [.str z] ∧ JoinOk a (PyProof.Rows.signs z) = true ∧ Q (.str (Txt.join a (PyProof.Rows.signs z))) H) := by
  intro pins s σ H x xs v us Q I rx rs h
  obtain ⟨a, z, rfl, rfl, ok, q⟩ := h
  obtain ⟨t, rfl⟩ := rx
  obtain ⟨u, rfl, ru⟩ := vals1 rs
  obtain ⟨t', rfl⟩ := ru
  exact SC.joinStr (I.ok.hd hc) ok fun h' k t2 hk => ⟨.str _, H, I.kept (t' := k) hk, ⟨t2, rfl⟩, q⟩
end
end L2
set_option Elab.async false
set_option linter.all false
set_option maxRecDepth 100001
set_option maxHeartbeats 3999999
namespace K38
open PySem L2
def topS (i : Nat) : Stmt := PySem.Challenge.pw_wordvault_k38_whole_counted_signs.main.body.getD i (.Pass ⟨0, 0, 0, 0⟩)
abbrev sWhole : Stmt := topS 2
abbrev sBetween : Stmt := topS 3
abbrev sPen : Stmt := topS 53
abbrev sDraw : Stmt := topS 54
abbrev sPick : Stmt := topS 55
/-! what kinds of values are met -/
inductive Kn (H : Hp) : V → Prop where
  | non : Kn H .non
  | bl (b : Bool) : Kn H (.bl b)
  | int (i : Int) : Kn H (.int i)
  | str (x : Str) : Kn H (.str x)
  | lst {a : Addr} {xs : List V} (e : H a = some (.lst xs)) : Kn H (.ref a)
  | tup {a : Addr} {xs : List V} (e : H a = some (.tup xs)) : Kn H (.ref a)
theorem Kn.same {H H2 : Hp} {v : V} (k : Kn H v) (s : Same H H2) : Kn H2 v := by
  cases k with
  | non => exact .non
  | bl b => exact .bl b
  | int i => exact .int i
  | str x => exact .str x
  | lst e => exact .lst (s _ _ e)
  | tup e => exact .tup (s _ _ e)
def isI : V → Bool
  | .int _ => true
  | _ => false
def isB : V → Bool
  | .bl _ => true
  | _ => false
def isT (H : Hp) : V → Bool
  | .ref a => match H a with
    | some (.tup _) => true
    | _ => false
  | _ => false
def isL (H : Hp) : V → Bool
  | .ref a => match H a with
    | some (.lst _) => true
    | _ => false
  | _ => false
theorem isT_lst {H : Hp} {a : Addr} {xs : List V} (e : H a = some (.lst xs)) : isT H (.ref a) = false := by simp only [isT, e]
theorem isT_tup {H : Hp} {a : Addr} {xs : List V} (e : H a = some (.tup xs)) : isT H (.ref a) = true := by simp only [isT, e]
theorem isL_lst {H : Hp} {a : Addr} {xs : List V} (e : H a = some (.lst xs)) : isL H (.ref a) = true := by simp only [isL, e]
theorem isL_tup {H : Hp} {a : Addr} {xs : List V} (e : H a = some (.tup xs)) : isL H (.ref a) = false := by simp only [isL, e]
def KT (K : PySem.W.Frag) (t : String) (bi bb bt bl : Bool) : Prop := PySem.W.kitOne K (.type t) (.type "int") = some bi ∧ PySem.W.kitOne K (.type t) (.type "bool") = some bb ∧
    PySem.W.kitOne K (.type t) (.type "tuple") = some bt ∧ PySem.W.kitOne K (.type t) (.type "list") = some bl ∧ PySem.W.kitOne K (.type t) (.type "dict") = some false
theorem kt_of {K : PySem.W.Frag} {t : String} {bi bb bt bl : Bool} (h : kitB t "int" = some bi ∧ kitB t "bool" = some bb ∧ kitB t "tuple" = some bt ∧ kitB t "list" = some bl ∧ kitB t "dict" = some false) : KT K t bi bb bt bl := h
theorem kt_non {K : PySem.W.Frag} : KT K "NoneType" false false false false := kt_of (by decide +kernel)
theorem kt_bl {K : PySem.W.Frag} : KT K "bool" true true false false := kt_of (by decide +kernel)
theorem kt_int {K : PySem.W.Frag} : KT K "int" true false false false := kt_of (by decide +kernel)
theorem kt_str {K : PySem.W.Frag} : KT K "str" false false false false := kt_of (by decide +kernel)
theorem kt_lst {K : PySem.W.Frag} : KT K "list" false false false true := kt_of (by decide +kernel)
theorem kt_tup {K : PySem.W.Frag} : KT K "tuple" false false true false := kt_of (by decide +kernel)
/-- a known value's type, and what isinstance says of it -/
theorem Kn.kinds (K : PySem.W.Frag) {H : Hp} {v : V} (k : Kn H v) : ∃ t : String, TyX K H v (.type t) ∧ KT K t (isI v || isB v) (isB v) (isT H v) (isL H v) := by
  cases k with
  | non => exact ⟨_, .base .non, kt_non⟩
  | bl b => exact ⟨_, .base (.bl b), kt_bl⟩
  | int i => exact ⟨_, .base (.int i), kt_int⟩
  | str x => exact ⟨_, .base (.str x), kt_str⟩
  | lst e =>
    rw [isT_lst e, isL_lst e]
    exact ⟨_, .base (.lst e), kt_lst⟩
  | tup e =>
    rw [isT_tup e, isL_tup e]
    exact ⟨_, .base (.tup e), kt_tup⟩
def spWhole : Sp := fun vs H Q _ => ∃ v, vs = [v] ∧ Kn H v ∧ Q (.bl (isI v)) H
def btw : V → Int → Int → Bool
  | .int i, lo, hi => decide (lo ≤ i ∧ i ≤ hi)
  | _, _, _ => false
def spBetween : Sp := fun vs H Q _ => ∃ v lo hi, vs = [v, .int lo, .int hi] ∧ Kn H v ∧ Q (.bl (btw v lo hi)) H
/-- how many items a known tuple has -/
def isTn (H : Hp) (v : V) (n : Int) : Bool := match v with
  | .ref a => match H a with
    | some (.tup xs) => decide ((xs.length : Int) = n)
    | _ => false
  | _ => false
def spTupOf : Sp := fun vs H Q _ => ∃ v n, vs = [v, .int n] ∧ Kn H v ∧ Q (.bl (isTn H v n)) H
section
variable {P : Program} {w : World} {K : PySem.W.Frag} {mg : Str → Option Value} {base : Heap}
/-- a def of the top that may be called by its name; CX: what it may let out -/
structure Cal (CX : CXT) (P : Program) (w : World) (K : PySem.W.Frag) (mg : Str → Option Value) (base : Heap) (k : Nat) (x : Str) (sp : Sp) : Prop where
  ex : ∃ (f : Addr) (fd : FuncData) (ps : List Str), FnOk P w K mg base CX k f fd ps sp ∧ mg x = some (.ref f) ∧ PySem.W.keepIn K (.ref f) = true ∧ Binds K fd ps []
/-- a method of the class at C -/
structure Met (CX : CXT) (P : Program) (w : World) (K : PySem.W.Frag) (mg : Str → Option Value) (base : Heap) (k : Nat) (C : Addr) (m : Str) (sp : Sp) : Prop where
  ex : ∃ (f : Addr) (fd : FuncData) (ps : List Str), Cls K C ∧ Meth K C m f ∧ FnOk P w K mg base CX k f fd ps sp ∧ Binds K fd ps []
/-- a class that may be made by its name -/
structure Mak (CX : CXT) (P : Program) (w : World) (K : PySem.W.Frag) (mg : Str → Option Value) (base : Heap) (k : Nat) (x : Str) (C : Addr) (sp : Sp) : Prop where
  ex : ∃ (f : Addr) (fd : FuncData) (ps : List Str), Mk K C f ∧ FnOk P w K mg base CX k f fd ps sp ∧ mg x = some (.ref C) ∧ Binds K fd ps []
section
variable {X : Cx} {CX : CXT} {k j : Nat} {C : Addr} {x m : Str} {sp : Sp} {p pos apos : Pos} {e o : Expr} {es : List Expr} {ta : TE} {t : TA} {E : XK}
theorem pe_c (c : Cal CX X.prog X.w X.K X.mg X.base k x sp) (hr : Room j X.A) (hx : Passes CX X E) (ha : PA X (e :: es) t) (hk : k ≤ j := by decide) (hg : Gl X x := by rfl) (hdb : (x == ("__debug__" : Str)) = false := by decide)
    (he : starEach (e :: es) X.env = (false, eval e X.env) :: starEach es X.env := by rfl) (hpl : (backTo pos (starEach es X.env)).any (·.1) = false := by rfl) : PE X (.Call (.Name x p) (e :: es) [] pos) (tCall sp [] E t) := by
  obtain ⟨f, fd, ps, F, hm, kp, b⟩ := c.ex
  exact pe_call F (hr.mono hk) hg hm kp b .nil hx ha hdb he hpl
theorem pe_mt (c : Met CX X.prog X.w X.K X.mg X.base k C m sp) (hr : Room j X.A) (hx : Passes CX X E) (he : PE X o ta) (ha : PA X (e :: es) t) (hk : k ≤ j := by decide) {pl : Sem Bool}
    (hst : starEach (e :: es) X.env = (false, eval e X.env) :: starEach es X.env := by rfl) (hpl : (backTo pos (starEach es X.env)).any (·.1) = false := by rfl)
    (hc : eval (.Call (.Attribute o m apos) (e :: es) [] pos) X.env = (do
      let ov ← eval o X.env
      standAt apos.atName
      let (f, first) ← holding [ov] (getMethod ov m pl)
      callWith pos f first (backTo pos (starEach (e :: es) X.env)) (backToKw pos (keywordEach [] X.env))) := by rfl) :
    PE X (.Call (.Attribute o m apos) (e :: es) [] pos) (tMeth C m sp [] E ta t) := by
  obtain ⟨f, fd, ps, cc, hm, F, b⟩ := c.ex
  exact pe_meth he cc hm F (hr.mono hk) b .nil hx ha hst hpl hc
theorem pe_mt0 (c : Met CX X.prog X.w X.K X.mg X.base k C m sp) (hr : Room j X.A) (hx : Passes CX X E) (he : PE X o ta) (hk : k ≤ j := by decide) {pl : Sem Bool}
    (hc : eval (.Call (.Attribute o m apos) [] [] pos) X.env = (do
      let ov ← eval o X.env
      standAt apos.atName
      let (f, first) ← holding [ov] (getMethod ov m pl)
      callWith pos f first (backTo pos (starEach [] X.env)) (backToKw pos (keywordEach [] X.env))) := by rfl) :
    PE X (.Call (.Attribute o m apos) [] [] pos) (tMeth C m sp [] E ta tNil) := by
  obtain ⟨f, fd, ps, cc, hm, F, b⟩ := c.ex
  exact pe_meth0 he cc hm F (hr.mono hk) b .nil hx hc
theorem pe_mk (c : Mak CX X.prog X.w X.K X.mg X.base k x C sp) (hr : Room j X.A) (hx : Passes CX X E) (ha : PA X (e :: es) t) (hk : k + 1 ≤ j := by decide) (hg : Gl X x := by rfl) (hdb : (x == ("__debug__" : Str)) = false := by decide)
    (he : starEach (e :: es) X.env = (false, eval e X.env) :: starEach es X.env := by rfl) (hpl : (backTo pos (starEach es X.env)).any (·.1) = false := by rfl) : PE X (.Call (.Name x p) (e :: es) [] pos) (tMake C sp [] E t) := by
  obtain ⟨f, fd, ps, M, F, hm, b⟩ := c.ex
  exact pe_make M F (hr.mono hk) hg hm b .nil hx ha hdb he hpl
end
/-- the built-in names that the module leaves as they are -/
structure Bi (mg : Str → Option Value) : Prop where
  isi : mg "isinstance" = none
  int : mg "int" = none
  bool : mg "bool" = none
  tuple : mg "tuple" = none
  list : mg "list" = none
  dict : mg "dict" = none
  len : mg "len" = none
  enum : mg "enumerate" = none
  range : mg "range" = none
  abs : mg "abs" = none
  max : mg "max" = none
  min : mg "min" = none
section
variable {X : Cx}
theorem pe_isi {a : Expr} {es : List Expr} {t : TA} {p pos : Pos} (hm : X.mg "isinstance" = none) (ha : PA X (a :: es) t) (hg : Gl X "isinstance" := by rfl)
    (he : starEach (a :: es) X.env = (false, eval a X.env) :: starEach es X.env := by rfl) (hpl : (backTo pos (starEach es X.env)).any (·.1) = false := by rfl) :
    PE X (.Call (.Name "isinstance" p) (a :: es) [] pos) (tCB (rIsi X.K) t) := pe_callB call_isi hg hm PyProof.Rows.boot_isinstance ha (he := he) (hpl := hpl)
theorem pe_ty (n : String) {x : Str} {p : Pos} (hm : X.mg x = none) (hv : bootBuiltins x = some (.type n) := by decide +kernel) (hg : Gl X x := by rfl) (h1 : x ≠ "__name__" := by decide) (h2 : (x == ("__debug__" : Str)) = false := by decide) : PE X (.Name x p) (tC (.ty n)) :=
  pe_bltn (v := .ty n) hg hm hv rfl h1 h2
theorem pe_len {a : Expr} {es : List Expr} {t : TA} {p pos : Pos} (hm : X.mg "len" = none) (ha : PA X (a :: es) t) (hg : Gl X "len" := by rfl) (he : starEach (a :: es) X.env = (false, eval a X.env) :: starEach es X.env := by rfl)
    (hpl : (backTo pos (starEach es X.env)).any (·.1) = false := by rfl) :
    PE X (.Call (.Name "len" p) (a :: es) [] pos) (tCB (fun xs H Q => ∃ p ys, xs = [.ref p] ∧ (SqL X.K H p ys ∨ SqT X.K H p ys) ∧ Q (.int ys.length) H) t) := pe_callB call_len_seq hg hm PySem.boot_len ha (he := he) (hpl := hpl)
theorem pa1 {a : Expr} {ta : TE} (ha : PE X a ta) (hs : starEach (a :: []) X.env = (false, eval a X.env) :: starEach [] X.env := by rfl) : PA X [a] (tCons ta tNil) := pa_cons ha pa_nil hs
end
theorem scWhole : FnScope ["value"] ["value"] (defScope sWhole) := ⟨rfl, rfl, rfl, by decide +kernel, rfl, by decide +kernel, by decide +kernel⟩
theorem ok_whole {f : Addr} {fd : FuncData} (F : Fun K "is_whole" "is_whole" sWhole f fd) (B : Bi mg) : FnOk P w K mg base CX0 1 f fd ["value"] spWhole := by
  refine F.ok scWhole (fun vs H Q E h => ?_) (fun cdv A outer s H vs Q E hr h => ?_)
  · obtain ⟨v, rfl, _⟩ := h
    rfl
  · obtain ⟨v, rfl, k, q⟩ := h
    refine ⟨_, pss_one (ps_ret (pe_and (pe_isi B.isi (pa_cons (pv 0) (pa_cons (pe_ty "int" B.int) pa_nil))) (pe_one (pe_not (pe_isi B.isi (pa_cons (pv 0) (pa_cons (pe_ty "bool" B.bool) pa_nil))))))), ?_⟩
    obtain ⟨t, ty, k1, k2, _⟩ := k.kinds K
    refine ⟨v, rfl, v, _, _, _, _, rfl, .ty "int", ty, k1, _, rfl, ?_⟩
    cases v with
    | bl b => exact ⟨_, rfl, _, _, _, _, _, rfl, .ty "bool", ty, k2, _, rfl, q⟩
    | int i => exact ⟨_, rfl, _, _, _, _, _, rfl, .ty "bool", ty, k2, _, rfl, q⟩
    | _ => exact q
theorem scBetween : FnScope ["value", "low", "high"] ["value", "low", "high"] (defScope sBetween) := ⟨rfl, rfl, rfl, by decide +kernel, rfl, by decide +kernel, by decide +kernel⟩
theorem ok_between {f : Addr} {fd : FuncData} (F : Fun K "is_between" "is_between" sBetween f fd) (cW : Cal CX0 P w K mg base 1 "is_whole" spWhole) : FnOk P w K mg base CX0 2 f fd ["value", "low", "high"] spBetween := by
  refine F.ok scBetween (fun vs H Q E h => ?_) (fun cdv A outer s H vs Q E hr h => ?_)
  · obtain ⟨v, lo, hi, rfl, _⟩ := h
    rfl
  · obtain ⟨v, lo, hi, rfl, k, q⟩ := h
    refine ⟨_, pss_one (ps_ret (pe_and (pe_c cW hr pass0 (pa_cons (pv 0) pa_nil)) (pe_one (pe_chain op_le op_le (pv 1) (pv 0) (pv 2))))), ?_⟩
    refine ⟨v, rfl, v, rfl, k, _, rfl, ?_⟩
    cases v with
    | int i =>
      refine ⟨_, rfl, _, rfl, _, _, rfl, rfl, _, rfl, ?_⟩
      by_cases c : lo ≤ i
      · rw [decide_eq_true c]
        refine ⟨_, rfl, _, _, rfl, rfl, ?_⟩
        have e : decide (i ≤ hi) = btw (.int i) lo hi := by
          show decide (i ≤ hi) = decide (lo ≤ i ∧ i ≤ hi)
          exact decide_eq_decide.mpr ⟨fun h => ⟨c, h⟩, fun h => h.2⟩
        show Q (.bl (decide (i ≤ hi))) H
        rw [e]
        exact q
      · rw [decide_eq_false c]
        have e : false = btw (.int i) lo hi := (decide_eq_false fun h => c h.1).symm
        show Q (.bl false) H
        rw [e]
        exact q
    | _ => exact q
end
theorem Same.seqT {K : PySem.W.Frag} {H H' : Hp} {a : Addr} {xs : List V} (e : Same H H') (h : SqT K H a xs) : SqT K H' a xs := by
  rcases h with (h | ⟨o, h⟩) | h
  · exact .inl (.inl (e _ _ h))
  · exact .inl (.inr ⟨o, e _ _ h⟩)
  · exact .inr h
theorem same_new {H : Hp} {p : Addr} {o : HO} (n : H p = none) : Same H (upd H p o) := fun b u e => by
  rw [upd_ne (ne_of_none e n)]
  exact e
/-- a list or a tuple of these items -/
def Sq (K : PySem.W.Frag) (H : Hp) (a : Addr) (xs : List V) : Prop := SqL K H a xs ∨ SqT K H a xs
theorem Sq.same {K : PySem.W.Frag} {H H' : Hp} {a : Addr} {xs : List V} (q : Sq K H a xs) (e : Same H H') : Sq K H' a xs := q.imp (fun h => e.seq h) fun h => Same.seqT e h
section
variable {X : Cx} {tg e : Expr} {w1 w2 : TI}
/-- a list or a tuple, item by item -/
def iSqS (K : PySem.W.Frag) (te : TE) : TI := fun σ H R => te σ H fun x H1 => ∃ a xs, x = .ref a ∧ Sq K H1 a xs ∧ ∀ (J : It) (G : Hp → Prop), Walk J xs.length G (YAt xs) → (∀ H', Same H1 H' → G H') → R J H1
open PySem.Spec PyProof.Rows in
theorem pi_sq {te : TE} (he : PE X e te) : PI X tg e (iSqS X.K te) := by
  constructor
  intro pins s σ H R I h
  refine thn (he.run pins s σ H _ I h) fun u s1 hh => ?_
  obtain ⟨v, H1, I1, r1, a, xs, ev, sq, k⟩ := hh
  subst ev
  cases r1
  have near : ∀ b ∈ [s1.heap.objs.size], FpOk X pins H1 b := fun b hb => by
    rw [List.mem_singleton.mp hb]
    exact I1.fpOk (Nat.le_refl _) (I1.hok.fresh (Nat.le_refl _))
  have J1 : ∀ o : Obj, Inv X pins σ H1 { s1 with heap := s1.heap.push o } := fun o => I1.kept (t' := s1.toks) fun b u z => Heap.get?_push_of_some _ z
  rcases sq with hq | hq
  · obtain ⟨its, rv, p1, hz⟩ := I1.list hq
    exact wpAny_pyIter_list p1.isList ⟨s1.heap.objs.size, _, _, _, H1, rfl, J1 _, turn_list a _, ⟨_, Heap.get?_push_size _ rfl, rfl, rfl⟩, near, k _ _ walk_list fun H' z => z.seq hq⟩
  · obtain ⟨its, rv, p2, hz⟩ := I1.tuple hq
    exact wpAny_pyIter_tuple (show s1.heap.IsTuple a its.toArray from p2) ⟨s1.heap.objs.size, _, _, _, H1, rfl, J1 _, turn_tuple a _, ⟨_, Heap.get?_push_size _ rfl, rfl, rfl⟩, near, k _ _ walk_tup fun H' z => Same.seqT z hq⟩
end
/-! ### None or an int -/
def Num (v : V) : Prop := v = .non ∨ ∃ i, v = .int i
def dOf : V → PyData
  | .int i => .int i
  | .bl b => .bool b
  | .str x => .str x
  | _ => .none
theorem eqv_num {a b : V} (ha : Num a) (hb : Num b) : PyData.eqv (dOf a) (dOf b) = decide (a = b) := by
  rcases ha with rfl | ⟨i, rfl⟩ <;> rcases hb with rfl | ⟨j, rfl⟩
  · simp [dOf, PyData.eqv]
  · simp [dOf, PyData.eqv]
  · simp [dOf, PyData.eqv]
  · rw [dec_int]
    simp [dOf, PyData.eqv]
theorem eqvAll_num : ∀ {xs ys : List V}, (∀ v ∈ xs, Num v) → (∀ v ∈ ys, Num v) → PyData.eqvAll (xs.map dOf) (ys.map dOf) = decide (xs = ys)
  | [], [], _, _ => by simp [PyData.eqvAll]
  | [], _ :: _, _, _ => by simp [PyData.eqvAll]
  | _ :: _, [], _, _ => by simp [PyData.eqvAll]
  | x :: xs, y :: ys, hx, hy => by
    have ih := eqvAll_num (fun v m => hx v (List.mem_cons_of_mem _ m)) fun v m => hy v (List.mem_cons_of_mem _ m)
    have e : PyData.eqvAll ((x :: xs).map dOf) ((y :: ys).map dOf) = (PyData.eqv (dOf x) (dOf y) && PyData.eqvAll (xs.map dOf) (ys.map dOf)) := by simp only [List.map_cons, PyData.eqvAll]
    rw [e, ih, eqv_num (hx x List.mem_cons_self) (hy y List.mem_cons_self)]
    by_cases h1 : x = y
    · by_cases h2 : xs = ys
      · simp [h1, h2]
      · simp [h1, h2]
    · simp [h1]
theorem dp_num {K : PySem.W.Frag} {H : Hp} {v : V} (h : Num v) : Dp K H v (dOf v) := by
  rcases h with rfl | ⟨i, rfl⟩
  · exact .non
  · exact .int i
theorem dpAll_num {K : PySem.W.Frag} {H : Hp} : ∀ {xs : List V}, (∀ v ∈ xs, Num v) → DpAll K H xs (xs.map dOf)
  | [], _ => .nil
  | x :: xs, h => .cons (dp_num (h x List.mem_cons_self)) (dpAll_num fun v m => h v (List.mem_cons_of_mem _ m))
theorem lay_num : ∀ {xs : List V}, (∀ v ∈ xs, Num v) → PyData.canLayAll0 (xs.map dOf) = true
  | [], _ => by simp [PyData.canLayAll0]
  | x :: xs, h => by
    have ih := lay_num fun v m => h v (List.mem_cons_of_mem x m)
    rw [List.map_cons, PyData.canLayAll0, ih, Bool.and_true]
    rcases h x List.mem_cons_self with rfl | ⟨i, rfl⟩ <;> simp [dOf, PyData.canLay0]
theorem depth_num : ∀ {xs : List V}, (∀ v ∈ xs, Num v) → PyData.depthAll (xs.map dOf) ≤ 1
  | [], _ => by simp [PyData.depthAll]
  | x :: xs, h => by
    have ih := depth_num fun v m => h v (List.mem_cons_of_mem x m)
    simp only [List.map_cons, PyData.depthAll]
    rcases h x List.mem_cons_self with rfl | ⟨i, rfl⟩ <;> simp only [dOf, PyData.depth] <;> omega
theorem shL_num {xs : List V} (h : ∀ v ∈ xs, Num v) : SeqAt.shaped (.list (xs.map dOf)) = true := by
  have h1 := lay_num h
  have h2 := depth_num h
  show (PyData.canLay0 (.list (xs.map dOf)) && decide (PyData.depth (.list (xs.map dOf)) ≤ 64)) = true
  rw [Bool.and_eq_true]
  refine ⟨by simp only [PyData.canLay0]; exact h1, decide_eq_true ?_⟩
  simp only [PyData.depth]
  omega
theorem shT_num {xs : List V} (h : ∀ v ∈ xs, Num v) : SeqAt.shaped (.tuple (xs.map dOf)) = true := by
  have h1 := lay_num h
  have h2 := depth_num h
  show (PyData.canLay0 (.tuple (xs.map dOf)) && decide (PyData.depth (.tuple (xs.map dOf)) ≤ 64)) = true
  rw [Bool.and_eq_true]
  refine ⟨by simp only [PyData.canLay0]; exact h1, decide_eq_true ?_⟩
  simp only [PyData.depth]
  omega
/-- two lists, or two tuples, of None and ints -/
def rEqN (K : PySem.W.Frag) (neg : Bool) : R2 := fun x y H Q => ∃ a b xs ys, x = .ref a ∧ y = .ref b ∧ ((SqL K H a xs ∧ SqL K H b ys) ∨ (SqT K H a xs ∧ SqT K H b ys)) ∧ (∀ v ∈ xs, Num v) ∧ (∀ v ∈ ys, Num v) ∧ Q (.bl (if neg then !decide (xs = ys) else decide (xs = ys))) H
section
variable {X : Cx}
theorem op_eqN (hu : X.A.units + 64 < cLine) : OpR X (compareOp .Eq) (rEqN X.K false) := by
  intro pins s σ H x y v u Q I rx ry h
  obtain ⟨a, b, xs, ys, rfl, rfl, d, nx, ny, q⟩ := h
  rcases d with ⟨d1, d2⟩ | ⟨d1, d2⟩
  · refine op_eqD hu pins s σ H _ _ v u Q I rx ry ⟨.list (xs.map dOf), .list (ys.map dOf), .lst d1 (dpAll_num nx), .lst d2 (dpAll_num ny), shL_num nx, shL_num ny, ?_⟩
    rw [show PyData.eqv (.list (xs.map dOf)) (.list (ys.map dOf)) = decide (xs = ys) by rw [← eqvAll_num nx ny]; simp only [PyData.eqv]]
    exact q
  · refine op_eqD hu pins s σ H _ _ v u Q I rx ry ⟨.tuple (xs.map dOf), .tuple (ys.map dOf), .tup d1 (dpAll_num nx), .tup d2 (dpAll_num ny), shT_num nx, shT_num ny, ?_⟩
    rw [show PyData.eqv (.tuple (xs.map dOf)) (.tuple (ys.map dOf)) = decide (xs = ys) by rw [← eqvAll_num nx ny]; simp only [PyData.eqv]]
    exact q
theorem op_neN (hu : X.A.units + 64 < cLine) : OpR X (compareOp .NotEq) (rEqN X.K true) := by
  intro pins s σ H x y v u Q I rx ry h
  obtain ⟨a, b, xs, ys, rfl, rfl, d, nx, ny, q⟩ := h
  rcases d with ⟨d1, d2⟩ | ⟨d1, d2⟩
  · refine op_neD hu pins s σ H _ _ v u Q I rx ry ⟨.list (xs.map dOf), .list (ys.map dOf), .lst d1 (dpAll_num nx), .lst d2 (dpAll_num ny), shL_num nx, shL_num ny, ?_⟩
    rw [show PyData.eqv (.list (xs.map dOf)) (.list (ys.map dOf)) = decide (xs = ys) by rw [← eqvAll_num nx ny]; simp only [PyData.eqv]]
    exact q
  · refine op_neD hu pins s σ H _ _ v u Q I rx ry ⟨.tuple (xs.map dOf), .tuple (ys.map dOf), .tup d1 (dpAll_num nx), .tup d2 (dpAll_num ny), shT_num nx, shT_num ny, ?_⟩
    rw [show PyData.eqv (.tuple (xs.map dOf)) (.tuple (ys.map dOf)) = decide (xs = ys) by rw [← eqvAll_num nx ny]; simp only [PyData.eqv]]
    exact q
/-- x == y, x an instance of the class at C with an own __eq__ -/
def rOwnEq (K : PySem.W.Frag) (C : Addr) (sp : Sp) : R2 := fun x y H Q => ∃ a dx fs tb, x = .ref a ∧ H a = some (.ins C dx fs) ∧ TyX K H y tb ∧ PySem.W.notFirst K C tb = true ∧ sp [x, y] H (fun v H' => (∃ b, v = .bl b) ∧ Q v H') E0
theorem op_ownEq {CX : CXT} {n j : Nat} {C f : Addr} {fd : FuncData} {ps : List Str} {sp : Sp} (F : FnOk X.prog X.w X.K X.mg X.base CX n f fd ps sp) (hs : PySem.W.findIn X.K (.ref C) "__eq__" = some (some (.ref f))) (hf : PySem.W.isFn X.K (.ref f) = true) (hb : Binds X.K fd ps [])
    (hx : Passes CX X E0) (hr : Room j X.A) (hj : n ≤ j) : OpR X (compareOp .Eq) (rOwnEq X.K C sp) := by
  intro pins s σ H x y v u Q I rx ry h
  obtain ⟨a, dx, fs, tb, rfl, ha, ty, nf, h⟩ := h
  have hr := hr.mono hj
  cases (show v = Value.ref a from rx)
  obtain ⟨mA, J, _⟩ := ins_get I.hok ha
  obtain ⟨od, J, _⟩ := J.look
  obtain ⟨Pz, Z, p, _⟩ := kit_of I ry ty
  obtain ⟨m, hF⟩ := I.fr
  show wpAny (model X.prog X.w) X.A (richCompare .Eq (.ref a) u) (EP X pins σ Q) X.xe s
  have hu : X.A.units < cLine := by have := hr.un; omega
  refine PySem.W.cmp_K (op := .Eq) (tb := tb) hu hF I.ok.mod.kin J (Z.ty _ _ I.kIn p) nf hs hf ?_
  have hl := F.len _ _ _ _ h
  have r2 : Vals [V.ref a, y] [Value.ref a, u] := .cons rfl (.cons ry .nil)
  refine wpAny_call (codeAny_mono (F.run X.A X.stack s H ⟨[.ref a, u], []⟩ [.ref a, u] [.ref a, y] _ E0 hr I.env0 (by
    have := hb s [.ref a, u] I.kIn (by simpa using hl)
    simpa using this) r2 h) fun r s' hq => ?_)
  cases r with
  | error e => exact hx pins σ H s e s' I hq
  | ok fl =>
    cases fl with
    | ret w =>
      obtain ⟨z, H', I', rz, ⟨b, ez⟩, q⟩ := I.after hq
      subst ez
      cases rz
      exact ⟨.bl b, H', I', rfl, q⟩
    | next => exact False.elim hq
    | brk => exact False.elim hq
    | cont => exact False.elim hq
end
theorem kit_self {K : PySem.W.Frag} {C : Addr} : PySem.W.kitOne K (.ref C) (.ref C) = some true := by
  unfold PySem.W.kitOne
  rw [if_pos (by simp)]

theorem hu64 {A : Around} {k : Nat} (hr : Room k A) : A.units + 64 < cLine := by have := hr.un; omega
theorem hu65 {A : Around} {k : Nat} (hr : Room k A) : A.units + 65 < cLine := by have := hr.un; omega
theorem small2000 {n : Nat} (h : n ≤ 2100) : n < sizeLine := Nat.lt_of_le_of_lt h (by decide)
theorem small10 {n : Nat} (h : n ≤ 10000) : n < sizeLine := Nat.lt_of_le_of_lt h (by decide)
theorem num_kn {H : Hp} {v : V} (h : Num v) : Kn H v := by
  rcases h with rfl | ⟨i, rfl⟩
  · exact .non
  · exact .int i

section
variable {X : Cx} (K : PySem.W.Frag)
theorem pe_fldK (hK : X.K = K) {e : Expr} {ta : TE} {f : Str} {pos : Pos} (he : PE X e ta) (hb : attributeBase e f X.env (eval e X.env) = eval e X.env := by rfl) : PE X (.Attribute e f pos) (tFld K ta f) := by
  subst hK
  exact pe_fld he hb
theorem ix_tupK (hK : X.K = K) : IxR X (rIxT K) := by
  subst hK
  exact ix_tup
theorem ix_listK (hK : X.K = K) : IxR X (rIxL K) := by
  subst hK
  exact ix_list
end

theorem paired_last {α β : Type} {F : α → β → Prop} : ∀ {ts : List α} {ps : List β} {p : β}, Paired F ts (ps ++ [p]) → ∃ us v, ts = us ++ [v] ∧ Paired F us ps ∧ F v p
  | _, [], _, .cons h .nil => ⟨[], _, rfl, .nil, h⟩
  | _, _ :: _, _, .cons h t =>
    let ⟨us, v, e, q1, q2⟩ := paired_last t
    ⟨_ :: us, v, by rw [e]; rfl, .cons h q1, q2⟩
section
variable {X : Cx} {tg e : Expr}
/-- a list or a tuple, item by item; it stays where its own object does -/
def iSqA (K : PySem.W.Frag) (te : TE) : TI := fun σ H R => te σ H fun x H1 => ∃ a xs, x = .ref a ∧ Sq K H1 a xs ∧ ∀ (J : It) (G : Hp → Prop), Walk J xs.length G (YAt xs) → (∀ H', (∀ o, H1 a = some o → H' a = some o) → G H') → R J H1
theorem sqL_at {K : PySem.W.Frag} {H H' : Hp} {a : Addr} {xs : List V} (h : SqL K H a xs) (e : ∀ o, H a = some o → H' a = some o) : SqL K H' a xs := by
  rcases h with (h | ⟨o, h⟩) | h
  · exact .inl (.inl (e _ h))
  · exact .inl (.inr ⟨o, e _ h⟩)
  · exact .inr h
theorem sqT_at {K : PySem.W.Frag} {H H' : Hp} {a : Addr} {xs : List V} (h : SqT K H a xs) (e : ∀ o, H a = some o → H' a = some o) : SqT K H' a xs := by
  rcases h with (h | ⟨o, h⟩) | h
  · exact .inl (.inl (e _ h))
  · exact .inl (.inr ⟨o, e _ h⟩)
  · exact .inr h
open PySem.Spec PyProof.Rows in
theorem pi_sqA {te : TE} (he : PE X e te) : PI X tg e (iSqA X.K te) := by
  constructor
  intro pins s σ H R I h
  refine thn (he.run pins s σ H _ I h) fun u s1 hh => ?_
  obtain ⟨v, H1, I1, r1, a, xs, ev, sq, k⟩ := hh
  subst ev
  cases r1
  have near : ∀ b ∈ [s1.heap.objs.size], FpOk X pins H1 b := fun b hb => by
    rw [List.mem_singleton.mp hb]
    exact I1.fpOk (Nat.le_refl _) (I1.hok.fresh (Nat.le_refl _))
  have J1 : ∀ o : Obj, Inv X pins σ H1 { s1 with heap := s1.heap.push o } := fun o => I1.kept (t' := s1.toks) fun b u z => Heap.get?_push_of_some _ z
  rcases sq with hq | hq
  · obtain ⟨its, rv, p1, hz⟩ := I1.list hq
    exact wpAny_pyIter_list p1.isList ⟨s1.heap.objs.size, _, _, _, H1, rfl, J1 _, turn_list a _, ⟨_, Heap.get?_push_size _ rfl, rfl, rfl⟩, near, k _ _ walk_list fun H' z => sqL_at hq z⟩
  · obtain ⟨its, rv, p2, hz⟩ := I1.tuple hq
    exact wpAny_pyIter_tuple (show s1.heap.IsTuple a its.toArray from p2) ⟨s1.heap.objs.size, _, _, _, H1, rfl, J1 _, turn_tuple a _, ⟨_, Heap.get?_push_size _ rfl, rfl, rfl⟩, near, k _ _ walk_tup fun H' z => sqT_at hq z⟩
end

/-! ### the law's pen -/
def penK (cl : Addr) (k left : Int) : List (Key × V) := [(.inr "cells", .ref cl), (.inr "next", .int k), (.inr "left", .int left)]
theorem valV_eq {k : Key} {v : V} {r : List (Key × V)} : valV ((k, v) :: r) k = some v := by
  unfold valV
  rw [List.find?_cons_of_pos (by simp)]
  rfl
theorem valV_ne {k j : Key} {v : V} {r : List (Key × V)} (h : ¬ j = k) : valV ((j, v) :: r) k = valV r k := by
  unfold valV
  rw [List.find?_cons_of_neg (by simpa using h)]
theorem k12 : ¬ (Sum.inr ("cells" : Str) : Key) = Sum.inr ("next" : Str) := by decide +kernel
theorem k13 : ¬ (Sum.inr ("cells" : Str) : Key) = Sum.inr ("left" : Str) := by decide +kernel
theorem k23 : ¬ (Sum.inr ("next" : Str) : Key) = Sum.inr ("left" : Str) := by decide +kernel
theorem k32 : ¬ (Sum.inr ("left" : Str) : Key) = Sum.inr ("next" : Str) := by decide +kernel
theorem pen_cells (cl : Addr) (k l : Int) : valV (penK cl k l) (.inr "cells") = some (.ref cl) := valV_eq
theorem pen_opened (cl : Addr) (k l : Int) : valV (penK cl k l) (.inr "next") = some (.int k) := (valV_ne k12).trans valV_eq
theorem pen_left (cl : Addr) (k l : Int) : valV (penK cl k l) (.inr "left") = some (.int l) := (valV_ne k13).trans ((valV_ne k23).trans valV_eq)
theorem put_opened (cl : Addr) (k l j : Int) : putK (penK cl k l) (.inr "next") (.int j) = penK cl j l := by
  unfold putK penK
  rw [if_pos (by simp)]
  simp only [List.map_cons, List.map_nil, k12, k32, if_false, if_true]
theorem put_left (cl : Addr) (k l j : Int) : putK (penK cl k l) (.inr "left") (.int j) = penK cl k j := by
  unfold putK penK
  rw [if_pos (by simp)]
  simp only [List.map_cons, List.map_nil, k13, k23, if_false, if_true]
/-- at pn: the pen, at most b cells opened -/
def Pen (H : Hp) (pn cl : Addr) (b : Nat) : Prop := ∃ (k : Nat) (l : Int) (cs : List Int), H pn = some (.dK (penK cl (k : Nat) l)) ∧ H cl = some (.lst (cs.map V.int)) ∧ k ≤ b ∧ cs.length ≤ 63
/-- all but what is at pn is as it was -/
def But (pn : Addr) (H H' : Hp) : Prop := ∀ b o, b ≠ pn → H b = some o → H' b = some o
theorem But.refl {pn : Addr} {H : Hp} : But pn H H := fun _ _ _ h => h
theorem But.trans {pn : Addr} {H H1 H2 : Hp} (a : But pn H H1) (b : But pn H1 H2) : But pn H H2 := fun c o n h => b c o n (a c o n h)
def spDraw : Sp := fun vs H Q _ => ∃ (pn cl : Addr) (m : Int) (b : Nat), vs = [.ref pn, .int m] ∧ Pen H pn cl b ∧ b ≤ 1000000 ∧ 0 < m ∧ m < 1073741824 ∧ ∀ (r : Int) H', 0 ≤ r → r < m → But pn H H' → Pen H' pn cl (b + 1) → Q (.int r) H'
def spPen (K : PySem.W.Frag) : Sp := fun vs H Q _ => ∃ (a : Addr) (ns : List Int), vs = [.ref a] ∧ SqL K H a (ns.map V.int) ∧ ∀ pn cl H', H pn = none → H cl = none → Same H H' → Pen H' pn cl 0 → Q (.ref pn) H'
section
variable {P : Program} {w : World} {K : PySem.W.Frag} {mg : Str → Option Value} {base : Heap}
theorem scPen : FnScope ["_law_script"] ["_law_script"] (defScope sPen) := ⟨rfl, rfl, rfl, by decide +kernel, rfl, by decide +kernel, by decide +kernel⟩
theorem ok_pen {f : Addr} {fd : FuncData} (F : Fun K "_law_pen_of" "_law_pen_of" sPen f fd) (B : Bi mg) : FnOk P w K mg base CX0 1 f fd ["_law_script"] (spPen K) := by
  refine F.ok scPen (fun vs H Q E h => ?_) (fun cdv A outer s H vs Q E hr h => ?_)
  · obtain ⟨a, ns, rfl, _⟩ := h
    rfl
  · obtain ⟨a, ns, rfl, hs, q⟩ := h
    refine ⟨_, pss_one (ps_ret (pe_disp (pps_cons pe_str (pe_callTy call_list_of rfl B.list (by decide +kernel) (pa_cons (pe_slice sl_list (pv 0) po_none (po_some pe_int)) pa_nil)) (pps_cons pe_str pe_int (pps_cons pe_str pe_int pps_nil))) rfl rfl (by simp) (by decide))), ?_⟩
    intro p np
    have hs2 := (same_new (o := .dK []) np).seq hs
    refine ⟨_, rfl, 63, rfl, a, _, rfl, hs2, fun c nc => ⟨c, _, rfl, .inl (SqL.of upd_same), fun l nl => ?_⟩⟩
    have npl : p ≠ l := ne_of_none ((upd_ne (ne_of_none upd_same nc)).trans upd_same) nl
    have npc : p ≠ c := ne_of_none upd_same nc
    have ec : cutV (ns.map V.int) none (some 63) = (ns.take 63).map V.int := by
      unfold cutV
      rw [show ((63 : Int)) = ((63 : Nat) : Int) from rfl, HT.sIx_nat, HT.sIx_none, List.drop_zero, Nat.sub_zero, List.length_map, ← List.map_take]
      congr 1
      by_cases c : 63 ≤ ns.length
      · rw [Nat.min_eq_left c]
      · rw [Nat.min_eq_right (by omega), List.take_of_length_le (Nat.le_refl _), List.take_of_length_le (by omega)]
    refine ⟨(upd_ne npl).trans ((upd_ne npc).trans upd_same), [(.inr "cells", .ref l), (.inr "next", .int 0), (.inr "left", .int 0)], rfl, (by show 3 ≤ 15; decide), ?_⟩
    have em : mergeK [] [((.inr ("cells" : Str) : Key), V.ref l), (.inr ("next" : Str), .int 0), (.inr ("left" : Str), .int 0)] = penK l ((0 : Nat) : Int) 0 := by
      unfold mergeK penK
      simp only [List.foldl_cons, List.foldl_nil]
      have h1 : valV ([(.inr ("cells" : Str), V.ref l)] : List (Key × V)) (.inr ("next" : Str)) = none := (valV_ne k12).trans rfl
      have h2 : valV ([(.inr ("cells" : Str), V.ref l), (.inr ("next" : Str), V.int 0)] : List (Key × V)) (.inr ("left" : Str)) = none := (valV_ne k13).trans ((valV_ne k23).trans rfl)
      rw [show putK ([] : List (Key × V)) (.inr ("cells" : Str)) (.ref l) = [(.inr ("cells" : Str), .ref l)] from rfl, putK_new _ h1]
      simp only [List.cons_append, List.nil_append]
      rw [putK_new _ h2]
      rfl
    rw [em]
    have nl0 : H l = none := by
      cases z : H l with
      | none => rfl
      | some o =>
        have z1 : upd H p (.dK []) l = some o := (upd_ne (ne_of_none z np)).trans z
        rw [(upd_ne (ne_of_none z1 nc)).trans z1] at nl
        cases nl
    refine q p l _ np nl0 (fun b o z => ?_) ⟨0, 0, ns.take 63, upd_same, ?_, Nat.le_refl _, by rw [List.length_take]; omega⟩
    · have nb : b ≠ p := ne_of_none z np
      have z1 : upd H p (.dK []) b = some o := (upd_ne nb).trans z
      have nc2 : b ≠ c := ne_of_none z1 nc
      have z2 : upd (upd H p (.dK [])) c (.lst (cutV (ns.map V.int) none (some 63))) b = some o := (upd_ne nc2).trans z1
      rw [upd_ne nb, upd_ne (ne_of_none z2 nl)]
      exact z2
    · rw [upd_ne (Ne.symm npl), upd_same, ec]
theorem getL {H : Hp} {pn cl : Addr} {k l : Int} (hp : H pn = some (.dK (penK cl k l))) : DGet H pn (.str "left") (some (.int l)) := by
  have z := DGet.k (k := .inr ("left" : Str)) hp
  rw [pen_left] at z
  exact z
theorem getO {H : Hp} {pn cl : Addr} {k l : Int} (hp : H pn = some (.dK (penK cl k l))) : DGet H pn (.str "next") (some (.int k)) := by
  have z := DGet.k (k := .inr ("next" : Str)) hp
  rw [pen_opened] at z
  exact z
theorem getC {H : Hp} {pn cl : Addr} {k l : Int} (hp : H pn = some (.dK (penK cl k l))) : DGet H pn (.str "cells") (some (.ref cl)) := by
  have z := DGet.k (k := .inr ("cells" : Str)) hp
  rw [pen_cells] at z
  exact z
theorem putL {H : Hp} {pn cl : Addr} {k l : Int} (j : Int) (hp : H pn = some (.dK (penK cl k l))) : DPut H pn (.str "left") (.int j) (upd H pn (.dK (penK cl k j))) := by
  have z := DPut.k (k := .inr ("left" : Str)) (v := .int j) hp (by show 3 < sizeLine; decide)
  rw [put_left] at z
  exact z
theorem putO' {H : Hp} {pn cl : Addr} {k l : Int} (j : Int) (hp : H pn = some (.dK (penK cl k l))) : DPut H pn (.str "next") (.int j) (upd H pn (.dK (penK cl j l))) := by
  have z := DPut.k (k := .inr ("next" : Str)) (v := .int j) hp (by show 3 < sizeLine; decide)
  rw [put_opened] at z
  exact z
theorem scDraw : FnScope ["_law_pen", "_law_many", "_law_digit", "_law_index", "_law_size", "_law_cell", "_law_mixed"] ["_law_pen", "_law_many"] (defScope sDraw) := ⟨rfl, rfl, rfl, by decide +kernel, rfl, by decide +kernel, by decide +kernel⟩
theorem mix_lt (x : Int) {m : Int} (h : 0 < m) : 0 ≤ x % m ∧ x % m < m := ⟨Int.emod_nonneg _ (by omega), Int.emod_lt_of_pos _ h⟩
section
variable {X : Cx}
theorem pe_int1 {a : Expr} {es : List Expr} {t : TA} {p pos : Pos} (hm : X.mg "int" = none) (ha : PA X (a :: es) t) (hg : Gl X "int" := by rfl) (he : starEach (a :: es) X.env = (false, eval a X.env) :: starEach es X.env := by rfl)
    (hpl : (backTo pos (starEach es X.env)).any (·.1) = false := by rfl) : PE X (.Call (.Name "int" p) (a :: es) [] pos) (tCB (fun xs H Q => (∃ i, xs = [.int i] ∧ Q (.int i) H) ∨ ∃ k, xs = [.bl k] ∧ Q (.int (if k then 1 else 0)) H) t) :=
  pe_callTy call_int1 hg hm (by decide +kernel) ha (he := he) (hpl := hpl)
theorem pe_abs {a : Expr} {es : List Expr} {t : TA} {p pos : Pos} (hm : X.mg "abs" = none) (ha : PA X (a :: es) t) (hg : Gl X "abs" := by rfl) (he : starEach (a :: es) X.env = (false, eval a X.env) :: starEach es X.env := by rfl)
    (hpl : (backTo pos (starEach es X.env)).any (·.1) = false := by rfl) : PE X (.Call (.Name "abs" p) (a :: es) [] pos) (tCB (fun xs H Q => ∃ i, xs = [.int i] ∧ Q (.int (if i < 0 then -i else i)) H) t) :=
  pe_callB call_abs hg hm (by decide +kernel) ha (he := he) (hpl := hpl)
end
theorem ok_draw {f : Addr} {fd : FuncData} (F : Fun K "_law_draw" "_law_draw" sDraw f fd) (B : Bi mg) : FnOk P w K mg base CX0 1 f fd ["_law_pen", "_law_many"] spDraw := by
  refine F.ok scDraw (fun vs H Q E h => ?_) (fun cdv A outer s H vs Q E hr h => ?_)
  · obtain ⟨pn, cl, m, b, rfl, _⟩ := h
    rfl
  · obtain ⟨pn, cl, m, b, rfl, ⟨k, l, cs, hp, hc, hk, lc⟩, hb, m0, m1, q⟩ := h
    refine ⟨_, pss_cons (ps_if (pt_cmpR op_gt (pe_dget (hu_of hr) (pv 0) pe_str (fun _ _ => rfl)) pe_int (nomark _))
        (pss_cons (ps_set (i := 2) scDraw.nd rfl (Or.inl rfl) (pe_op op_mod (pe_int1 B.int (pa_cons (pe_dget (hu_of hr) (pv 0) pe_str (fun _ _ => rfl)) pa_nil)) (pv 1)))
        (pss_cons (ps_dput (hu_of hr) (pv 0) pe_str (pe_op op_fdiv (pe_dget (hu_of hr) (pv 0) pe_str (fun _ _ => rfl)) (pv 1)) rfl) (pss_one (ps_ret (pv 2))))) pss_nil)
      (pss_cons (ps_par (i := 3) (j := 4) rfl scDraw.nd rfl rfl (by decide) rfl rfl (pa_cons (pe_dget (hu_of hr) (pv 0) pe_str (fun _ _ => rfl)) (pa_cons (pe_len B.len (pa_cons (pe_dget (hu_of hr) (pv 0) pe_str (fun _ _ => rfl)) pa_nil)) pa_nil)) rfl)
      (pss_cons (ps_dput (hu_of hr) (pv 0) pe_str (pe_op op_add (pv 3) pe_int) rfl)
      (pss_cons (ps_if (pt_cmpR op_eq (pv 4) pe_int (nomark _)) (pss_one (ps_ret (pe_op op_mod (pe_int1 B.int (pa_cons (pe_op op_add (pe_op op_mul pe_int (pv 3)) pe_int) pa_nil)) (pv 1)))) pss_nil)
      (pss_cons (ps_set (i := 5) scDraw.nd rfl (Or.inl rfl) (pe_ix ix_list (pe_dget (hu_of hr) (pv 0) pe_str (fun _ _ => rfl)) (pe_op op_mod (pe_int1 B.int (pa_cons (pv 3) pa_nil)) (pv 4)) (fun _ _ => rfl)))
      (pss_cons (ps_if (PW.pt (pw_and (pt_cmpR op_lt (pv 3) (pv 4) (nomark _)) (pw_and1 (pt_cmpR op_ge (pe_abs B.abs (pa_cons (pv 5) pa_nil)) (pe_op op_pow pe_int pe_int) (nomark _)))))
        (pss_cons (ps_dput (hu_of hr) (pv 0) pe_str (pe_op op_fdiv (pe_op op_sub (pe_abs B.abs (pa_cons (pv 5) pa_nil)) (pe_op op_pow pe_int pe_int)) (pv 1)) rfl)
        (pss_one (ps_ret (pe_op op_mod (pe_int1 B.int (pa_cons (pe_op op_sub (pe_abs B.abs (pa_cons (pv 5) pa_nil)) (pe_op op_pow pe_int pe_int)) pa_nil)) (pv 1))))) pss_nil)
      (pss_cons (ps_set (i := 6) scDraw.nd rfl (Or.inl rfl) (pe_op op_add (pe_op op_mul (pe_op op_mod (pe_int1 B.int (pa_cons (pv 5) pa_nil)) pe_int) pe_int) (pe_op op_mul (pe_op op_mul pe_int (pv 3)) (pv 3))))
      (pss_cons (ps_set (i := 6) scDraw.nd rfl (Or.inl rfl) (pe_op op_mod (pe_int1 B.int (pa_cons (pe_op op_add (pe_op op_add (pv 6) (pe_op op_mul pe_int (pv 3))) pe_int) pa_nil)) pe_int))
      (pss_cons (ps_set (i := 6) scDraw.nd rfl (Or.inl rfl) (pe_op op_mod (pe_int1 B.int (pa_cons (pe_op op_add (pe_op op_add (pe_op op_add (pe_op op_mul (pv 6) (pv 6)) (pe_op op_mul pe_int (pv 6))) (pe_op op_mul pe_int (pv 3))) pe_int) pa_nil)) pe_int))
      (pss_one (ps_ret (pe_op op_mod (pe_int1 B.int (pa_cons (pe_op op_fdiv (pe_op op_mod (pe_int1 B.int (pa_cons (pe_op op_mul (pv 6) (pe_op op_add (pv 6) pe_int)) pa_nil)) pe_int) pe_int) pa_nil)) (pv 1)))))))))))), ?_⟩
    have ncp : cl ≠ pn := ne_of hc hp (fun z => by cases z)
    refine ⟨_, rfl, pn, _, rfl, getL hp, _, _, rfl, rfl, _, rfl, ?_⟩
    refine ite2 (fun _ => ?_) fun _ => ?_
    · refine ⟨_, rfl, pn, _, rfl, getL hp, .inl ⟨_, rfl, _, rfl, _, _, rfl, rfl, m0, ?_⟩⟩
      refine ⟨_, rfl, pn, _, rfl, getL hp, _, rfl, _, _, rfl, rfl, ⟨m0, m1⟩, _, rfl, pn, _, rfl, putL _ hp, ?_⟩
      exact ⟨_, rfl, q _ _ (mix_lt _ m0).1 (mix_lt _ m0).2 (fun c o n z => (upd_ne n).trans z) ⟨k, _, cs, upd_same, (upd_ne ncp).trans hc, Nat.le_succ_of_le hk, lc⟩⟩
    · refine ⟨_, rfl, pn, _, rfl, getO hp, _, rfl, pn, _, rfl, getC hp, cl, _, rfl, .inl (SqL.of hc), _, _, rfl, ?_⟩
      refine ⟨_, rfl, _, _, rfl, rfl, _, rfl, pn, _, rfl, putO' _ hp, ?_⟩
      have ek : ((k : Nat) : Int) + 1 = ((k + 1 : Nat) : Int) := by omega
      rw [ek]
      generalize eH2 : upd H pn (.dK (penK cl ((k + 1 : Nat) : Int) l)) = H3
      have hp3 : H3 pn = some (.dK (penK cl ((k + 1 : Nat) : Int) l)) := by rw [← eH2]; exact upd_same
      have hc3 : H3 cl = some (.lst (cs.map V.int)) := by rw [← eH2]; exact (upd_ne ncp).trans hc
      have e3 : But pn H H3 := fun c o n z => by rw [← eH2]; exact (upd_ne n).trans z
      have fin : ∀ (r : Int) (H4 : Hp) (l2 : Int), 0 ≤ r → r < m → H4 = H3 ∨ H4 = upd H3 pn (.dK (penK cl ((k + 1 : Nat) : Int) l2)) → Q (.int r) H4 := fun r H4 l2 r0 r1 e4 => by
        rcases e4 with rfl | rfl
        · exact q r _ r0 r1 e3 ⟨k + 1, l, cs, hp3, hc3, Nat.succ_le_succ hk, lc⟩
        · exact q r _ r0 r1 (fun c o n z => (upd_ne n).trans (e3 c o n z)) ⟨k + 1, l2, cs, upd_same, (upd_ne ncp).trans hc3, Nat.succ_le_succ hk, lc⟩
      refine ⟨_, rfl, rfl, _, rfl, ?_⟩
      refine ite2 (fun c => ?_) fun c => ?_
      · refine ⟨_, rfl, _, _, rfl, rfl, .inl ⟨by decide, by decide⟩, ?_⟩
        refine ⟨_, _, rfl, rfl, .inl ⟨_, rfl, _, rfl, _, _, rfl, rfl, m0, ?_⟩⟩
        exact fin _ _ 0 (mix_lt _ m0).1 (mix_lt _ m0).2 (.inl rfl)
      have cne : cs ≠ [] := fun z => by
        rw [z] at c
        exact c (by decide)
      have lpos : 0 < cs.length := List.length_pos_iff.mpr cne
      refine ⟨_, rfl, pn, _, rfl, getC hp3, _, rfl, .inl ⟨_, rfl, _, rfl, _, _, rfl, rfl, (by rw [List.length_map]; omega), cl, _, _, .int (cs[k % cs.length]'(Nat.mod_lt _ lpos)), rfl, rfl, SqL.of hc3, ?_, ?_⟩⟩
      · rw [List.length_map]
        have em : ((k : Nat) : Int) % ((cs.length : Nat) : Int) = ((k % cs.length : Nat) : Int) := by omega
        rw [em]
        refine atI_nat ?_
        rw [List.getElem?_map, List.getElem?_eq_getElem (Nat.mod_lt _ lpos)]
        rfl
      generalize cs[k % cs.length]'(Nat.mod_lt _ lpos) = cell
      refine ⟨_, rfl, _, rfl, _, _, rfl, rfl, _, rfl, ?_⟩
      refine ite2 (fun _ => ?_) fun _ => iteF ?_
      refine ⟨_, rfl, _, rfl, _, _, rfl, rfl, ⟨by decide, by decide, by decide⟩, _, _, rfl, rfl, _, rfl, ?_⟩
      refine ite2 (fun _ => ?_) fun _ => ?_
      refine ⟨_, rfl, _, rfl, _, _, rfl, rfl, ⟨by decide, by decide, by decide⟩, _, _, rfl, rfl, _, rfl, _, _, rfl, rfl, ⟨m0, m1⟩, _, rfl, pn, _, rfl, putL _ hp3, ?_⟩
      refine ⟨_, rfl, _, rfl, _, _, rfl, rfl, ⟨by decide, by decide, by decide⟩, _, _, rfl, rfl, .inl ⟨_, rfl, _, rfl, _, _, rfl, rfl, m0, ?_⟩⟩
      exact fin _ _ _ (mix_lt _ m0).1 (mix_lt _ m0).2 (.inr rfl)
      all_goals
        refine ⟨_, rfl, .inl ⟨_, rfl, _, _, rfl, rfl, (by show (0 : Int) < _; decide), _, _, rfl, rfl, .inr ⟨by decide, by decide⟩, ?_⟩⟩
        refine ⟨_, rfl, _, _, rfl, rfl, .inl ⟨by decide, by decide⟩, _, rfl, _, _, rfl, rfl, .inr ⟨by omega, by omega⟩, _, _, rfl, rfl, ?_⟩
        refine ⟨_, rfl, _, rfl, _, _, rfl, rfl, .inl ⟨by decide, by decide⟩, _, _, rfl, rfl, _, _, rfl, rfl, .inl ⟨_, rfl, _, _, rfl, rfl, (by show (0 : Int) < _; decide), ?_⟩⟩
        generalize emx : (cell % 4294967197 * 52711 + 20353 * ((k : Nat) : Int) * ((k : Nat) : Int) + 1531 * ((k : Nat) : Int) + 11) % 4294967189 = mx
        have b1 : 0 ≤ mx ∧ mx < 4294967189 := by rw [← emx]; exact mix_lt _ (by decide)
        refine ⟨_, rfl, _, rfl, _, _, rfl, rfl, .inl ⟨by omega, by omega⟩, ?_⟩
        refine ⟨_, rfl, _, _, rfl, rfl, .inl ⟨by decide, by decide⟩, _, _, rfl, rfl, _, rfl, _, _, rfl, rfl, .inl ⟨by decide, by decide⟩, _, _, rfl, rfl, _, _, rfl, rfl, .inl ⟨_, rfl, _, _, rfl, rfl, (by show (0 : Int) < _; decide), ?_⟩⟩
        generalize emy : (mx * mx + 68903 * mx + 23 * ((k : Nat) : Int) + 7) % 4294967161 = my
        have b2 : 0 ≤ my ∧ my < 4294967161 := by rw [← emy]; exact mix_lt _ (by decide)
        refine ⟨_, rfl, _, rfl, _, _, rfl, rfl, _, _, rfl, rfl, .inl ⟨by omega, by omega⟩, .inl ⟨_, rfl, _, _, rfl, rfl, (by show (0 : Int) < _; decide), _, _, rfl, rfl, ⟨by decide, by decide⟩, .inl ⟨_, rfl, _, rfl, _, _, rfl, rfl, m0, ?_⟩⟩⟩
        exact fin _ _ 0 (mix_lt _ m0).1 (mix_lt _ m0).2 (.inl rfl)
end
def spPick : Sp := fun vs H Q _ => ∃ (pn cl s : Addr) (xs : List V) (b : Nat), vs = [.ref pn, .ref s] ∧ Pen H pn cl b ∧ b ≤ 1000000 ∧ H s = some (.lst xs) ∧ 0 < xs.length ∧ xs.length ≤ 1000 ∧ ∀ x H', x ∈ xs → But pn H H' → Pen H' pn cl (b + 1) → Q x H'
theorem Pen.mono {H : Hp} {pn cl : Addr} {b c : Nat} (h : Pen H pn cl b) (e : b ≤ c) : Pen H pn cl c := let ⟨k, l, cs, h1, h2, h3, h4⟩ := h; ⟨k, l, cs, h1, h2, Nat.le_trans h3 e, h4⟩
theorem Pen.same {H H' : Hp} {pn cl : Addr} {b : Nat} (h : Pen H pn cl b) (e : Same H H') : Pen H' pn cl b := let ⟨k, l, cs, h1, h2, h3, h4⟩ := h; ⟨k, l, cs, e _ _ h1, e _ _ h2, h3, h4⟩
theorem Pen.ne {H : Hp} {pn cl a : Addr} {b : Nat} {o : HO} (h : Pen H pn cl b) (ha : H a = some o) (d : ∀ kvs, o ≠ .dK kvs) : a ≠ pn := let ⟨_, _, _, h1, _⟩ := h; ne_of ha h1 (d _)
/-- the pen stays where another object is written -/
theorem Pen.upd {H : Hp} {pn cl a : Addr} {b : Nat} {o : HO} (h : Pen H pn cl b) (n1 : pn ≠ a) (n2 : cl ≠ a) : Pen (L2.upd H a o) pn cl b := let ⟨k, l, cs, h1, h2, h3, h4⟩ := h; ⟨k, l, cs, (upd_ne n1).trans h1, (upd_ne n2).trans h2, h3, h4⟩
theorem Pen.off {H : Hp} {pn cl a : Addr} {b : Nat} (h : Pen H pn cl b) (n : H a = none) : pn ≠ a ∧ cl ≠ a := let ⟨_, _, _, h1, h2, _⟩ := h; ⟨ne_of_none h1 n, ne_of_none h2 n⟩
theorem same_but {pn : Addr} {H H' : Hp} (e : Same H H') : But pn H H' := fun b o _ h => e b o h
section
variable {P : Program} {w : World} {K : PySem.W.Frag} {mg : Str → Option Value} {base : Heap}
theorem scPick : FnScope ["_law_pen", "_law_items"] ["_law_pen", "_law_items"] (defScope sPick) := ⟨rfl, rfl, rfl, by decide +kernel, rfl, by decide +kernel, by decide +kernel⟩
theorem ok_pick {f : Addr} {fd : FuncData} (F : Fun K "_law_pick" "_law_pick" sPick f fd) (B : Bi mg) (cD : Cal CX0 P w K mg base 1 "_law_draw" spDraw) : FnOk P w K mg base CX0 2 f fd ["_law_pen", "_law_items"] spPick := by
  refine F.ok scPick (fun vs H Q E h => ?_) (fun cdv A outer s H vs Q E hr h => ?_)
  · obtain ⟨pn, cl, s, xs, b, rfl, _⟩ := h
    rfl
  · obtain ⟨pn, cl, s0, xs, b, rfl, pen, hb, hs, l0, l1, q⟩ := h
    refine ⟨_, pss_one (ps_ret (pe_ix ix_list (pv 1) (pe_c cD hr pass0 (pa_cons (pv 0) (pa_cons (pe_len B.len (pa_cons (pv 1) pa_nil)) pa_nil))) (fun _ _ => rfl))), ?_⟩
    refine ⟨_, rfl, _, rfl, _, rfl, s0, xs, rfl, .inl (SqL.of hs), pn, cl, _, b, rfl, pen, hb, by omega, by omega, fun r H' r0 r1 e pen2 => ?_⟩
    obtain ⟨r, rfl⟩ := Int.eq_ofNat_of_zero_le r0
    have lt : r < xs.length := by omega
    exact ⟨s0, xs, _, xs[r], rfl, rfl, SqL.of (e _ _ (pen.ne hs fun _ z => by cases z) hs), atI_nat (List.getElem?_eq_getElem lt), q _ _ (List.getElem_mem lt) e pen2⟩
end
def Flat : V → Prop
  | .non | .bl _ | .int _ => True
  | .str x => PyData.strOk x = true
  | _ => False
theorem dp_flat {K : PySem.W.Frag} {H : Hp} {v : V} (h : Flat v) : Dp K H v (dOf v) := by
  cases v with
  | non => exact .non
  | bl b => exact .bl b
  | int i => exact .int i
  | str x => exact .str x
  | _ => exact h.elim
theorem dpAll_flat {K : PySem.W.Frag} {H : Hp} : ∀ {xs : List V}, (∀ v ∈ xs, Flat v) → DpAll K H xs (xs.map dOf)
  | [], _ => .nil
  | x :: xs, h => .cons (dp_flat (h x List.mem_cons_self)) (dpAll_flat fun v m => h v (List.mem_cons_of_mem _ m))
theorem lay_flat : ∀ {xs : List V}, (∀ v ∈ xs, Flat v) → PyData.canLayAll0 (xs.map dOf) = true
  | [], _ => by simp [PyData.canLayAll0]
  | x :: xs, h => by
    have ih := lay_flat fun v m => h v (List.mem_cons_of_mem x m)
    have hx := h x List.mem_cons_self
    rw [List.map_cons, PyData.canLayAll0, ih, Bool.and_true]
    cases x <;> simp [dOf, PyData.canLay0, Flat] at hx ⊢
    exact hx
theorem depth_flat : ∀ (xs : List V), PyData.depthAll (xs.map dOf) ≤ 1
  | [] => by simp [PyData.depthAll]
  | x :: xs => by
    have ih := depth_flat xs
    simp only [List.map_cons, PyData.depthAll]
    cases x <;> simp only [dOf, PyData.depth] <;> omega
theorem shT_flat {xs : List V} (h : ∀ v ∈ xs, Flat v) : SeqAt.shaped (.tuple (xs.map dOf)) = true := by
  have h1 := lay_flat h
  have h2 := depth_flat xs
  show (PyData.canLay0 (.tuple (xs.map dOf)) && decide (PyData.depth (.tuple (xs.map dOf)) ≤ 64)) = true
  rw [Bool.and_eq_true]
  refine ⟨by simp only [PyData.canLay0]; exact h1, decide_eq_true ?_⟩
  simp only [PyData.depth]
  omega
/-- two tuples with the same flat items -/
def rSm (b : Bool) : R2 := fun x y H Q => ∃ s t us, x = .ref s ∧ y = .ref t ∧ H s = some (.tup us) ∧ H t = some (.tup us) ∧ (∀ v ∈ us, Flat v) ∧ Q (.bl b) H
section
variable {X : Cx}
theorem op_neSm (hu : X.A.units + 64 < cLine) : OpR X (compareOp .NotEq) (rSm false) := by
  intro pins s σ H x y v u Q I rx ry h
  obtain ⟨a, b, us, rfl, rfl, d1, d2, f, q⟩ := h
  have sh := shT_flat f
  refine op_neD hu pins s σ H _ _ v u Q I rx ry ⟨_, _, .tup (SqT.of d1) (dpAll_flat f), .tup (SqT.of d2) (dpAll_flat f), sh, sh, ?_⟩
  rw [SeqAt.eqv_refl _ (Bool.and_eq_true_iff.mp sh).1]
  exact q
theorem op_eqSm (hu : X.A.units + 64 < cLine) : OpR X (compareOp .Eq) (rSm true) := by
  intro pins s σ H x y v u Q I rx ry h
  obtain ⟨a, b, us, rfl, rfl, d1, d2, f, q⟩ := h
  have sh := shT_flat f
  refine op_eqD hu pins s σ H _ _ v u Q I rx ry ⟨_, _, .tup (SqT.of d1) (dpAll_flat f), .tup (SqT.of d2) (dpAll_flat f), sh, sh, ?_⟩
  rw [SeqAt.eqv_refl _ (Bool.and_eq_true_iff.mp sh).1]
  exact q
end
theorem cut_to {xs : List V} {k : Nat} (h : k ≤ xs.length) : cutV xs none (some (k : Int)) = xs.take k := by
  unfold cutV
  rw [HT.sIx_nat, HT.sIx_none, List.drop_zero, Nat.sub_zero, Nat.min_eq_left h]
theorem cut_from {xs : List V} {k : Nat} (h : k ≤ xs.length) : cutV xs (some (k : Int)) none = xs.drop k := by
  unfold cutV
  rw [HT.sIx_nat, HT.sIx_none, Nat.min_eq_left h, List.take_of_length_le (by rw [List.length_drop]; exact Nat.le_refl _)]
theorem kn_flat {H : Hp} {v : V} (h : Flat v) : Kn H v := by
  cases v with
  | non => exact .non
  | bl b => exact .bl b
  | int i => exact .int i
  | str x => exact .str x
  | _ => exact h.elim
theorem flat_ref {v : V} (h : Flat v) : ∀ b, v ≠ .ref b := fun b e => by
  rw [e] at h
  exact h
end K38
set_option Elab.async false
set_option linter.all false
set_option maxRecDepth 100001
set_option maxHeartbeats 3999999
namespace K38
open PySem L2
abbrev sFrom : Stmt := topS 4
abbrev sCopied : Stmt := topS 6
abbrev sTMany : Stmt := inClass (topS 10) 0
abbrev sBBits : Stmt := inClass (topS 12) 0
abbrev sBTally : Stmt := inClass (topS 13) 0
abbrev sBLen : Stmt := inClass (topS 14) 0
abbrev sNFull : Stmt := inClass (topS 15) 0
abbrev sBegins : Stmt := inClass (topS 16) 0
abbrev sOSize : Stmt := inClass (topS 17) 0
def spCopied : Sp := fun vs H Q _ => ∃ v, vs = [v] ∧ Flat v ∧ Q v H
section
variable {P : Program} {w : World} {K : PySem.W.Frag} {mg : Str → Option Value} {base : Heap}
theorem scCopied : FnScope ["value", "part", "key"] ["value"] (defScope sCopied) := ⟨rfl, rfl, rfl, by decide +kernel, rfl, by decide +kernel, by decide +kernel⟩
theorem ok_copied {f : Addr} {fd : FuncData} (F : Fun K "copied" "copied" sCopied f fd) (B : Bi mg) : FnOk P w K mg base CX0 1 f fd ["value"] spCopied := by
  refine F.ok scCopied (fun vs H Q E h => ?_) (fun cdv A outer s H vs Q E hr h => ?_)
  · obtain ⟨v, rfl, _⟩ := h
    rfl
  · obtain ⟨v, rfl, fl, q⟩ := h
    refine ⟨_, pss_cons (ps_if (pt_val (pe_isi B.isi (pa_cons (pv 0) (pa_cons (pe_ty "list" B.list) pa_nil)))) pss_never pss_nil) (pss_cons (ps_if (pt_val (pe_isi B.isi (pa_cons (pv 0) (pa_cons (pe_ty "tuple" B.tuple) pa_nil)))) pss_never pss_nil)
      (pss_cons (ps_if (pt_val (pe_isi B.isi (pa_cons (pv 0) (pa_cons (pe_ty "dict" B.dict) pa_nil)))) pss_never pss_nil) (pss_one (ps_ret (pv 0))))), ?_⟩
    obtain ⟨t, ty, _, _, k3, k4, k5⟩ := (kn_flat (H := H) fl).kinds K
    have f3 : isT H v = false := by cases v <;> first | rfl | exact fl.elim
    have f4 : isL H v = false := by cases v <;> first | rfl | exact fl.elim
    rw [f3] at k3
    rw [f4] at k4
    exact ⟨v, rfl, v, _, _, _, _, rfl, .ty "list", ty, k4, _, rfl, iteF ⟨v, rfl, v, _, _, _, _, rfl, .ty "tuple", ty, k3, _, rfl, iteF ⟨v, rfl, v, _, _, _, _, rfl, .ty "dict", ty, k5, _, rfl, iteF ⟨v, rfl, q⟩⟩⟩⟩
def frm : V → Int → Bool
  | .int i, lo => decide (lo ≤ i)
  | _, _ => false
def spFrom : Sp := fun vs H Q _ => ∃ v lo, vs = [v, .int lo] ∧ Kn H v ∧ Q (.bl (frm v lo)) H
theorem scFrom : FnScope ["value", "low"] ["value", "low"] (defScope sFrom) := ⟨rfl, rfl, rfl, by decide +kernel, rfl, by decide +kernel, by decide +kernel⟩
theorem ok_from {f : Addr} {fd : FuncData} (F : Fun K "is_from" "is_from" sFrom f fd) (cW : Cal CX0 P w K mg base 1 "is_whole" spWhole) : FnOk P w K mg base CX0 2 f fd ["value", "low"] spFrom := by
  refine F.ok scFrom (fun vs H Q E h => ?_) (fun cdv A outer s H vs Q E hr h => ?_)
  · obtain ⟨v, lo, rfl, _⟩ := h
    rfl
  · obtain ⟨v, lo, rfl, k, q⟩ := h
    refine ⟨_, pss_one (ps_ret (pe_and (pe_c cW hr pass0 (pa_cons (pv 0) pa_nil)) (pe_one (pe_cmpR op_le (pv 1) (pv 0) (nomark _))))), ?_⟩
    refine ⟨v, rfl, v, rfl, k, _, rfl, ?_⟩
    cases v with
    | int i => exact ⟨_, rfl, _, rfl, _, _, rfl, rfl, q⟩
    | _ => exact q
end
/-- an exception of three flat fields -/
def spX3 (K : PySem.W.Frag) (f g h : Str) : Sp := fun vs H Q _ => ∃ (a C : Addr) (u v w : V), vs = [.ref a, u, v, w] ∧ OexC K C ∧ PySem.W.findIn K (.ref C) f = some none ∧ PySem.W.findIn K (.ref C) g = some none ∧ PySem.W.findIn K (.ref C) h = some none ∧
  Flat u ∧ Flat v ∧ Flat w ∧ H a = some (exo a C none) ∧
  ∀ dx H', H dx = none → dx ≠ a → (∀ b, b ≠ a → b ≠ dx → H' b = H b) → H' a = some (exo a C (some dx)) → H' dx = some (exd dx [(h, w), (g, v), (f, u)]) → Q .non H'
def spX0 : Sp := fun vs H Q _ => ∃ a : Addr, vs = [.ref a] ∧ Q .non H
/-- an exception of one flat field -/
def spX1 (K : PySem.W.Frag) (f : Str) : Sp := fun vs H Q _ => ∃ (a C : Addr) (u : V), vs = [.ref a, u] ∧ OexC K C ∧ PySem.W.findIn K (.ref C) f = some none ∧ Flat u ∧ H a = some (exo a C none) ∧
  ∀ dx H', H dx = none → dx ≠ a → (∀ b, b ≠ a → b ≠ dx → H' b = H b) → H' a = some (exo a C (some dx)) → H' dx = some (exd dx [(f, u)]) → Q .non H'
/-- an exception of two flat fields -/
def spX2 (K : PySem.W.Frag) (f g : Str) : Sp := fun vs H Q _ => ∃ (a C : Addr) (u v : V), vs = [.ref a, u, v] ∧ OexC K C ∧ PySem.W.findIn K (.ref C) f = some none ∧ PySem.W.findIn K (.ref C) g = some none ∧ Flat u ∧ Flat v ∧ H a = some (exo a C none) ∧
  ∀ dx H', H dx = none → dx ≠ a → (∀ b, b ≠ a → b ≠ dx → H' b = H b) → H' a = some (exo a C (some dx)) → H' dx = some (exd dx [(g, v), (f, u)]) → Q .non H'
section
variable {P : Program} {w : World} {K : PySem.W.Frag} {mg : Str → Option Value} {base : Heap}
theorem scTMany : FnScope ["self", "what", "many", "most"] ["self", "what", "many", "most"] (defScope sTMany) := ⟨rfl, rfl, rfl, by decide +kernel, rfl, by decide +kernel, by decide +kernel⟩
theorem ok_TMany {f : Addr} {fd : FuncData} (F : Fun K "__init__" "TooMany.__init__" sTMany f fd) (cC : Cal CX0 P w K mg base 1 "copied" spCopied) : FnOk P w K mg base CX0 2 f fd ["self", "what", "many", "most"] (spX3 K "what" "many" "most") := by
  refine F.ok scTMany (fun vs H Q E h => ?_) (fun cdv A outer s H vs Q E hr h => ?_)
  · obtain ⟨a, C, u, v, z, rfl, _⟩ := h
    rfl
  · obtain ⟨a, C, u, v, z, rfl, T, n1, n2, n3, k1, k2, k3, ha, q⟩ := h
    refine ⟨_, pss_cons (ps_ost (pv 0) (pe_c cC hr pass0 (pa_cons (pv 1) pa_nil))) (pss_cons (ps_ost (pv 0) (pe_c cC hr pass0 (pa_cons (pv 2) pa_nil))) (pss_one (ps_ost (pv 0) (pe_c cC hr pass0 (pa_cons (pv 3) pa_nil))))), ?_⟩
    refine ⟨u, rfl, u, rfl, k1, _, rfl, a, C, rfl, T, n1, .inl ⟨ha, fun dx nd na => ?_⟩⟩
    refine ⟨v, rfl, v, rfl, k2, _, rfl, a, C, rfl, T, n2, .inr ⟨dx, _, upd_same, by rw [upd_ne na]; exact upd_same, by show 1 ≤ 900; decide, ?_⟩⟩
    refine ⟨z, rfl, z, rfl, k3, _, rfl, a, C, rfl, T, n3, .inr ⟨dx, _, by rw [upd_ne (Ne.symm na)]; exact upd_same, upd_same, by show 2 ≤ 900; decide, ?_⟩⟩
    refine q dx _ nd na (fun b h1 h2 => ?_) ?_ upd_same
    · rw [upd_ne h2, upd_ne h2, upd_ne h1, upd_ne h2]
    · rw [upd_ne (Ne.symm na), upd_ne (Ne.symm na)]
      exact upd_same
theorem scBBits : FnScope ["self", "index"] ["self", "index"] (defScope sBBits) := ⟨rfl, rfl, rfl, by decide +kernel, rfl, by decide +kernel, by decide +kernel⟩
theorem ok_BBits {f : Addr} {fd : FuncData} (F : Fun K "__init__" "BadBits.__init__" sBBits f fd) (cC : Cal CX0 P w K mg base 1 "copied" spCopied) : FnOk P w K mg base CX0 2 f fd ["self", "index"] (spX1 K "index") := by
  refine F.ok scBBits (fun vs H Q E h => ?_) (fun cdv A outer s H vs Q E hr h => ?_)
  · obtain ⟨a, C, u, rfl, _⟩ := h
    rfl
  · obtain ⟨a, C, u, rfl, T, n1, k1, ha, q⟩ := h
    refine ⟨_, pss_one (ps_ost (pv 0) (pe_c cC hr pass0 (pa_cons (pv 1) pa_nil))), ?_⟩
    refine ⟨u, rfl, u, rfl, k1, _, rfl, a, C, rfl, T, n1, .inl ⟨ha, fun dx nd na => ?_⟩⟩
    refine q dx _ nd na (fun b h1 h2 => ?_) upd_same ?_
    · rw [upd_ne h1, upd_ne h2]
    · rw [upd_ne na]
      exact upd_same
theorem scBTally : FnScope ["self", "index"] ["self", "index"] (defScope sBTally) := ⟨rfl, rfl, rfl, by decide +kernel, rfl, by decide +kernel, by decide +kernel⟩
theorem ok_BTally {f : Addr} {fd : FuncData} (F : Fun K "__init__" "BadTally.__init__" sBTally f fd) (cC : Cal CX0 P w K mg base 1 "copied" spCopied) : FnOk P w K mg base CX0 2 f fd ["self", "index"] (spX1 K "index") := by
  refine F.ok scBTally (fun vs H Q E h => ?_) (fun cdv A outer s H vs Q E hr h => ?_)
  · obtain ⟨a, C, u, rfl, _⟩ := h
    rfl
  · obtain ⟨a, C, u, rfl, T, n1, k1, ha, q⟩ := h
    refine ⟨_, pss_one (ps_ost (pv 0) (pe_c cC hr pass0 (pa_cons (pv 1) pa_nil))), ?_⟩
    refine ⟨u, rfl, u, rfl, k1, _, rfl, a, C, rfl, T, n1, .inl ⟨ha, fun dx nd na => ?_⟩⟩
    refine q dx _ nd na (fun b h1 h2 => ?_) upd_same ?_
    · rw [upd_ne h1, upd_ne h2]
    · rw [upd_ne na]
      exact upd_same
theorem scBLen : FnScope ["self", "index"] ["self", "index"] (defScope sBLen) := ⟨rfl, rfl, rfl, by decide +kernel, rfl, by decide +kernel, by decide +kernel⟩
theorem ok_BLen {f : Addr} {fd : FuncData} (F : Fun K "__init__" "BadLength.__init__" sBLen f fd) (cC : Cal CX0 P w K mg base 1 "copied" spCopied) : FnOk P w K mg base CX0 2 f fd ["self", "index"] (spX1 K "index") := by
  refine F.ok scBLen (fun vs H Q E h => ?_) (fun cdv A outer s H vs Q E hr h => ?_)
  · obtain ⟨a, C, u, rfl, _⟩ := h
    rfl
  · obtain ⟨a, C, u, rfl, T, n1, k1, ha, q⟩ := h
    refine ⟨_, pss_one (ps_ost (pv 0) (pe_c cC hr pass0 (pa_cons (pv 1) pa_nil))), ?_⟩
    refine ⟨u, rfl, u, rfl, k1, _, rfl, a, C, rfl, T, n1, .inl ⟨ha, fun dx nd na => ?_⟩⟩
    refine q dx _ nd na (fun b h1 h2 => ?_) upd_same ?_
    · rw [upd_ne h1, upd_ne h2]
    · rw [upd_ne na]
      exact upd_same
theorem scBegins : FnScope ["self", "index", "other"] ["self", "index", "other"] (defScope sBegins) := ⟨rfl, rfl, rfl, by decide +kernel, rfl, by decide +kernel, by decide +kernel⟩
theorem ok_Begins {f : Addr} {fd : FuncData} (F : Fun K "__init__" "Begins.__init__" sBegins f fd) (cC : Cal CX0 P w K mg base 1 "copied" spCopied) : FnOk P w K mg base CX0 2 f fd ["self", "index", "other"] (spX2 K "index" "other") := by
  refine F.ok scBegins (fun vs H Q E h => ?_) (fun cdv A outer s H vs Q E hr h => ?_)
  · obtain ⟨a, C, u, v, rfl, _⟩ := h
    rfl
  · obtain ⟨a, C, u, v, rfl, T, n1, n2, k1, k2, ha, q⟩ := h
    refine ⟨_, pss_cons (ps_ost (pv 0) (pe_c cC hr pass0 (pa_cons (pv 1) pa_nil))) (pss_one (ps_ost (pv 0) (pe_c cC hr pass0 (pa_cons (pv 2) pa_nil)))), ?_⟩
    refine ⟨u, rfl, u, rfl, k1, _, rfl, a, C, rfl, T, n1, .inl ⟨ha, fun dx nd na => ?_⟩⟩
    refine ⟨v, rfl, v, rfl, k2, _, rfl, a, C, rfl, T, n2, .inr ⟨dx, _, upd_same, by rw [upd_ne na]; exact upd_same, by show 1 ≤ 900; decide, ?_⟩⟩
    refine q dx _ nd na (fun b h1 h2 => ?_) ?_ upd_same
    · rw [upd_ne h2, upd_ne h1, upd_ne h2]
    · rw [upd_ne (Ne.symm na)]
      exact upd_same
theorem scOSize : FnScope ["self", "many", "wanted"] ["self", "many", "wanted"] (defScope sOSize) := ⟨rfl, rfl, rfl, by decide +kernel, rfl, by decide +kernel, by decide +kernel⟩
theorem ok_OSize {f : Addr} {fd : FuncData} (F : Fun K "__init__" "OtherSize.__init__" sOSize f fd) (cC : Cal CX0 P w K mg base 1 "copied" spCopied) : FnOk P w K mg base CX0 2 f fd ["self", "many", "wanted"] (spX2 K "many" "wanted") := by
  refine F.ok scOSize (fun vs H Q E h => ?_) (fun cdv A outer s H vs Q E hr h => ?_)
  · obtain ⟨a, C, u, v, rfl, _⟩ := h
    rfl
  · obtain ⟨a, C, u, v, rfl, T, n1, n2, k1, k2, ha, q⟩ := h
    refine ⟨_, pss_cons (ps_ost (pv 0) (pe_c cC hr pass0 (pa_cons (pv 1) pa_nil))) (pss_one (ps_ost (pv 0) (pe_c cC hr pass0 (pa_cons (pv 2) pa_nil)))), ?_⟩
    refine ⟨u, rfl, u, rfl, k1, _, rfl, a, C, rfl, T, n1, .inl ⟨ha, fun dx nd na => ?_⟩⟩
    refine ⟨v, rfl, v, rfl, k2, _, rfl, a, C, rfl, T, n2, .inr ⟨dx, _, upd_same, by rw [upd_ne na]; exact upd_same, by show 1 ≤ 900; decide, ?_⟩⟩
    refine q dx _ nd na (fun b h1 h2 => ?_) ?_ upd_same
    · rw [upd_ne h2, upd_ne h1, upd_ne h2]
    · rw [upd_ne (Ne.symm na)]
      exact upd_same
theorem scNFull : FnScope ["self"] ["self"] (defScope sNFull) := ⟨rfl, rfl, rfl, by decide +kernel, rfl, by decide +kernel, by decide +kernel⟩
theorem ok_NFull {f : Addr} {fd : FuncData} (F : Fun K "__init__" "NotFull.__init__" sNFull f fd) : FnOk P w K mg base CX0 1 f fd ["self"] spX0 := by
  refine F.ok scNFull (fun vs H Q E h => ?_) (fun cdv A outer s H vs Q E hr h => ?_)
  · obtain ⟨a, rfl, _⟩ := h
    rfl
  · obtain ⟨a, rfl, q⟩ := h
    exact ⟨_, pss_one ps_pass, q⟩
end
/-- behind a raise: all that was there, and the error's fields at d -/
structure Rsd (H H' : Hp) (d : Addr) (fs : List (Str × V)) : Prop where
  new : H d = none
  same : Same H H'
  at_ : H' d = some (.xd fs)
theorem rsd_of {H H2 : Hp} {a d C : Addr} {fs : List (Str × V)} (na : H a = none) (nd : H d = none) (h : ∀ b, b ≠ a → b ≠ d → H2 b = H b) : Rsd H (upd (del H2 a) d (.xd fs)) d fs :=
  ⟨nd, fun b o e => by
    rw [upd_ne (ne_of_none e nd), del_ne (ne_of_none e na), h b (ne_of_none e na) (ne_of_none e nd)]
    exact e, upd_same⟩
theorem raise3 {H : Hp} {C : Addr} {f g h : Str} {u v z : V} {R : XK} {K : PySem.W.Frag} (T : OexC K C) (n1 : PySem.W.findIn K (.ref C) f = some none) (n2 : PySem.W.findIn K (.ref C) g = some none) (n3 : PySem.W.findIn K (.ref C) h = some none)
    (k1 : Flat u) (k2 : Flat v) (k3 : Flat z) (r : ∀ d H', Rsd H H' d [(h, z), (g, v), (f, u)] → R (.ref C) (some d) H') :
    ([u, v, z] : List V).length ≤ 1000 ∧ ∀ a, H a = none → spX3 K f g h (.ref a :: ([u, v, z] ++ [])) (upd H a (exo a C none)) (fun y H2 => y = .non ∧ ∃ (d : Addr) (fs : List (Str × V)), H2 a = some (exo a C (some d)) ∧ H2 d = some (exd d fs) ∧ H d = none ∧ R (.ref C) (some d) (upd (del H2 a) d (.xd fs))) (fun _ _ _ => False) := by
  refine ⟨by show 3 ≤ 1000; decide, fun a na => ⟨a, C, u, v, z, rfl, T, n1, n2, n3, k1, k2, k3, upd_same, fun dx H' nd ne hk ha hd => ⟨rfl, dx, _, ha, hd, ?_, r _ _ ?_⟩⟩⟩
  · rw [upd_ne ne] at nd
    exact nd
  · refine rsd_of (C := C) na (by rw [upd_ne ne] at nd; exact nd) fun b h1 h2 => ?_
    rw [hk b h1 h2, upd_ne h1]
theorem raise0 {H : Hp} {C : Addr} {R : XK} {K : PySem.W.Frag} (r : ∀ H', Same H H' → R (.ref C) none H') :
    ∀ a, H a = none → spX0 [.ref a] (upd H a (exo a C none)) (fun v H2 => v = .non ∧ H2 a = some (exo a C none) ∧ R (.ref C) none (del H2 a)) (fun _ _ _ => False) := fun a na =>
  ⟨a, rfl, rfl, upd_same, r _ fun b o e => by rw [del_ne (ne_of_none e na), upd_ne (ne_of_none e na)]; exact e⟩
theorem raise2 {H : Hp} {C : Addr} {f g : Str} {u v : V} {R : XK} {K : PySem.W.Frag} (T : OexC K C) (n1 : PySem.W.findIn K (.ref C) f = some none) (n2 : PySem.W.findIn K (.ref C) g = some none)
    (k1 : Flat u) (k2 : Flat v) (r : ∀ d H', Rsd H H' d [(g, v), (f, u)] → R (.ref C) (some d) H') :
    ([u, v] : List V).length ≤ 1000 ∧ ∀ a, H a = none → spX2 K f g (.ref a :: ([u, v] ++ [])) (upd H a (exo a C none)) (fun y H2 => y = .non ∧ ∃ (d : Addr) (fs : List (Str × V)), H2 a = some (exo a C (some d)) ∧ H2 d = some (exd d fs) ∧ H d = none ∧ R (.ref C) (some d) (upd (del H2 a) d (.xd fs))) (fun _ _ _ => False) := by
  refine ⟨by show 2 ≤ 1000; decide, fun a na => ⟨a, C, u, v, rfl, T, n1, n2, k1, k2, upd_same, fun dx H' nd ne hk ha hd => ⟨rfl, dx, _, ha, hd, ?_, r _ _ ?_⟩⟩⟩
  · rw [upd_ne ne] at nd
    exact nd
  · refine rsd_of (C := C) na (by rw [upd_ne ne] at nd; exact nd) fun b h1 h2 => ?_
    rw [hk b h1 h2, upd_ne h1]
theorem raise1 {H : Hp} {C : Addr} {f : Str} {u : V} {R : XK} {K : PySem.W.Frag} (T : OexC K C) (n1 : PySem.W.findIn K (.ref C) f = some none)
    (k1 : Flat u) (r : ∀ d H', Rsd H H' d [(f, u)] → R (.ref C) (some d) H') :
    ([u] : List V).length ≤ 1000 ∧ ∀ a, H a = none → spX1 K f (.ref a :: ([u] ++ [])) (upd H a (exo a C none)) (fun y H2 => y = .non ∧ ∃ (d : Addr) (fs : List (Str × V)), H2 a = some (exo a C (some d)) ∧ H2 d = some (exd d fs) ∧ H d = none ∧ R (.ref C) (some d) (upd (del H2 a) d (.xd fs))) (fun _ _ _ => False) := by
  refine ⟨by show 1 ≤ 1000; decide, fun a na => ⟨a, C, u, rfl, T, n1, k1, upd_same, fun dx H' nd ne hk ha hd => ⟨rfl, dx, _, ha, hd, ?_, r _ _ ?_⟩⟩⟩
  · rw [upd_ne ne] at nd
    exact nd
  · refine rsd_of (C := C) na (by rw [upd_ne ne] at nd; exact nd) fun b h1 h2 => ?_
    rw [hk b h1 h2, upd_ne h1]
/-! ### lists, tuples, what stays -/
/-- a list or a tuple at u -/
def LT (H : Hp) (u : Addr) (ts : List V) : Prop := H u = some (.lst ts) ∨ H u = some (.tup ts)
theorem LT.sq {K : PySem.W.Frag} {H : Hp} {u : Addr} {ts : List V} (h : LT H u ts) : Sq K H u ts := h.elim (fun h => .inl (SqL.of h)) fun h => .inr (SqT.of h)
theorem LT.same {H H' : Hp} {u : Addr} {ts : List V} (h : LT H u ts) (e : Same H H') : LT H' u ts := h.imp (fun h => e _ _ h) fun h => e _ _ h
theorem LT.kn {H : Hp} {u : Addr} {ts : List V} (h : LT H u ts) : Kn H (.ref u) := h.elim .lst .tup
def isLT (H : Hp) (v : V) : Bool := isL H v || isT H v
theorem LT.is {H : Hp} {u : Addr} {ts : List V} (h : LT H u ts) : isLT H (.ref u) = true := by
  unfold isLT
  rcases h with h | h
  · rw [isL_lst h]
    rfl
  · rw [isT_tup h, Bool.or_true]
theorem Kn.any (K : PySem.W.Frag) {H : Hp} {v : V} (k : Kn H v) : ∃ t : String, TyX K H v (.type t) ∧ PySem.W.kitAny K (.type t) [.type "list", .type "tuple"] = some (isLT H v) := by
  obtain ⟨t, ty, _, _, k3, k4, _⟩ := k.kinds K
  refine ⟨t, ty, kitAny_cons k4 (fun z => ?_) (fun z => by unfold isLT; rw [z]; rfl)⟩
  refine kitAny_cons k3 (fun z2 => by unfold isLT; rw [z, z2]; rfl) (fun z2 => by unfold isLT; rw [z2, Bool.or_true])
theorem Kn.lt_same {H H' : Hp} {v : V} (k : Kn H v) (e : Same H H') : isLT H' v = isLT H v := by
  unfold isLT
  cases k with
  | lst h => rw [isL_lst h, isL_lst (e _ _ h)]; rfl
  | tup h => rw [isT_tup h, isT_tup (e _ _ h), Bool.or_true, Bool.or_true]
  | _ => rfl
theorem paired_get {α β : Type} {F : α → β → Prop} : ∀ {ts : List α} {ps : List β} {i : Nat} {v : α}, Paired F ts ps → ts[i]? = some v → ∃ p, ps[i]? = some p ∧ F v p
  | _, _, _, _, .nil, h => by simp at h
  | _, _, 0, _, .cons h _, e => by cases e; exact ⟨_, rfl, h⟩
  | _, _, i + 1, v, .cons _ t, e => paired_get (i := i) t (by simpa using e)
theorem paired_to {α β : Type} {F : α → β → Prop} : ∀ {ts : List α} {ps : List β} {i : Nat} {p : β}, Paired F ts ps → ps[i]? = some p → ∃ v, ts[i]? = some v ∧ F v p
  | _, _, _, _, .nil, h => by simp at h
  | _, _, 0, _, .cons h _, e => by cases e; exact ⟨_, rfl, h⟩
  | _, _, i + 1, v, .cons _ t, e => paired_to (i := i) t (by simpa using e)
theorem paired_map {α β γ : Type} {F : α → β → Prop} {G : α → γ → Prop} {g : β → γ} (h : ∀ a b, F a b → G a (g b)) : ∀ {ts : List α} {ps : List β}, Paired F ts ps → Paired G ts (ps.map g)
  | _, _, .nil => .nil
  | _, _, .cons x t => .cons (h _ _ x) (paired_map h t)
theorem paired_unmap {α β γ : Type} {F : α → β → Prop} {G : α → γ → Prop} {g : β → γ} (h : ∀ a b, G a (g b) → F a b) : ∀ {ps : List β} {ts : List α}, Paired G ts (ps.map g) → Paired F ts ps
  | [], _, .nil => .nil
  | _ :: _, _, .cons x t => .cons (h _ _ x) (paired_unmap h t)
/-- tuples stay -/
def TT (H H' : Hp) : Prop := ∀ a xs, H a = some (.tup xs) → H' a = some (.tup xs)
theorem TT.same {H H' : Hp} (e : Same H H') : TT H H' := fun a xs z => e _ _ z
theorem TT.trans {H H1 H2 : Hp} (a : TT H H1) (b : TT H1 H2) : TT H H2 := fun c xs z => b _ _ (a _ _ z)
theorem TT.lst {H : Hp} {D : Addr} {xs ys : List V} (hD : H D = some (.lst xs)) : TT H (upd H D (.lst ys)) := fun a zs z => (upd_ne (ne_of z hD fun y => nomatch y)).trans z
/-- what is not at p stays -/
def ButI (p : Addr) (H H' : Hp) : Prop := ∀ b o, b ≠ p → H b = some o → H' b = some o
structure RsC (p : Addr) (H H' : Hp) (d : Addr) (fs : List (Str × V)) : Prop where
  new : H d = none
  same : ButI p H H'
  at_ : H' d = some (.xd fs)
structure TL (H H' : Hp) : Prop where
  l : ∀ a xs, H a = some (.lst xs) → H' a = some (.lst xs)
  t : ∀ a xs, H a = some (.tup xs) → H' a = some (.tup xs)
theorem TL.but {H H' : Hp} {C p dx : Addr} {fs : List (Str × V)} (hp : H p = some (.ins C dx fs)) (u : ButI p H H') : TL H H' := ⟨fun a xs z => u _ _ (ne_of z hp fun y => nomatch y) z, fun a xs z => u _ _ (ne_of z hp fun y => nomatch y) z⟩
theorem TL.pen {H H' : Hp} {pn cl : Addr} {b : Nat} (pen : Pen H pn cl b) (u : But pn H H') : TL H H' := by
  obtain ⟨k, l, cs, h1, _⟩ := pen
  exact ⟨fun a xs z => u _ _ (ne_of z h1 fun y => nomatch y) z, fun a xs z => u _ _ (ne_of z h1 fun y => nomatch y) z⟩
theorem TL.trans {H H1 H2 : Hp} (a : TL H H1) (b : TL H1 H2) : TL H H2 := ⟨fun c xs z => b.l _ _ (a.l _ _ z), fun c xs z => b.t _ _ (a.t _ _ z)⟩
theorem TL.same {H H' : Hp} (e : Same H H') : TL H H' := ⟨fun a xs z => e _ _ z, fun a xs z => e _ _ z⟩
structure Xc (P : Program) (w : World) (K : PySem.W.Frag) (mg : Str → Option Value) (base : Heap) (k : Nat) (x : Str) (C : Addr) (sp : Sp) : Prop where
  T : OexC K C
  mgC : mg x = some (.ref C)
  ex : ∃ (f : Addr) (fd : FuncData) (ps : List Str), PySem.W.findIn K (.ref C) "__init__" = some (some (.ref f)) ∧ PySem.W.typeIn K (.ref f) = some (.type "function") ∧ FnOk P w K mg base CX0 k f fd ps sp ∧ Binds K fd ps []
section
variable {X : Cx} {k j : Nat} {x : Str} {C : Addr} {sp : Sp} {e : Expr} {es : List Expr} {t : TA} {p pos : Pos}
theorem pmk_x (c : Xc X.prog X.w X.K X.mg X.base k x C sp) (hr : Room j X.A) (ha : PA X (e :: es) t) (hk : k + 1 ≤ j := by decide) (hg : Gl X x := by rfl) (hdb : (x == ("__debug__" : Str)) = false := by decide)
    (he : starEach (e :: es) X.env = (false, eval e X.env) :: starEach es X.env := by rfl) (hpl : (backTo pos (starEach es X.env)).any (·.1) = false := by rfl) : PMk X (.Call (.Name x p) (e :: es) [] pos) (tMkO C sp [] t) := by
  obtain ⟨f, fd, ps, i1, i2, F, b⟩ := c.ex
  exact pmk_oex c.T i1 i2 F (hr.mono hk) b .nil pass0 hg c.mgC ha hdb he hpl
end
/-- an exception class, caught -/
structure Ct (K : PySem.W.Frag) (mg : Str → Option Value) (x : Str) (C : Addr) : Prop where
  g : mg x = some (.ref C)
  T : XfC K C
  me : PySem.W.exmOne K (.ref C) (.ref C) = some true
section
variable {X : Cx}
def rSmD (K : PySem.W.Frag) : R2 := fun x y H Q => ∃ d, Dp K H x d ∧ Dp K H y d ∧ SeqAt.shaped d = true ∧ Q (.bl false) H
theorem op_neSmD (hu : X.A.units + 64 < cLine) : OpR X (compareOp .NotEq) (rSmD X.K) := by
  intro pins s σ H x y v u Q I rx ry h
  obtain ⟨d, d1, d2, sh, q⟩ := h
  refine op_neD hu pins s σ H _ _ v u Q I rx ry ⟨d, d, d1, d2, sh, sh, ?_⟩
  rw [SeqAt.eqv_refl _ (Bool.and_eq_true_iff.mp sh).1]
  exact q
def rSmE (K : PySem.W.Frag) : R2 := fun x y H Q => ∃ d, Dp K H x d ∧ Dp K H y d ∧ SeqAt.shaped d = true ∧ Q (.bl true) H
theorem op_eqSmD (hu : X.A.units + 64 < cLine) : OpR X (compareOp .Eq) (rSmE X.K) := by
  intro pins s σ H x y v u Q I rx ry ⟨d, d1, d2, sh, q⟩
  refine op_eqD hu pins s σ H _ _ v u Q I rx ry ⟨d, d, d1, d2, sh, sh, ?_⟩
  rw [SeqAt.eqv_refl _ (Bool.and_eq_true_iff.mp sh).1]
  exact q
end
section
variable {X : Cx} {k j : Nat} {x : Str} {C : Addr} {sp : Sp} {p pos : Pos}
theorem pmk_x0 (c : Xc X.prog X.w X.K X.mg X.base k x C sp) (hr : Room j X.A) (hk : k + 1 ≤ j := by decide) (hg : Gl X x := by rfl) (hdb : (x == ("__debug__" : Str)) = false := by decide) : PMk X (.Call (.Name x p) [] [] pos) (tMkO0 C sp) := by
  obtain ⟨f, fd, ps, i1, i2, F, b⟩ := c.ex
  exact pmk_oex0 c.T i1 i2 F (hr.mono hk) b pass0 hg c.mgC hdb
end
/-- all but dicts and tables stay -/
def Ks (H H' : Hp) : Prop := ∀ b o, H b = some o → (∀ ps, o ≠ .tbl ps) → (∀ kvs, o ≠ .dK kvs) → H' b = some o
theorem Ks.of {H H' : Hp} (e : Same H H') : Ks H H' := fun b o h _ _ => e b o h
theorem Ks.trans {H H1 H2 : Hp} (a : Ks H H1) (b : Ks H1 H2) : Ks H H2 := fun c o h n m => b c o (a c o h n m) n m
theorem Ks.refl (H : Hp) : Ks H H := fun _ _ h _ _ => h
theorem Ks.ext {H H' : Hp} (e : LamX.ExtN H H') : Ks H H' := fun b o h n _ => e b o h n
theorem Ks.pen {H H' : Hp} {pn cl : Addr} {b : Nat} (pen : Pen H pn cl b) (e : But pn H H') : Ks H H' := fun c o h _ m => e c o (pen.ne h m) h
theorem Ks.tl {H H' : Hp} (e : Ks H H') : TL H H' := ⟨fun a xs z => e _ _ z (fun _ y => nomatch y) (fun _ y => nomatch y), fun a xs z => e _ _ z (fun _ y => nomatch y) (fun _ y => nomatch y)⟩
theorem Ks.ins {H H' : Hp} {a C dx : Addr} {fs : List (Str × V)} (e : Ks H H') (h : H a = some (.ins C dx fs)) : H' a = some (.ins C dx fs) := e _ _ h (fun _ y => nomatch y) fun _ y => nomatch y
theorem Kn.tl {H H2 : Hp} {v : V} (k : Kn H v) (s : TL H H2) : Kn H2 v := by
  cases k with
  | non => exact .non
  | bl b => exact .bl b
  | int i => exact .int i
  | str x => exact .str x
  | lst e => exact .lst (s.l _ _ e)
  | tup e => exact .tup (s.t _ _ e)
theorem tabs_at {Tb : List (Addr × Str)} {H H' : Hp} {p : Addr} {o : HO} (t : LamX.Tabs Tb H) (hp : H p = some o) (n1 : ∀ ps, o ≠ .tbl ps) (n2 : ∀ f, o ≠ .ext f) (e : ButI p H H') : LamX.Tabs Tb H' := fun pt hpt => by
  obtain ⟨ps, a1, a2, a3⟩ := t pt hpt
  refine ⟨ps, e _ _ (ne_of a1 hp fun z => n1 _ z.symm) a1, a2, fun pos cv hc => ?_⟩
  obtain ⟨c0, e1, e2⟩ := a3 pos cv hc
  exact ⟨c0, e1, e _ _ (ne_of e2 hp fun z => n2 _ (by unfold LamX.CodeO at z; exact z.symm)) e2⟩
theorem tabs_but {Tb : List (Addr × Str)} {H H' : Hp} {pn cl : Addr} {b : Nat} (tabs : LamX.Tabs Tb H) (pen : Pen H pn cl b) (bt : But pn H H') : LamX.Tabs Tb H' := by
  obtain ⟨k, l, cs, p1, _⟩ := pen
  exact tabs_at tabs p1 (fun _ z => nomatch z) (fun _ z => nomatch z) bt
theorem Pen.ext {H H' : Hp} {pn cl : Addr} {b : Nat} (h : Pen H pn cl b) (e : LamX.ExtN H H') : Pen H' pn cl b := let ⟨k, l, cs, h1, h2, h3, h4⟩ := h; ⟨k, l, cs, e _ _ h1 (fun _ z => nomatch z), e _ _ h2 (fun _ z => nomatch z), h3, h4⟩
/-- the pen and the tables -/
structure PT (Tb : List (Addr × Str)) (H : Hp) (pn cl : Addr) (b : Nat) : Prop where
  pen : Pen H pn cl b
  tabs : LamX.Tabs Tb H
section
variable {Tb : List (Addr × Str)} {H H' : Hp} {pn cl : Addr} {b c : Nat}
theorem PT.same (h : PT Tb H pn cl b) (e : Same H H') : PT Tb H' pn cl b := ⟨h.pen.same e, h.tabs.ext e⟩
theorem PT.but (h : PT Tb H pn cl b) (e : But pn H H') (p : Pen H' pn cl c) : PT Tb H' pn cl c := ⟨p, tabs_but h.tabs h.pen e⟩
theorem PT.ext (h : PT Tb H pn cl b) (e : LamX.ExtN H H') (t : LamX.Tabs Tb H') : PT Tb H' pn cl b := ⟨h.pen.ext e, t⟩
end
theorem same_ins {H : Hp} {p dx C : Addr} {fs : List (Str × V)} (np : H p = none) (nd : H dx = none) : Same H (upd (upd H dx (.own p)) p (.ins C dx fs)) := fun b o z => by
  rw [upd_ne (ne_of_none z np), upd_ne (ne_of_none z nd)]
  exact z
theorem butI_same {H H1 H' : Hp} {p : Addr} (e : Same H H1) (np : H p = none) (b : ButI p H1 H') : Same H H' := fun c o z => b c o (ne_of_none z np) (e _ _ z)
theorem rSmD_of {K : PySem.W.Frag} {H : Hp} {t t2 : Addr} {us : List V} {Q : VK} (nt : H t = none) (nt2 : upd H t (.tup us) t2 = none) (fl : ∀ v ∈ us, Flat v) (q : ∀ H', Same H H' → Q (.bl false) H') : rSmD K (.ref t) (.ref t2) (upd (upd H t (.tup us)) t2 (.tup us)) Q :=
  ⟨.tuple (us.map dOf), .tup (SqT.of ((upd_ne (ne_of_none (show upd H t (.tup us) t = some (.tup us) from upd_same) nt2)).trans upd_same)) (dpAll_flat fl), .tup (SqT.of upd_same) (dpAll_flat fl), shT_flat fl, q _ ((same_new nt).trans (same_new nt2))⟩
theorem rSmE_of {K : PySem.W.Frag} {H : Hp} {t t2 : Addr} {us : List V} {Q : VK} (nt : H t = none) (nt2 : upd H t (.tup us) t2 = none) (fl : ∀ v ∈ us, Flat v) (q : ∀ H', Same H H' → Q (.bl true) H') : rSmE K (.ref t) (.ref t2) (upd (upd H t (.tup us)) t2 (.tup us)) Q :=
  ⟨.tuple (us.map dOf), .tup (SqT.of ((upd_ne (ne_of_none (show upd H t (.tup us) t = some (.tup us) from upd_same) nt2)).trans upd_same)) (dpAll_flat fl), .tup (SqT.of upd_same) (dpAll_flat fl), shT_flat fl, q _ ((same_new nt).trans (same_new nt2))⟩
theorem cutSeq {D : Ends} {t u : TS} {σ : St} {H : Hp} (R : St → Hp → Prop) (h1 : ∀ nx : St → Hp → Prop, (∀ σ' H', R σ' H' → nx σ' H') → t { D with nx := nx } σ H) (h2 : ∀ σ' H', R σ' H' → u D σ' H') : tSeq t u D σ H := h1 _ h2
end K38
set_option Elab.async false
set_option linter.all false
set_option maxRecDepth 100001
set_option maxHeartbeats 3999999
namespace K38
open PySem L2
open Builtin Builtin.Str Builtin.Int
/-- a number, in twos -/
def binT (n : Nat) : Str := ⟨((Nat.toDigits 2 n).map Char.toNat).toArray⟩
theorem name_int {a : Int} {t : Tok} {n : Nat} {k : String → Sem Fin} {m : Made} (g : Gives (k "int") m) : Gives (do let z ← typeNameOfCut n (.int a t); k z) m :=
  fun prog w A R s hq => wpAny_bind (PyProof.Rows.wpAny_typeNameOfCut_int (g prog w A R s hq))
theorem gives_ret {x y : Str} (h : x = y) : Gives (retStr x) (.str y) := by
  subst h
  exact .of_eq rfl
theorem dig2 (n : Nat) : ((Nat.toDigits 2 n).map fun c => (if (98 == 88) = true then c.toUpper else c).toNat) = (Nat.toDigits 2 n).map Char.toNat := rfl
theorem gives_bin (n : Nat) (t u : Tok) : Gives («int.__format__» ⟨[.int (n : Nat) t, .str "b" u], []⟩) (.str (binT n)) := by
  unfold «int.__format__»
  simp only [selfAndOne, noKeywords, Int.intOfSelf, asInt?, asStr?, List.isEmpty_nil, if_true, pure_bind, bind_pure, bind_assoc]
  rw [if_neg (fun z => nomatch z)]
  refine gives_after_typeNameOf (T := "str") (fun s => typeIs_str s _ _) (by decide) fun _ => ?_
  rw [if_neg (by decide +kernel), if_neg (by decide +kernel)]
  refine name_int ?_
  have hp : Float.parseFormatSpec (Str.ofString "b").cps.toList "int" 62 = .ok { fill := 32, align := 62, type := some 98 } := by rfl
  rw [hp]
  dsimp only
  rw [if_pos (by decide +kernel)]
  rw [show (some 98).getD (if ((Str.ofString "b").cps.back? == some 0) = true then 0 else 100) = 98 from rfl]
  clear hp
  generalize hf : ({ align := 62, type := some 98 } : Float.FormatSpec) = f
  have f1 : f.precision = none := by rw [← hf]
  have f2 : f.noNeg0 = false := by rw [← hf]
  have f3 : f.width = none := by rw [← hf]
  have f4 : f.alt = false := by rw [← hf]
  have f5 : f.sign = none := by rw [← hf]
  have f6 : f.grouping = none := by rw [← hf]
  have f7 : f.align = 62 := by rw [← hf]
  have f8 : f.fill = 32 := by rw [← hf]
  clear hf
  show Gives (if _ then _ else _) _
  rw [if_neg (by simp [f1])]
  show Gives (if _ then _ else _) _
  rw [if_neg (by simp [f2])]
  show Gives (if _ then _ else _) _
  rw [if_neg (by decide)]
  show Gives (if _ then _ else _) _
  rw [if_neg (by simp [f3])]
  show Gives (if _ then _ else _) _
  rw [if_neg (by simp [f3])]
  refine gives_ret ?_
  simp only [f4, Bool.false_eq_true, if_false]
  rw [decide_eq_false (show ¬ ((n : Nat) : Int) < 0 by omega), dig2, Int.natAbs_natCast, if_neg (by decide)]
  have ne : ((Nat.toDigits 2 n).map Char.toNat).isEmpty = false := by
    have := PyProof.Rows.tDigits_len_ge 2 n
    cases h : Nat.toDigits 2 n with
    | nil => rw [h] at this; simp at this
    | cons _ _ => rfl
  unfold binT
  generalize (Nat.toDigits 2 n).map Char.toNat = ds at ne ⊢
  obtain ⟨fl, al, sg, nz, at_, wd, gr, pr, ty⟩ := f
  dsimp only at f1 f2 f3 f4 f5 f6 f7 f8
  subst f1 f2 f3 f4 f5 f6 f7 f8
  conv => lhs; whnf
  simp [ne]
section
variable {X : Cx} {e : Expr} {te : TE} {p1 p2 p3 p4 p5 : Pos} {k : Option Str}
/-- a number, in twos -/
def tBin (te : TE) : TE := fun σ H Q => te σ H fun x H1 => ∃ n : Nat, x = .int (n : Nat) ∧ (binT n).length ≤ sizeLine ∧ Q (.str (binT n)) H1
open PyProof.Rows in
theorem pe_bin (he : PE X e te) : PE X (.JoinedStr [.FormattedValue e (-1) (some (.JoinedStr [.Constant (.str "b") 0 p1] p2)) p3] p4) (tBin te) := by
  refine pe_joined1 ⟨fun pins s σ H Q I h => ?_⟩
  refine wpAny_FormattedValue_spec (thn (he.run pins s σ H _ I h) fun v s1 hv => ?_)
  obtain ⟨x, H1, I1, r1, n, rfl, hz, q⟩ := hv
  obtain ⟨t, rfl⟩ := r1
  refine wpAny_JoinedStr_one (wpAny_Constant_str ⟨Str.ofString "b", _, rfl, ?_⟩)
  refine wpAny_formatField_spec (T := "int") (x := binT n) (by decide +kernel) (fun s' => typeIs_int s' _ _) PySem.F.slot_int_format PySem.F.entry_int_format PySem.F.args_int_format_2 (fun u => gives_bin n t u) ?_ (by decide +kernel) hz
  exact ⟨.str (binT n), H1, (I1.tok _).tok _, ⟨_, rfl⟩, q⟩
end
end K38
set_option linter.all false
set_option maxRecDepth 100001
set_option maxHeartbeats 3999999
namespace K38
/-! ### words of bits -/
abbrev W := List Bool
/-- no word begins another one -/
def PF (ws : List W) : Prop := ws.Pairwise fun a b => ¬ a <+: b ∧ ¬ b <+: a
def kr (L : Nat) (ws : List W) : Nat := (ws.map fun w => 2 ^ (L - w.length)).sum
inductive Full : List W → Prop
  | one : Full [[]]
  | two {zs os : List W} (a : Full zs) (b : Full os) : Full (zs.map (false :: ·) ++ os.map (true :: ·))
theorem Full.pos {ws : List W} (h : Full ws) : 1 ≤ ws.length := by
  induction h with
  | one => simp
  | two a b ia ib => rw [List.length_append, List.length_map]; omega
theorem Full.parts {ws : List W} (h : Full ws) (l : 2 ≤ ws.length) : ∃ zs os, Full zs ∧ Full os ∧ ws = zs.map (false :: ·) ++ os.map (true :: ·) := by
  cases h with
  | one => simp at l
  | two a b => exact ⟨_, _, a, b, rfl⟩
def tl (b : Bool) (ws : List W) : List W := ws.filterMap fun w => match w with
  | h :: t => if h = b then some t else none
  | [] => none
theorem kr_cons (L : Nat) (w : W) (ws : List W) : kr L (w :: ws) = 2 ^ (L - w.length) + kr L ws := by simp [kr]
theorem kr_split (L : Nat) : ∀ (ws : List W), (∀ w ∈ ws, w ≠ []) → kr (L + 1) ws = kr L (tl false ws) + kr L (tl true ws)
  | [], _ => rfl
  | [] :: r, h => absurd rfl (h _ List.mem_cons_self)
  | (x :: t) :: r, h => by
    have ih := kr_split L r fun w hw => h w (List.mem_cons_of_mem _ hw)
    have e : L + 1 - (x :: t).length = L - t.length := by rw [List.length_cons]; omega
    rw [kr_cons, e, ih]
    cases x with
    | false =>
      have e1 : tl false ((false :: t) :: r) = t :: tl false r := by simp [tl]
      have e2 : tl true ((false :: t) :: r) = tl true r := by simp [tl]
      rw [e1, e2, kr_cons]
      omega
    | true =>
      have e1 : tl true ((true :: t) :: r) = t :: tl true r := by simp [tl]
      have e2 : tl false ((true :: t) :: r) = tl false r := by simp [tl]
      rw [e1, e2, kr_cons]
      omega
theorem mem_tl {b : Bool} {ws : List W} {t : W} (h : t ∈ tl b ws) : b :: t ∈ ws := by
  unfold tl at h
  rw [List.mem_filterMap] at h
  obtain ⟨w, hw, e⟩ := h
  cases w with
  | nil => cases e
  | cons x r =>
    dsimp only at e
    by_cases c : x = b
    · rw [if_pos c] at e
      cases e
      rw [← c]
      exact hw
    · rw [if_neg c] at e
      cases e
theorem pf_tl {b : Bool} {ws : List W} (h : PF ws) : PF (tl b ws) := by
  unfold PF tl
  refine List.Pairwise.filterMap _ ?_ h
  intro a a' r t ht t' ht'
  cases a with
  | nil => cases ht
  | cons x s =>
    cases a' with
    | nil => cases ht'
    | cons x' s' =>
      dsimp only at ht ht'
      by_cases c : x = b
      · by_cases c' : x' = b
        · rw [if_pos c] at ht
          rw [if_pos c'] at ht'
          cases ht
          cases ht'
          subst c c'
          exact ⟨fun z => r.1 (List.cons_prefix_cons.mpr ⟨rfl, z⟩), fun z => r.2 (List.cons_prefix_cons.mpr ⟨rfl, z⟩)⟩
        · rw [if_neg c'] at ht'
          cases ht'
      · rw [if_neg c] at ht
        cases ht
theorem pf_nil {ws : List W} (h : PF ws) (m : [] ∈ ws) : ws = [[]] := by
  cases ws with
  | nil => cases m
  | cons w r =>
    obtain ⟨h1, h2⟩ := List.pairwise_cons.mp h
    rcases List.mem_cons.mp m with e | m
    · subst e
      cases r with
      | nil => rfl
      | cons v s => exact absurd (List.nil_prefix) (h1 v List.mem_cons_self).1
    · exact absurd (List.nil_prefix) (h1 [] m).2
theorem kraft : ∀ (L : Nat) (ws : List W), PF ws → (∀ w ∈ ws, w.length ≤ L) → kr L ws ≤ 2 ^ L
  | L, ws, h, hl => by
    by_cases m : [] ∈ ws
    · rw [pf_nil h m]
      simp [kr]
    · match L with
      | 0 =>
        cases ws with
        | nil => simp [kr]
        | cons w r =>
          have := hl w List.mem_cons_self
          have : w = [] := List.length_eq_zero_iff.mp (by omega)
          exact absurd (this ▸ List.mem_cons_self) m
      | L + 1 =>
        have nn : ∀ w ∈ ws, w ≠ [] := fun w hw z => m (z ▸ hw)
        rw [kr_split L ws nn]
        have a := kraft L (tl false ws) (pf_tl h) fun t ht => by have := hl _ (mem_tl ht); rw [List.length_cons] at this; omega
        have b := kraft L (tl true ws) (pf_tl h) fun t ht => by have := hl _ (mem_tl ht); rw [List.length_cons] at this; omega
        rw [Nat.pow_succ]
        omega
/-- in order -/
def cd (b : Bool) : Nat := if b then 49 else 48
def Asc (ws : List W) : Prop := ws.Pairwise fun a b => ¬ b.map cd < a.map cd
theorem asc_tl {b : Bool} {ws : List W} (h : Asc ws) : Asc (tl b ws) := by
  unfold Asc tl
  refine List.Pairwise.filterMap _ ?_ h
  intro a a' r t ht t' ht'
  cases a with
  | nil => cases ht
  | cons x s =>
    cases a' with
    | nil => cases ht'
    | cons x' s' =>
      dsimp only at ht ht'
      by_cases c : x = b
      · by_cases c' : x' = b
        · rw [if_pos c] at ht
          rw [if_pos c'] at ht'
          cases ht
          cases ht'
          subst c c'
          intro z
          exact r (by rw [List.map_cons, List.map_cons]; exact List.cons_lt_cons_self.mpr z)
        · rw [if_neg c'] at ht'
          cases ht'
      · rw [if_neg c] at ht
        cases ht
theorem asc_split : ∀ {ws : List W}, Asc ws → (∀ w ∈ ws, w ≠ []) → ws = (tl false ws).map (false :: ·) ++ (tl true ws).map (true :: ·)
  | [], _, _ => rfl
  | [] :: r, _, h => absurd rfl (h _ List.mem_cons_self)
  | (false :: t) :: r, a, h => by
    have ih := asc_split (List.pairwise_cons.mp a).2 fun w hw => h w (List.mem_cons_of_mem _ hw)
    have e1 : tl false ((false :: t) :: r) = t :: tl false r := by simp [tl]
    have e2 : tl true ((false :: t) :: r) = tl true r := by simp [tl]
    rw [e1, e2, List.map_cons, List.cons_append, ← ih]
  | (true :: t) :: r, a, h => by
    have ih := asc_split (List.pairwise_cons.mp a).2 fun w hw => h w (List.mem_cons_of_mem _ hw)
    have e1 : tl true ((true :: t) :: r) = t :: tl true r := by simp [tl]
    have e2 : tl false ((true :: t) :: r) = tl false r := by simp [tl]
    have z : tl false r = [] := by
      cases q : tl false r with
      | nil => rfl
      | cons s ss =>
        have m : s ∈ tl false r := by rw [q]; exact List.mem_cons_self
        have lt := (List.pairwise_cons.mp a).1 _ (mem_tl m)
        refine absurd ?_ lt
        rw [List.map_cons, List.map_cons]
        exact List.Lex.rel (by decide)
    rw [e1, e2, z]
    rw [z] at ih
    simp only [List.map_nil, List.nil_append, List.map_cons] at ih ⊢
    rw [← ih]
theorem full_of : ∀ (L : Nat) (ws : List W), PF ws → Asc ws → (∀ w ∈ ws, w.length ≤ L) → kr L ws = 2 ^ L → Full ws
  | L, ws, h, a, hl, e => by
    by_cases m : [] ∈ ws
    · rw [pf_nil h m]
      exact .one
    · match L with
      | 0 =>
        cases ws with
        | nil => simp [kr] at e
        | cons w r =>
          have := hl w List.mem_cons_self
          have : w = [] := List.length_eq_zero_iff.mp (by omega)
          exact absurd (this ▸ List.mem_cons_self) m
      | L + 1 =>
        have nn : ∀ w ∈ ws, w ≠ [] := fun w hw z => m (z ▸ hw)
        have l1 : ∀ b, ∀ t ∈ tl b ws, t.length ≤ L := fun b t ht => by have := hl _ (mem_tl ht); rw [List.length_cons] at this; omega
        rw [kr_split L ws nn, Nat.pow_succ] at e
        have k1 := kraft L (tl false ws) (pf_tl h) (l1 _)
        have k2 := kraft L (tl true ws) (pf_tl h) (l1 _)
        rw [asc_split a nn]
        exact .two (full_of L _ (pf_tl h) (asc_tl a) (l1 _) (by omega)) (full_of L _ (pf_tl h) (asc_tl a) (l1 _) (by omega))
end K38
set_option linter.all false
set_option maxRecDepth 100001
set_option maxHeartbeats 3999999
namespace K38
/-- so many bits of a number, the greatest first -/
def bits : Nat → Nat → W
  | 0, _ => []
  | l + 1, n => bits l (n / 2) ++ [decide (n % 2 = 1)]
theorem bits_len : ∀ (l n : Nat), (bits l n).length = l
  | 0, _ => rfl
  | l + 1, n => by rw [bits, List.length_append, bits_len l, List.length_singleton]
theorem bits_take : ∀ (d l n : Nat), (bits (l + d) n).take l = bits l (n / 2 ^ d)
  | 0, l, n => by
    rw [Nat.add_zero, Nat.pow_zero, Nat.div_one, List.take_of_length_le (by rw [bits_len]; exact Nat.le_refl _)]
  | d + 1, l, n => by
    rw [← Nat.add_assoc, bits, List.take_append_of_le_length (by rw [bits_len]; omega), bits_take d l, Nat.div_div_eq_div_mul, Nat.pow_succ, Nat.mul_comm]
theorem bits_inj : ∀ (l : Nat) {n m : Nat}, n < 2 ^ l → m < 2 ^ l → bits l n = bits l m → n = m
  | 0, n, m, hn, hm, _ => by
    rw [Nat.pow_zero] at hn hm
    omega
  | l + 1, n, m, hn, hm, e => by
    rw [bits, bits] at e
    obtain ⟨e1, e2⟩ := List.append_inj e (by rw [bits_len, bits_len])
    rw [Nat.pow_succ] at hn hm
    have := bits_inj l (n := n / 2) (m := m / 2) (by omega) (by omega) e1
    have e3 : decide (n % 2 = 1) = decide (m % 2 = 1) := List.singleton_inj.mp e2
    have : (n % 2 = 1 ↔ m % 2 = 1) := by
      rw [decide_eq_decide] at e3
      exact e3
    omega
/-- the words of a code told by its lengths alone; nx: the next number, of sz bits -/
def canoW : Nat → Nat → List Nat → List W
  | _, _, [] => []
  | nx, sz, l :: r => bits l (nx * 2 ^ (l - sz)) :: canoW (nx * 2 ^ (l - sz) + 1) l r
theorem canoW_lens : ∀ (nx sz : Nat) (ls : List Nat), (canoW nx sz ls).map List.length = ls
  | _, _, [] => rfl
  | nx, sz, l :: r => by rw [canoW, List.map_cons, bits_len, canoW_lens]
def kl (L : Nat) (ls : List Nat) : Nat := (ls.map fun l => 2 ^ (L - l)).sum
theorem kl_cons (L l : Nat) (ls : List Nat) : kl L (l :: ls) = 2 ^ (L - l) + kl L ls := by simp [kl]
theorem kr_kl (L : Nat) (ws : List W) : kr L ws = kl L (ws.map List.length) := by
  unfold kr kl
  rw [List.map_map]
  rfl
/-- the numbers stand in their room -/
structure Room_ (L nx sz : Nat) (ls : List Nat) : Prop where
  asc : ls.Pairwise (· ≤ ·)
  lo : ∀ l ∈ ls, sz ≤ l
  hi : ∀ l ∈ ls, l ≤ L
  szL : sz ≤ L
  fit : nx * 2 ^ (L - sz) + kl L ls ≤ 2 ^ L
theorem pow_cut {a b c : Nat} (h1 : a ≤ b) (h2 : b ≤ c) : 2 ^ (b - a) * 2 ^ (c - b) = 2 ^ (c - a) := by
  rw [← Nat.pow_add]
  congr 1
  omega
theorem Room_.next {L nx sz l : Nat} {r : List Nat} (h : Room_ L nx sz (l :: r)) : Room_ L (nx * 2 ^ (l - sz) + 1) l r := by
  obtain ⟨a1, a2⟩ := List.pairwise_cons.mp h.asc
  have l1 := h.lo l List.mem_cons_self
  have l2 := h.hi l List.mem_cons_self
  refine ⟨a2, a1, fun x hx => h.hi x (List.mem_cons_of_mem _ hx), l2, ?_⟩
  have f := h.fit
  rw [kl_cons] at f
  rw [Nat.add_mul, Nat.one_mul, Nat.mul_assoc, pow_cut l1 l2]
  omega
theorem canoW_mem : ∀ {L : Nat} {ls : List Nat} {nx sz : Nat}, Room_ L nx sz ls → ∀ w ∈ canoW nx sz ls, ∃ l n, w = bits l n ∧ l ∈ ls ∧ n < 2 ^ l ∧ nx * 2 ^ (L - sz) ≤ n * 2 ^ (L - l)
  | _, [], _, _, _, w, h => nomatch h
  | L, l :: r, nx, sz, R, w, h => by
    have l1 := R.lo l List.mem_cons_self
    have l2 := R.hi l List.mem_cons_self
    have R2 := R.next
    rw [canoW] at h
    rcases List.mem_cons.mp h with rfl | h
    · refine ⟨l, _, rfl, List.mem_cons_self, ?_, ?_⟩
      · have f := R2.fit
        have p : 0 < 2 ^ (L - l) := Nat.two_pow_pos _
        have : (nx * 2 ^ (l - sz) + 1) * 2 ^ (L - l) ≤ 2 ^ l * 2 ^ (L - l) := by
          rw [← Nat.pow_add, show l + (L - l) = L by omega]
          omega
        have := Nat.le_of_mul_le_mul_right this p
        omega
      · rw [Nat.mul_assoc, pow_cut l1 l2]
        exact Nat.le_refl _
    · obtain ⟨l', n, e, m, lt, le⟩ := canoW_mem R2 w h
      refine ⟨l', n, e, List.mem_cons_of_mem _ m, lt, Nat.le_trans ?_ le⟩
      rw [Nat.add_mul, Nat.mul_assoc, pow_cut l1 l2]
      omega
theorem bits_pre {l d n m : Nat} (hn : n < 2 ^ l) (hm : m < 2 ^ (l + d)) (h : bits l n <+: bits (l + d) m) : m < (n + 1) * 2 ^ d := by
  have e : bits l n = bits l (m / 2 ^ d) := by
    have := List.prefix_iff_eq_take.mp h
    rw [bits_len] at this
    rw [← bits_take]
    exact this
  have p : 0 < 2 ^ d := Nat.two_pow_pos _
  have lt : m / 2 ^ d < 2 ^ l := (Nat.div_lt_iff_lt_mul p).mpr (by rw [← Nat.pow_add]; exact hm)
  have := bits_inj l hn lt e
  rw [this, Nat.mul_comm]
  exact Nat.lt_mul_div_succ m p
theorem canoW_pf : ∀ {L : Nat} {ls : List Nat} {nx sz : Nat}, Room_ L nx sz ls → PF (canoW nx sz ls)
  | _, [], _, _, _ => .nil
  | L, l :: r, nx, sz, R => by
    have l2 := R.hi l List.mem_cons_self
    have R2 := R.next
    have n0 : nx * 2 ^ (l - sz) < 2 ^ l := by
      have f := R2.fit
      have p : 0 < 2 ^ (L - l) := Nat.two_pow_pos _
      have : (nx * 2 ^ (l - sz) + 1) * 2 ^ (L - l) ≤ 2 ^ l * 2 ^ (L - l) := by
        rw [← Nat.pow_add, show l + (L - l) = L by omega]
        omega
      have := Nat.le_of_mul_le_mul_right this p
      omega
    rw [canoW]
    refine List.Pairwise.cons (fun w hw => ?_) (canoW_pf R2)
    obtain ⟨l', n, rfl, m, lt, le⟩ := canoW_mem R2 w hw
    have ll : l ≤ l' := R2.lo l' m
    have lL : l' ≤ L := R2.hi l' m
    generalize nx * 2 ^ (l - sz) = k at n0 le ⊢
    have key : ¬ bits l k <+: bits l' n := fun h => by
      obtain ⟨d, rfl⟩ := Nat.exists_eq_add_of_le ll
      have b := bits_pre n0 lt h
      have c : n * 2 ^ (L - (l + d)) < (k + 1) * 2 ^ (L - l) := by
        have e : 2 ^ (L - l) = 2 ^ d * 2 ^ (L - (l + d)) := by
          rw [← Nat.pow_add]
          congr 1
          omega
        rw [e, ← Nat.mul_assoc]
        exact Nat.mul_lt_mul_of_pos_right b (Nat.two_pow_pos _)
      omega
    refine ⟨key, fun h => key ?_⟩
    have le2 := h.length_le
    rw [bits_len, bits_len] at le2
    have : bits l' n = bits l k := h.eq_of_length (by rw [bits_len, bits_len]; omega)
    rw [this]
    exact List.prefix_refl _
theorem room_start {L : Nat} {ls : List Nat} (a : ls.Pairwise (· ≤ ·)) (h : ∀ l ∈ ls, l ≤ L) (f : kl L ls ≤ 2 ^ L) : Room_ L 0 0 ls := ⟨a, fun _ _ => Nat.zero_le _, h, Nat.zero_le _, by rw [Nat.zero_mul, Nat.zero_add]; exact f⟩
end K38
set_option Elab.async false
set_option linter.all false
set_option maxRecDepth 100001
set_option maxHeartbeats 3999999
namespace K38
open PySem L2
/-! ### texts -/
def S (l : List Nat) : Str := ⟨l.toArray⟩
theorem S_list (l : List Nat) : (S l).cps.toList = l := rfl
theorem S_size (l : List Nat) : (S l).cps.size = l.length := by simp [S]
theorem S_len (l : List Nat) : (S l).length = l.length := S_size l
theorem S_get (l : List Nat) (i : Nat) : (S l).cps[i]? = l[i]? := by simp [S]
theorem S_inj {l m : List Nat} (h : S l = S m) : l = m := congrArg (fun z : Str => z.cps.toList) h
theorem S_of (z : Str) : z = S z.cps.toList := rfl
def isS : V → Bool
  | .str _ => true
  | _ => false
theorem ks_of {K : PySem.W.Frag} {t : String} {b : Bool} (h : kitB t "str" = some b) : PySem.W.kitOne K (.type t) (.type "str") = some b := h
theorem Kn.isStr (K : PySem.W.Frag) {H : Hp} {v : V} (k : Kn H v) : ∃ t : String, TyX K H v (.type t) ∧ PySem.W.kitOne K (.type t) (.type "str") = some (isS v) := by
  cases k with
  | non => exact ⟨_, .base .non, ks_of (show kitB "NoneType" "str" = some false by decide +kernel)⟩
  | bl b => exact ⟨_, .base (.bl b), ks_of (show kitB "bool" "str" = some false by decide +kernel)⟩
  | int i => exact ⟨_, .base (.int i), ks_of (show kitB "int" "str" = some false by decide +kernel)⟩
  | str x => exact ⟨_, .base (.str x), ks_of (show kitB "str" "str" = some true by decide +kernel)⟩
  | lst e => exact ⟨_, .base (.lst e), ks_of (show kitB "list" "str" = some false by decide +kernel)⟩
  | tup e => exact ⟨_, .base (.tup e), ks_of (show kitB "tuple" "str" = some false by decide +kernel)⟩
theorem yesT {te : TE} {σ : St} {H : Hp} {Q : VK} {N : Hp → Prop} (h : te σ H Q) : tYes σ H fun b H3 => if b = true then te σ H3 Q else N H3 := by
  unfold tYes
  exact iteT h
/-- a comprehension whose elements change nothing -/
theorem lcP {J : It} {n : Nat} {G : Hp → Prop} {Y : Nat → Hp → V → Hp → Prop} (wk : Walk J n G Y) {g : TG} {tt : L2.TT} {te : TE} {vs : List Nat} {σ : St} {H1 : Hp} {D : Addr} {Qd : Hp → Prop} (us fs : List V) (hn : us.length = n) (hf : fs.length = n) (hb : n ≤ 10000)
    (hY : ∀ (i : Nat) (x : V) (H H' : Hp), Y i H x H' → H' = H ∧ us[i]? = some x) (hG : ∀ H', Same H1 H' → G H') (nD : H1 D = none)
    (hs : ∀ (i : Nat) (x y : V) (H : Hp) (Q : VK) (N : Hp → Prop), us[i]? = some x → fs[i]? = some y → Same H1 H → Q y H → g x (wipe σ vs) H fun σ2 H2 => wipe σ2 vs = wipe σ vs ∧ tt σ2 H2 fun b H3 => if b = true then te σ2 H3 Q else N H3)
    (hd : ∀ H, Same H1 H → H D = some (.lst fs) → Qd H) :
    ∃ W : Nat → Nat → Hp → Prop, (∃ m, W 0 m (upd H1 D (.lst []))) ∧ ∀ i m H, W i m H →
      (J.stop i H ∧ Qd H) ∨ (J.go i H ∧ ∃ Nx : Hp → Prop, (∀ H', Nx H' → ∃ m', m' < m ∧ W (i + 1) m' H') ∧ ∀ x H', J.yld i H x H' → g x (wipe σ vs) H' fun σ2 H2 => wipe σ2 vs = wipe σ vs ∧ tt σ2 H2 fun b H3 =>
        if b = true then te σ2 H3 fun y H4 => ∃ acc, H4 D = some (.lst acc) ∧ acc.length < sizeLine ∧ Nx (upd H4 D (.lst (acc ++ [y]))) else Nx H3) := by
  refine lc_it wk (fun i H' => Same H1 H' ∧ H' D = some (.lst (fs.take i))) ⟨same_new nD, upd_same⟩ (fun i H' _ z => hG H' z.1) ?_ ?_
  · rintro i x H H' hi ⟨e1, hD⟩ y
    obtain ⟨rfl, hx⟩ := hY i x H H' y
    have hi2 : i < fs.length := by omega
    refine hs i x fs[i] H' _ _ hx (List.getElem?_eq_getElem hi2) e1 ⟨_, hD, ?_, fun b o z => ?_, ?_⟩
    · rw [List.length_take]
      exact small10 (by omega)
    · rw [upd_ne (ne_of_none z nD)]
      exact e1 _ _ z
    · rw [List.take_add_one, List.getElem?_eq_getElem hi2]
      exact upd_same
  · rintro H ⟨e1, hD⟩
    refine hd H e1 ?_
    rw [hD, List.take_of_length_le (by omega)]
/-- a comprehension over a text -/
theorem lcS {z : Str} {g : TG} {tt : L2.TT} {te : TE} {vs : List Nat} {σ : St} {H1 : Hp} {D : Addr} {Qd : Hp → Prop} (f : Nat → V) (hb : z.cps.size ≤ 10000) (nD : H1 D = none)
    (hs : ∀ c H (Q : VK) (N : Hp → Prop), c ∈ z.cps.toList → Same H1 H → Q (f c) H → g (.str ⟨#[c]⟩) (wipe σ vs) H fun σ2 H2 => wipe σ2 vs = wipe σ vs ∧ tt σ2 H2 fun b H3 => if b = true then te σ2 H3 Q else N H3)
    (hd : ∀ H, Same H1 H → H D = some (.lst (z.cps.toList.map f)) → Qd H) :
    ∃ W : Nat → Nat → Hp → Prop, (∃ m, W 0 m (upd H1 D (.lst []))) ∧ ∀ i m H, W i m H →
      ((Its z).stop i H ∧ Qd H) ∨ ((Its z).go i H ∧ ∃ Nx : Hp → Prop, (∀ H', Nx H' → ∃ m', m' < m ∧ W (i + 1) m' H') ∧ ∀ x H', (Its z).yld i H x H' → g x (wipe σ vs) H' fun σ2 H2 => wipe σ2 vs = wipe σ vs ∧ tt σ2 H2 fun b H3 =>
        if b = true then te σ2 H3 fun y H4 => ∃ acc, H4 D = some (.lst acc) ∧ acc.length < sizeLine ∧ Nx (upd H4 D (.lst (acc ++ [y]))) else Nx H3) := by
  refine lcP walk_str (sgns z) (z.cps.toList.map f) (by simp [sgns]) (by simp) hb ?_ (fun _ _ => True.intro) nD ?_ hd
  · rintro i x H H' ⟨rfl, c, hc, rfl⟩
    refine ⟨rfl, ?_⟩
    unfold sgns
    rw [List.getElem?_map, Array.getElem?_toList, hc]
    rfl
  · intro i x y H Q N hx hy e q
    unfold sgns at hx
    rw [List.getElem?_map] at hx hy
    cases hc : z.cps.toList[i]? with
    | none =>
      rw [hc] at hx
      cases hx
    | some c =>
      rw [hc] at hx hy
      cases hx
      cases hy
      exact hs c H Q N (List.mem_of_getElem? hc) e q
section
variable {X : Cx}
theorem pe_isStr {a : Expr} {es : List Expr} {t : TA} {p pos : Pos} (hm : X.mg "isinstance" = none) (ha : PA X (a :: es) t) (hg : Gl X "isinstance" := by rfl)
    (he : starEach (a :: es) X.env = (false, eval a X.env) :: starEach es X.env := by rfl) (hpl : (backTo pos (starEach es X.env)).any (·.1) = false := by rfl) :
    PE X (.Call (.Name "isinstance" p) (a :: es) [] pos) (tCB (rIsi X.K) t) := pe_isi hm ha hg he hpl
theorem pe_lenS {a : Expr} {es : List Expr} {t : TA} {p pos : Pos} (hm : X.mg "len" = none) (ha : PA X (a :: es) t) (hg : Gl X "len" := by rfl) (he : starEach (a :: es) X.env = (false, eval a X.env) :: starEach es X.env := by rfl)
    (hpl : (backTo pos (starEach es X.env)).any (·.1) = false := by rfl) :
    PE X (.Call (.Name "len" p) (a :: es) [] pos) (tCB (fun xs H Q => ∃ z, xs = [.str z] ∧ z.length ≤ sizeLine ∧ Q (.int z.length) H) t) := pe_callB call_len_str hg hm PySem.boot_len ha (he := he) (hpl := hpl)
theorem pe_all {a : Expr} {es : List Expr} {t : TA} {p pos : Pos} (hc : X.calm = true) (hm : X.mg "all" = none) (ha : PA X (a :: es) t) (hg : Gl X "all" := by rfl) (he : starEach (a :: es) X.env = (false, eval a X.env) :: starEach es X.env := by rfl)
    (hpl : (backTo pos (starEach es X.env)).any (·.1) = false := by rfl) :
    PE X (.Call (.Name "all" p) (a :: es) [] pos) (tCB (rAll X.K) t) := pe_callB (cr_all hc) hg hm (by decide +kernel) ha (he := he) (hpl := hpl)
end
/-! ### texts of bits -/
def bS (w : W) : Str := S (w.map cd)
theorem bS_len (w : W) : (bS w).length = w.length := by rw [bS, S_len, List.length_map]
def isBit (c : Nat) : Bool := c == 48 || c == 49
/-- a text of bits -/
def isBs : V → Bool
  | .str x => x.cps.toList.all isBit
  | _ => false
theorem cd_bit (b : Bool) : isBit (cd b) = true := by cases b <;> rfl
theorem bits_of : ∀ (l : List Nat), l.all isBit = true → ∃ w : W, l = w.map cd
  | [], _ => ⟨[], rfl⟩
  | c :: r, h => by
    rw [List.all_cons, Bool.and_eq_true] at h
    obtain ⟨w, e⟩ := bits_of r h.2
    have h1 := h.1
    unfold isBit at h1
    simp only [Bool.or_eq_true, beq_iff_eq] at h1
    rcases h1 with rfl | rfl
    · exact ⟨false :: w, by rw [e]; rfl⟩
    · exact ⟨true :: w, by rw [e]; rfl⟩
theorem isBs_of {v : V} (h : isBs v = true) : ∃ w : W, v = .str (bS w) := by
  cases v with
  | str x =>
    obtain ⟨w, e⟩ := bits_of _ h
    exact ⟨w, by rw [bS, ← e]; rfl⟩
  | _ => cases h
theorem isBs_bS (w : W) : isBs (.str (bS w)) = true := by
  show (w.map cd).all isBit = true
  rw [List.all_map, List.all_eq_true]
  intro b _
  exact cd_bit b
theorem cd_inj {a b : Bool} (h : cd a = cd b) : a = b := by cases a <;> cases b <;> first | rfl | cases h
theorem map_cd_inj : ∀ {a b : W}, a.map cd = b.map cd → a = b
  | [], [], _ => rfl
  | [], _ :: _, h => nomatch h
  | _ :: _, [], h => nomatch h
  | x :: a, y :: b, h => by
    rw [List.map_cons, List.map_cons] at h
    injection h with h1 h2
    rw [cd_inj h1, map_cd_inj h2]
theorem bS_inj {a b : W} (h : bS a = bS b) : a = b := map_cd_inj (S_inj h)
/-- what is left of a text whose ends are cut -/
theorem strip_some {g : Nat → Bool} {x : Str} (h : ¬ x.cps.toList.all g = true) : 0 < (Txt.stripBy g true true x).length := by
  unfold Txt.stripBy
  have key : stripLo g true x < stripHi g true x (stripLo g true x) ∧ stripHi g true x (stripLo g true x) ≤ x.length := by
    unfold stripLo stripHi
    rw [if_pos rfl, if_pos rfl]
    have hx : x.length = x.cps.toList.length := by rw [Array.length_toList]; rfl
    rw [hx]
    generalize x.cps.toList = l at h ⊢
    have e := List.takeWhile_append_dropWhile (p := g) (l := l)
    cases q : l.dropWhile g with
    | nil =>
      rw [q, List.append_nil] at e
      refine absurd ?_ h
      rw [List.all_eq_true]
      intro c hc
      rw [← e] at hc
      have := List.all_takeWhile (p := g) (l := l)
      exact List.all_eq_true.mp this c hc
    | cons c r =>
      have gc : g c = false := by
        have := List.head?_dropWhile_not g l
        rw [q] at this
        simpa using this
      have dl : l.drop (l.takeWhile g).length = c :: r := by
        have e2 : l = l.takeWhile g ++ (c :: r) := by rw [← q]; exact e.symm
        exact (congrArg (fun z => z.drop (l.takeWhile g).length) e2).trans List.drop_left
      rw [dl, List.reverse_cons]
      have tw : ((r.reverse ++ [c]).takeWhile g).length ≤ r.length := by
        have hh := (List.takeWhile_prefix (p := g) (l := r.reverse ++ [c])).length_le
        rw [List.length_append, List.length_reverse, List.length_singleton] at hh
        rcases Nat.lt_or_ge r.length ((r.reverse ++ [c]).takeWhile g).length with lt | ge
        · have full : (r.reverse ++ [c]).takeWhile g = r.reverse ++ [c] := (List.takeWhile_prefix (p := g) (l := r.reverse ++ [c])).eq_of_length (by rw [List.length_append, List.length_reverse, List.length_singleton]; omega)
          have ga := List.all_takeWhile (p := g) (l := r.reverse ++ [c])
          rw [full, List.all_eq_true] at ga
          rw [ga c (by simp)] at gc
          cases gc
        · exact ge
      have ll : l.length = (l.takeWhile g).length + (r.length + 1) := by
        have := congrArg List.length e
        rw [List.length_append, q, List.length_cons] at this
        omega
      omega
  cases z : stripSame g true true x with
  | true =>
    rw [if_pos rfl]
    omega
  | false =>
    rw [if_neg (by decide)]
    unfold stripped
    have : (Builtin.Str.strSub x (stripLo g true x) (stripHi g true x (stripLo g true x))).length = stripHi g true x (stripLo g true x) - stripLo g true x := by
      show (x.cps.extract _ _).size = _
      rw [Array.size_extract]
      have : x.cps.size = x.length := rfl
      omega
    omega
end K38
set_option Elab.async false
set_option linter.all false
set_option maxRecDepth 100001
set_option maxHeartbeats 3999999
namespace K38
open PySem L2
abbrev sFwb : Stmt := topS 28
structure Bs (mg : Str → Option Value) : Prop where
  str : mg "str" = none
  all : mg "all" = none
  any : mg "any" = none
  sum : mg "sum" = none
  zip : mg "zip" = none
  sorted : mg "sorted" = none
/-! ### words in order -/
theorem lt_nil {l : List Nat} : ¬ l < [] := fun h => nomatch h
/-- between a word and one that it begins there stand only words that it begins -/
theorem between : ∀ {a b c : W}, ¬ c.map cd < a.map cd → ¬ b.map cd < c.map cd → a <+: b → a <+: c
  | [], _, _, _, _, _ => List.nil_prefix
  | x :: a, b, c, h1, h2, p => by
    obtain ⟨t, rfl⟩ := p
    cases c with
    | nil => exact absurd List.Lex.nil h1
    | cons y c =>
      rw [List.map_cons, List.map_cons] at h1
      rw [List.cons_append, List.map_cons, List.map_cons] at h2
      have e : x = y := by
        refine cd_inj (Nat.le_antisymm ?_ ?_)
        · exact Nat.not_lt.mp fun z => h1 (List.Lex.rel z)
        · exact Nat.not_lt.mp fun z => h2 (List.Lex.rel z)
      subst e
      rw [List.cons_prefix_cons]
      exact ⟨rfl, between (fun z => h1 (List.Lex.cons z)) (fun z => h2 (List.Lex.cons z)) (List.prefix_append a t)⟩
theorem pre_lt : ∀ {a b : W}, b <+: a → ¬ b.map cd < a.map cd → b = a
  | [], b, p, _ => List.prefix_nil.mp p
  | x :: a, [], _, h => absurd List.Lex.nil h
  | x :: a, y :: b, p, h => by
    obtain ⟨e0, p2⟩ := List.cons_prefix_cons.mp p
    subst e0
    rw [List.map_cons, List.map_cons] at h
    have e := pre_lt p2 fun z => h (List.Lex.cons z)
    rw [e]
theorem pf_of_adj : ∀ {ws : List W}, Asc ws → (∀ (i : Nat) (a b : W), ws[i]? = some a → ws[i + 1]? = some b → ¬ a <+: b) → PF ws
  | [], _, _ => .nil
  | a :: r, s, h => by
    obtain ⟨s1, s2⟩ := List.pairwise_cons.mp s
    refine List.Pairwise.cons (fun b hb => ?_) (pf_of_adj s2 fun i x y hx hy => h (i + 1) x y (by simpa using hx) (by simpa using hy))
    cases r with
    | nil => cases hb
    | cons c r =>
      have nc : ¬ a <+: c := h 0 a c rfl rfl
      have np : ¬ a <+: b := fun p => nc (by
        rcases List.mem_cons.mp hb with rfl | hb
        · exact p
        · exact between (s1 c List.mem_cons_self) ((List.pairwise_cons.mp s2).1 b hb) p)
      exact ⟨np, fun p => np (by rw [pre_lt p (s1 b hb)]; exact List.prefix_refl _)⟩
/-! ### first_wrong_bit -/
theorem str1_eq (c d : Nat) : ((⟨#[d]⟩ : Str) == ⟨#[c]⟩) = (c == d) := by
  rw [Bool.eq_iff_iff]
  simp only [beq_iff_eq, Str.mk.injEq]
  constructor
  · intro h
    simpa using h.symm
  · intro h
    rw [h]
theorem inV_bit (c : Nat) : inV (.str ⟨#[c]⟩) [.str "0", .str "1"] = isBit c := by
  show ((⟨#[48]⟩ : Str) == ⟨#[c]⟩ || ((⟨#[49]⟩ : Str) == ⟨#[c]⟩ || false)) = isBit c
  rw [str1_eq, str1_eq, Bool.or_false]
  rfl

theorem kB_str {K : PySem.W.Frag} {H : Hp} {v : V} (k : Kn H v) : ∃ t : String, TyX K H v (.type t) ∧ PySem.W.kitOne K (.type t) (.type "str") = some (isS v) := k.isStr K
def spFwb : Sp := fun vs H Q _ => ∃ v, vs = [v] ∧ Kn H v ∧ (∀ x, v = .str x → x.length ≤ 10000) ∧ ∀ (r : Option Nat) H', Same H H' → (r = none ↔ isBs v = true) → Q (match r with | none => .non | some i => .int (i : Nat)) H'
section
variable {P : Program} {w : World} {K : PySem.W.Frag} {mg : Str → Option Value} {base : Heap}
theorem scFwb : FnScope ["value", "index", "bit"] ["value"] (defScope sFwb) := ⟨rfl, rfl, rfl, by decide +kernel, rfl, by decide +kernel, by decide +kernel⟩
theorem ok_fwb {f : Addr} {fd : FuncData} (F : Fun K "first_wrong_bit" "first_wrong_bit" sFwb f fd) (B : Bi mg) (Z : Bs mg) : FnOk P w K mg base CX0 1 f fd ["value"] spFwb := by
  refine F.ok scFwb (fun vs H Q E h => ?_) (fun cdv A outer s H vs Q E hr h => ?_)
  · obtain ⟨v, rfl, _⟩ := h
    rfl
  · obtain ⟨v, rfl, k, len, q⟩ := h
    refine ⟨_, pss_cons (ps_if (pt_not (pt_val (pe_isStr B.isi (pa_cons (pv 0) (pa_cons (pe_ty "str" Z.str) pa_nil))))) (pss_one (ps_ret pe_int)) pss_nil)
      (pss_cons (ps_if (pt_not (pt_truth (pe_bm PySem.F.plainAttrs_str PySem.F.slot_str_strip PySem.F.type_str_strip mt_stripChars (pv 0) (pa_cons pe_str pa_nil)) (fun _ => rfl))) (pss_one (ps_ret pe_non)) pss_nil)
      (pss_cons (ps_for PassesOwn.never rfl (L2.pi_enS rfl B.enum (pa_cons (pv 0) pa_nil)) (pg_tup rfl (pgs_cons (pg_name (i := 1) scFwb.nd rfl (.inl rfl)) (pgs_cons (pg_name (i := 2) scFwb.nd rfl (.inl rfl)) pgs_nil)))
        (pss_one (ps_if (pt_cmpR op_notIn_seq (pv 2) (pe_tup (pa_cons pe_str (pa_cons pe_str pa_nil))) rfl) (pss_one (ps_ret (pv 1))) pss_nil)))
      (pss_one (ps_ret pe_non)))), ?_⟩
    obtain ⟨t, ty, k1⟩ := k.isStr K
    refine ⟨_, rfl, _, _, _, _, _, rfl, .ty "str", ty, k1, _, rfl, ?_⟩
    cases v with
    | str x =>
      have lx : x.length ≤ 10000 := len x rfl
      refine iteF ⟨_, rfl, rfl, x, _, rfl, rfl, Nat.le_of_lt (small10 lx), _, ⟨?_, rfl⟩, ?_⟩
      · have h1 : (Txt.stripChars x "01").length ≤ x.length := by
          unfold Txt.stripChars Txt.stripBy
          split
          · exact Nat.le_refl _
          · unfold stripped
            show (x.cps.extract _ _).size ≤ x.cps.size
            rw [Array.size_extract]
            omega
        exact Nat.le_trans h1 (Nat.le_of_lt (small10 lx))
      have isB : isBs (.str x) = x.cps.toList.all isBit := rfl
      have bit01 : (("01" : Str).cps.contains : Nat → Bool) = isBit := by
        funext c
        show (#[48, 49] : Array Nat).contains c = isBit c
        unfold isBit
        simp [Array.contains]
      by_cases z : (((Txt.stripChars x "01").length : Int) != 0) = true
      · rw [z]
        refine iteF ?_
        refine ⟨_, rfl, x, rfl, for_it walk_enS (fun i σ H' => ∃ (a b : Option V), σ = [some (.str x), a, b] ∧ Same H H' ∧ ∀ j c, j < i → x.cps[j]? = some c → isBit c = true) ⟨none, none, rfl, Same.refl H, fun j c h => absurd h (Nat.not_lt_zero _)⟩ (fun _ _ _ _ _ => True.intro) ?_ ?_⟩
        · rintro i y σ H1 H2 hi ⟨a, b, rfl, e, ok⟩ ⟨T0, y1, y2, rfl, nT0, rfl, ey1, ey2⟩
          have ey1 : y1 = .int (i : Nat) := (Option.some.inj ey1).symm
          subst ey1
          have ey2 : (x.cps[i]?).map (fun c => V.str ⟨#[c]⟩) = some y2 := ey2
          cases hc : x.cps[i]? with
          | none => rw [hc] at ey2; cases ey2
          | some c =>
            rw [hc] at ey2
            have ey2 : y2 = .str ⟨#[c]⟩ := (Option.some.inj ey2).symm
            subst ey2
            have e2 : Same H (upd H1 T0 (.tup [.int (i : Nat), .str ⟨#[c]⟩])) := e.trans (same_new nT0)
            refine ⟨T0, _, rfl, SqT.of upd_same, rfl, _, _, rfl, _, _, rfl, rfl, ?_⟩
            refine ⟨_, rfl, by show 2 ≤ sizeLine; decide, fun t2 nt2 => ⟨t2, _, rfl, .inr (SqT.of upd_same), rfl, rfl, _, rfl, ?_⟩⟩
            have e3 := e2.trans (same_new (o := .tup [.str "0", .str "1"]) nt2)
            rw [show (if true = true then !inV (.str ⟨#[c]⟩) [.str "0", .str "1"] else inV (.str ⟨#[c]⟩) [.str "0", .str "1"]) = !isBit c by rw [if_pos rfl, inV_bit]]
            cases hb : isBit c with
            | false =>
              refine iteT ⟨_, rfl, q (some i) _ e3 ⟨(fun z => nomatch z), fun z => ?_⟩⟩
              rw [isB, List.all_eq_true] at z
              have := z c (by rw [← Array.getElem?_toList] at hc; exact List.mem_of_getElem? hc)
              rw [hb] at this
              cases this
            | true =>
              refine iteF ⟨_, _, rfl, e3, fun j d hj hd => ?_⟩
              rcases Nat.lt_succ_iff_lt_or_eq.mp hj with h | rfl
              · exact ok j d h hd
              · have := Option.some.inj (hc.symm.trans hd)
                rw [← this]
                exact hb
        · rintro σ H1 ⟨a, b, rfl, e, ok⟩
          refine q none H1 e ⟨fun _ => ?_, fun _ => rfl⟩
          rw [isB, List.all_eq_true]
          intro c hc
          obtain ⟨j, hj⟩ := List.getElem?_of_mem hc
          rw [Array.getElem?_toList] at hj
          exact ok j c (Array.getElem?_eq_some_iff.mp hj).1 hj
      · have z2 : (((Txt.stripChars x "01").length : Int) != 0) = false := by simpa using z
        rw [z2]
        refine iteT (q none H (Same.refl H) ⟨fun _ => ?_, fun _ => rfl⟩)
        rw [isB]
        by_cases c : x.cps.toList.all isBit = true
        · exact c
        · have := strip_some c
          rw [← bit01] at this
          have e : (Txt.stripChars x "01").length = (Txt.stripBy (("01" : Str).cps.contains) true true x).length := rfl
          rw [← e] at this
          simp at z2
          omega
    | _ => exact iteT (q (some 0) H (Same.refl H) ⟨(fun z => nomatch z), (fun z => nomatch z)⟩)
end
end K38
set_option Elab.async false
set_option linter.all false
set_option maxRecDepth 100001
set_option maxHeartbeats 3999999
namespace K38
open PySem L2
abbrev sChW : Stmt := topS 27
theorem sw_bS (a b : W) : Txt.startswith (bS a) (bS b) = decide (b <+: a) := by
  rw [Bool.eq_iff_iff, decide_eq_true_iff]
  unfold Txt.startswith
  rw [Bool.and_eq_true, decide_eq_true_iff, bS_len, bS_len, Nat.zero_add]
  unfold Builtin.Str.subAt
  rw [beq_iff_eq, bS_len, Nat.zero_add]
  have e : (bS a).cps.extract 0 b.length = (bS b).cps ↔ (a.map cd).take b.length = b.map cd := by
    rw [← Array.toList_inj, Array.toList_extract]
    show List.extract (a.map cd) 0 b.length = b.map cd ↔ _
    rw [List.extract_eq_take_drop, List.drop_zero, Nat.sub_zero]
  rw [e, ← List.map_take]
  constructor
  · rintro ⟨_, h⟩
    rw [List.prefix_iff_eq_take, map_cd_inj h]
  · intro h
    refine ⟨h.length_le, ?_⟩
    rw [← List.prefix_iff_eq_take.mp h]
def wV (w : W) : V := .str (bS w)
def okB (l : Nat) (v : V) : Bool := match v with
  | .str x => isBs (.str x) && decide (x.length = l)
  | _ => false
/-- one of two words begins the other -/
def bg (a b : W) : Prop := a <+: b ∨ b <+: a
def spChW (CB CE : Addr) : Sp := fun vs H Q E => ∃ (l s : Addr) (ls : List Nat) (ts : List V), vs = [.ref l, .ref s] ∧ H l = some (.lst (ls.map fun n : Nat => V.int (n : Nat))) ∧ LT H s ts ∧ ts.length = ls.length ∧ ts.length ≤ 60 ∧ (∀ v ∈ ts, Kn H v ∧ ∀ x, v = .str x → x.length ≤ 10000) ∧
  ((∃ i v, ts[i]? = some v ∧ okB (ls.getD i 0) v = false ∧ (∀ j u, j < i → ts[j]? = some u → okB (ls.getD j 0) u = true) ∧ ∀ d H', Rsd H H' d [("index", .int (i : Nat))] → E (.ref CB) (some d) H') ∨
   (∃ ws : List W, ts = ws.map wV ∧ ws.map List.length = ls ∧
     ((H s = some (.lst ts) ∧ ∃ i j a b, i < j ∧ ws[i]? = some a ∧ ws[j]? = some b ∧ bg a b ∧ (∀ i' j' x y, i' < j' → (i' < i ∨ (i' = i ∧ j' < j)) → ws[i']? = some x → ws[j']? = some y → ¬ bg x y) ∧ ∀ d H', Rsd H H' d [("other", .int (j : Nat)), ("index", .int (i : Nat))] → E (.ref CE) (some d) H') ∨
      (PF ws ∧ ∀ H', Same H H' → Q .non H'))))
abbrev NChW : List Str := ["lengths", "words", "index", "word", "order", "other", "at"]
section
variable {X : Cx}
theorem pe_any {a : Expr} {es : List Expr} {t : TA} {p pos : Pos} (hc : X.calm = true) (hm : X.mg "any" = none) (ha : PA X (a :: es) t) (hg : Gl X "any" := by rfl) (he : starEach (a :: es) X.env = (false, eval a X.env) :: starEach es X.env := by rfl)
    (hpl : (backTo pos (starEach es X.env)).any (·.1) = false := by rfl) :
    PE X (.Call (.Name "any" p) (a :: es) [] pos) (tCB (rAny X.K) t) := pe_callB (cr_any hc) hg hm (by decide +kernel) ha (he := he) (hpl := hpl)
end
section
variable {X : Cx} {tg e : Expr}
/-- enumerate of a list or a tuple -/
def iEnS (K : PySem.W.Frag) (ta : TA) : TI := fun σ H R => ta σ H fun vs H1 => ∃ a xs, vs = [.ref a] ∧ Sq K H1 a xs ∧ ∀ (J : It) (G : Hp → Prop), Walk J xs.length G (YPair (fun i => some (.int (i : Nat))) (fun i => xs[i]?)) → (∀ H', (∀ o, H1 a = some o → H' a = some o) → G H') → R J H1
open PySem.Spec PyProof.Rows in
theorem pi_en {ta : TA} {p pos tp : Pos} {es : List Expr} {kk : Nat} (hm : X.mg "enumerate" = none) (ha : PA X [e] ta) (hg : Gl X "enumerate" := by rfl) (hs : starEach [e] X.env = [(false, eval e X.env)] := by rfl) :
    PI X (.Tuple es kk tp) (.Call (.Name "enumerate" p) [e] [] pos) (iEnS X.K ta) := by
  constructor
  intro pins s σ H R I h
  refine Call_ (ld_blt I hg hm PyProof.Rows.boot_enumerate (PyProof.Rows.callWith_type1 (thn (ha.run pos pins s σ H _ I h) fun us s1 hh => ?_) hs rfl))
  obtain ⟨vs, H1, I1, r1, a, xs, ev, sq, k⟩ := hh
  subst ev
  have near : ∀ b ∈ [s1.heap.objs.size + 1, s1.heap.objs.size], FpOk X pins H1 b := fun b hb => by
    have ge : s1.heap.objs.size ≤ b := by
      rcases two_of hb with z | z
      · rw [z]; exact Nat.le_add_right _ _
      · rw [z]; exact Nat.le_refl _
    exact I1.fpOk ge (I1.hok.fresh ge)
  cases r1 with
  | cons r rr =>
    cases rr
    cases r
    rcases sq with hq | hq
    · obtain ⟨its, rv, p1, hz⟩ := I1.list hq
      refine call_enumerate_list p1.isList fun h2 he hd _ hk => wpAny_pyIter_enum he ?_
      exact ⟨s1.heap.objs.size + 1, _, _, _, H1, rfl, I1.kept (t' := s1.toks) hk, turn_enum a (s1.heap.objs.size + 1) s1.heap.objs.size, ⟨⟨.none, he⟩, hd, Nat.succ_ne_self _⟩, near, k _ _ walk_enum fun H' e => sqL_at hq e⟩
    · obtain ⟨its, rv, p2, hz⟩ := I1.tuple hq
      refine enumT_call (begins_tuple a its.toArray) p2 fun h2 he hd hk => wpAny_pyIter_enum he ?_
      exact ⟨s1.heap.objs.size + 1, _, _, _, H1, rfl, I1.kept (t' := s1.toks) hk, turn_enT a (s1.heap.objs.size + 1) s1.heap.objs.size, ⟨⟨.none, he⟩, ⟨_, hd, rfl, rfl⟩, Nat.succ_ne_self _⟩, near, k _ _ walk_enT fun H' e => sqT_at hq e⟩
end
theorem pe_bmK {X : Cx} (K : PySem.W.Frag) (hK : X.K = K) {o e : Expr} {es : List Expr} {to : TE} {t : TA} {name : Str} {apos cpos : Pos} {T id : String} {r : V → List V → Hp → VK → Prop} (pa : PlainAttrs T) (slot : Slot T name id) (hty : typeOf (.builtin id) = pure (.type "method_descriptor")) (hm : MtR X id r) (ho : PE X o to) (ha : PA X (e :: es) t)
    (hbase : attributeBase o name X.env (eval o X.env) = eval o X.env := by rfl)
    (hfew : ((((backTo cpos (starEach (e :: es) X.env)).all fun x => !x.1) && (backToKw cpos (keywordEach [] X.env)).all fun x => x.1.isSome) && decide (((e :: es).length + ([] : List Keyword).length + if ([] : List Keyword).isEmpty = true then 0 else 1) < 30)) = true := by rfl)
    (hline : (apos.endLine == cpos.line) = true := by rfl) (hs : starEach (e :: es) X.env = (false, eval e X.env) :: starEach es X.env := by rfl) (hpl : ((backTo cpos (starEach es X.env)).any fun x => x.1) = false := by rfl) :
    PE X ((o.Attribute name apos).Call (e :: es) [] cpos) (tBM K T r to t) := by
  subst hK
  exact pe_bm pa slot hty hm ho ha hbase hfew hline hs hpl
section
variable {P : Program} {w : World} {K : PySem.W.Frag} {mg : Str → Option Value} {base : Heap}
/-- a comprehension whose i-th item is f i, whatever is made new -/
theorem lcM {J : It} {n : Nat} {G : Hp → Prop} {Y : Nat → Hp → V → Hp → Prop} (wk : Walk J n G Y) {g : TG} {te : TE} {vs : List Nat} {σ : St} {H1 : Hp} {D : Addr} {Qd : Hp → Prop} (f : Nat → V) (hb : n ≤ 10000) (nD : H1 D = none) (hG : ∀ H', Same H1 H' → G H')
    (hs : ∀ (i : Nat) (x : V) (H2 H3 : Hp) (N : VK), i < n → Same H1 H2 → Y i H2 x H3 → (∀ H4, Same H2 H4 → N (f i) H4) → g x (wipe σ vs) H3 fun σ2 H4 => wipe σ2 vs = wipe σ vs ∧ te σ2 H4 N)
    (hd : ∀ H', Same H1 H' → H' D = some (.lst ((List.range n).map f)) → Qd H') :
    ∃ W : Nat → Nat → Hp → Prop, (∃ m, W 0 m (upd H1 D (.lst []))) ∧ ∀ i m H, W i m H →
      (J.stop i H ∧ Qd H) ∨ (J.go i H ∧ ∃ Nx : Hp → Prop, (∀ H', Nx H' → ∃ m', m' < m ∧ W (i + 1) m' H') ∧ ∀ x H', J.yld i H x H' → g x (wipe σ vs) H' fun σ2 H2 => wipe σ2 vs = wipe σ vs ∧ tYes σ2 H2 fun b H3 =>
        if b = true then te σ2 H3 fun y H4 => ∃ acc, H4 D = some (.lst acc) ∧ acc.length < sizeLine ∧ Nx (upd H4 D (.lst (acc ++ [y]))) else Nx H3) := by
  refine lc_it wk (fun i H' => Same H1 H' ∧ H' D = some (.lst ((List.range i).map f))) ⟨same_new nD, upd_same⟩ (fun i H' _ z => hG H' z.1) ?_ (fun H' z => hd H' z.1 z.2)
  rintro i x H H' hi ⟨e1, hD⟩ y
  refine hs i x H H' _ hi e1 y fun H4 e4 => ⟨_, e4 _ _ hD, ?_, fun b o z => ?_, ?_⟩
  · rw [List.length_map, List.length_range]
    exact small10 (by omega)
  · rw [upd_ne (ne_of_none z nD)]
    exact e4 _ _ (e1 _ _ z)
  · rw [upd_same, List.range_succ, List.map_append]
    rfl
theorem nlt_trans {a b c : List Nat} (h1 : ¬ b < a) (h2 : ¬ c < b) : ¬ c < a := List.not_lt.mpr (List.le_trans (List.not_lt.mp h1) (List.not_lt.mp h2))
theorem rising : ∀ {r : List Str} {p : Str}, PyProof.Rows.risingS p r = true → (∀ y ∈ r, ¬ y.cps.toList < p.cps.toList) ∧ r.Pairwise fun a b => ¬ b.cps.toList < a.cps.toList
  | [], _, _ => ⟨(fun _ h => nomatch h), List.Pairwise.nil⟩
  | x :: r, p, h => by
    unfold PyProof.Rows.risingS at h
    rw [Bool.and_eq_true, PyProof.Rows.ltCps_eq] at h
    have h1 : ¬ x.cps.toList < p.cps.toList := by simpa using h.1
    obtain ⟨a, b⟩ := rising h.2
    refine ⟨fun y hy => ?_, .cons a b⟩
    rcases List.mem_cons.mp hy with rfl | hy
    · exact h1
    · exact nlt_trans h1 (a y hy)
theorem asc_of {ws : List W} (h : PyProof.Rows.sortedS (ws.map bS) = true) : Asc ws := by
  cases ws with
  | nil => exact .nil
  | cons x r =>
    obtain ⟨a, b⟩ := rising (r := r.map bS) h
    refine .cons (fun y hy => a (bS y) (List.mem_map.mpr ⟨y, hy, rfl⟩)) ?_
    exact (List.pairwise_map.mp b)
theorem perm_bS {ys : List Str} {ws : List W} (h : ys.Perm (ws.map bS)) : ∃ us : List W, ys = us.map bS ∧ us.Perm ws := by
  refine ⟨ys.map fun y => y.cps.toList.map (· == 49), ?_, ?_⟩
  · rw [List.map_map]
    conv => lhs; rw [← List.map_id ys]
    refine List.map_congr_left fun y hy => ?_
    obtain ⟨w, _, rfl⟩ := List.mem_map.mp (h.subset hy)
    show bS w = bS (((bS w).cps.toList).map (· == 49))
    congr 1
    show w = (w.map cd).map (· == 49)
    rw [List.map_map]
    conv => lhs; rw [← List.map_id w]
    exact List.map_congr_left fun b _ => by cases b <;> rfl
  · have := h.map fun y : Str => y.cps.toList.map (· == 49)
    rw [List.map_map] at this
    have e : ws.map ((fun y : Str => y.cps.toList.map (· == 49)) ∘ bS) = ws := by
      conv => rhs; rw [← List.map_id ws]
      refine List.map_congr_left fun w _ => ?_
      show (w.map cd).map (· == 49) = w
      rw [List.map_map]
      conv => rhs; rw [← List.map_id w]
      exact List.map_congr_left fun b _ => by cases b <;> rfl
    rw [e] at this
    exact this
theorem PF.perm {a b : List W} (h : PF a) (p : a.Perm b) : PF b := (p.pairwise_iff (fun {x y} z => ⟨z.2, z.1⟩)).mp h
theorem scChW : FnScope NChW ["lengths", "words"] (defScope sChW) := ⟨rfl, rfl, rfl, by decide +kernel, rfl, by decide +kernel, by decide +kernel⟩
theorem ok_chW {f CB CE : Addr} {fd : FuncData} (F : Fun K "check_words" "check_words" sChW f fd) (B : Bi mg) (Z : Bs mg) (cF : Cal CX0 P w K mg base 1 "first_wrong_bit" spFwb)
    (xB : Xc P w K mg base 2 "BadBits" CB (spX1 K "index")) (nB : PySem.W.findIn K (.ref CB) "index" = some none) (xE : Xc P w K mg base 2 "Begins" CE (spX2 K "index" "other")) (nE : PySem.W.findIn K (.ref CE) "index" = some none ∧ PySem.W.findIn K (.ref CE) "other" = some none) :
    FnOk P w K mg base (L2.CX P w) 4 f fd ["lengths", "words"] (spChW CB CE) := by
  refine F.okX scChW (fun vs H Q E h => ?_) (fun cdv A outer s H vs Q E hr h => ?_)
  · obtain ⟨l, s, ls, ts, rfl, _⟩ := h
    rfl
  · obtain ⟨l0, s0, ls, ts, rfl, hl, hs, len, l60, kn, out⟩ := h
    refine ⟨_, pss_cons (ps_for (passes_of rfl) rfl (pi_en B.enum (pa_cons (pv 1) pa_nil)) (pg_tup rfl (pgs_cons (pg_name (i := 2) scChW.nd rfl (.inl rfl)) (pgs_cons (pg_name (i := 3) scChW.nd rfl (.inl rfl)) pgs_nil)))
        (pss_one (ps_if (PW.pt (pw_or (pt_cmpR op_notN (pe_c cF hr pass0 (pa_cons (pv 3) pa_nil)) pe_non (nomark _)) (pw_or1 (pt_cmpR op_ne (pe_lenS B.len (pa_cons (pv 3) pa_nil)) (pe_ix (ix_listK K rfl) (pv 0) (pv 2) (fun _ _ => rfl)) (nomark _))))) (pss_one (ps_raise rfl (takes_of rfl rfl rfl rfl) (pmk_x xB hr (pa_cons (pv 2) pa_nil)))) pss_nil)))
      (pss_cons (ps_set (i := 4) scChW.nd rfl (Or.inr rfl) (pe_callB cr_sortedS rfl Z.sorted (by decide +kernel) (pa_cons (pe_callTy call_list_of rfl B.list (by decide +kernel) (pa_cons (pv 1) pa_nil)) pa_nil)))
      (pss_one (ps_if (pt_val (pe_any rfl Z.any (pa_cons (pe_lc (own := [("at", 6)]) rfl scChW.nd (pi_range1 rfl B.range (pa_cons (pe_op op_sub (pe_len B.len (pa_cons (pv 4) pa_nil)) pe_int) pa_nil)) (blkOk_by (N := NChW) (sc := defScope sChW) (by decide +kernel))
            (fun _ _ _ _ _ => pg_name (i := 6) scChW.nd rfl (Or.inl rfl)) (fun _ _ _ _ _ => pts_nil) (fun _ _ _ _ _ => pe_bmK K rfl PySem.F.plainAttrs_str PySem.F.slot_str_startswith PySem.F.type_str_startswith mt_startswith (pe_ix (ix_listK K rfl) (pv 4) (pe_op op_add (pv 6) pe_int) (fun _ _ => rfl)) (pa_cons (pe_ix (ix_listK K rfl) (pv 4) (pv 6) (fun _ _ => rfl)) pa_nil))) pa_nil)))
        (pss_one (ps_for (passes_of rfl) rfl (pi_en B.enum (pa_cons (pv 1) pa_nil)) (pg_tup rfl (pgs_cons (pg_name (i := 2) scChW.nd rfl (.inl rfl)) (pgs_cons (pg_name (i := 3) scChW.nd rfl (.inl rfl)) pgs_nil)))
          (pss_one (ps_for (passes_of rfl) rfl (pi_range2 rfl B.range (pa_cons (pe_op op_add (pv 2) pe_int) (pa_cons (pe_len B.len (pa_cons (pv 1) pa_nil)) pa_nil))) (pg_name (i := 5) scChW.nd rfl (.inl rfl))
            (pss_one (ps_if (PW.pt (pw_or (pt_val (pe_bm PySem.F.plainAttrs_str PySem.F.slot_str_startswith PySem.F.type_str_startswith mt_startswith (pe_ix (ix_listK K rfl) (pv 1) (pv 5) (fun _ _ => rfl)) (pa_cons (pv 3) pa_nil))) (pw_or1 (pt_val (pe_bm PySem.F.plainAttrs_str PySem.F.slot_str_startswith PySem.F.type_str_startswith mt_startswith (pv 3) (pa_cons (pe_ix (ix_listK K rfl) (pv 1) (pv 5) (fun _ _ => rfl)) pa_nil))))))
              (pss_one (ps_raise rfl (takes_of rfl rfl rfl rfl) (pmk_x xE hr (pa_cons (pv 2) (pa_cons (pv 5) pa_nil))))) pss_nil)))))) pss_nil))), ?_⟩
    have bad : ∀ (i : Nat) (v : V), ts[i]? = some v → okB (ls.getD i 0) v = false → (∀ j u, j < i → ts[j]? = some u → okB (ls.getD j 0) u = true) → ∀ H1, Same H H1 → ∀ d H', Rsd H1 H' d [("index", .int (i : Nat))] → E (.ref CB) (some d) H' := by
      intro i v hv hb ok H1 e1 d H' r
      have nb : ∀ (ws : List W), ts = ws.map wV → ws.map List.length = ls → False := fun ws e1 e2 => by
        subst e1 e2
        rw [List.getElem?_map] at hv
        cases q : ws[i]? with
        | none => rw [q] at hv; cases hv
        | some w =>
          rw [q] at hv
          cases hv
          have e3 : (ws.map List.length).getD i 0 = w.length := by rw [List.getD_eq_getElem?_getD, List.getElem?_map, q]; rfl
          rw [e3] at hb
          unfold okB wV at hb
          simp only [isBs_bS, bS_len, decide_true, Bool.and_self] at hb
          cases hb
      rcases out with ⟨i0, v0, h1, h2, h3, out⟩ | ⟨ws, h1, h2, _⟩
      · have ei : i = i0 := by
          rcases Nat.lt_trichotomy i i0 with z | z | z
          · rw [h3 i v z hv] at hb; cases hb
          · exact z
          · rw [ok i0 v0 z h1] at h2; cases h2
        subst ei
        exact out d H' ⟨e1.free r.new, e1.trans r.same, r.at_⟩
      · exact (nb ws h1 h2).elim
    refine ⟨_, rfl, s0, ts, rfl, hs.sq, fun J G wk hG => for_it wk (fun i σ H' => ∃ (a b : Option V), σ = [some (.ref l0), some (.ref s0), a, b, none, none, none] ∧ Same H H' ∧ ∀ j u, j < i → ts[j]? = some u → okB (ls.getD j 0) u = true) ⟨none, none, rfl, Same.refl H, fun j u h => absurd h (Nat.not_lt_zero _)⟩ (fun i σ H' _ ⟨_, _, _, e, _⟩ => hG H' fun o z => e _ _ z) ?_ ?_⟩
    · rintro i x σ H1 H2 hi ⟨a, b, rfl, e, ok⟩ ⟨T0, y, v, rfl, nT0, rfl, ey, hv⟩
      have ey : y = .int (i : Nat) := (Option.some.inj ey).symm
      have hv : ts[i]? = some v := hv
      subst ey
      have e2 : Same H (upd H1 T0 (.tup [.int (i : Nat), v])) := e.trans (same_new nT0)
      obtain ⟨kv, lv⟩ := kn v (List.mem_of_getElem? hv)
      refine ⟨T0, _, rfl, SqT.of upd_same, rfl, _, _, rfl, _, _, rfl, rfl, ?_⟩
      refine ⟨_, rfl, v, rfl, kv.same e2, lv, fun r H3 e3 iff => ⟨rfl, _, rfl, ?_⟩⟩
      have e13 := e2.trans e3
      have li : i < ls.length := by rw [← len]; exact (List.getElem?_eq_some_iff.mp hv).1
      have gl : ls.getD i 0 = ls[i] := by rw [List.getD_eq_getElem?_getD, List.getElem?_eq_getElem li]; rfl
      cases hb : isBs v with
      | false =>
        cases r with
        | none => rw [iff.mp rfl] at hb; cases hb
        | some r0 =>
          have ob : okB (ls.getD i 0) v = false := by
            unfold okB
            cases v with
            | str x => simp only [hb, Bool.false_and]
            | _ => rfl
          refine iteT (iteT ⟨_, rfl, raise1 xB.T nB True.intro fun d H' r => bad i v hv ob ok H3 e13 d H' r⟩)
      | true =>
        have rn := iff.mpr hb
        subst rn
        cases v with
        | str x =>
          have lx := lv x rfl
          refine iteF ⟨_, rfl, x, rfl, Nat.le_of_lt (small10 lx), _, rfl, _, rfl, l0, _, _, .int ((ls[i] : Nat) : Int), rfl, rfl, SqL.of (e13 _ _ hl), atI_nat (by rw [List.getElem?_map, List.getElem?_eq_getElem li]; rfl), rfl, _, rfl, ?_⟩
          have de : (!decide (V.int ((x.length : Nat) : Int) = V.int ((ls[i] : Nat) : Int))) = !okB (ls.getD i 0) (.str x) := by
            show (!decide (V.int ((x.length : Nat) : Int) = V.int ((ls[i] : Nat) : Int))) = !(isBs (.str x) && decide (x.length = ls.getD i 0))
            rw [hb, gl, Bool.true_and]
            congr 1
            exact decide_eq_decide.mpr ⟨fun z => by injection z with z; omega, fun z => by rw [z]⟩
          rw [de]
          cases ob : okB (ls.getD i 0) (.str x) with
          | false => exact iteT ⟨_, rfl, raise1 xB.T nB True.intro fun d H' r => bad i _ hv ob ok H3 e13 d H' r⟩
          | true =>
            refine iteF ⟨_, _, rfl, e13, fun j u hj hu => ?_⟩
            rcases Nat.lt_succ_iff_lt_or_eq.mp hj with h | rfl
            · exact ok j u h hu
            · have := Option.some.inj (hv.symm.trans hu)
              rw [← this]
              exact ob
        | _ => cases hb
    · rintro σ H1 ⟨a, b, rfl, e1, ok⟩
      clear wk hG
      obtain ⟨ws, rfl, hw, out⟩ : ∃ ws : List W, ts = ws.map wV ∧ ws.map List.length = ls ∧
          ((H s0 = some (.lst ts) ∧ ∃ i j a b, i < j ∧ ws[i]? = some a ∧ ws[j]? = some b ∧ bg a b ∧ (∀ i' j' x y, i' < j' → (i' < i ∨ (i' = i ∧ j' < j)) → ws[i']? = some x → ws[j']? = some y → ¬ bg x y) ∧ ∀ d H', Rsd H H' d [("other", .int (j : Nat)), ("index", .int (i : Nat))] → E (.ref CE) (some d) H') ∨
            (PF ws ∧ ∀ H', Same H H' → Q .non H')) := by
        rcases out with ⟨i0, v0, h1, h2, _⟩ | h
        · rw [ok i0 v0 (List.getElem?_eq_some_iff.mp h1).1 h1] at h2
          cases h2
        · exact h
      rw [List.length_map] at l60 len
      have ews : ws.map wV = (ws.map bS).map V.str := by rw [List.map_map]; rfl
      refine ⟨_, rfl, s0, _, rfl, (hs.same e1).sq, fun p1 np1 => ?_⟩
      have e2 := e1.trans (same_new (o := .lst (ws.map wV)) np1)
      have hp1 : upd H1 p1 (.lst (ws.map wV)) p1 = some (.lst (ws.map wV)) := upd_same
      generalize upd H1 p1 (.lst (ws.map wV)) = H2 at e2 hp1 ⊢
      refine ⟨p1, ws.map bS, rfl, SqL.of (by rw [← ews]; exact hp1), by rw [List.length_map]; omega, fun ys p2 perm srt np2 => ?_⟩
      obtain ⟨us, rfl, pu⟩ := perm_bS perm
      have asc := asc_of srt
      have lu : us.length = ws.length := pu.length_eq
      have e3 := e2.trans (same_new (o := .lst ((us.map bS).map V.str)) np2)
      have hp2 : upd H2 p2 (.lst ((us.map bS).map V.str)) p2 = some (.lst ((us.map bS).map V.str)) := upd_same
      generalize upd H2 p2 (.lst ((us.map bS).map V.str)) = H3 at e3 hp2 ⊢
      refine ⟨_, rfl, p2, _, rfl, .inl (SqL.of hp2), _, _, rfl, rfl, _, rfl, by rw [List.length_map, List.length_map]; omega, by rw [List.length_map, List.length_map]; omega, fun D nD => lcM walk_range (fun i => .bl (decide (us.getD i [] <+: us.getD (i + 1) []))) (by rw [List.length_map, List.length_map]; omega) nD (fun _ _ => True.intro) ?_ ?_⟩
      · rintro k x H4 H5 N2 hk e4 ⟨rfl, rfl⟩ fin
        have hk : k + 1 < us.length := by rw [List.length_map, List.length_map] at hk; omega
        have k0 : (0 : Int) + (k : Nat) = (k : Nat) := by omega
        have g1 : us.getD k [] = us[k] := by rw [List.getD_eq_getElem?_getD, List.getElem?_eq_getElem (by omega)]; rfl
        have g2 : us.getD (k + 1) [] = us[k + 1] := by rw [List.getD_eq_getElem?_getD, List.getElem?_eq_getElem hk]; rfl
        have fin : ∀ H6, Same H5 H6 → N2 (.bl (decide (us.getD k [] <+: us.getD (k + 1) []))) H6 := fin
        rw [g1, g2, ← sw_bS] at fin
        show gName 6 (V.int (0 + (k : Nat))) _ _ _
        rw [k0]
        refine ⟨rfl, ?_⟩
        refine ⟨_, rfl, _, rfl, _, _, rfl, rfl, p2, _, _, .str (bS us[k + 1]), rfl, rfl, SqL.of (e4 _ _ hp2), ?_, rfl, _, rfl, _, rfl, p2, _, _, .str (bS us[k]), rfl, rfl, SqL.of (e4 _ _ hp2), ?_, _, _, rfl, rfl, fin _ (Same.refl _)⟩
        · rw [show ((k : Nat) : Int) + 1 = ((k + 1 : Nat) : Int) by omega]
          exact atI_nat (by rw [List.getElem?_map, List.getElem?_map, List.getElem?_eq_getElem hk]; rfl)
        · exact atI_nat (by rw [List.getElem?_map, List.getElem?_map, List.getElem?_eq_getElem (by omega)]; rfl)
      intro H4 e4 hD
      have mb : ∀ (b : Nat → Bool) (n : Nat), (List.range n).map (fun i => V.bl (b i)) = ((List.range n).map b).map V.bl := fun b n => by rw [List.map_map]; rfl
      rw [mb] at hD
      refine ⟨D, _, rfl, SqL.of hD, _, rfl, ?_⟩
      have e14 := e3.trans e4
      have pf : PF ws ↔ ((List.range ((((((us.map bS).map V.str).length : Nat) : Int) - 1).toNat)).map fun i => decide (us.getD i [] <+: us.getD (i + 1) [])).any id = false := by
        rw [List.any_map, List.any_eq_false]
        constructor
        · intro h k hk z
          have hk := List.mem_range.mp hk
          have hk : k + 1 < us.length := by rw [List.length_map, List.length_map] at hk; omega
          have z := of_decide_eq_true z
          rw [List.getD_eq_getElem?_getD, List.getD_eq_getElem?_getD, List.getElem?_eq_getElem (by omega), List.getElem?_eq_getElem hk] at z
          exact ((List.pairwise_iff_getElem.mp (h.perm pu.symm)) k (k + 1) (by omega) hk (by omega)).1 z
        · intro h
          refine (pf_of_adj asc fun i a b ha hb z => ?_).perm pu
          have hi := (List.getElem?_eq_some_iff.mp hb).1
          refine h i (List.mem_range.mpr (by rw [List.length_map, List.length_map]; omega)) ?_
          show decide _ = true
          rw [List.getD_eq_getElem?_getD, List.getD_eq_getElem?_getD, ha, hb]
          exact decide_eq_true z
      cases hb : ((List.range ((((((us.map bS).map V.str).length : Nat) : Int) - 1).toNat)).map fun i => decide (us.getD i [] <+: us.getD (i + 1) [])).any id with
      | false =>
        refine iteF ?_
        have p := pf.mpr hb
        rcases out with ⟨_, i, j, wa, wb, lt, ha, hb2, g, _⟩ | ⟨_, q⟩
        · obtain ⟨l1, e5⟩ := List.getElem?_eq_some_iff.mp ha
          obtain ⟨l2, e6⟩ := List.getElem?_eq_some_iff.mp hb2
          have := (List.pairwise_iff_getElem.mp p) i j l1 l2 lt
          rw [e5, e6] at this
          exact (g.elim this.1 this.2).elim
        · exact q H4 e14
      | true =>
        refine iteT ?_
        rcases out with ⟨hl2, i0, j0, wa, wb, lt, ha, hb2, g, first, out⟩ | ⟨p, _⟩
        · have li0 := (List.getElem?_eq_some_iff.mp ha).1
          have lj0 := (List.getElem?_eq_some_iff.mp hb2).1
          have hs4 := e14 _ _ hl2
          refine ⟨_, rfl, s0, _, rfl, .inl (SqL.of hs4), fun J G wk hG => for_it wk (fun i σ H' => ∃ (a b c d : Option V), σ = [some (.ref l0), some (.ref s0), a, b, c, d, none] ∧ Same H4 H' ∧ i ≤ i0) ⟨_, _, _, _, rfl, Same.refl H4, Nat.zero_le _⟩ (fun i σ H' _ ⟨_, _, _, _, _, e, _⟩ => hG H' fun o z => e _ _ z) ?_ ?_⟩
          · rintro i x σ H5 H6 hi ⟨a', b', c', d', rfl, e5, le⟩ ⟨T0, y, v, rfl, nT0, rfl, ey, hv⟩
            have ey : y = .int (i : Nat) := (Option.some.inj ey).symm
            have hv : (ws.map wV)[i]? = some v := hv
            subst ey
            rw [List.getElem?_map] at hv
            cases hwi : ws[i]? with
            | none => rw [hwi] at hv; cases hv
            | some wi =>
              rw [hwi] at hv
              have hv : v = wV wi := (Option.some.inj hv).symm
              subst hv
              have e6 := e5.trans (same_new (o := .tup [.int (i : Nat), wV wi]) nT0)
              refine ⟨T0, _, rfl, SqT.of upd_same, rfl, _, _, rfl, _, _, rfl, rfl, ?_⟩
              have hs6 := e6 _ _ hs4
              generalize upd H5 T0 (.tup [.int (i : Nat), wV wi]) = H6 at e6 hs6 ⊢
              refine ⟨_, rfl, _, _, rfl, rfl, _, rfl, s0, _, rfl, .inl (SqL.of hs6), _, _, rfl, ⟨by omega, by omega, by omega, by rw [List.length_map]; omega⟩, for_range (fun k σ H' => ∃ c d : Option V, σ = [some (.ref l0), some (.ref s0), some (.int (i : Nat)), some (wV wi), c, d, none] ∧ H' = H6 ∧ (i = i0 → i + 1 + k ≤ j0)) ⟨_, _, rfl, rfl, fun z => by omega⟩ ?_ ?_⟩
              · rintro k σ H7 hk ⟨c2, d2, rfl, rfl, hk2⟩
                have hk3 : i + 1 + k < ws.length := by rw [List.length_map] at hk; omega
                have ek : ((i : Nat) : Int) + 1 + ((k : Nat) : Int) = ((i + 1 + k : Nat) : Int) := by omega
                show gName 5 (V.int (((i : Nat) : Int) + 1 + ((k : Nat) : Int))) _ _ _
                rw [ek]
                have at_ : atI (ws.map wV) ((i + 1 + k : Nat) : Int) = some (.str (bS ws[i + 1 + k])) := atI_nat (by rw [List.getElem?_map, List.getElem?_eq_getElem hk3]; rfl)
                refine ⟨_, rfl, _, rfl, s0, _, _, _, rfl, rfl, SqL.of hs6, at_, rfl, _, rfl, _, _, rfl, rfl, _, rfl, ?_⟩
                rw [sw_bS]
                have rz : ∀ (c : bg wi ws[i + 1 + k]), i = i0 ∧ i + 1 + k = j0 := fun c => by
                  have h1 : ws[i + 1 + k]? = some ws[i + 1 + k] := List.getElem?_eq_getElem hk3
                  rcases Nat.lt_or_ge i i0 with z | z
                  · exact (first i (i + 1 + k) wi _ (by omega) (.inl z) hwi h1 c).elim
                  · have ei : i = i0 := by omega
                    have := hk2 ei
                    rcases Nat.lt_or_ge (i + 1 + k) j0 with z2 | z2
                    · exact (first i (i + 1 + k) wi _ (by omega) (.inr ⟨ei, z2⟩) hwi h1 c).elim
                    · exact ⟨ei, by omega⟩
                have go : ∀ (c : bg wi ws[i + 1 + k]), ∀ d H', Rsd H7 H' d [("other", .int ((i + 1 + k : Nat) : Int)), ("index", .int (i : Nat))] → E (.ref CE) (some d) H' := fun c d H' r => by
                  obtain ⟨z1, z2⟩ := rz c
                  rw [z2, z1] at r
                  exact out d H' ⟨(e14.trans e6).free r.new, (e14.trans e6).trans r.same, r.at_⟩
                cases c1 : decide (wi <+: ws[i + 1 + k]) with
                | true => exact iteT (iteT ⟨_, rfl, _, rfl, raise2 xE.T nE.1 nE.2 True.intro True.intro (go (.inl (of_decide_eq_true c1)))⟩)
                | false =>
                  refine iteF ⟨_, rfl, rfl, _, rfl, _, rfl, s0, _, _, _, rfl, rfl, SqL.of hs6, at_, _, _, rfl, rfl, _, rfl, ?_⟩
                  rw [sw_bS]
                  cases c2 : decide (ws[i + 1 + k] <+: wi) with
                  | true => exact iteT ⟨_, rfl, _, rfl, raise2 xE.T nE.1 nE.2 True.intro True.intro (go (.inr (of_decide_eq_true c2)))⟩
                  | false =>
                    refine iteF ⟨_, _, rfl, rfl, fun z => ?_⟩
                    have := hk2 z
                    rcases Nat.lt_or_ge (i + 1 + k) j0 with z2 | z2
                    · omega
                    · have ej : i + 1 + k = j0 := by omega
                      have gg := g
                      subst z ej
                      rw [hwi] at ha
                      rw [List.getElem?_eq_getElem hk3] at hb2
                      cases ha
                      cases hb2
                      exact (gg.elim (of_decide_eq_false c1) (of_decide_eq_false c2)).elim
              · rintro σ H7 ⟨c2, d2, rfl, rfl, hk2⟩
                refine ⟨_, _, _, _, rfl, e6, ?_⟩
                rcases Nat.lt_or_ge i i0 with z | z
                · exact z
                · have ei : i = i0 := by omega
                  have := hk2 ei
                  rw [List.length_map] at this
                  omega
          · rintro σ H5 ⟨a', b', c', d', rfl, e5, le⟩
            rw [List.length_map] at le
            omega
        · rw [pf.mp p] at hb
          cases hb
end
end K38
set_option Elab.async false
set_option linter.all false
set_option maxRecDepth 100001
set_option maxHeartbeats 3999999
namespace K38
open PySem L2
abbrev sFo : Stmt := topS 21
abbrev sTrI : Stmt := inClass (topS 20) 0
/-- the bit at d of the i-th word in order -/
def obit (ws : List W) (os : List Nat) (d i : Nat) : Option Bool := (os[i]?).bind fun o => (ws[o]?).bind fun w => w[d]?
def spFo (K : PySem.W.Frag) : Sp := fun vs H Q _ => ∃ (wp op : Addr) (ws : List W) (os : List Nat) (d f m b : Nat), vs = [.ref wp, .ref op, .int (d : Nat), .int (f : Nat), .int (b : Nat)] ∧ H wp = some (.tup (ws.map wV)) ∧ H op = some (.lst (os.map fun n : Nat => V.int (n : Nat))) ∧
  f ≤ m ∧ m ≤ b ∧ b ≤ 100000 ∧ (∀ i, f ≤ i → i < m → obit ws os d i = some false) ∧ (∀ i, m ≤ i → i < b → obit ws os d i = some true) ∧ (∀ w ∈ ws, w.length ≤ 10000) ∧ Q (.int (m : Nat)) H
section
variable {P : Program} {w : World} {K : PySem.W.Frag} {mg : Str → Option Value} {base : Heap}
theorem scFo : FnScope ["words", "order", "depth", "first", "behind", "middle"] ["words", "order", "depth", "first", "behind"] (defScope sFo) := ⟨rfl, rfl, rfl, by decide +kernel, rfl, by decide +kernel, by decide +kernel⟩
theorem ok_fo {f : Addr} {fd : FuncData} (F : Fun K "first_one" "first_one" sFo f fd) : FnOk P w K mg base CX0 1 f fd ["words", "order", "depth", "first", "behind"] (spFo K) := by
  refine F.ok scFo (fun vs H Q E h => ?_) (fun cdv A outer s H vs Q E hr h => ?_)
  · obtain ⟨wp, op, ws, os, d, f, m, b, rfl, _⟩ := h
    rfl
  · obtain ⟨wp, op, ws, os, d, f0, m, b0, rfl, hw, ho, fm, mb, b1, lo, hi, ln, q⟩ := h
    refine ⟨_, pss_cons (ps_while PassesOwn.never (pt_cmpR op_lt (pv 3) (pv 4) (nomark _))
        (pss_cons (ps_set (i := 5) scFo.nd rfl (Or.inl rfl) (pe_op op_fdiv (pe_op op_add (pv 3) (pv 4)) pe_int))
        (pss_one (ps_if (pt_cmpR op_eq (pe_ix ix_str (pe_ix ix_tup (pv 0) (pe_ix ix_list (pv 1) (pv 5) (fun _ _ => rfl)) (fun _ _ => rfl)) (pv 2) (fun _ _ => rfl)) pe_str (nomark _))
          (pss_one (ps_set (i := 4) scFo.nd rfl (Or.inl rfl) (pv 5))) (pss_one (ps_set (i := 3) scFo.nd rfl (Or.inl rfl) (pe_op op_add (pv 5) pe_int)))))))
      (pss_one (ps_ret (pv 3))), ?_⟩
    show tWhile _ _ _ [some (.ref wp), some (.ref op), some (.int (d : Nat)), some (.int (f0 : Nat)), some (.int (b0 : Nat)), none] H
    refine ⟨fun k σ H' => ∃ (f b : Nat) (x5 : Option V), k = b - f ∧ σ = [some (.ref wp), some (.ref op), some (.int (d : Nat)), some (.int (f : Nat)), some (.int (b : Nat)), x5] ∧ H' = H ∧ f0 ≤ f ∧ f ≤ m ∧ m ≤ b ∧ b ≤ b0, ⟨_, f0, b0, none, rfl, rfl, rfl, Nat.le_refl _, fm, mb, Nat.le_refl _⟩, ?_⟩
    rintro k σ G ⟨f, b, x5, rfl, rfl, rfl, h1, h2, h3, h4⟩
    refine ⟨_, rfl, _, rfl, _, _, rfl, rfl, _, rfl, ?_⟩
    by_cases c : f < b
    · rw [decide_eq_true (show ((f : Nat) : Int) < ((b : Nat) : Int) by omega)]
      refine iteT ⟨fun σ' H' => ∃ k', k' < b - f ∧ ∃ (f b : Nat) (x5 : Option V), k' = b - f ∧ σ' = [some (.ref wp), some (.ref op), some (.int (d : Nat)), some (.int (f : Nat)), some (.int (b : Nat)), x5] ∧ H' = G ∧ f0 ≤ f ∧ f ≤ m ∧ m ≤ b ∧ b ≤ b0, fun σ' H' ⟨k', l, z⟩ => ⟨k', l, z⟩, ?_⟩
      refine ⟨_, rfl, _, rfl, _, _, rfl, rfl, _, _, rfl, rfl, ⟨by decide, by decide⟩, ?_⟩
      have em : (((f : Nat) : Int) + ((b : Nat) : Int)) / 2 = (((f + b) / 2 : Nat) : Int) := by omega
      show gName 5 (V.int ((((f : Nat) : Int) + ((b : Nat) : Int)) / 2)) _ _ _
      rw [em]
      have m1 : f ≤ (f + b) / 2 := by omega
      have m2 : (f + b) / 2 < b := by omega
      generalize (f + b) / 2 = mm at m1 m2 ⊢
      have hb : obit ws os d mm = some (decide (m ≤ mm)) := by
        by_cases z : m ≤ mm
        · rw [hi mm z (by omega), decide_eq_true z]
        · rw [lo mm (by omega) (by omega), decide_eq_false z]
      unfold obit at hb
      cases ho2 : os[mm]? with
      | none => rw [ho2] at hb; cases hb
      | some o =>
        rw [ho2] at hb
        cases hw2 : ws[o]? with
        | none =>
          rw [show ((some o).bind fun o => (ws[o]?).bind fun w => w[d]?) = (ws[o]?).bind fun w => w[d]? from rfl, hw2] at hb
          cases hb
        | some wo =>
          rw [show ((some o).bind fun o => (ws[o]?).bind fun w => w[d]?) = (ws[o]?).bind fun w => w[d]? from rfl, hw2] at hb
          have hb : wo[d]? = some (decide (m ≤ mm)) := hb
          have lw := ln wo (List.mem_of_getElem? hw2)
          refine ⟨_, rfl, _, rfl, _, rfl, op, _, _, .int ((o : Nat) : Int), rfl, rfl, SqL.of ho, atI_nat (by rw [List.getElem?_map, ho2]; rfl), wp, _, _, wV wo, rfl, rfl, SqT.of hw, atI_nat (by rw [List.getElem?_map, hw2]; rfl), _, rfl, _, _, cd (decide (m ≤ mm)), rfl, rfl, ?_, ?_, rfl, _, rfl, ?_⟩
          · rw [bS_len]
            exact Nat.le_of_lt (small10 lw)
          · refine atI_nat ?_
            show (wo.map cd)[d]? = _
            rw [List.getElem?_map, hb]
            rfl
          · by_cases z : m ≤ mm
            · rw [decide_eq_true z]
              rw [show decide (V.str ⟨#[cd true]⟩ = V.str "1") = true from decide_eq_true rfl]
              exact iteT ⟨_, rfl, _, by omega, f, mm, _, rfl, rfl, rfl, h1, h2, z, by omega⟩
            · rw [decide_eq_false z]
              rw [show decide (V.str ⟨#[cd false]⟩ = V.str "1") = false from decide_eq_false (fun z => by
                injection z with z
                exact absurd z (by decide +kernel))]
              exact iteF ⟨_, rfl, _, _, rfl, rfl, _, by omega, mm + 1, b, _, rfl, rfl, rfl, by omega, by omega, h3, h4⟩
    · rw [decide_eq_false (show ¬ ((f : Nat) : Int) < ((b : Nat) : Int) by omega)]
      have e : f = m := by omega
      subst e
      exact iteF ⟨_, rfl, q⟩
end
end K38
set_option Elab.async false
set_option linter.all false
set_option maxRecDepth 100001
set_option maxHeartbeats 3999999
namespace K38
open PySem L2
structure FunL (K : PySem.W.Frag) (base : Heap) (mg : Str → Option Value) (x q : Str) (st : Stmt) (f c T : Addr) (fd : FuncData) : Prop where
  ex : ∃ (oc : Value) (od : Option Addr) (kV doc pm : Value) (an : Option Addr) (ct : Value) (osl : Array (Option Value)),
    fd = PySem.W.fnOf x q (defArgs st) (defBody st) (defScope st) .none kV doc pm an (.ref c) ct ∧ K.lookup f = some ⟨oc, od, .func fd, osl⟩ ∧ PySem.W.codeIn K (.ref c) q = true
  tab : LamX.TabB base mg c T
section
variable {P : Program} {w : World} {K : PySem.W.Frag} {mg : Str → Option Value} {base : Heap}
theorem FunL.okX {CX : CXT} {x q : Str} {st : Stmt} {f c T : Addr} {fd : FuncData} {N ps : List Str} {k : Nat} {sp : Sp} (F : FunL K base mg x q st f c T fd) (S : FnScope N ps (defScope st)) (len : ∀ vs H Q E, sp vs H Q E → vs.length = ps.length)
    (hbody : ∀ (A : Around) (outer : List Env) (s : Shared) (H : Hp) (vs : List V) (Q : VK) (E : XK), Room k (A.deeper (PyProof.Rows.envOfC q (defScope st) s.heap.objs.size f (.ref c))) → sp vs H Q E →
      ∃ t, PSs (cxOf CX P w K mg base N q (defScope st) f (.ref c) A outer s H E).nox (defBody st) t ∧ t { nx := fun _ H' => Q .non H', rt := Q } (L2.start N vs) H) : FnOk P w K mg base CX (k + 1) f fd ps sp := by
  obtain ⟨oc, od, kV, doc, pm, an, ct, osl, rfl, lk, hcd⟩ := F.ex
  refine fn_of lk hcd S len fun A outer s H vs Q E hr hsp => ?_
  obtain ⟨t, h, q⟩ := hbody A outer s H vs Q E hr hsp
  exact ⟨t, h.nox, q⟩
end
theorem pg_pairK {X : Cx} (K : PySem.W.Frag) (hK : X.K = K) (hc : X.calm = true) {e1 e2 : Expr} {t1 t2 : TG} {k : Nat} {pos : Pos} (h1 : PG X e1 t1) (h2 : PG X e2 t2) (he1 : (assignEach [e1, e2] X.env).map (·.2) = assign e1 X.env :: (assignEach [e2] X.env).map (·.2) := by rfl)
    (he2 : (assignEach [e2] X.env).map (·.2) = assign e2 X.env :: (assignEach [] X.env).map (·.2) := by rfl) (hn : (assignEach [e1, e2] X.env).length = 2 := by rfl) (hf : (assignEach [e1, e2] X.env).findIdx? (·.1) = none := by rfl) : PG X (.Tuple [e1, e2] k pos) (gTup K 2 (gCons t1 (gCons t2 gNil))) := by
  subst hK
  have h := pg_tup (k := k) (pos := pos) hc (pgs_cons h1 (pgs_cons h2 pgs_nil he2) he1) hn hf
  exact h

/-- a dict comprehension over numbered items: what it holds is left open -/
theorem dcL {J : It} {n : Nat} {G : Hp → Prop} {f1 f2 : Nat → Option V} (wk : Walk J n G (YPair f1 f2)) {g : TG} {tt : L2.TT} {tk tv : TE} {vs : List Nat} {σ : St} {H1 : Hp} {D : Addr} {Qd : Hp → Prop} (kf : Nat → Key) (vf : Nat → V) (hb : n ≤ 10000) (hG : ∀ H', Same H1 H' → G H') (nD : H1 D = none)
    (hs : ∀ (i : Nat) (T : Addr) (a b : V) (H : Hp) (R : V → V → Hp → Prop) (N : Hp → Prop), i < n → f1 i = some a → f2 i = some b → Same H1 H → H T = some (.tup [a, b]) → R (kV (kf i)) (vf i) H → g (.ref T) (wipe σ vs) H fun σ2 H2 => wipe σ2 vs = wipe σ vs ∧ tt σ2 H2 fun b H3 => if b = true then tk σ2 H3 fun y H4 => tv σ2 H4 fun z H5 => R y z H5 else N H3)
    (hd : ∀ H kvs, Same H1 H → H D = some (.dK kvs) → Qd H) :
    ∃ W : Nat → Nat → Hp → Prop, (∃ m, W 0 m (upd H1 D (.dK []))) ∧ ∀ i m H, W i m H →
      (J.stop i H ∧ Qd H) ∨ (J.go i H ∧ ∃ Nx : Hp → Prop, (∀ H', Nx H' → ∃ m', m' < m ∧ W (i + 1) m' H') ∧ ∀ x H', J.yld i H x H' → g x (wipe σ vs) H' fun σ2 H2 => wipe σ2 vs = wipe σ vs ∧ tt σ2 H2 fun b H3 =>
        if b = true then tk σ2 H3 fun y H4 => tv σ2 H4 fun z H5 => ∃ kvs k, y = kV k ∧ H5 D = some (.dK kvs) ∧ kvs.length < sizeLine ∧ Nx (upd H5 D (.dK (putK kvs k z))) else Nx H3) := by
  refine ⟨fun i m H => m = n - i ∧ i ≤ n ∧ Same H1 H ∧ ∃ kvs, H D = some (.dK kvs) ∧ kvs.length ≤ i, ⟨n, rfl, Nat.zero_le _, same_new nD, [], upd_same, Nat.zero_le _⟩, ?_⟩
  rintro i m H ⟨rfl, hi, e1, kvs, hD, kl⟩
  by_cases lt : i < n
  · refine .inr ⟨wk.goes i H lt (hG H e1), fun H' => Same H1 H' ∧ ∃ kvs, H' D = some (.dK kvs) ∧ kvs.length ≤ i + 1, fun H' p => ⟨n - (i + 1), by omega, rfl, lt, p.1, p.2⟩, fun x H' y => ?_⟩
    obtain ⟨T, a, b, rfl, nT, rfl, ea, eb⟩ := wk.yields i H x H' lt (hG H e1) y
    refine hs i T a b _ _ _ lt ea eb (e1.trans (same_new nT)) upd_same ⟨kvs, kf i, rfl, ?_, ?_, fun c o z => ?_, _, upd_same, ?_⟩
    · rw [upd_ne (ne_of_none hD nT)]
      exact hD
    · exact small10 (by omega)
    · rw [upd_ne (ne_of_none z nD)]
      exact (e1.trans (same_new nT)) _ _ z
    · have := length_putK kvs (kf i) (vf i)
      omega
  · obtain rfl : i = n := by omega
    exact .inl ⟨wk.stops H (hG H e1), hd H kvs e1 hD⟩
abbrev NTr : List Str := ["self", "words", "order", "todo", "node", "first", "behind", "depth", "middle", "bit", "low", "high", "below", "name", "sign"]
theorem scTr : FnScope NTr ["self", "words"] (defScope sTrI) := ⟨rfl, rfl, rfl, by decide +kernel, rfl, by decide +kernel, by decide +kernel⟩
structure TxR (K : PySem.W.Frag) (C : Addr) : Prop where
  cl : Cls K C
  n : NoAttr K C "names"
  z : NoAttr K C "zeros"
  o : NoAttr K C "ones"
  b : NoAttr K C "numbers"
/-- all but what is at p, and tables, stays -/
def ButT (p : Addr) (H H' : Hp) : Prop := ∀ b o, b ≠ p → H b = some o → (∀ ps, o ≠ .tbl ps) → H' b = some o
def spTrI (C : Addr) (Tb : List (Addr × Str)) : Sp := fun vs H Q _ => ∃ (p dx wp : Addr) (ws : List W) (L : Nat), vs = [.ref p, .ref wp] ∧ H p = some (.ins C dx []) ∧ H wp = some (.tup (ws.map wV)) ∧ PF ws ∧ 2 ≤ ws.length ∧ ws.length ≤ 2000 ∧ (∀ w ∈ ws, w.length ≤ L) ∧ L ≤ 5000 ∧ kr L ws = 2 ^ L ∧ LamX.Tabs Tb H ∧
  ∀ H' fs, ButT p H H' → H' p = some (.ins C dx fs) → LamX.Tabs Tb H' → Q .non H'
theorem tabs_put {Tb : List (Addr × Str)} {H : Hp} {D : Addr} {xs ys : List V} (t : LamX.Tabs Tb H) (hD : H D = some (.lst xs)) : LamX.Tabs Tb (upd H D (.lst ys)) := tabs_at t hD (fun _ z => nomatch z) (fun _ z => nomatch z) fun c o n z => (upd_ne n).trans z
def trF (a1 a2 a3 : Addr) : List (Str × V) := putF "ones" (.ref a3) (putF "zeros" (.ref a2) (putF "names" (.ref a1) []))
theorem tr_names (a1 a2 a3 : Addr) : (trF a1 a2 a3).lookup ("names" : Str) = some (.ref a1) := by
  unfold trF
  rw [lookup_putF, if_neg (by decide +kernel), lookup_putF, if_neg (by decide +kernel), lookup_putF, if_pos rfl]
theorem tr_zeros (a1 a2 a3 : Addr) : (trF a1 a2 a3).lookup ("zeros" : Str) = some (.ref a2) := by
  unfold trF
  rw [lookup_putF, if_neg (by decide +kernel), lookup_putF, if_pos rfl]
theorem tr_ones (a1 a2 a3 : Addr) : (trF a1 a2 a3).lookup ("ones" : Str) = some (.ref a3) := by
  unfold trF
  rw [lookup_putF, if_pos rfl]
/-- the word's number -/
def nO : V → Nat
  | .int i => i.toNat
  | _ => 0
theorem order_of {ws : List W} {ys : List V} {L : Nat} (pm : ys.Perm (rgV 0 ((ws.length : Nat) : Int))) (sr : SrtO.Srtd (SrtL.ltG SrtL.ordStr fun v => bS (ws.getD (nO v) [])) ys) (pf : PF ws) (hL : ∀ w ∈ ws, w.length ≤ L) (ek : kr L ws = 2 ^ L) :
    ∃ os : List Nat, ys = os.map (fun n : Nat => V.int (n : Nat)) ∧ (∀ o ∈ os, o < ws.length) ∧ os.length = ws.length ∧ Full (os.map fun o => ws.getD o []) := by
  have er : rgV 0 ((ws.length : Nat) : Int) = (List.range ws.length).map fun n : Nat => V.int (n : Nat) := by
    unfold rgV
    rw [show (((ws.length : Nat) : Int) - 0).toNat = ws.length by omega]
    refine List.map_congr_left fun i _ => ?_
    show V.int (0 + (i : Nat)) = V.int (i : Nat)
    rw [show (0 : Int) + (i : Nat) = (i : Nat) by omega]
  rw [er] at pm
  have e1 : ys = (ys.map nO).map fun n : Nat => V.int (n : Nat) := by
    rw [List.map_map]
    conv => lhs; rw [← List.map_id ys]
    refine List.map_congr_left fun v hv => ?_
    obtain ⟨i, _, rfl⟩ := List.mem_map.mp (pm.subset hv)
    rfl
  have p2 : (ys.map nO).Perm (List.range ws.length) := by
    have := pm.map nO
    rw [List.map_map] at this
    have e : (List.range ws.length).map (nO ∘ fun n : Nat => V.int (n : Nat)) = List.range ws.length := by
      conv => rhs; rw [← List.map_id (List.range ws.length)]
      exact List.map_congr_left fun i _ => rfl
    rw [e] at this
    exact this
  have pw : ((ys.map nO).map fun o => ws.getD o []).Perm ws := by
    have h := p2.map fun o => ws.getD o []
    have e : (List.range ws.length).map (fun o => ws.getD o []) = ws := by
      refine List.ext_getElem (by rw [List.length_map, List.length_range]) fun i h1 h2 => ?_
      rw [List.getElem_map, List.getElem_range, List.getD_eq_getElem?_getD, List.getElem?_eq_getElem h2]
      rfl
    rw [e] at h
    exact h
  refine ⟨ys.map nO, e1, fun o ho => List.mem_range.mp (p2.subset ho), by rw [p2.length_eq, List.length_range], ?_⟩
  refine full_of L _ (pf.perm pw.symm) ?_ (fun w hw => hL w (pw.subset hw)) ?_
  · unfold Asc
    rw [List.pairwise_map, List.pairwise_map]
    refine List.Pairwise.imp (fun {a b} h => ?_) sr
    exact of_decide_eq_false h
  · unfold kr at ek ⊢
    rw [← ek]
    exact (pw.map _).sum_nat
/-- a node and the words below it: from, up to -/
abbrev It3 := Nat × Nat × Nat
def wgt (its : List It3) : Nat := (its.map fun t => 2 * (t.2.2 - t.2.1) - 3).sum
/-- the words on one side below a node -/
def Half (ws : List W) (os : List Nat) (u : W) (b : Bool) (lo hi : Nat) : Prop := lo < hi ∧ ∃ us : List W, Full us ∧ us.length = hi - lo ∧ ∀ i v, us[i]? = some v → ∃ o, os[lo + i]? = some o ∧ ws[o]? = some ((u ++ [b]) ++ v)
theorem halves {ws : List W} {os : List Nat} {u : W} {us : List W} {fi be : Nat} (l : fi + 2 ≤ be) (hf : Full us) (hl : us.length = be - fi) (h : ∀ i v, us[i]? = some v → ∃ o, os[fi + i]? = some o ∧ ws[o]? = some (u ++ v)) :
    ∃ m, fi < m ∧ m < be ∧ Half ws os u true m be ∧ Half ws os u false fi m ∧ (∀ i, fi ≤ i → i < m → obit ws os u.length i = some false) ∧ (∀ i, m ≤ i → i < be → obit ws os u.length i = some true) := by
  obtain ⟨zs, o1, fz, fo, rfl⟩ := hf.parts (by omega)
  have p1 := fz.pos
  have p2 := fo.pos
  rw [List.length_append, List.length_map, List.length_map] at hl
  have gz : ∀ i v, zs[i]? = some v → ∃ o, os[fi + i]? = some o ∧ ws[o]? = some (u ++ (false :: v)) := fun i v hv => by
    refine h i (false :: v) ?_
    have li : i < zs.length := (List.getElem?_eq_some_iff.mp hv).1
    rw [List.getElem?_append_left (by rw [List.length_map]; exact li), List.getElem?_map, hv]
    rfl
  have go : ∀ i v, o1[i]? = some v → ∃ o, os[fi + zs.length + i]? = some o ∧ ws[o]? = some (u ++ (true :: v)) := fun i v hv => by
    have := h (zs.length + i) (true :: v) (by
      rw [List.getElem?_append_right (by rw [List.length_map]; omega), List.length_map, Nat.add_sub_cancel_left, List.getElem?_map, hv]
      rfl)
    rw [Nat.add_assoc]
    exact this
  have ob : ∀ (i o : Nat) (b : Bool) (v : W), os[i]? = some o → ws[o]? = some (u ++ (b :: v)) → obit ws os u.length i = some b := fun i o b v h1 h2 => by
    unfold obit
    rw [h1]
    show (ws[o]?).bind _ = _
    rw [h2]
    show (u ++ b :: v)[u.length]? = _
    rw [List.getElem?_append_right (Nat.le_refl _), Nat.sub_self]
    rfl
  refine ⟨fi + zs.length, by omega, by omega, ⟨by omega, o1, fo, by omega, fun i v hv => ?_⟩, ⟨by omega, zs, fz, by omega, fun i v hv => ?_⟩, fun i i1 i2 => ?_, fun i i1 i2 => ?_⟩
  · obtain ⟨o, h1, h2⟩ := go i v hv
    exact ⟨o, h1, by rw [h2, List.append_assoc]; rfl⟩
  · obtain ⟨o, h1, h2⟩ := gz i v hv
    exact ⟨o, h1, by rw [h2, List.append_assoc]; rfl⟩
  · have li : i - fi < zs.length := by omega
    obtain ⟨o, h1, h2⟩ := gz (i - fi) _ (List.getElem?_eq_getElem li)
    rw [show fi + (i - fi) = i by omega] at h1
    exact ob i o _ _ h1 h2
  · have li : i - (fi + zs.length) < o1.length := by omega
    obtain ⟨o, h1, h2⟩ := go (i - (fi + zs.length)) _ (List.getElem?_eq_getElem li)
    rw [show fi + zs.length + (i - (fi + zs.length)) = i by omega] at h1
    exact ob i o _ _ h1 h2
theorem bS_snoc (u : W) (b : Bool) : bS (u ++ [b]) = bS u ++ (⟨#[cd b]⟩ : Str) := by
  rw [bS, bS, List.map_append]
  show S _ = (⟨(S _).cps ++ _⟩ : Str)
  unfold S
  simp
/-- what stands below a node -/
def Gd (ws : List W) (os : List Nat) (nm : List W) (t : It3) : Prop := t.2.1 + 2 ≤ t.2.2 ∧ ∃ (u : W) (us : List W), nm[t.1]? = some u ∧ Full us ∧ us.length = t.2.2 - t.2.1 ∧ ∀ i v, us[i]? = some v → ∃ o, os[t.2.1 + i]? = some o ∧ ws[o]? = some (u ++ v)
theorem Gd.more {ws : List W} {os : List Nat} {nm ex : List W} {t : It3} (h : Gd ws os nm t) : Gd ws os (nm ++ ex) t := by
  obtain ⟨h1, u, us, h2, h3, h4, h5⟩ := h
  refine ⟨h1, u, us, ?_, h3, h4, h5⟩
  rw [List.getElem?_append_left (List.getElem?_eq_some_iff.mp h2).1]
  exact h2
theorem wgt_len {ws : List W} {os : List Nat} {nm : List W} : ∀ {its : List It3}, (∀ t ∈ its, Gd ws os nm t) → its.length ≤ wgt its
  | [], _ => Nat.zero_le _
  | t :: r, h => by
    have ih := wgt_len (its := r) fun x hx => h x (List.mem_cons_of_mem _ hx)
    have := (h t List.mem_cons_self).1
    show r.length + 1 ≤ ((t :: r).map _).sum
    rw [List.map_cons, List.sum_cons]
    have e : (r.map fun t : It3 => 2 * (t.2.2 - t.2.1) - 3).sum = wgt r := rfl
    rw [e]
    omega
theorem wgt_snoc (its : List It3) (t : It3) : wgt (its ++ [t]) = wgt its + (2 * (t.2.2 - t.2.1) - 3) := by simp [wgt]
def cc (fi mi be : Nat) : Nat → Nat
  | 0 => 0
  | 1 => 2 * (be - mi) - 2
  | _ => 2 * (be - mi) - 2 + (2 * (mi - fi) - 2)
theorem ixn {n j : Nat} (h : j < n) : ixN n (j : Int) = some j := by
  rw [ixN, if_pos (by omega), if_pos (by omega), Int.toNat_natCast]
theorem paired_snoc {α β : Type} {F : α → β → Prop} {x : α} {y : β} (h : F x y) : ∀ {xs : List α} {ys : List β}, Paired F xs ys → Paired F (xs ++ [x]) (ys ++ [y])
  | _, _, .nil => .cons h .nil
  | _, _, .cons a r => .cons a (paired_snoc h r)
theorem Half.gd {ws : List W} {os : List Nat} {u : W} {b : Bool} {lo hi : Nat} {nm : List W} (h : Half ws os u b lo hi) (c : lo + 2 ≤ hi) : Gd ws os (nm ++ [u ++ [b]]) (nm.length, lo, hi) := by
  obtain ⟨_, us, f, l, g⟩ := h
  refine ⟨c, u ++ [b], us, ?_, f, l, g⟩
  rw [List.getElem?_append_right (Nat.le_refl _), Nat.sub_self]
  rfl
def ItAt (H : Hp) (v : V) (t : It3) : Prop := ∃ a, v = .ref a ∧ H a = some (.tup [.int (t.1 : Nat), .int (t.2.1 : Nat), .int (t.2.2 : Nat)])
theorem ItAt.lst {H : Hp} {D : Addr} {xs ys : List V} {v : V} {t : It3} (h : ItAt H v t) (hD : H D = some (.lst xs)) : ItAt (upd H D (.lst ys)) v t := let ⟨a, e, h⟩ := h; ⟨a, e, TT.lst hD _ _ h⟩
theorem ItAt.same {H H' : Hp} {v : V} {t : It3} (h : ItAt H v t) (e : Same H H') : ItAt H' v t := let ⟨a, e1, h⟩ := h; ⟨a, e1, e _ _ h⟩
/-- the heap while the tree grows -/
structure TrH (C dx p wp OR TD a1 a2 a3 : Addr) (H0 H : Hp) (Tb : List (Addr × Str)) (ws : List W) (os : List Nat) (nm : List W) (its : List It3) : Prop where
  frm : ButT p H0 H
  tabs : LamX.Tabs Tb H
  hp : H p = some (.ins C dx (trF a1 a2 a3))
  hw : H wp = some (.tup (ws.map wV))
  hO : H OR = some (.lst (os.map fun n : Nat => V.int (n : Nat)))
  h1 : H a1 = some (.lst (nm.map wV))
  h2 : ∃ xs, H a2 = some (.lst xs) ∧ xs.length = nm.length
  h3 : ∃ xs, H a3 = some (.lst xs) ∧ xs.length = nm.length
  hT : ∃ vs, H TD = some (.lst vs) ∧ Paired (ItAt H) vs its
  good : ∀ t ∈ its, Gd ws os nm t
/-- nothing but a table was there -/
def Fr0 (H0 : Hp) (a : Addr) : Prop := ∀ o, H0 a = some o → ∃ ps, o = .tbl ps
theorem fr_ne {H0 : Hp} {a b : Addr} {o : HO} (h : Fr0 H0 a) (z : H0 b = some o) (m : ∀ ps, o ≠ .tbl ps) : b ≠ a := fun e => by
  subst e
  obtain ⟨ps, rfl⟩ := h o z
  exact m ps rfl
theorem fr_none {H0 : Hp} {a : Addr} (h : H0 a = none) : Fr0 H0 a := fun o z => by rw [h] at z; cases z
/-- the lists are apart and new -/
structure TrN (OR TD a1 a2 a3 : Addr) (H0 : Hp) : Prop where
  n1 : Fr0 H0 a1
  n2 : Fr0 H0 a2
  n3 : Fr0 H0 a3
  nT : Fr0 H0 TD
  d12 : a1 ≠ a2
  d13 : a1 ≠ a3
  d23 : a2 ≠ a3
  dT1 : TD ≠ a1
  dT2 : TD ≠ a2
  dT3 : TD ≠ a3
  dO1 : OR ≠ a1
  dO2 : OR ≠ a2
  dO3 : OR ≠ a3
  dOT : OR ≠ TD
section
variable {C dx p wp OR TD a1 a2 a3 : Addr} {H0 H H' : Hp} {Tb : List (Addr × Str)} {ws : List W} {os : List Nat} {nm : List W} {its : List It3}
theorem TrH.same (h : TrH C dx p wp OR TD a1 a2 a3 H0 H Tb ws os nm its) (e : Same H H') : TrH C dx p wp OR TD a1 a2 a3 H0 H' Tb ws os nm its :=
  let ⟨x2, e2, l2⟩ := h.h2; let ⟨x3, e3, l3⟩ := h.h3; let ⟨vs, eT, pT⟩ := h.hT
  ⟨fun b o n z m => e _ _ (h.frm b o n z m), h.tabs.ext e, e _ _ h.hp, e _ _ h.hw, e _ _ h.hO, e _ _ h.h1, ⟨x2, e _ _ e2, l2⟩, ⟨x3, e _ _ e3, l3⟩, ⟨vs, e _ _ eT, Paired.mapP pT fun _ _ z => z.same e⟩, h.good⟩
/-- the list of what is to be done is written -/
theorem TrH.todo (N : TrN OR TD a1 a2 a3 H0) (h : TrH C dx p wp OR TD a1 a2 a3 H0 H Tb ws os nm its) {ys : List V} {its2 : List It3} (pr : Paired (ItAt H) ys its2) (g : ∀ t ∈ its2, Gd ws os nm t) : TrH C dx p wp OR TD a1 a2 a3 H0 (upd H TD (.lst ys)) Tb ws os nm its2 := by
  obtain ⟨x2, e2, l2⟩ := h.h2
  obtain ⟨x3, e3, l3⟩ := h.h3
  obtain ⟨vs, eT, pT⟩ := h.hT
  refine ⟨fun b o n z m => (upd_ne (fr_ne N.nT z m)).trans (h.frm b o n z m), tabs_put h.tabs eT, (upd_ne (ne_of h.hp eT fun y => nomatch y)).trans h.hp, (upd_ne (ne_of h.hw eT fun y => nomatch y)).trans h.hw, (upd_ne N.dOT).trans h.hO, (upd_ne (Ne.symm N.dT1)).trans h.h1, ⟨x2, (upd_ne (Ne.symm N.dT2)).trans e2, l2⟩, ⟨x3, (upd_ne (Ne.symm N.dT3)).trans e3, l3⟩, ⟨ys, upd_same, Paired.mapP pr fun _ _ z => z.lst eT⟩, g⟩
/-- one number is written at a node -/
theorem TrH.put2 (N : TrN OR TD a1 a2 a3 H0) (h : TrH C dx p wp OR TD a1 a2 a3 H0 H Tb ws os nm its) {xs ys : List V} (ex : H a2 = some (.lst xs)) (ly : ys.length = nm.length) : TrH C dx p wp OR TD a1 a2 a3 H0 (upd H a2 (.lst ys)) Tb ws os nm its := by
  obtain ⟨x3, e3, l3⟩ := h.h3
  obtain ⟨vs, eT, pT⟩ := h.hT
  exact ⟨fun b o n z m => (upd_ne (fr_ne N.n2 z m)).trans (h.frm b o n z m), tabs_put h.tabs ex, (upd_ne (ne_of h.hp ex fun y => nomatch y)).trans h.hp, (upd_ne (ne_of h.hw ex fun y => nomatch y)).trans h.hw, (upd_ne N.dO2).trans h.hO, (upd_ne N.d12).trans h.h1, ⟨ys, upd_same, ly⟩, ⟨x3, (upd_ne (Ne.symm N.d23)).trans e3, l3⟩, ⟨vs, (upd_ne N.dT2).trans eT, Paired.mapP pT fun _ _ z => z.lst ex⟩, h.good⟩
theorem TrH.put3 (N : TrN OR TD a1 a2 a3 H0) (h : TrH C dx p wp OR TD a1 a2 a3 H0 H Tb ws os nm its) {xs ys : List V} (ex : H a3 = some (.lst xs)) (ly : ys.length = nm.length) : TrH C dx p wp OR TD a1 a2 a3 H0 (upd H a3 (.lst ys)) Tb ws os nm its := by
  obtain ⟨x2, e2, l2⟩ := h.h2
  obtain ⟨vs, eT, pT⟩ := h.hT
  exact ⟨fun b o n z m => (upd_ne (fr_ne N.n3 z m)).trans (h.frm b o n z m), tabs_put h.tabs ex, (upd_ne (ne_of h.hp ex fun y => nomatch y)).trans h.hp, (upd_ne (ne_of h.hw ex fun y => nomatch y)).trans h.hw, (upd_ne N.dO3).trans h.hO, (upd_ne N.d13).trans h.h1, ⟨x2, (upd_ne N.d23).trans e2, l2⟩, ⟨ys, upd_same, ly⟩, ⟨vs, (upd_ne N.dT3).trans eT, Paired.mapP pT fun _ _ z => z.lst ex⟩, h.good⟩
/-- a node more -/
theorem TrH.grow (N : TrN OR TD a1 a2 a3 H0) (h : TrH C dx p wp OR TD a1 a2 a3 H0 H Tb ws os nm its) {x2 x3 : List V} (e2 : H a2 = some (.lst x2)) (e3 : H a3 = some (.lst x3)) (l2 : x2.length = nm.length) (l3 : x3.length = nm.length) (u : W) :
    TrH C dx p wp OR TD a1 a2 a3 H0 (upd (upd (upd H a1 (.lst (nm.map wV ++ [wV u]))) a2 (.lst (x2 ++ [.non]))) a3 (.lst (x3 ++ [.non]))) Tb ws os (nm ++ [u]) its := by
  obtain ⟨vs, eT, pT⟩ := h.hT
  have f2 : upd H a1 (.lst (nm.map wV ++ [wV u])) a2 = some (.lst x2) := (upd_ne (Ne.symm N.d12)).trans e2
  have f3 : upd (upd H a1 (.lst (nm.map wV ++ [wV u]))) a2 (.lst (x2 ++ [.non])) a3 = some (.lst x3) := (upd_ne (Ne.symm N.d23)).trans ((upd_ne (Ne.symm N.d13)).trans e3)
  have far : ∀ b o, H b = some o → b ≠ a1 → b ≠ a2 → b ≠ a3 → upd (upd (upd H a1 (.lst (nm.map wV ++ [wV u]))) a2 (.lst (x2 ++ [.non]))) a3 (.lst (x3 ++ [.non])) b = some o := fun b o z n1 n2 n3 => (upd_ne n3).trans ((upd_ne n2).trans ((upd_ne n1).trans z))
  have tup : ∀ b xs, H b = some (.tup xs) → upd (upd (upd H a1 (.lst (nm.map wV ++ [wV u]))) a2 (.lst (x2 ++ [.non]))) a3 (.lst (x3 ++ [.non])) b = some (.tup xs) := fun b xs z => far b _ z (ne_of z h.h1 fun y => nomatch y) (ne_of z e2 fun y => nomatch y) (ne_of z e3 fun y => nomatch y)
  refine ⟨fun b o n z m => far b o (h.frm b o n z m) (fr_ne N.n1 z m) (fr_ne N.n2 z m) (fr_ne N.n3 z m), tabs_put (tabs_put (tabs_put h.tabs h.h1) f2) f3, far _ _ h.hp (ne_of h.hp h.h1 fun y => nomatch y) (ne_of h.hp e2 fun y => nomatch y) (ne_of h.hp e3 fun y => nomatch y), tup _ _ h.hw, far _ _ h.hO N.dO1 N.dO2 N.dO3, ?_, ⟨_, (upd_ne N.d23).trans upd_same, by rw [List.length_append, List.length_append, l2]; rfl⟩, ⟨_, upd_same, by rw [List.length_append, List.length_append, l3]; rfl⟩, ⟨vs, far _ _ eT N.dT1 N.dT2 N.dT3, Paired.mapP pT fun v t ⟨a, e, z⟩ => ⟨a, e, tup _ _ z⟩⟩, fun t ht => (h.good t ht).more⟩
  rw [List.map_append]
  exact (upd_ne N.d13).trans ((upd_ne N.d12).trans upd_same)
end
section
variable {P : Program} {w : World} {K : PySem.W.Frag} {mg : Str → Option Value} {base : Heap}
theorem ok_trI {f c T C : Addr} {fd : FuncData} {Tb : List (Addr × Str)} (F : FunL K base mg "__init__" "Tree.__init__" sTrI f c T fd) (B : Bi mg) (Z : Bs mg) (TX : TxR K C) (cO : Cal CX0 P w K mg base 1 "first_one" (spFo K))
    (hmT : (T, (("Tree.__init__.<locals>.<lambda>" : String) : Str)) ∈ Tb) (hu : ∀ p ∈ Tb, p.1 = T → p.2 = (("Tree.__init__.<locals>.<lambda>" : String) : Str)) : FnOk P w K mg base CX0 6 f fd ["self", "words"] (spTrI C Tb) := by
  refine F.okX scTr (fun vs H Q E h => ?_) (fun A outer s H vs Q E hr h => ?_)
  · obtain ⟨p, dx, wp, ws, L, rfl, _⟩ := h
    rfl
  · obtain ⟨p, dx, wp, ws, L, rfl, hp, hw, pf, l2, lN, hL, L5, ek, tabs, q⟩ := h
    refine ⟨_, pss_cons (ps_fld (pv 0) (pe_lst (pa_cons pe_str pa_nil)) rfl)
      (pss_cons (ps_fld (pv 0) (pe_lst (pa_cons pe_non pa_nil)) rfl)
      (pss_cons (ps_fld (pv 0) (pe_lst (pa_cons pe_non pa_nil)) rfl)
      (pss_cons (ps_set (i := 2) scTr.nd rfl (Or.inl rfl) (by exact SrtL.pe_sortLam (k := 1) (i := 14) SrtL.ordStr rfl Z.sorted (pe_listRg rfl rfl B.list (prg_1 rfl B.range (pe_len B.len (pa_cons (pv 1) pa_nil)))) F.tab hmT hu (hr.mono (by decide)) (LamX.lamP_by (sc := defScope sTrI) (by decide +kernel)) scTr.nd rfl (fun s H f c' hr' => pe_ix (ix_tupK K rfl) (pv 1) (pv 14) (fun _ _ => rfl))))
      (pss_cons (ps_set (i := 3) scTr.nd rfl (Or.inl rfl) (pe_lst (pa_cons (pe_tup (pa_cons pe_int (pa_cons pe_int (pa_cons (pe_len B.len (pa_cons (pv 1) pa_nil)) pa_nil)))) pa_nil)))
      (pss_cons (ps_while PassesOwn.never (pt_truth (pv 3) (by intro _; rfl))
        (pss_cons (ps_asg (pe_bm0 PySem.F.plainAttrs_list PySem.F.slot_list_pop PySem.F.type_list_pop mt_pop (pv 3)) (pg_tup rfl (pgs_cons (pg_name (i := 4) scTr.nd rfl (.inl rfl)) (pgs_cons (pg_name (i := 5) scTr.nd rfl (.inl rfl)) (pgs_cons (pg_name (i := 6) scTr.nd rfl (.inl rfl)) pgs_nil)))))
        (pss_cons (ps_set (i := 7) scTr.nd rfl (Or.inl rfl) (pe_lenS B.len (pa_cons (pe_ix ix_list (pe_fld (pv 0) rfl) (pv 4) (fun _ _ => rfl)) pa_nil)))
        (pss_cons (ps_set (i := 8) scTr.nd rfl (Or.inl rfl) (pe_c cO hr pass0 (pa_cons (pv 1) (pa_cons (pv 2) (pa_cons (pv 7) (pa_cons (pv 5) (pa_cons (pv 6) pa_nil)))))))
        (pss_one (ps_for PassesOwn.never rfl (pi_sqA (pe_tup (pa_cons (pe_tup (pa_cons pe_str (pa_cons (pv 8) (pa_cons (pv 6) pa_nil)))) (pa_cons (pe_tup (pa_cons pe_str (pa_cons (pv 5) (pa_cons (pv 8) pa_nil)))) pa_nil)))) (pg_tup rfl (pgs_cons (pg_name (i := 9) scTr.nd rfl (.inl rfl)) (pgs_cons (pg_name (i := 10) scTr.nd rfl (.inl rfl)) (pgs_cons (pg_name (i := 11) scTr.nd rfl (.inl rfl)) pgs_nil))))
          (pss_cons (ps_set (i := 12) scTr.nd rfl (Or.inl rfl) (pe_op op_sub (pe_un un_neg pe_int) (pe_ix ix_list (pv 2) (pv 10) (fun _ _ => rfl))))
          (pss_cons (ps_if (pt_cmpR op_gt (pe_op op_sub (pv 11) (pv 10)) pe_int (nomark _))
            (pss_cons (ps_set (i := 12) scTr.nd rfl (Or.inl rfl) (pe_len B.len (pa_cons (pe_fld (pv 0) rfl) pa_nil)))
            (pss_cons (ps_expr (pe_bm PySem.F.plainAttrs_list PySem.F.slot_list_append PySem.F.type_list_append mt_append (pe_fld (pv 0) rfl) (pa_cons (pe_op op_add_str (pe_ix ix_list (pe_fld (pv 0) rfl) (pv 4) (fun _ _ => rfl)) (pv 9)) pa_nil)))
            (pss_cons (ps_expr (pe_bm PySem.F.plainAttrs_list PySem.F.slot_list_append PySem.F.type_list_append mt_append (pe_fld (pv 0) rfl) (pa_cons pe_non pa_nil)))
            (pss_cons (ps_expr (pe_bm PySem.F.plainAttrs_list PySem.F.slot_list_append PySem.F.type_list_append mt_append (pe_fld (pv 0) rfl) (pa_cons pe_non pa_nil)))
            (pss_one (ps_expr (pe_bm PySem.F.plainAttrs_list PySem.F.slot_list_append PySem.F.type_list_append mt_append (pv 3) (pa_cons (pe_tup (pa_cons (pv 12) (pa_cons (pv 10) (pa_cons (pv 11) pa_nil)))) pa_nil)))))))) pss_nil)
          (pss_one (ps_if (pt_cmpR op_eq (pv 9) pe_str (nomark _)) (pss_one (ps_asg (pv 12) (pg_sub (pe_fld (pv 0) rfl) (pv 4) set_list))) (pss_one (ps_asg (pv 12) (pg_sub (pe_fld (pv 0) rfl) (pv 4) set_list)))))))))))))
      (pss_one (ps_fld (pv 0) (pe_dc (own := [("node", 4), ("name", 13)]) rfl scTr.nd (pi_en B.enum (pa_cons (pe_fld (pv 0) rfl) pa_nil)) (blkOk_by (N := NTr) (sc := defScope sTrI) (by decide +kernel))
          (fun _ _ _ _ _ => pg_pairK K rfl rfl (pg_name (i := 4) scTr.nd rfl (Or.inl rfl) (.inr rfl)) (pg_name (i := 13) scTr.nd rfl (Or.inl rfl) (.inr rfl))) (fun _ _ _ _ _ => pts_nil) (fun _ _ _ _ _ => pv 13) (fun _ _ _ _ _ => pv 4)) rfl))))))), ?_⟩
    refine ⟨by show 1 ≤ sizeLine; decide, fun a1 n1 => ⟨_, rfl, p, C, dx, [], rfl, same_new n1 _ _ hp, TX.cl, TX.n, by decide, ?_⟩⟩
    have e1 := same_new (o := .lst [.str ""]) n1
    have pa1 : p ≠ a1 := ne_of_none hp n1
    have hp1 : upd (upd H a1 (.lst [.str ""])) p (.ins C dx (putF "names" (.ref a1) [])) p = some (.ins C dx (putF "names" (.ref a1) [])) := upd_same
    have g1 : upd (upd H a1 (.lst [.str ""])) p (.ins C dx (putF "names" (.ref a1) [])) a1 = some (.lst [.str ""]) := (upd_ne (Ne.symm pa1)).trans upd_same
    have f1 : ButI p H (upd (upd H a1 (.lst [.str ""])) p (.ins C dx (putF "names" (.ref a1) []))) := fun b o n z => (upd_ne n).trans (e1 _ _ z)
    generalize upd (upd H a1 (.lst [.str ""])) p (.ins C dx (putF "names" (.ref a1) [])) = H1 at hp1 g1 f1 ⊢
    refine ⟨by show 1 ≤ sizeLine; decide, fun a2 n2 => ⟨_, rfl, p, C, dx, _, rfl, same_new n2 _ _ hp1, TX.cl, TX.z, by show 1 < 1000; decide, ?_⟩⟩
    have e2 := same_new (o := .lst [.non]) n2
    have pa2 : p ≠ a2 := ne_of_none hp1 n2
    have d12 : a1 ≠ a2 := ne_of_none g1 n2
    have hp2 : upd (upd H1 a2 (.lst [.non])) p (.ins C dx (putF "zeros" (.ref a2) (putF "names" (.ref a1) []))) p = some (.ins C dx (putF "zeros" (.ref a2) (putF "names" (.ref a1) []))) := upd_same
    have g2 : upd (upd H1 a2 (.lst [.non])) p (.ins C dx (putF "zeros" (.ref a2) (putF "names" (.ref a1) []))) a2 = some (.lst [.non]) := (upd_ne (Ne.symm pa2)).trans upd_same
    have f2 : ButI p H1 (upd (upd H1 a2 (.lst [.non])) p (.ins C dx (putF "zeros" (.ref a2) (putF "names" (.ref a1) [])))) := fun b o n z => (upd_ne n).trans (e2 _ _ z)
    generalize upd (upd H1 a2 (.lst [.non])) p (.ins C dx (putF "zeros" (.ref a2) (putF "names" (.ref a1) []))) = H2 at hp2 g2 f2 ⊢
    refine ⟨by show 1 ≤ sizeLine; decide, fun a3 n3 => ⟨_, rfl, p, C, dx, _, rfl, same_new n3 _ _ hp2, TX.cl, TX.o, by show 2 < 1000; decide, ?_⟩⟩
    have e3 := same_new (o := .lst [.non]) n3
    have pa3 : p ≠ a3 := ne_of_none hp2 n3
    have h1n2 := f2 a1 _ (Ne.symm pa1) g1
    have d13 : a1 ≠ a3 := ne_of_none h1n2 n3
    have d23 : a2 ≠ a3 := ne_of_none g2 n3
    have hp3 : upd (upd H2 a3 (.lst [.non])) p (.ins C dx (trF a1 a2 a3)) p = some (.ins C dx (trF a1 a2 a3)) := upd_same
    have g3 : upd (upd H2 a3 (.lst [.non])) p (.ins C dx (trF a1 a2 a3)) a3 = some (.lst [.non]) := (upd_ne (Ne.symm pa3)).trans upd_same
    have f3 : ButI p H2 (upd (upd H2 a3 (.lst [.non])) p (.ins C dx (trF a1 a2 a3))) := fun b o n z => (upd_ne n).trans (e3 _ _ z)
    show (fun H' => _) (upd (upd H2 a3 (.lst [.non])) p (.ins C dx (trF a1 a2 a3)))
    generalize upd (upd H2 a3 (.lst [.non])) p (.ins C dx (trF a1 a2 a3)) = H3 at hp3 g3 f3 ⊢
    have g13 := f3 a1 _ (Ne.symm pa1) h1n2
    have g23 := f3 a2 _ (Ne.symm pa2) g2
    have f13 : ButI p H H3 := fun b o n z => f3 b o n (f2 b o n (f1 b o n z))
    have pw : wp ≠ p := ne_of hw hp fun y => nomatch y
    have hw3 := f13 wp _ pw hw
    have tab3 : LamX.Tabs Tb H3 := tabs_at tabs hp (fun _ z => nomatch z) (fun _ z => nomatch z) f13
    have lw : (ws.map wV).length = ws.length := List.length_map _
    refine ⟨_, rfl, wp, _, rfl, .inr (SqT.of hw3), _, rfl, ?_, fun a4 n4 => ?_⟩
    · rw [lw]
      exact RgOk.of_le (by omega) (by omega) (by omega) (by omega)
    rw [lw]
    have e4 := same_new (o := .lst (rgV 0 ((ws.length : Nat) : Int))) n4
    have g4 : upd H3 a4 (.lst (rgV 0 ((ws.length : Nat) : Int))) a4 = some (.lst (rgV 0 ((ws.length : Nat) : Int))) := upd_same
    refine ⟨a4, _, fun v => bS (ws.getD (nO v) []), rfl, SqL.of g4, tab3.ext e4, fun H5 en5 tab5 => ⟨SqL.of (en5 _ _ g4 fun _ z => nomatch z), fun v hv => ?_, fun ys OR srt stb nOR => ?_⟩⟩
    · obtain ⟨i, hi, rfl⟩ := List.mem_map.mp hv
      have hi := List.mem_range.mp hi
      have hi : i < ws.length := by omega
      have i0 : (0 : Int) + ((i : Nat) : Int) = (i : Nat) := by omega
      rw [i0]
      have eg : ws.getD (nO (.int (i : Nat))) [] = ws[i] := by
        show ws.getD ((i : Nat) : Int).toNat [] = _
        rw [Int.toNat_natCast, List.getD_eq_getElem?_getD, List.getElem?_eq_getElem hi]
        rfl
      refine ⟨_, rfl, _, rfl, wp, _, _, wV ws[i], rfl, rfl, SqT.of (en5 _ _ (e4 _ _ hw3) fun _ z => nomatch z), atI_nat (by rw [List.getElem?_map, List.getElem?_eq_getElem hi]; rfl), ?_, rfl⟩
      show wV ws[i] = V.str (bS (ws.getD (nO (.int (i : Nat))) []))
      rw [eg]
      rfl
    obtain ⟨os, rfl, osl, oln, full⟩ := order_of stb.perm srt pf hL ek
    have e6 := same_new (o := .lst (os.map fun n : Nat => V.int (n : Nat))) nOR
    have gOR : upd H5 OR (.lst (os.map fun n : Nat => V.int (n : Nat))) OR = some (.lst (os.map fun n : Nat => V.int (n : Nat))) := upd_same
    have h51 := en5 _ _ (e4 _ _ g13) fun _ z => nomatch z
    have h52 := en5 _ _ (e4 _ _ g23) fun _ z => nomatch z
    have h53 := en5 _ _ (e4 _ _ g3) fun _ z => nomatch z
    have dO1 : OR ≠ a1 := (ne_of_none h51 nOR).symm
    have dO2 : OR ≠ a2 := (ne_of_none h52 nOR).symm
    have dO3 : OR ≠ a3 := (ne_of_none h53 nOR).symm
    have fr6 : ButT p H (upd H5 OR (.lst (os.map fun n : Nat => V.int (n : Nat)))) := fun b o n z m => e6 _ _ (en5 _ _ (e4 _ _ (f13 b o n z)) m)
    have hp6 := e6 _ _ (en5 _ _ (e4 _ _ hp3) fun _ z => nomatch z)
    have tab6 := tab5.ext e6
    have h61 := e6 _ _ h51
    have h62 := e6 _ _ h52
    have h63 := e6 _ _ h53
    have hw6 := e6 _ _ (en5 _ _ (e4 _ _ hw3) fun _ z => nomatch z)
    have m2 : H a2 = none := by
      cases z : H a2 with
      | none => rfl
      | some o =>
        rw [f1 a2 o (Ne.symm pa2) z] at n2
        exact absurd n2 (fun y => nomatch y)
    have m3 : H a3 = none := by
      cases z : H a3 with
      | none => rfl
      | some o =>
        rw [f2 a3 o (Ne.symm pa3) (f1 a3 o (Ne.symm pa3) z)] at n3
        exact absurd n3 (fun y => nomatch y)
    clear f1 f2 f3 e1 e2 e3 hp1 hp2 hp3 g1 g2 g3 h1n2 g13 g23 h51 h52 h53 f13 hw3 tab3 e4 g4 en5 tab5 stb srt n2 n3 nOR n4
    generalize upd H5 OR (.lst (os.map fun n : Nat => V.int (n : Nat))) = H6 at e6 gOR fr6 hp6 tab6 h61 h62 h63 hw6 ⊢
    clear e6
    -- the work to do
    refine ⟨_, rfl, wp, _, rfl, .inr (SqT.of hw6), by show 3 ≤ sizeLine; decide, fun t0 nt0 => ⟨by show 1 ≤ sizeLine; decide, fun TD nTD => ?_⟩⟩
    rw [lw]
    have e7 := same_new (o := .tup [.int 0, .int 0, .int ((ws.length : Nat) : Int)]) nt0
    have ht0 : upd H6 t0 (.tup [.int 0, .int 0, .int ((ws.length : Nat) : Int)]) t0 = some (.tup [.int 0, .int 0, .int ((ws.length : Nat) : Int)]) := upd_same
    rw [lw] at nTD
    generalize upd H6 t0 (.tup [.int 0, .int 0, .int ((ws.length : Nat) : Int)]) = H7 at e7 ht0 nTD ⊢
    have e8 := same_new (o := .lst [.ref t0]) nTD
    have hTD : upd H7 TD (.lst [.ref t0]) TD = some (.lst [.ref t0]) := upd_same
    have e78 := e7.trans e8
    have mT : Fr0 H TD := fun o z => by
      by_cases ep : TD = p
      · rw [ep, e7 _ _ hp6] at nTD
        exact absurd nTD (fun y => nomatch y)
      · by_cases et : ∃ ps, o = .tbl ps
        · exact et
        · rw [e7 _ _ (fr6 TD o ep z fun ps y => et ⟨ps, y⟩)] at nTD
          exact absurd nTD (fun y => nomatch y)
    have N : TrN OR TD a1 a2 a3 H := ⟨fr_none n1, fr_none m2, fr_none m3, mT, d12, d13, d23, (ne_of_none (e7 _ _ h61) nTD).symm, (ne_of_none (e7 _ _ h62) nTD).symm, (ne_of_none (e7 _ _ h63) nTD).symm, dO1, dO2, dO3, ne_of_none (e7 _ _ gOR) nTD⟩
    have R0 : TrH C dx p wp OR TD a1 a2 a3 H (upd H7 TD (.lst [.ref t0])) Tb ws os [[]] [(0, 0, ws.length)] := by
      refine ⟨fun b o n z m => e78 _ _ (fr6 b o n z m), tab6.ext e78, e78 _ _ hp6, e78 _ _ hw6, e78 _ _ gOR, e78 _ _ h61, ⟨_, e78 _ _ h62, rfl⟩, ⟨_, e78 _ _ h63, rfl⟩, ⟨_, hTD, .cons ⟨t0, rfl, e8 _ _ ht0⟩ .nil⟩, fun t ht => ?_⟩
      rw [List.mem_singleton.mp ht]
      refine ⟨by show 0 + 2 ≤ ws.length; omega, [], _, rfl, full, by rw [List.length_map, oln]; rfl, fun i v hv => ?_⟩
      rw [List.getElem?_map] at hv
      cases ho : os[i]? with
      | none => rw [ho] at hv; cases hv
      | some o =>
        rw [ho] at hv
        have hv : v = ws.getD o [] := (Option.some.inj hv).symm
        have lo := osl o (List.mem_of_getElem? ho)
        refine ⟨o, by rw [show ((0, 0, ws.length) : It3).2.1 + i = i from Nat.zero_add i]; exact ho, ?_⟩
        rw [hv, List.nil_append, List.getD_eq_getElem?_getD, List.getElem?_eq_getElem lo]
        rfl
    clear hTD e8 e78 ht0 e7 nTD nt0 hw6 h61 h62 h63 tab6 hp6 fr6 gOR m2 m3 mT n1
    generalize upd H7 TD (.lst [.ref t0]) = H8 at R0 ⊢
    refine ⟨fun k σ H' => ∃ (nm : List W) (its : List It3) (x4 x5 x6 x7 x8 x9 x10 x11 x12 : Option V), k = wgt its ∧ σ = [some (.ref p), some (.ref wp), some (.ref OR), some (.ref TD), x4, x5, x6, x7, x8, x9, x10, x11, x12, none, none] ∧ TrH C dx p wp OR TD a1 a2 a3 H H' Tb ws os nm its ∧ nm.length + wgt its ≤ 4000,
      ⟨_, [[]], [(0, 0, ws.length)], none, none, none, none, none, none, none, none, none, rfl, rfl, R0, by show 1 + (2 * (ws.length - 0) - 3 + 0) ≤ 4000; omega⟩, ?_⟩
    rintro k σ G ⟨nm, its, x4, x5, x6, x7, x8, x9, x10, x11, x12, rfl, rfl, R, bd⟩
    obtain ⟨vs, eT, pT⟩ := id R.hT
    refine ⟨_, rfl, !vs.isEmpty, .inl ⟨vs, SqL.of eT, rfl⟩, ?_⟩
    rcases List.eq_nil_or_concat its with rfl | ⟨its0, it, rfl⟩
    · cases pT
      refine iteF ?_
      have g1 := R.h1
      have hpg := R.hp
      refine ⟨_, rfl, p, C, dx, _, _, rfl, hpg, TX.cl, TX.n, tr_names a1 a2 a3, a1, nm.map wV, rfl, .inl (SqL.of g1), fun J Gd' wk hG D nD => dcL wk (fun i => .inr (bS (nm.getD i []))) (fun i => .int (i : Nat)) (by rw [List.length_map]; omega) (fun H' e => hG H' fun o z => e _ _ z) nD ?_ ?_⟩
      · intro i T0 a' b' H14 R' N3 hi ea eb e14 hT r
        rw [List.length_map] at hi
        cases ea
        have eb : (nm.map wV)[i]? = some b' := eb
        rw [List.getElem?_map, List.getElem?_eq_getElem hi] at eb
        cases eb
        have eg : nm.getD i [] = nm[i] := by
          rw [List.getD_eq_getElem?_getD, List.getElem?_eq_getElem hi]
          rfl
        rw [eg] at r
        refine ⟨T0, _, rfl, SqT.of hT, rfl, _, _, rfl, _, _, rfl, rfl, rfl, ?_⟩
        unfold tYes
        exact iteT ⟨_, rfl, _, rfl, r⟩
      · intro H14 kvs e14 hD
        refine ⟨_, rfl, p, C, dx, _, rfl, e14 _ _ hpg, TX.cl, TX.b, by show 3 < 1000; decide, ?_⟩
        refine q _ (putF "numbers" (.ref D) (trF a1 a2 a3)) (fun b o n z m => (upd_ne n).trans (e14 _ _ (R.frm b o n z m))) upd_same ?_
        exact tabs_at (R.tabs.ext e14) (e14 _ _ hpg) (fun _ z => nomatch z) (fun _ z => nomatch z) fun c o n z => (upd_ne n).trans z
    · rw [List.concat_eq_append] at pT R bd
      obtain ⟨vs0, v, rfl, pT0, ta, rfl, hta⟩ := paired_last pT
      obtain ⟨nd, fi, be⟩ := it
      have hta : G ta = some (.tup [.int ((nd : Nat) : Int), .int ((fi : Nat) : Int), .int ((be : Nat) : Int)]) := hta
      have gd := R.good (nd, fi, be) (List.mem_append_right _ List.mem_cons_self)
      have R2 := R.todo N pT0 fun t ht => R.good t (List.mem_append_left _ ht)
      have hta2 := TT.lst (ys := vs0) eT _ _ hta
      rw [wgt_snoc] at bd
      have bd : nm.length + (wgt its0 + (2 * (be - fi) - 3)) ≤ 4000 := bd
      obtain ⟨l22, u, us, hu2, hfull, hlen, hws⟩ := gd
      have l22 : fi + 2 ≤ be := l22
      have hu2 : nm[nd]? = some u := hu2
      have hlen : us.length = be - fi := hlen
      have hws : ∀ i v, us[i]? = some v → ∃ o, os[fi + i]? = some o ∧ ws[o]? = some (u ++ v) := hws
      rw [show (!(vs0 ++ [V.ref ta]).isEmpty) = true by simp]
      refine iteT ⟨fun σ' H' => ∃ k', k' < wgt (its0.concat (nd, fi, be)) ∧ ∃ (nm : List W) (its : List It3) (x4 x5 x6 x7 x8 x9 x10 x11 x12 : Option V), k' = wgt its ∧ σ' = [some (.ref p), some (.ref wp), some (.ref OR), some (.ref TD), x4, x5, x6, x7, x8, x9, x10, x11, x12, none, none] ∧ TrH C dx p wp OR TD a1 a2 a3 H H' Tb ws os nm its ∧ nm.length + wgt its ≤ 4000, fun σ' H' ⟨k', l, z⟩ => ⟨k', l, z⟩, ?_⟩
      rw [List.concat_eq_append, wgt_snoc]
      refine ⟨_, rfl, .inl ⟨rfl, _, SqL.of eT⟩, TD, vs0 ++ [V.ref ta], .ref ta, rfl, rfl, eT, by rw [List.length_append, List.length_singleton, Nat.add_sub_cancel, List.getElem?_append_right (Nat.le_refl _), Nat.sub_self]; rfl, ?_⟩
      rw [List.dropLast_concat]
      generalize upd G TD (.lst vs0) = G2 at R2 hta2 ⊢
      refine ⟨ta, _, rfl, SqT.of hta2, rfl, ?_⟩
      have g1 := R2.h1
      have hpg := R2.hp
      have nu : nm[nd]? = some u := hu2
      obtain ⟨mi, m1, m2, hA, hB, hb0, hb1⟩ := halves l22 hfull hlen hws
      have lwS : ∀ w ∈ ws, w.length ≤ 5000 := fun w hw => Nat.le_trans (hL w hw) L5
      have lu : u.length ≤ 5000 := by
        obtain ⟨_, vA, fA, nA, gA⟩ := hA
        obtain ⟨o, h1, h2⟩ := gA 0 _ (List.getElem?_eq_getElem (show 0 < vA.length by omega))
        have := lwS _ (List.mem_of_getElem? h2)
        rw [List.length_append, List.length_append] at this
        omega
      have lbe : be ≤ 2000 := by
        obtain ⟨_, vA, fA, nA, gA⟩ := hA
        obtain ⟨o, h1, h2⟩ := gA (be - mi - 1) _ (List.getElem?_eq_getElem (show be - mi - 1 < vA.length by omega))
        have := (List.getElem?_eq_some_iff.mp h1).1
        omega
      refine ⟨_, _, rfl, _, _, rfl, _, _, rfl, rfl, ?_⟩
      refine ⟨_, rfl, p, C, dx, _, _, rfl, hpg, TX.cl, TX.n, tr_names a1 a2 a3, _, rfl, a1, _, _, wV u, rfl, rfl, SqL.of g1, atI_nat (by rw [List.getElem?_map, nu]; rfl), bS u, rfl, ?_, ?_⟩
      · rw [bS_len]
        exact Nat.le_of_lt (small10 (by omega))
      rw [bS_len]
      refine ⟨_, rfl, _, rfl, _, rfl, _, rfl, _, rfl, wp, OR, ws, os, u.length, fi, mi, be, rfl, R2.hw, R2.hO, Nat.le_of_lt m1, Nat.le_of_lt m2, by omega, hb0, hb1, fun w hw => Nat.le_trans (lwS w hw) (by decide), ?_⟩
      refine ⟨_, rfl, _, rfl, by show 3 ≤ sizeLine; decide, fun q1 nq1 => ⟨_, rfl, _, rfl, by show 3 ≤ sizeLine; decide, fun q2 nq2 => ⟨by show 2 ≤ sizeLine; decide, fun q3 nq3 => ?_⟩⟩⟩
      have e1 := same_new (o := .tup [.str "1", .int ((mi : Nat) : Int), .int ((be : Nat) : Int)]) nq1
      have e2 := same_new (o := .tup [.str "0", .int ((fi : Nat) : Int), .int ((mi : Nat) : Int)]) nq2
      have t1 : upd G2 q1 (.tup [.str "1", .int ((mi : Nat) : Int), .int ((be : Nat) : Int)]) q1 = some _ := upd_same
      have t2 : upd (upd G2 q1 (.tup [.str "1", .int ((mi : Nat) : Int), .int ((be : Nat) : Int)])) q2 (.tup [.str "0", .int ((fi : Nat) : Int), .int ((mi : Nat) : Int)]) q2 = some _ := upd_same
      have t1 := e2 _ _ t1
      have R3 := (R2.same e1).same e2
      have h3 : upd (upd (upd G2 q1 (.tup [.str "1", .int ((mi : Nat) : Int), .int ((be : Nat) : Int)])) q2 (.tup [.str "0", .int ((fi : Nat) : Int), .int ((mi : Nat) : Int)])) q3 (.tup [.ref q1, .ref q2]) q3 = some (.tup [.ref q1, .ref q2]) := upd_same
      have e3 := same_new (o := .tup [.ref q1, .ref q2]) nq3
      have t1 := e3 _ _ t1
      have t2 := e3 _ _ t2
      have R3 := R3.same e3
      generalize upd (upd (upd G2 q1 (.tup [.str "1", .int ((mi : Nat) : Int), .int ((be : Nat) : Int)])) q2 (.tup [.str "0", .int ((fi : Nat) : Int), .int ((mi : Nat) : Int)])) q3 (.tup [.ref q1, .ref q2]) = Hs at h3 t1 t2 R3 ⊢
      refine ⟨q3, [.ref q1, .ref q2], rfl, .inr (SqT.of h3), fun J GG wk hG => for_it wk (fun i σ H' => ∃ (nm' : List W) (its' : List It3) (x9 x10 x11 x12 : Option V), σ = [some (.ref p), some (.ref wp), some (.ref OR), some (.ref TD), some (.int ((nd : Nat) : Int)), some (.int ((fi : Nat) : Int)), some (.int ((be : Nat) : Int)), some (.int ((u.length : Nat) : Int)), some (.int ((mi : Nat) : Int)), x9, x10, x11, x12, none, none] ∧
        TrH C dx p wp OR TD a1 a2 a3 H H' Tb ws os nm' its' ∧ nm'[nd]? = some u ∧ TT Hs H' ∧ wgt its' ≤ wgt its0 + cc fi mi be i ∧ nm'.length + wgt its' ≤ nm.length + wgt its0 + cc fi mi be i)
        ⟨nm, its0, _, _, _, _, rfl, R3, nu, fun _ _ z => z, Nat.le_refl _, Nat.le_refl _⟩ (fun i σ H' _ ⟨_, _, _, _, _, _, _, _, _, tt, _⟩ => hG H' fun o z => by rw [h3] at z; cases z; exact tt _ _ h3) ?_ ?_⟩
      · rintro i x σ H5 H5' hi ⟨nm5, its5, x9', x10', x11', x12', rfl, R5, nu5, tt5, w5, b5⟩ ⟨rfl, hx⟩
        obtain ⟨b, lo, hh, qq, rfl, hq, hH, hc, hbe⟩ : ∃ (b : Bool) (lo hh : Nat) (qq : Addr), x = .ref qq ∧ Hs qq = some (.tup [.str ⟨#[cd b]⟩, .int ((lo : Nat) : Int), .int ((hh : Nat) : Int)]) ∧ Half ws os u b lo hh ∧ cc fi mi be (i + 1) = cc fi mi be i + (2 * (hh - lo) - 2) ∧ hh ≤ be := by
          match i, hi, hx with
          | 0, _, hx =>
            cases hx
            exact ⟨true, mi, be, q1, rfl, t1, hA, (Nat.zero_add _).symm, Nat.le_refl _⟩
          | 1, _, hx =>
            cases hx
            exact ⟨false, fi, mi, q2, rfl, t2, hB, rfl, Nat.le_of_lt m2⟩
        obtain ⟨o, ho, _⟩ : ∃ o, os[lo]? = some o ∧ True := by
          obtain ⟨l, us', _, ll, g⟩ := hH
          obtain ⟨o, h1, _⟩ := g 0 _ (List.getElem?_eq_getElem (show 0 < us'.length by omega))
          exact ⟨o, h1, True.intro⟩
        have lh := hH.1
        refine ⟨qq, _, rfl, SqT.of (tt5 _ _ hq), rfl, _, _, rfl, _, _, rfl, _, _, rfl, rfl, ?_⟩
        refine ⟨_, rfl, _, rfl, _, rfl, OR, _, _, .int ((o : Nat) : Int), rfl, rfl, SqL.of R5.hO, atI_nat (by rw [List.getElem?_map, ho]; rfl), _, _, rfl, rfl, ?_⟩
        refine ⟨_, rfl, _, rfl, _, _, rfl, rfl, _, _, rfl, rfl, _, rfl, ?_⟩
        by_cases c1 : lo + 1 < hh
        · rw [decide_eq_true (show (1 : Int) < ((hh : Nat) : Int) - ((lo : Nat) : Int) by omega)]
          have k1 := R5.h1
          obtain ⟨y2, k2, l2⟩ := R5.h2
          obtain ⟨y3, k3, l3⟩ := R5.h3
          have kp := R5.hp
          have nl := (List.getElem?_eq_some_iff.mp nu5).1
          have bd5 : nm5.length ≤ 9000 := by
            have : cc fi mi be i ≤ 4000 := by
              unfold cc
              split <;> omega
            omega
          have ew : V.str (bS u ++ (⟨#[cd b]⟩ : Str)) = wV (u ++ [b]) := congrArg V.str (bS_snoc u b).symm
          have R6 := R5.grow N k2 k3 l2 l3 (u ++ [b])
          have s1 : upd H5' a1 (.lst (nm5.map wV ++ [wV (u ++ [b])])) a2 = some (.lst y2) := (upd_ne (Ne.symm N.d12)).trans k2
          have p1 : upd H5' a1 (.lst (nm5.map wV ++ [wV (u ++ [b])])) p = some (.ins C dx (trF a1 a2 a3)) := (upd_ne (ne_of kp k1 fun y => nomatch y)).trans kp
          have s2 : upd (upd H5' a1 (.lst (nm5.map wV ++ [wV (u ++ [b])]))) a2 (.lst (y2 ++ [.non])) a3 = some (.lst y3) := (upd_ne (Ne.symm N.d23)).trans ((upd_ne (Ne.symm N.d13)).trans k3)
          have p2 : upd (upd H5' a1 (.lst (nm5.map wV ++ [wV (u ++ [b])]))) a2 (.lst (y2 ++ [.non])) p = some (.ins C dx (trF a1 a2 a3)) := (upd_ne (ne_of p1 s1 fun y => nomatch y)).trans p1
          refine iteT ⟨_, rfl, p, C, dx, _, _, rfl, kp, TX.cl, TX.n, tr_names a1 a2 a3, a1, _, rfl, .inl (SqL.of k1), ?_⟩
          rw [List.length_map]
          refine ⟨_, rfl, p, C, dx, _, _, rfl, kp, TX.cl, TX.n, tr_names a1 a2 a3, .inl ⟨rfl, _, SqL.of k1⟩, ?_⟩
          refine ⟨_, rfl, p, C, dx, _, _, rfl, kp, TX.cl, TX.n, tr_names a1 a2 a3, _, rfl, a1, _, _, wV u, rfl, rfl, SqL.of k1, atI_nat (by rw [List.getElem?_map, nu5]; rfl), _, rfl, _, _, rfl, rfl, ?_, a1, _, wV (u ++ [b]), rfl, congrArg (fun z => [z]) ew, k1, ?_, ?_⟩
          · rw [bS_len]
            show u.length + 1 ≤ sizeLine
            exact Nat.le_of_lt (small10 (by omega))
          · rw [List.length_map]
            exact small10 (by omega)
          refine ⟨_, rfl, p, C, dx, _, _, rfl, p1, TX.cl, TX.z, tr_zeros a1 a2 a3, .inl ⟨rfl, _, SqL.of s1⟩, a2, y2, .non, rfl, rfl, s1, small10 (by omega), ?_⟩
          refine ⟨_, rfl, p, C, dx, _, _, rfl, p2, TX.cl, TX.o, tr_ones a1 a2 a3, .inl ⟨rfl, _, SqL.of s2⟩, a3, y3, .non, rfl, rfl, s2, small10 (by omega), ?_⟩
          have tt6 : TT Hs (upd (upd (upd H5' a1 (.lst (nm5.map wV ++ [wV (u ++ [b])]))) a2 (.lst (y2 ++ [.non]))) a3 (.lst (y3 ++ [.non]))) := ((tt5.trans (TT.lst k1)).trans (TT.lst s1)).trans (TT.lst s2)
          clear s1 s2 p1 p2
          generalize upd (upd (upd H5' a1 (.lst (nm5.map wV ++ [wV (u ++ [b])]))) a2 (.lst (y2 ++ [.non]))) a3 (.lst (y3 ++ [.non])) = H6 at R6 tt6 ⊢
          obtain ⟨vs6, kT, pT6⟩ := id R6.hT
          have lv : vs6.length ≤ 9000 := by
            have := wgt_len R5.good
            have e := Paired.length pT6
            have : cc fi mi be i ≤ 4000 := by
              unfold cc
              split <;> omega
            omega
          refine ⟨_, rfl, .inl ⟨rfl, _, SqL.of kT⟩, _, rfl, _, rfl, _, rfl, by show 3 ≤ sizeLine; decide, fun q4 nq4 => ⟨TD, vs6, .ref q4, rfl, rfl, same_new nq4 _ _ kT, small10 (by omega), ?_⟩⟩
          have e7 := same_new (o := .tup [.int ((nm5.length : Nat) : Int), .int ((lo : Nat) : Int), .int ((hh : Nat) : Int)]) nq4
          have kT7 := e7 _ _ kT
          have pT7 : Paired (ItAt (upd H6 q4 (.tup [.int ((nm5.length : Nat) : Int), .int ((lo : Nat) : Int), .int ((hh : Nat) : Int)]))) (vs6 ++ [.ref q4]) (its5 ++ [(nm5.length, lo, hh)]) := paired_snoc ⟨q4, rfl, upd_same⟩ (Paired.mapP pT6 fun _ _ z => z.same e7)
          have R7 := (R6.same e7).todo N pT7 fun t ht => by
            rcases List.mem_append.mp ht with z | z
            · exact R6.good t z
            · rw [List.mem_singleton.mp z]
              exact hH.gd c1
          have tt7 := (tt6.trans (TT.same e7)).trans (TT.lst (ys := vs6 ++ [.ref q4]) kT7)
          have nu7 : (nm5 ++ [u ++ [b]])[nd]? = some u := by
            rw [List.getElem?_append_left nl]
            exact nu5
          have w7 : wgt (its5 ++ [(nm5.length, lo, hh)]) ≤ wgt its0 + cc fi mi be (i + 1) := by
            rw [wgt_snoc, hc]
            show wgt its5 + (2 * (hh - lo) - 3) ≤ _
            omega
          have b7 : (nm5 ++ [u ++ [b]]).length + wgt (its5 ++ [(nm5.length, lo, hh)]) ≤ nm.length + wgt its0 + cc fi mi be (i + 1) := by
            rw [wgt_snoc, hc, List.length_append]
            show nm5.length + 1 + (wgt its5 + (2 * (hh - lo) - 3)) ≤ _
            omega
          refine ⟨_, rfl, rfl, _, rfl, ?_⟩
          cases b
          · rw [show decide (V.str ⟨#[cd false]⟩ = V.str "1") = false from decide_eq_false (fun z => by
              injection z with z
              exact absurd z (by decide +kernel))]
            obtain ⟨y2, f2, l2⟩ := R7.h2
            exact iteF ⟨_, rfl, _, rfl, p, C, dx, _, _, rfl, R7.hp, TX.cl, TX.z, tr_zeros a1 a2 a3, _, rfl, a2, y2, _, nd, rfl, rfl, f2, ixn (by rw [l2]; exact (List.getElem?_eq_some_iff.mp (nu7)).1), _, _, _, _, _, _, rfl, R7.put2 N f2 (by rw [List.length_set, l2]), (nu7), tt7.trans (TT.lst f2), w7, b7⟩
          · rw [show decide (V.str ⟨#[cd true]⟩ = V.str "1") = true from decide_eq_true rfl]
            obtain ⟨y3, f3, l3⟩ := R7.h3
            exact iteT ⟨_, rfl, _, rfl, p, C, dx, _, _, rfl, R7.hp, TX.cl, TX.o, tr_ones a1 a2 a3, _, rfl, a3, y3, _, nd, rfl, rfl, f3, ixn (by rw [l3]; exact (List.getElem?_eq_some_iff.mp (nu7)).1), _, _, _, _, _, _, rfl, R7.put3 N f3 (by rw [List.length_set, l3]), (nu7), tt7.trans (TT.lst f3), w7, b7⟩
        · rw [decide_eq_false (show ¬ (1 : Int) < ((hh : Nat) : Int) - ((lo : Nat) : Int) by omega)]
          refine iteF ?_
          refine ⟨_, rfl, rfl, _, rfl, ?_⟩
          cases b
          · rw [show decide (V.str ⟨#[cd false]⟩ = V.str "1") = false from decide_eq_false (fun z => by
              injection z with z
              exact absurd z (by decide +kernel))]
            obtain ⟨y2, f2, l2⟩ := R5.h2
            exact iteF ⟨_, rfl, _, rfl, p, C, dx, _, _, rfl, R5.hp, TX.cl, TX.z, tr_zeros a1 a2 a3, _, rfl, a2, y2, _, nd, rfl, rfl, f2, ixn (by rw [l2]; exact (List.getElem?_eq_some_iff.mp nu5).1), nm5, its5, _, _, _, _, rfl, R5.put2 N f2 (by rw [List.length_set, l2]), nu5, tt5.trans (TT.lst f2), (by omega), (by omega)⟩
          · rw [show decide (V.str ⟨#[cd true]⟩ = V.str "1") = true from decide_eq_true rfl]
            obtain ⟨y3, f3, l3⟩ := R5.h3
            exact iteT ⟨_, rfl, _, rfl, p, C, dx, _, _, rfl, R5.hp, TX.cl, TX.o, tr_ones a1 a2 a3, _, rfl, a3, y3, _, nd, rfl, rfl, f3, ixn (by rw [l3]; exact (List.getElem?_eq_some_iff.mp nu5).1), nm5, its5, _, _, _, _, rfl, R5.put3 N f3 (by rw [List.length_set, l3]), nu5, tt5.trans (TT.lst f3), (by omega), (by omega)⟩
      · rintro σ H5 ⟨nm5, its5, x9', x10', x11', x12', rfl, R5, nu5, tt5, w5, b5⟩
        have w5 : wgt its5 ≤ wgt its0 + (2 * (be - mi) - 2 + (2 * (mi - fi) - 2)) := w5
        have b5 : nm5.length + wgt its5 ≤ nm.length + wgt its0 + (2 * (be - mi) - 2 + (2 * (mi - fi) - 2)) := b5
        exact ⟨_, by show wgt its5 < wgt its0 + (2 * (be - fi) - 3); omega, nm5, its5, _, _, _, _, _, _, _, _, _, rfl, rfl, R5, by omega⟩
end
end K38
set_option Elab.async false
set_option linter.all false
set_option maxRecDepth 100001
set_option maxHeartbeats 3999999
namespace K38
open PySem L2
theorem bits_more : ∀ (k d n : Nat), n < 2 ^ k → bits (k + d) n = List.replicate d false ++ bits k n
  | 0, 0, n, h => rfl
  | 0, d + 1, n, h => by
    have n0 : n = 0 := by
      rw [Nat.pow_zero] at h
      omega
    subst n0
    have ih := bits_more 0 d 0 h
    rw [Nat.zero_add] at ih ⊢
    rw [show bits (d + 1) 0 = bits d 0 ++ [false] from rfl, ih, show bits 0 0 = [] from rfl, List.append_nil, List.append_nil, List.replicate_succ']
  | k + 1, d, n, h => by
    have h2 : n / 2 < 2 ^ k := by
      rw [Nat.pow_succ] at h
      omega
    rw [show k + 1 + d = (k + d) + 1 by omega, bits, bits_more k d (n / 2) h2, bits, List.append_assoc]
theorem dig1 (n : Nat) (h : n < 2) : (Nat.digitChar n).toNat = cd (decide (n % 2 = 1)) := by
  match n, h with
  | 0, _ => rfl
  | 1, _ => rfl
theorem bin_bits (n : Nat) : ∃ k, 1 ≤ k ∧ (k = 1 ∨ 2 ^ (k - 1) ≤ n) ∧ n < 2 ^ k ∧ (Nat.toDigits 2 n).map Char.toNat = (bits k n).map cd := by
  induction n using Nat.strongRecOn with
  | _ n ih =>
    by_cases h : n < 2
    · refine ⟨1, Nat.le_refl _, .inl rfl, h, ?_⟩
      rw [Nat.toDigits_of_lt_base h, List.map_singleton, dig1 n h]
      rfl
    · obtain ⟨k, k1, k2, k3, e⟩ := ih (n / 2) (by omega)
      refine ⟨k + 1, by omega, .inr ?_, by rw [Nat.pow_succ]; omega, ?_⟩
      · rw [Nat.add_sub_cancel]
        rcases k2 with rfl | k2
        · omega
        · have : 2 ^ k = 2 ^ (k - 1) * 2 := by
            rw [← Nat.pow_succ]
            congr 1
            omega
          omega
      · rw [Nat.toDigits_of_base_le (by decide) (by omega), List.map_append, e, bits, List.map_append, List.map_singleton, List.map_singleton, dig1 (n % 2) (by omega), Nat.mod_mod]
theorem zfill_bits {l n : Nat} (l1 : 1 ≤ l) (h : n < 2 ^ l) : Txt.zfill (binT n) (l : Int) = bS (bits l n) := by
  obtain ⟨k, k1, k2, k3, e⟩ := bin_bits n
  have kl : k ≤ l := by
    rcases k2 with rfl | k2
    · exact l1
    · have : 2 ^ (k - 1) < 2 ^ l := Nat.lt_of_le_of_lt k2 h
      have := (Nat.pow_lt_pow_iff_right (by decide)).mp this
      omega
  have eb : binT n = bS (bits k n) := by
    unfold binT
    rw [e]
    rfl
  rw [eb]
  have ln : (bS (bits k n)).length = k := by rw [bS_len, bits_len]
  unfold Txt.zfill
  rw [ln]
  by_cases c : ((l : Nat) : Int) ≤ ((k : Nat) : Int)
  · rw [if_pos c]
    rw [show l = k by omega]
  · rw [if_neg c]
    obtain ⟨d, rfl⟩ := Nat.exists_eq_add_of_le kl
    rw [bits_more k d n k3, Int.toNat_natCast, Nat.add_sub_cancel_left]
    have lb := bits_len k n
    generalize bits k n = w at lb ⊢
    have fin : Builtin.Str.padded (bS w) d 0 48 = bS (List.replicate d false ++ w) := by
      unfold Builtin.Str.padded bS S
      rw [List.map_append, List.map_replicate]
      simp
      exact .inr rfl
    match w, lb with
    | [], lb => rw [← lb] at k1; exact absurd k1 (by decide)
    | b :: r, _ =>
      unfold zfilled
      have e0 : (bS (b :: r)).cps[0]? = some (cd b) := by
        unfold bS S
        simp
      rw [e0]
      cases b
      · exact fin
      · exact fin
end K38
set_option Elab.async false
set_option linter.all false
set_option maxRecDepth 100001
set_option maxHeartbeats 3999999
namespace K38
open PySem L2
abbrev sCan : Stmt := topS 29
/-- the length of the word at a sign -/
abbrev lAt (ls : List Nat) (o : Nat) : Nat := ls.getD o 0
def lexL (ls : List Nat) (a b : Nat) : Prop := lAt ls a < lAt ls b ∨ (lAt ls a = lAt ls b ∧ a < b)
/-- the signs by length, then by number -/
structure IsOrd (ls os : List Nat) : Prop where
  perm : os.Perm (List.range ls.length)
  lex : os.Pairwise (lexL ls)
theorem IsOrd.uniq {ls a b : List Nat} (h1 : IsOrd ls a) (h2 : IsOrd ls b) : a = b := by
  refine List.Perm.eq_of_pairwise (le := lexL ls) (fun x y _ _ h h' => ?_) h1.lex h2.lex (h1.perm.trans h2.perm.symm)
  unfold lexL at h h'
  omega
theorem IsOrd.asc {ls os : List Nat} (h : IsOrd ls os) : (os.map (lAt ls)).Pairwise (· ≤ ·) := by
  rw [List.pairwise_map]
  refine List.Pairwise.imp (fun {a b} h => ?_) h.lex
  unfold lexL at h
  omega
theorem IsOrd.len {ls os : List Nat} (h : IsOrd ls os) : os.length = ls.length := by
  rw [h.perm.length_eq, List.length_range]
theorem IsOrd.nodup {ls os : List Nat} (h : IsOrd ls os) : os.Nodup := h.perm.nodup_iff.mpr List.nodup_range
theorem IsOrd.lt {ls os : List Nat} (h : IsOrd ls os) : ∀ o ∈ os, o < ls.length := fun o ho => List.mem_range.mp (h.perm.subset ho)
theorem IsOrd.permL {ls os : List Nat} (h : IsOrd ls os) : (os.map (lAt ls)).Perm ls := by
  have p := h.perm.map (lAt ls)
  have e : (List.range ls.length).map (lAt ls) = ls := by
    refine List.ext_getElem (by rw [List.length_map, List.length_range]) fun i h1 h2 => ?_
    rw [List.getElem_map, List.getElem_range]
    show ls.getD i 0 = _
    rw [List.getD_eq_getElem?_getD, List.getElem?_eq_getElem h2]
    rfl
  rw [e] at p
  exact p
theorem ord_of {ls : List Nat} {ys : List V} (sr : SrtO.Srtd (SrtL.ltG SrtL.ordInt fun v => ((lAt ls (nO v) : Nat) : Int)) ys) (st : SrtO.Stb (SrtL.ltG SrtL.ordInt fun v => ((lAt ls (nO v) : Nat) : Int)) ys (rgV 0 ((ls.length : Nat) : Int))) :
    ∃ os : List Nat, ys = os.map (fun n : Nat => V.int (n : Nat)) ∧ IsOrd ls os := by
  have er : rgV 0 ((ls.length : Nat) : Int) = (List.range ls.length).map fun n : Nat => V.int (n : Nat) := by
    unfold rgV
    rw [show (((ls.length : Nat) : Int) - 0).toNat = ls.length by omega]
    refine List.map_congr_left fun i _ => ?_
    show V.int (0 + (i : Nat)) = V.int (i : Nat)
    rw [show (0 : Int) + (i : Nat) = (i : Nat) by omega]
  rw [er] at st
  have e1 : ys = (ys.map nO).map fun n : Nat => V.int (n : Nat) := by
    rw [List.map_map]
    conv => lhs; rw [← List.map_id ys]
    refine List.map_congr_left fun v hv => ?_
    obtain ⟨i, _, rfl⟩ := List.mem_map.mp (st.perm.subset hv)
    rfl
  generalize ys.map nO = os at e1
  subst e1
  have nn : ∀ l : List Nat, (l.map fun n : Nat => V.int (n : Nat)).map nO = l := fun l => by
    rw [List.map_map]
    conv => rhs; rw [← List.map_id l]
    exact List.map_congr_left fun i _ => rfl
  refine ⟨os, rfl, ?_, ?_⟩
  · have := st.perm.map nO
    rw [nn, nn] at this
    exact this
  · rw [List.pairwise_iff_forall_sublist]
    intro a b hab
    have sr2 : os.Pairwise fun a b => lAt ls a ≤ lAt ls b := by
      have := List.pairwise_map.mp sr
      refine List.Pairwise.imp (fun {a b} h => ?_) this
      have h := of_decide_eq_false h
      have h : ¬ ((lAt ls b : Nat) : Int) < ((lAt ls a : Nat) : Int) := h
      omega
    have le := List.pairwise_iff_forall_sublist.mp sr2 hab
    by_cases e : lAt ls a = lAt ls b
    · refine .inr ⟨e, ?_⟩
      have c := congrArg (List.map nO) (st.cls (V.int ((a : Nat) : Int)))
      rw [List.filter_map, List.filter_map, nn, nn] at c
      have s2 := hab.filter ((SrtO.eqv (SrtL.ltG SrtL.ordInt fun v => ((lAt ls (nO v) : Nat) : Int)) (V.int ((a : Nat) : Int))) ∘ fun n : Nat => V.int (n : Nat))
      rw [c] at s2
      have fa : ∀ x, lAt ls a = lAt ls x → ((SrtO.eqv (SrtL.ltG SrtL.ordInt fun v => ((lAt ls (nO v) : Nat) : Int)) (V.int ((a : Nat) : Int))) ∘ fun n : Nat => V.int (n : Nat)) x = true := fun x hx => by
        refine SrtO.eqv_iff.mpr ⟨decide_eq_false ?_, decide_eq_false ?_⟩
        · show ¬ ((lAt ls a : Nat) : Int) < ((lAt ls x : Nat) : Int)
          omega
        · show ¬ ((lAt ls x : Nat) : Int) < ((lAt ls a : Nat) : Int)
          omega
      rw [List.filter_cons_of_pos (fa a rfl), List.filter_cons_of_pos (fa b e)] at s2
      have s3 := s2.trans List.filter_sublist
      exact List.pairwise_iff_forall_sublist.mp List.pairwise_lt_range s3
    · exact .inl (by omega)
/-- the canonical words, by sign -/
def CanoOf (ls os : List Nat) (ws : List W) : Prop := ws.length = ls.length ∧ ∀ (i o : Nat), os[i]? = some o → ws[o]? = (canoW 0 0 (os.map (lAt ls)))[i]?
theorem CanoOf.uniq {ls os : List Nat} {a b : List W} (O : IsOrd ls os) (h1 : CanoOf ls os a) (h2 : CanoOf ls os b) : a = b := by
  refine List.ext_getElem? fun o => ?_
  by_cases ho : o < ls.length
  · obtain ⟨i, hi, e⟩ := List.getElem_of_mem (O.perm.symm.subset (List.mem_range.mpr ho))
    have e2 : os[i]? = some o := by rw [List.getElem?_eq_getElem hi, e]
    rw [h1.2 i o e2, h2.2 i o e2]
  · rw [List.getElem?_eq_none (by rw [h1.1]; omega), List.getElem?_eq_none (by rw [h2.1]; omega)]
theorem LT.ix {K : PySem.W.Frag} {H : Hp} {p : Addr} {xs : List V} {i : Int} {v : V} {Q : VK} (h : LT H p xs) (e : atI xs i = some v) (q : Q v H) : rIx K (.ref p) (.int i) H Q :=
  h.elim (fun z => .inl ⟨p, xs, i, v, rfl, rfl, SqL.of z, e, q⟩) fun z => .inr (.inl ⟨p, xs, i, v, rfl, rfl, SqT.of z, e, q⟩)
theorem LT.ext {H H' : Hp} {p : Addr} {xs : List V} (h : LT H p xs) (e : LamX.ExtN H H') : LT H' p xs := h.imp (fun z => e _ _ z fun _ y => nomatch y) fun z => e _ _ z fun _ y => nomatch y
theorem LT.ne {H : Hp} {p D : Addr} {xs : List V} (h : LT H p xs) (n : H D = none) : p ≠ D := h.elim (fun z => ne_of_none z n) fun z => ne_of_none z n
theorem LT.upd {H : Hp} {p D : Addr} {xs : List V} {o : HO} (h : LT H p xs) (n : p ≠ D) : LT (L2.upd H D o) p xs := h.imp (fun z => (upd_ne n).trans z) fun z => (upd_ne n).trans z
theorem ix_seqK {X : Cx} (K : PySem.W.Frag) (hK : X.K = K) : IxR X (rIx K) := by
  subst hK
  exact ix_seq
def spCa (Tb : List (Addr × Str)) : Sp := fun vs H Q _ => ∃ (lp : Addr) (ls : List Nat) (L : Nat), vs = [.ref lp] ∧ LT H lp (ls.map fun n : Nat => V.int (n : Nat)) ∧ ls.length ≤ 2000 ∧ (∀ l ∈ ls, 1 ≤ l ∧ l ≤ L) ∧ L ≤ 60 ∧ kl L ls ≤ 2 ^ L ∧ LamX.Tabs Tb H ∧
  ∀ os ws D H', IsOrd ls os → CanoOf ls os ws → LamX.ExtN H H' → LamX.Tabs Tb H' → Fr0 H D → H' D = some (.lst (ws.map wV)) → Q (.ref D) H'
theorem updS {H : Hp} {a : Addr} {o : HO} (h : H a = some o) : upd H a o = H := by
  funext b
  by_cases e : b = a
  · subst e
    rw [upd_same, h]
  · exact upd_ne e
theorem updU {H : Hp} {a : Addr} {o o' : HO} : upd (upd H a o) a o' = upd H a o' := by
  funext b
  by_cases e : b = a
  · subst e
    rw [upd_same, upd_same]
  · rw [upd_ne e, upd_ne e, upd_ne e]
theorem padOk : ∀ n : Nat, n < 61 → PadOk (n : Int) = true := by decide +kernel
theorem bin_len {n l : Nat} (l1 : 1 ≤ l) (h : n < 2 ^ l) : (binT n).length ≤ l := by
  show (List.toArray _).size ≤ l
  rw [List.size_toArray, List.length_map]
  exact (Nat.length_toDigits_le_iff (by decide) (by omega)).mpr h
abbrev NCa : List Str := ["lengths", "words", "number", "size", "sign", "place"]
theorem scCa : FnScope NCa ["lengths"] (defScope sCan) := ⟨rfl, rfl, rfl, by decide +kernel, rfl, by decide +kernel, by decide +kernel⟩
section
variable {P : Program} {w : World} {K : PySem.W.Frag} {mg : Str → Option Value} {base : Heap}
theorem ok_can {f c T : Addr} {fd : FuncData} {Tb : List (Addr × Str)} (F : FunL K base mg "canonical_words" "canonical_words" sCan f c T fd) (B : Bi mg) (Z : Bs mg)
    (hmT : (T, (("canonical_words.<locals>.<lambda>" : String) : Str)) ∈ Tb) (hu : ∀ p ∈ Tb, p.1 = T → p.2 = (("canonical_words.<locals>.<lambda>" : String) : Str)) : FnOk P w K mg base CX0 6 f fd ["lengths"] (spCa Tb) := by
  refine F.okX scCa (fun vs H Q E h => ?_) (fun A outer s H vs Q E hr h => ?_)
  · obtain ⟨lp, ls, L, rfl, _⟩ := h
    rfl
  · obtain ⟨lp, ls, L, rfl, hl, l2, lb, L6, ek, tabs, q⟩ := h
    refine ⟨_, pss_cons (ps_set (i := 1) scCa.nd rfl (Or.inl rfl) (pe_op op_rep (pe_lst (pa_cons pe_str pa_nil)) (pe_len B.len (pa_cons (pv 0) pa_nil))))
      (pss_cons (ps_asg (pe_tup (pa_cons (pe_un un_neg pe_int) (pa_cons pe_int pa_nil))) (pg_tup rfl (pgs_cons (pg_name (i := 2) scCa.nd rfl (.inl rfl)) (pgs_cons (pg_name (i := 3) scCa.nd rfl (.inl rfl)) pgs_nil))))
      (pss_cons (ps_for PassesOwn.never rfl (pi_sqA (by exact SrtL.pe_sortLam (k := 1) (i := 5) SrtL.ordInt rfl Z.sorted (pe_listRg rfl rfl B.list (prg_1 rfl B.range (pe_len B.len (pa_cons (pv 0) pa_nil)))) F.tab hmT hu (hr.mono (by decide)) (LamX.lamP_by (sc := defScope sCan) (by decide +kernel)) scCa.nd rfl (fun s H f c' hr' => pe_ix (ix_seqK K rfl) (pv 0) (pv 5) (fun _ _ => rfl)))) (pg_name (i := 4) scCa.nd rfl (.inl rfl))
        (pss_cons (ps_set (i := 2) scCa.nd rfl (Or.inl rfl) (pe_op op_shl (pe_op op_add (pv 2) pe_int) (pe_op op_sub (pe_ix ix_seq (pv 0) (pv 4) (fun _ _ => rfl)) (pv 3))))
        (pss_cons (ps_set (i := 3) scCa.nd rfl (Or.inl rfl) (pe_ix ix_seq (pv 0) (pv 4) (fun _ _ => rfl)))
        (pss_one (ps_asg (pe_bm PySem.F.plainAttrs_str PySem.F.slot_str_zfill PySem.F.type_str_zfill mt_zfill (pe_bin (pv 2)) (pa_cons (pv 3) pa_nil)) (pg_sub (pv 1) (pv 4) set_list))))))
      (pss_one (ps_ret (pv 1))))), ?_⟩
    have lN : (ls.map fun n : Nat => V.int (n : Nat)).length = ls.length := List.length_map _
    have fl : ∀ (k : Nat) (x : V), (List.replicate k [x]).flatten = List.replicate k x := fun k x => by simp
    refine ⟨by show 1 ≤ sizeLine; decide, fun a1 n1 => ⟨_, rfl, lp, _, rfl, (hl.same (same_new n1)).sq, a1, _, _, rfl, rfl, upd_same, ?_, ?_, ?_, fun D nD => ?_⟩⟩
    · omega
    · rw [lN]
      omega
    · rw [lN]
      show 1 * (((ls.length : Nat) : Int)).toNat ≤ sizeLine
      rw [Nat.one_mul, Int.toNat_natCast]
      exact Nat.le_of_lt (small10 (by omega))
    rw [fl, lN, Int.toNat_natCast]
    have e1 := same_new (o := .lst [.str ""]) n1
    have e2 := same_new (o := .lst (List.replicate ls.length (.str ""))) nD
    have hD : upd (upd H a1 (.lst [.str ""])) D (.lst (List.replicate ls.length (.str ""))) D = some (.lst (List.replicate ls.length (.str ""))) := upd_same
    have mD : H D = none := by
      cases z : H D with
      | none => rfl
      | some o =>
        rw [e1 D o z] at nD
        exact absurd nD (fun y => nomatch y)
    have e12 := e1.trans e2
    generalize upd (upd H a1 (.lst [.str ""])) D (.lst (List.replicate ls.length (.str ""))) = H2 at hD e12 ⊢
    refine ⟨_, rfl, by show 2 ≤ sizeLine; decide, fun tp ntp => ⟨tp, _, rfl, SqT.of upd_same, rfl, _, _, rfl, _, _, rfl, rfl, ?_⟩⟩
    have e3 := same_new (o := .tup [.int (-1), .int 0]) ntp
    have hD3 := e3 _ _ hD
    have e13 := e12.trans e3
    generalize upd H2 tp (.tup [.int (-1), .int 0]) = H3 at hD3 e13 ⊢
    have hl3 := hl.same e13
    have tab3 := tabs.ext e13
    clear e1 e2 e12 e3 hD ntp nD n1
    refine ⟨_, rfl, lp, _, rfl, hl3.sq, _, rfl, ?_, fun a4 n4 => ?_⟩
    · rw [lN]
      exact RgOk.of_le (by omega) (by omega) (by omega) (by omega)
    rw [lN]
    have e4 := same_new (o := .lst (rgV 0 ((ls.length : Nat) : Int))) n4
    have g4 : upd H3 a4 (.lst (rgV 0 ((ls.length : Nat) : Int))) a4 = some (.lst (rgV 0 ((ls.length : Nat) : Int))) := upd_same
    refine ⟨a4, _, fun v => ((lAt ls (nO v) : Nat) : Int), rfl, SqL.of g4, tab3.ext e4, fun H5 en5 tab5 => ⟨SqL.of (en5 _ _ g4 fun _ z => nomatch z), fun v hv => ?_, fun ys OR srt stb nOR => ?_⟩⟩
    · obtain ⟨i, hi, rfl⟩ := List.mem_map.mp hv
      have hi := List.mem_range.mp hi
      have hi : i < ls.length := by omega
      have i0 : (0 : Int) + ((i : Nat) : Int) = (i : Nat) := by omega
      rw [i0]
      refine ⟨_, rfl, _, rfl, ((hl3.same e4).ext en5).ix (v := .int ((ls[i] : Nat) : Int)) (atI_nat (by rw [List.getElem?_map, List.getElem?_eq_getElem hi]; rfl)) ⟨?_, rfl⟩⟩
      show _ = V.int ((ls.getD ((i : Nat) : Int).toNat 0 : Nat) : Int)
      rw [Int.toNat_natCast, List.getD_eq_getElem?_getD, List.getElem?_eq_getElem hi]
      rfl
    obtain ⟨os, rfl, O⟩ := ord_of srt stb
    have e6 := same_new (o := .lst (os.map fun n : Nat => V.int (n : Nat))) nOR
    have gOR : upd H5 OR (.lst (os.map fun n : Nat => V.int (n : Nat))) OR = some (.lst (os.map fun n : Nat => V.int (n : Nat))) := upd_same
    have hl6 := ((hl3.same e4).ext en5).same e6
    have hD6 := e6 _ _ (en5 _ _ (e4 _ _ hD3) fun _ z => nomatch z)
    have x6 : LamX.ExtN H (upd H5 OR (.lst (os.map fun n : Nat => V.int (n : Nat)))) := fun b o z m => e6 _ _ (en5 _ _ (e4 _ _ (e13 _ _ z)) m)
    have tab6 := tab5.ext e6
    have dO : D ≠ OR := ne_of_none (en5 _ _ (e4 _ _ hD3) fun _ z => nomatch z) nOR
    clear e4 e6 g4 n4 nOR srt stb en5 tab5 hl3 hD3 e13 tab3
    generalize upd H5 OR (.lst (os.map fun n : Nat => V.int (n : Nat))) = H6 at gOR hl6 hD6 x6 tab6 ⊢
    have lD : lp ≠ D := hl.ne mD
    have R0 : Room_ L 0 0 (os.map (lAt ls)) := by
      refine room_start O.asc (fun l h => (lb l (O.permL.subset h)).2) ?_
      unfold kl at ek ⊢
      rw [(O.permL.map _).sum_nat]
      exact ek
    refine ⟨OR, os.map fun n : Nat => V.int (n : Nat), rfl, .inl (SqL.of gOR), fun J GG wk hG => for_it wk (fun j σ H' => ∃ (ws : List W) (nx sz : Nat) (x4 : Option V), σ = [some (.ref lp), some (.ref D), some (.int (((nx : Nat) : Int) - 1)), some (.int ((sz : Nat) : Int)), x4, none] ∧ H' = upd H6 D (.lst (ws.map wV)) ∧ ws.length = ls.length ∧
        Room_ L nx sz ((os.map (lAt ls)).drop j) ∧ (canoW 0 0 (os.map (lAt ls))).drop j = canoW nx sz ((os.map (lAt ls)).drop j) ∧ ∀ (i o : Nat), i < j → os[i]? = some o → ws[o]? = (canoW 0 0 (os.map (lAt ls)))[i]?)
      ⟨List.replicate ls.length [], 0, 0, _, rfl, ?_, List.length_replicate, R0, rfl, fun i o h => absurd h (Nat.not_lt_zero _)⟩ (fun j σ H' _ ⟨_, _, _, _, _, e, _⟩ => hG H' fun o z => by rw [e, upd_ne (Ne.symm dO)]; exact z) ?_ ?_⟩
    · rw [List.map_replicate]
      exact (updS hD6).symm
    · rintro j x σ G G' hj ⟨ws, nx, sz, x4, rfl, rfl, lws, R, ec, hd⟩ ⟨rfl, hx⟩
      rw [List.length_map] at hj
      rw [List.getElem?_map, List.getElem?_eq_getElem hj] at hx
      cases hx
      have ol := O.lt os[j] (List.getElem_mem hj)
      have ho := List.getElem?_eq_getElem hj
      generalize os[j] = o at ol ho ⊢
      have lj : j < (os.map (lAt ls)).length := by rw [List.length_map]; exact hj
      have dj : (os.map (lAt ls)).drop j = lAt ls o :: (os.map (lAt ls)).drop (j + 1) := by
        rw [List.drop_eq_getElem_cons lj, List.getElem_map]
        rw [List.getElem?_eq_getElem hj] at ho
        rw [Option.some.inj ho]
      rw [dj] at R ec
      have eg : ls[o]? = some (lAt ls o) := by
        show _ = some (ls.getD o 0)
        rw [List.getD_eq_getElem?_getD, List.getElem?_eq_getElem ol]
        rfl
      have l1 := (lb (lAt ls o) (List.mem_of_getElem? eg)).1
      have lL := (lb (lAt ls o) (List.mem_of_getElem? eg)).2
      have R2 := R.next
      have sl := R.lo (lAt ls o) List.mem_cons_self
      obtain ⟨l', n', en, m', lt', _⟩ := canoW_mem R _ (by rw [canoW]; exact List.mem_cons_self)
      have nlt : nx * 2 ^ (lAt ls o - sz) < 2 ^ lAt ls o := by
        have f := R2.fit
        have p : 0 < 2 ^ (L - lAt ls o) := Nat.two_pow_pos _
        have : (nx * 2 ^ (lAt ls o - sz) + 1) * 2 ^ (L - lAt ls o) ≤ 2 ^ lAt ls o * 2 ^ (L - lAt ls o) := by
          rw [← Nat.pow_add, show lAt ls o + (L - lAt ls o) = L by omega]
          omega
        have := Nat.le_of_mul_le_mul_right this p
        omega
      clear en m' lt'
      have eC : (canoW 0 0 (os.map (lAt ls)))[j]? = some (bits (lAt ls o) (nx * 2 ^ (lAt ls o - sz))) := by
        have := congrArg (fun l => l[0]?) ec
        rw [canoW] at this
        rw [List.getElem?_drop] at this
        exact this
      have eD : (canoW 0 0 (os.map (lAt ls))).drop (j + 1) = canoW (nx * 2 ^ (lAt ls o - sz) + 1) (lAt ls o) ((os.map (lAt ls)).drop (j + 1)) := by
        have := congrArg List.tail ec
        rw [canoW] at this
        rw [List.tail_drop] at this
        exact this
      have hlG : LT (upd H6 D (.lst (ws.map wV))) lp (ls.map fun n : Nat => V.int (n : Nat)) := hl6.upd lD
      have nx2 : nx < 2 ^ 64 := by
        have : nx ≤ nx * 2 ^ (lAt ls o - sz) := Nat.le_mul_of_pos_right _ (Nat.two_pow_pos _)
        have : 2 ^ lAt ls o ≤ 2 ^ 64 := Nat.pow_le_pow_right (by decide) (by omega)
        omega
      refine ⟨_, rfl, _, _, rfl, rfl, ?_⟩
      refine ⟨_, rfl, _, rfl, hlG.ix (v := .int ((lAt ls o : Nat) : Int)) (atI_nat (by rw [List.getElem?_map, eg]; rfl)) ⟨_, rfl, _, _, rfl, rfl, _, _, rfl, rfl, ⟨by omega, by omega, by omega⟩, ?_⟩⟩
      have ev : (((nx : Nat) : Int) - 1 + 1) * 2 ^ (((lAt ls o : Nat) : Int) - ((sz : Nat) : Int)).toNat = ((nx * 2 ^ (lAt ls o - sz) : Nat) : Int) := by
        rw [show (((lAt ls o : Nat) : Int) - ((sz : Nat) : Int)).toNat = lAt ls o - sz by omega, show ((nx : Nat) : Int) - 1 + 1 = (nx : Nat) by omega, Int.natCast_mul, Int.natCast_pow]
        rfl
      show gName 2 (V.int ((((nx : Nat) : Int) - 1 + 1) * 2 ^ (((lAt ls o : Nat) : Int) - ((sz : Nat) : Int)).toNat)) _ _ _
      rw [ev]
      generalize nx * 2 ^ (lAt ls o - sz) = y at R2 nlt eC eD ⊢
      refine ⟨_, rfl, _, rfl, hlG.ix (v := .int ((lAt ls o : Nat) : Int)) (atI_nat (by rw [List.getElem?_map, eg]; rfl)) ?_⟩
      refine ⟨_, rfl, y, rfl, Nat.le_trans (bin_len l1 nlt) (Nat.le_of_lt (small10 (by omega))), rfl, _, rfl, binT y, _, rfl, rfl, ?_, ?_⟩
      · exact padOk _ (by omega)
      rw [zfill_bits l1 nlt]
      refine ⟨_, rfl, _, rfl, D, _, _, o, rfl, rfl, upd_same, ixn (by rw [List.length_map, lws]; exact ol), ?_⟩
      refine ⟨ws.set o (bits (lAt ls o) y), y + 1, lAt ls o, some (.int ((o : Nat) : Int)), ?_, ?_, by rw [List.length_set, lws], R2, eD, fun i o' hi ho' => ?_⟩
      · show [some (V.ref lp), some (V.ref D), some (V.int ((y : Nat) : Int)), some (V.int ((lAt ls o : Nat) : Int)), some (V.int ((o : Nat) : Int)), none] = _
        rw [show (((y + 1 : Nat) : Int) - 1) = (y : Nat) by omega]
      · rw [updU, List.map_set]
        rfl
      · by_cases e : i = j
        · subst e
          rw [ho] at ho'
          cases ho'
          rw [List.getElem?_set_self (by rw [lws]; exact ol), eC]
        · have no : o ≠ o' := fun eo => e (by
            subst eo
            have h1 := List.getElem?_eq_some_iff.mp ho
            have h2 := List.getElem?_eq_some_iff.mp ho'
            exact ((List.getElem_inj O.nodup).mp (h2.2.trans h1.2.symm)))
          rw [List.getElem?_set_ne no]
          exact hd i o' (by omega) ho'
    · rintro σ G ⟨ws, nx, sz, x4, rfl, rfl, lws, R, ec, hd⟩
      rw [List.length_map] at hd
      refine ⟨_, rfl, q os ws D _ O ⟨lws, fun i o h => hd i o (List.getElem?_eq_some_iff.mp h).1 h⟩ (fun b o z m => (upd_ne fun e => by rw [e, mD] at z; cases z).trans (x6 b o z m)) (tabs_put tab6 hD6) (fr_none mD) upd_same⟩
end
end K38
set_option Elab.async false
set_option linter.all false
set_option maxRecDepth 100001
set_option maxHeartbeats 3999999
namespace K38
open PySem L2
abbrev sCoI : Stmt := inClass (topS 26) 0
structure Cm (mg : Str → Option Value) : Prop where
  signs : ∃ u, mg "MOST_SIGNS" = some u ∧ RelV (.int 2000) u
  length : ∃ u, mg "MOST_LENGTH" = some u ∧ RelV (.int 1999) u
  max : mg "max" = none
structure TxC (K : PySem.W.Frag) (C : Addr) : Prop where
  cl : Cls K C
  g : NoAttr K C "longest"
  l : NoAttr K C "lengths"
  w : NoAttr K C "words"
  s : NoAttr K C "size"
  t : NoAttr K C "tree"
structure ErC (K : PySem.W.Frag) (CT CL : Addr) : Prop where
  t1 : PySem.W.findIn K (.ref CT) "what" = some none
  t2 : PySem.W.findIn K (.ref CT) "many" = some none
  t3 : PySem.W.findIn K (.ref CT) "most" = some none
  l1 : PySem.W.findIn K (.ref CL) "index" = some none
def coF (L n : Nat) (lt wt tr : Addr) : List (Str × V) := putF "tree" (.ref tr) (putF "size" (.int (n : Nat)) (putF "words" (.ref wt) (putF "lengths" (.ref lt) (putF "longest" (.int (L : Nat)) []))))
/-- behind a raise within the making of what is at p -/
structure RsB (p : Addr) (H H' : Hp) (d : Addr) (fs : List (Str × V)) : Prop where
  new : H d = none
  same : ButI p H H'
  at_ : H' d = some (.xd fs)
def spCoI (C CT CL CN CB CE : Addr) (Tb : List (Addr × Str)) : Sp := fun vs H Q E => ∃ (p dx lp : Addr) (wv : V) (ts : List V), vs = [.ref p, .ref lp, wv] ∧ H p = some (.ins C dx []) ∧ LT H lp ts ∧ (∀ v ∈ ts, Kn H v) ∧ LamX.Tabs Tb H ∧ ts.length ≤ 5000 ∧
  ((¬ (2 ≤ ts.length ∧ ts.length ≤ 2000) ∧ ∀ d H', Rsd H H' d [("most", .int 2000), ("many", .int (ts.length : Nat)), ("what", .str "signs")] → E (.ref CT) (some d) H') ∨
   (2 ≤ ts.length ∧ ts.length ≤ 2000 ∧ ∃ i v, ts[i]? = some v ∧ btw v 1 1999 = false ∧ (∀ j u, j < i → ts[j]? = some u → btw u 1 1999 = true) ∧ ∀ d H', Rsd H H' d [("index", .int (i : Nat))] → E (.ref CL) (some d) H') ∨
   (2 ≤ ts.length ∧ ts.length ≤ 2000 ∧ ∃ (ls : List Nat) (L : Nat), ts = (ls.map fun n : Nat => V.int (n : Nat)) ∧ (∀ l ∈ ls, 1 ≤ l ∧ l ≤ L) ∧ L ∈ ls ∧ L ≤ 60 ∧
     ((kl L ls ≠ 2 ^ L ∧ ∀ H', ButI p H H' → E (.ref CN) none H') ∨
      (kl L ls = 2 ^ L ∧ wv = .non ∧ ∀ os ws H' lt wt tr, IsOrd ls os → CanoOf ls os ws → ButT p H H' → LamX.Tabs Tb H' → H' p = some (.ins C dx (coF L ls.length lt wt tr)) → H' lt = some (.tup ts) → H' wt = some (.tup (ws.map wV)) → Q .non H') ∨
      (kl L ls = 2 ^ L ∧ H lp = some (.lst ts) ∧ ∃ (s : Addr) (us : List V), wv = .ref s ∧ LT H s us ∧ us.length = ls.length ∧ us.length ≤ 60 ∧ (∀ v ∈ us, Kn H v ∧ ∀ x, v = .str x → x.length ≤ 10000) ∧
        ((∃ i v, us[i]? = some v ∧ okB (ls.getD i 0) v = false ∧ (∀ j u, j < i → us[j]? = some u → okB (ls.getD j 0) u = true) ∧ ∀ d H', RsB p H H' d [("index", .int (i : Nat))] → E (.ref CB) (some d) H') ∨
         (∃ ws : List W, us = ws.map wV ∧ ws.map List.length = ls ∧
           ((H s = some (.lst us) ∧ ∃ i j a b, i < j ∧ ws[i]? = some a ∧ ws[j]? = some b ∧ bg a b ∧ (∀ i' j' x y, i' < j' → (i' < i ∨ (i' = i ∧ j' < j)) → ws[i']? = some x → ws[j']? = some y → ¬ bg x y) ∧ ∀ d H', RsB p H H' d [("other", .int (j : Nat)), ("index", .int (i : Nat))] → E (.ref CE) (some d) H') ∨
            (PF ws ∧ ∀ H' lt wt tr, ButT p H H' → LamX.Tabs Tb H' → H' p = some (.ins C dx (coF L ls.length lt wt tr)) → H' lt = some (.tup ts) → H' wt = some (.tup (ws.map wV)) → Q .non H'))))))))
theorem sum_cast : ∀ l : List Nat, (l.map fun n : Nat => (n : Int)).sum = ((l.sum : Nat) : Int)
  | [] => rfl
  | x :: r => by
    rw [List.map_cons, List.sum_cons, List.sum_cons, sum_cast r, Int.natCast_add]
theorem lAt_range (ls : List Nat) : (List.range ls.length).map (lAt ls) = ls := by
  refine List.ext_getElem (by rw [List.length_map, List.length_range]) fun i h1 h2 => ?_
  rw [List.getElem_map, List.getElem_range]
  show ls.getD i 0 = _
  rw [List.getD_eq_getElem?_getD, List.getElem?_eq_getElem h2]
  rfl
theorem kl_range (L : Nat) (ls : List Nat) : ((List.range ls.length).map fun i => ((2 ^ (L - lAt ls i) : Nat) : Int)).sum = ((kl L ls : Nat) : Int) := by
  have e : kl L ls = ((List.range ls.length).map fun i => 2 ^ (L - lAt ls i)).sum := by
    conv => lhs; rw [← lAt_range ls]
    unfold kl
    rw [List.map_map]
    rfl
  rw [e, ← sum_cast, List.map_map]
  rfl
theorem Same.none' {H H1 : Hp} {d : Addr} (e : Same H H1) (n : H1 d = none) : H d = none := by
  cases z : H d with
  | none => rfl
  | some o =>
    rw [e _ _ z] at n
    cases n
theorem Rsd.back {H H1 H' : Hp} {d : Addr} {fs : List (Str × V)} (r : Rsd H1 H' d fs) (e : Same H H1) : Rsd H H' d fs := ⟨Same.none' e r.new, e.trans r.same, r.at_⟩
theorem CanoOf.good {ls os : List Nat} {ws : List W} {L : Nat} (O : IsOrd ls os) (c : CanoOf ls os ws) (lb : ∀ l ∈ ls, l ≤ L) (ek : kl L ls = 2 ^ L) : PF ws ∧ (∀ w ∈ ws, w.length ≤ L) ∧ kr L ws = 2 ^ L := by
  have hc : os.map (fun o => ws.getD o []) = canoW 0 0 (os.map (lAt ls)) := by
    have len : (canoW 0 0 (os.map (lAt ls))).length = os.length := by
      have := congrArg List.length (canoW_lens 0 0 (os.map (lAt ls)))
      rw [List.length_map, List.length_map] at this
      exact this
    refine List.ext_getElem (by rw [List.length_map, len]) fun i h1 h2 => ?_
    rw [List.length_map] at h1
    have := c.2 i os[i] (List.getElem?_eq_getElem h1)
    rw [List.getElem_map, List.getD_eq_getElem?_getD, this, List.getElem?_eq_getElem h2]
    rfl
  have pw : (os.map fun o => ws.getD o []).Perm ws := by
    have p := O.perm.map fun o => ws.getD o []
    have e : (List.range ls.length).map (fun o => ws.getD o []) = ws := by
      refine List.ext_getElem (by rw [List.length_map, List.length_range, c.1]) fun i h1 h2 => ?_
      rw [List.getElem_map, List.getElem_range, List.getD_eq_getElem?_getD, List.getElem?_eq_getElem h2]
      rfl
    rw [e] at p
    exact p
  rw [hc] at pw
  have ko : kl L (os.map (lAt ls)) = 2 ^ L := by
    rw [← ek]
    exact (O.permL.map _).sum_nat
  have R0 : Room_ L 0 0 (os.map (lAt ls)) := room_start O.asc (fun l h => lb l (O.permL.subset h)) (by rw [ko]; exact Nat.le_refl _)
  refine ⟨(canoW_pf R0).perm pw, fun w hw => ?_, ?_⟩
  · obtain ⟨l, n, rfl, m, _, _⟩ := canoW_mem R0 w (pw.symm.subset hw)
    rw [bits_len]
    exact lb l (O.permL.subset m)
  · have : kr L ws = kr L (canoW 0 0 (os.map (lAt ls))) := (pw.symm.map _).sum_nat
    rw [this, kr_kl, canoW_lens, ko]
abbrev NCo : List Str := ["self", "lengths", "words", "index", "length"]
theorem LT.butI {H H' : Hp} {a p C dx : Addr} {xs : List V} {fs : List (Str × V)} (h : LT H a xs) (hp : H p = some (.ins C dx fs)) (b : ButI p H H') : LT H' a xs := by
  rcases h with z | z
  · exact .inl (b _ _ (ne_of z hp fun y => nomatch y) z)
  · exact .inr (b _ _ (ne_of z hp fun y => nomatch y) z)
theorem LT.tup {K : PySem.W.Frag} {H : Hp} {p : Addr} {xs : List V} {Q : VK} (h : LT H p xs) (q : ∀ t H', Same H H' → H' t = some (.tup xs) → Q (.ref t) H') : kTup K (.ref p) H Q :=
  h.elim (fun z => .inl ⟨p, xs, rfl, SqL.of z, fun t nt => q t _ (same_new nt) upd_same⟩) fun z => .inr ⟨p, xs, rfl, SqT.of z, q p H (Same.refl _) z⟩
theorem scCoI : FnScope NCo ["self", "lengths", "words"] (defScope sCoI) := ⟨rfl, rfl, rfl, by decide +kernel, rfl, by decide +kernel, by decide +kernel⟩
section
variable {X : Cx}
theorem pe_sum {a : Expr} {es : List Expr} {t : TA} {p pos : Pos} (hc : X.calm = true) (hm : X.mg "sum" = none) (ha : PA X (a :: es) t) (hg : Gl X "sum" := by rfl) (he : starEach (a :: es) X.env = (false, eval a X.env) :: starEach es X.env := by rfl)
    (hpl : (backTo pos (starEach es X.env)).any (·.1) = false := by rfl) :
    PE X (.Call (.Name "sum" p) (a :: es) [] pos) (tCB (rSum X.K) t) := pe_callB (cr_sum hc) hg hm (by decide +kernel) ha (he := he) (hpl := hpl)
end
/-- a def of which some parameters may have values of their own -/
structure FunW (K : PySem.W.Frag) (x qual : Str) (st : Stmt) (f : Addr) (fd : FuncData) : Prop where
  ex : ∃ (oc : Value) (od : Option Addr) (dV kV doc pm : Value) (an : Option Addr) (cdv ct : Value) (osl : Array (Option Value)),
    fd = PySem.W.fnOf x qual (defArgs st) (defBody st) (defScope st) dV kV doc pm an cdv ct ∧ K.lookup f = some ⟨oc, od, .func fd, osl⟩ ∧ PySem.W.codeIn K cdv qual = true
section
variable {P : Program} {w : World} {K : PySem.W.Frag} {mg : Str → Option Value} {base : Heap}
theorem FunW.okX {x qual : Str} {st : Stmt} {f : Addr} {fd : FuncData} {N ps : List Str} {k : Nat} {sp : Sp} (F : FunW K x qual st f fd) (S : FnScope N ps (defScope st)) (len : ∀ vs H Q E, sp vs H Q E → vs.length = ps.length)
    (hbody : ∀ (cdv : Value) (A : Around) (outer : List Env) (s : Shared) (H : Hp) (vs : List V) (Q : VK) (E : XK), Room k (A.deeper (PyProof.Rows.envOfC qual (defScope st) s.heap.objs.size f cdv)) → sp vs H Q E →
      ∃ t, PSs (cxOf (L2.CX P w) P w K mg base N qual (defScope st) f cdv A outer s H E) (defBody st) t ∧ t { nx := fun _ H' => Q .non H', rt := Q } (L2.start N vs) H) : FnOk P w K mg base (L2.CX P w) (k + 1) f fd ps sp := by
  obtain ⟨oc, od, dV, kV, doc, pm, an, cdv, ct, osl, rfl, lk, hcd⟩ := F.ex
  exact fn_of lk hcd S len fun A outer s H vs Q E hr hsp => hbody cdv A outer s H vs Q E hr hsp
theorem ok_coI {f C CT CL CN CB CE CR : Addr} {fd : FuncData} {Tb : List (Addr × Str)} (F : FunW K "__init__" "Code.__init__" sCoI f fd) (B : Bi mg) (Z : Bs mg) (M : Cm mg) (T : TxC K C) (R : ErC K CT CL) (cB : Cal CX0 P w K mg base 2 "is_between" spBetween)
    (xT : Xc P w K mg base 2 "TooMany" CT (spX3 K "what" "many" "most")) (xL : Xc P w K mg base 2 "BadLength" CL (spX1 K "index")) (xN : Xc P w K mg base 1 "NotFull" CN spX0) (cW : Cal (L2.CX P w) P w K mg base 4 "check_words" (spChW CB CE)) (cC : Cal CX0 P w K mg base 6 "canonical_words" (spCa Tb))
    (mT : Mak CX0 P w K mg base 6 "Tree" CR (spTrI CR Tb)) : FnOk P w K mg base (L2.CX P w) 8 f fd ["self", "lengths", "words"] (spCoI C CT CL CN CB CE Tb) := by
  refine F.okX scCoI (fun vs H Q E h => ?_) (fun cdv A outer s H vs Q E hr h => ?_)
  · obtain ⟨p, dx, lp, wv, ts, rfl, _⟩ := h
    rfl
  · obtain ⟨p, dx, lp, wv, ts, rfl, hp, hl, kn, tabs, l5, out⟩ := h
    refine ⟨_, pss_cons (ps_if (pt_not (pt_chain op_le op_le pe_int (pe_len B.len (pa_cons (pv 1) pa_nil)) (C8.pe_gc rfl M.signs))) (pss_one (ps_raise rfl (takes_of rfl rfl rfl rfl) (pmk_x xT hr (pa_cons pe_str (pa_cons (pe_len B.len (pa_cons (pv 1) pa_nil)) (pa_cons (C8.pe_gc rfl M.signs) pa_nil)))))) pss_nil)
      (pss_cons (ps_for (passes_of rfl) rfl (pi_en B.enum (pa_cons (pv 1) pa_nil)) (pg_tup rfl (pgs_cons (pg_name (i := 3) scCoI.nd rfl (.inl rfl)) (pgs_cons (pg_name (i := 4) scCoI.nd rfl (.inl rfl)) pgs_nil)))
        (pss_one (ps_if (pt_not (pt_val (pe_c cB hr pass0 (pa_cons (pv 4) (pa_cons pe_int (pa_cons (C8.pe_gc rfl M.length) pa_nil)))))) (pss_one (ps_raise rfl (takes_of rfl rfl rfl rfl) (pmk_x xL hr (pa_cons (pv 3) pa_nil)))) pss_nil)))
      (pss_cons (ps_fld (pv 0) (pe_callB (cr_max rfl) rfl M.max (by decide +kernel) (pa_cons (pe_callTy call_list_of rfl B.list (by decide +kernel) (pa_cons (pv 1) pa_nil)) pa_nil)) rfl)
      (pss_cons (ps_if (pt_cmpR op_ne (pe_sum rfl Z.sum (pa_cons (pe_lc (own := [("length", 4)]) rfl scCoI.nd (pi_sqA (pv 1)) (blkOk_by (N := NCo) (sc := defScope sCoI) (by decide +kernel))
          (fun _ _ _ _ _ => pg_name (i := 4) scCoI.nd rfl (Or.inl rfl)) (fun _ _ _ _ _ => pts_nil) (fun _ _ _ _ _ => pe_op op_shl pe_int (pe_op op_sub (pe_fldK K rfl (pv 0)) (pv 4)))) pa_nil)) (pe_op op_shl pe_int (pe_fld (pv 0) rfl)) (nomark _)) (pss_one (ps_raise rfl (takes_of rfl rfl rfl rfl) (pmk_x0 xN hr))) pss_nil)
      (pss_cons (ps_if (pt_cmpR op_notN (pv 2) pe_non (nomark _)) (pss_one (ps_expr (pe_c cW hr (passes_call (takes_of rfl rfl rfl rfl) fun _ _ _ _ h => h) (pa_cons (pv 1) (pa_cons (pv 2) pa_nil))))) pss_nil)
      (pss_cons (ps_fld (pv 0) (pe_tupleOf rfl B.tuple (pv 1)) rfl)
      (pss_cons (ps_fld (pv 0) (pe_tupleOf rfl B.tuple (pe_ifExp (pt_cmpR op_isN (pv 2) pe_non (nomark _)) (pe_c cC hr pass0 (pa_cons (pv 1) pa_nil)) (pv 2))) rfl)
      (pss_cons (ps_fld (pv 0) (pe_len B.len (pa_cons (pe_fld (pv 0) rfl) pa_nil)) rfl)
      (pss_one (ps_fld (pv 0) (pe_mk mT hr pass0 (pa_cons (pe_fld (pv 0) rfl) pa_nil)) rfl))))))))), ?_⟩
    have hs := hl.sq (K := K)
    have one : ∀ (D : Hp → Prop), True := fun _ => True.intro
    rcases out with ⟨h, out⟩ | ⟨n1, n2, i0, x0, hx0, bad, good, out⟩ | ⟨n1, n2, ls, L, rfl, lb, Lm, L6, out⟩
    · refine ⟨_, rfl, lp, ts, rfl, hs, _, _, rfl, rfl, _, rfl, ?_⟩
      by_cases c1 : 2 ≤ ts.length
      · rw [decide_eq_true (show (2 : Int) ≤ ((ts.length : Nat) : Int) by omega)]
        refine iteT ⟨_, _, rfl, rfl, _, rfl, ?_⟩
        rw [decide_eq_false (show ¬ ((ts.length : Nat) : Int) ≤ 2000 by omega)]
        exact iteT ⟨_, rfl, lp, ts, rfl, hs, raise3 xT.T R.t1 R.t2 R.t3 (by show PyData.strOk _ = true; decide +kernel) True.intro True.intro fun d H' r => out d H' r⟩
      · rw [decide_eq_false (show ¬ (2 : Int) ≤ ((ts.length : Nat) : Int) by omega)]
        exact iteF ⟨_, rfl, iteT ⟨_, rfl, lp, ts, rfl, hs, raise3 xT.T R.t1 R.t2 R.t3 (by show PyData.strOk _ = true; decide +kernel) True.intro True.intro fun d H' r => out d H' r⟩⟩
    · refine ⟨_, rfl, lp, ts, rfl, hs, _, _, rfl, rfl, _, rfl, ?_⟩
      rw [decide_eq_true (show (2 : Int) ≤ ((ts.length : Nat) : Int) by omega)]
      refine iteT ⟨_, _, rfl, rfl, _, rfl, ?_⟩
      rw [decide_eq_true (show ((ts.length : Nat) : Int) ≤ 2000 by omega)]
      refine iteF ⟨_, rfl, lp, ts, rfl, hs, fun J G wk hG => for_it wk (fun i σ H' => ∃ (a b : Option V), σ = [some (.ref p), some (.ref lp), some wv, a, b] ∧ Same H H' ∧ i ≤ i0) ⟨none, none, rfl, Same.refl _, Nat.zero_le _⟩ (fun i σ H' _ ⟨_, _, _, e, _⟩ => hG H' fun o z => e _ _ z) ?_ ?_⟩
      · rintro i x σ H2 H3 hi ⟨a, b, rfl, e, le⟩ ⟨T0, y, v', rfl, nT0, rfl, ey, hv⟩
        have ey : y = .int (i : Nat) := (Option.some.inj ey).symm
        subst ey
        have e3 : Same H (upd H2 T0 (.tup [.int (i : Nat), v'])) := e.trans (same_new nT0)
        have kv := kn v' (List.mem_of_getElem? hv)
        refine ⟨T0, _, rfl, SqT.of upd_same, rfl, _, _, rfl, _, _, rfl, rfl, ?_⟩
        refine ⟨v', rfl, v', 1, 1999, rfl, kv.same e3, _, rfl, ?_⟩
        by_cases c : i = i0
        · subst c
          have hxv : x0 = v' := Option.some.inj (hx0.symm.trans hv)
          subst hxv
          rw [bad]
          exact iteT ⟨_, rfl, raise1 xL.T R.l1 True.intro fun d H' r => out d H' (r.back e3)⟩
        · rw [good i v' (by omega) hv]
          exact iteF ⟨_, _, rfl, e3, by omega⟩
      · rintro σ H2 ⟨a, b, rfl, e, le⟩
        have := (List.getElem?_eq_some_iff.mp hx0).1
        omega
    · have lN : (ls.map fun n : Nat => V.int (n : Nat)).length = ls.length := List.length_map _
      rw [lN] at n1 n2
      refine ⟨_, rfl, lp, _, rfl, hs, _, _, rfl, rfl, _, rfl, ?_⟩
      rw [lN, decide_eq_true (show (2 : Int) ≤ ((ls.length : Nat) : Int) by omega)]
      refine iteT ⟨_, _, rfl, rfl, _, rfl, ?_⟩
      rw [decide_eq_true (show ((ls.length : Nat) : Int) ≤ 2000 by omega)]
      refine iteF ⟨_, rfl, lp, _, rfl, hs, fun J G wk hG => for_it wk (fun i σ H' => ∃ (a b : Option V), σ = [some (.ref p), some (.ref lp), some wv, a, b] ∧ Same H H') ⟨none, none, rfl, Same.refl _⟩ (fun i σ H' _ ⟨_, _, _, e⟩ => hG H' fun o z => e _ _ z) ?_ ?_⟩
      · rintro i x σ H2 H3 hi ⟨a, b, rfl, e⟩ ⟨T0, y, v', rfl, nT0, rfl, ey, hv⟩
        have e3 : Same H (upd H2 T0 (.tup [y, v'])) := e.trans (same_new nT0)
        have kv := kn v' (List.mem_of_getElem? hv)
        have gv : btw v' 1 1999 = true := by
          obtain ⟨l, ml, rfl⟩ := List.mem_map.mp (List.mem_of_getElem? hv)
          have := lb l ml
          exact decide_eq_true ⟨by omega, by omega⟩
        refine ⟨T0, _, rfl, SqT.of upd_same, rfl, _, _, rfl, _, _, rfl, rfl, ?_⟩
        refine ⟨v', rfl, v', 1, 1999, rfl, kv.same e3, _, rfl, ?_⟩
        rw [gv]
        exact iteF ⟨_, _, rfl, e3⟩
      · rintro σ H2 ⟨a, b, rfl, e⟩
        clear wk hG
        have hl2 := hl.same e
        have hp2 := e _ _ hp
        refine ⟨_, rfl, lp, _, rfl, hl2.sq, fun a1 n1' => ⟨a1, ls.map fun n : Nat => (n : Int), rfl, SqL.of (by rw [List.map_map]; exact upd_same), by rw [List.length_map]; omega, fun m hm hx => ?_⟩⟩
        have em : m = ((L : Nat) : Int) := by
          obtain ⟨l, ml, rfl⟩ := List.mem_map.mp hm
          have h1 := (lb l ml).2
          have h2 := hx ((L : Nat) : Int) (List.mem_map.mpr ⟨L, Lm, rfl⟩)
          omega
        subst em
        have e1 := same_new (o := .lst (ls.map fun n : Nat => V.int (n : Nat))) n1'
        refine ⟨_, rfl, p, C, dx, [], rfl, e1 _ _ hp2, T.cl, T.g, by decide, ?_⟩
        have f3 : ButI p H (upd (upd H2 a1 (.lst (ls.map fun n : Nat => V.int (n : Nat)))) p (.ins C dx (putF "longest" (.int (L : Nat)) []))) := fun b o n z => (upd_ne n).trans (e1 _ _ (e _ _ z))
        have hp3 : upd (upd H2 a1 (.lst (ls.map fun n : Nat => V.int (n : Nat)))) p (.ins C dx (putF "longest" (.int (L : Nat)) [])) p = some (.ins C dx (putF "longest" (.int (L : Nat)) [])) := upd_same
        generalize upd (upd H2 a1 (.lst (ls.map fun n : Nat => V.int (n : Nat)))) p (.ins C dx (putF "longest" (.int (L : Nat)) [])) = H3 at f3 hp3 ⊢
        have np : ∀ b o, H b = some o → (∀ C dx fs, o ≠ .ins C dx fs) → H3 b = some o := fun b o z no => f3 b o (fun eb => by
          subst eb
          rw [hp] at z
          exact no _ _ _ (Option.some.inj z).symm) z
        have hl3 : LT H3 lp (ls.map fun n : Nat => V.int (n : Nat)) := hl.imp (fun z => np _ _ z fun _ _ _ y => nomatch y) fun z => np _ _ z fun _ _ _ y => nomatch y
        have tab3 : LamX.Tabs Tb H3 := tabs_at tabs hp (fun _ z => nomatch z) (fun _ z => nomatch z) f3
        have lg : (putF "longest" (V.int ((L : Nat) : Int)) []).lookup ("longest" : Str) = some (.int (L : Nat)) := by
          rw [lookup_putF, if_pos rfl]
        refine ⟨_, rfl, lp, _, rfl, hl3.sq, fun J G wk hG D nD => lcM wk (fun i => .int ((2 ^ (L - lAt ls i) : Nat) : Int)) (by rw [lN]; omega) nD (fun H' e => hG H' fun o z => e _ _ z) ?_ ?_⟩
        · rintro i x H4 H5 N hi e4 ⟨rfl, hxi⟩ hN
          rw [lN] at hi
          rw [List.getElem?_map, List.getElem?_eq_getElem hi] at hxi
          cases hxi
          have gi : lAt ls i = ls[i] := by
            show ls.getD i 0 = _
            rw [List.getD_eq_getElem?_getD, List.getElem?_eq_getElem hi]
            rfl
          have bi := (lb _ (List.getElem_mem hi)).2
          refine ⟨rfl, _, rfl, p, C, dx, _, _, rfl, e4 _ _ hp3, T.cl, T.g, lg, _, rfl, _, _, rfl, rfl, _, _, rfl, rfl, ⟨by omega, by omega, by decide⟩, ?_⟩
          have ev : (1 : Int) * 2 ^ (((L : Nat) : Int) - ((ls[i] : Nat) : Int)).toNat = ((2 ^ (L - lAt ls i) : Nat) : Int) := by
            rw [gi, show (((L : Nat) : Int) - ((ls[i] : Nat) : Int)).toNat = L - ls[i] by omega, Int.one_mul, Int.natCast_pow]
            rfl
          show N (V.int ((1 : Int) * 2 ^ (((L : Nat) : Int) - ((ls[i] : Nat) : Int)).toNat)) _
          rw [ev]
          exact hN _ (Same.refl _)
        intro H4 e4 hD4
        rw [lN] at hD4
        refine ⟨D, (List.range ls.length).map fun i => ((2 ^ (L - lAt ls i) : Nat) : Int), rfl, SqL.of (by rw [List.map_map]; exact hD4), ?_⟩
        rw [kl_range]
        have hp4 := e4 _ _ hp3
        have f4 : ButI p H H4 := fun b o n z => e4 _ _ (f3 b o n z)
        have np4 : ∀ b o, H b = some o → (∀ C dx fs, o ≠ .ins C dx fs) → H4 b = some o := fun b o z no => e4 _ _ (np b o z no)
        have tab4 := tab3.ext e4
        refine ⟨_, rfl, p, C, dx, _, _, rfl, hp4, T.cl, T.g, lg, _, _, rfl, rfl, ⟨by omega, by omega, by decide⟩, ?_⟩
        have ev : (1 : Int) * 2 ^ (((L : Nat) : Int)).toNat = ((2 ^ L : Nat) : Int) := by
          rw [Int.toNat_natCast, Int.one_mul, Int.natCast_pow]
          rfl
        show rNe (V.int ((kl L ls : Nat) : Int)) (V.int ((1 : Int) * 2 ^ (((L : Nat) : Int)).toNat)) _ _
        rw [ev]
        refine ⟨rfl, _, rfl, ?_⟩
        have dk : decide (V.int ((kl L ls : Nat) : Int) = V.int ((2 ^ L : Nat) : Int)) = decide (kl L ls = 2 ^ L) := by
          rw [dec_int, Bool.eq_iff_iff, beq_iff_eq, decide_eq_true_iff]
          omega
        rw [dk]
        clear e4 hD4 dk ev lg e1 n1' hm hx np nD f3 hp3 hl3 tab3
        have out2 : (kl L ls ≠ 2 ^ L ∧ ∀ H', ButI p H H' → E (.ref CN) none H') ∨ (kl L ls = 2 ^ L ∧ ((wv = .non ∧ ∀ os ws H' lt wt tr, IsOrd ls os → CanoOf ls os ws → ButT p H H' → LamX.Tabs Tb H' → H' p = some (.ins C dx (coF L ls.length lt wt tr)) → H' lt = some (.tup (ls.map fun n : Nat => V.int (n : Nat))) → H' wt = some (.tup (ws.map wV)) → Q .non H') ∨
            (H lp = some (.lst (ls.map fun n : Nat => V.int (n : Nat))) ∧ ∃ (s : Addr) (us : List V), wv = .ref s ∧ LT H s us ∧ us.length = ls.length ∧ us.length ≤ 60 ∧ (∀ v ∈ us, Kn H v ∧ ∀ x, v = .str x → x.length ≤ 10000) ∧
        ((∃ i v, us[i]? = some v ∧ okB (ls.getD i 0) v = false ∧ (∀ j u, j < i → us[j]? = some u → okB (ls.getD j 0) u = true) ∧ ∀ d H', RsB p H H' d [("index", .int (i : Nat))] → E (.ref CB) (some d) H') ∨
         (∃ ws : List W, us = ws.map wV ∧ ws.map List.length = ls ∧
           ((H s = some (.lst us) ∧ ∃ i j a b, i < j ∧ ws[i]? = some a ∧ ws[j]? = some b ∧ bg a b ∧ (∀ i' j' x y, i' < j' → (i' < i ∨ (i' = i ∧ j' < j)) → ws[i']? = some x → ws[j']? = some y → ¬ bg x y) ∧ ∀ d H', RsB p H H' d [("other", .int (j : Nat)), ("index", .int (i : Nat))] → E (.ref CE) (some d) H') ∨
            (PF ws ∧ ∀ H' lt wt tr, ButT p H H' → LamX.Tabs Tb H' → H' p = some (.ins C dx (coF L ls.length lt wt tr)) → H' lt = some (.tup (ls.map fun n : Nat => V.int (n : Nat))) → H' wt = some (.tup (ws.map wV)) → Q .non H'))))))) := by
          rcases out with z | ⟨z1, z2, z3⟩ | ⟨z1, z⟩
          · exact .inl z
          · exact .inr ⟨z1, .inl ⟨z2, z3⟩⟩
          · exact .inr ⟨z1, .inr z⟩
        clear out
        rcases out2 with ⟨ne, out⟩ | ⟨ek, out⟩
        · rw [decide_eq_false ne]
          exact iteT (raise0 (K := K) fun H' e' => out H' fun b o n z => e' _ _ (f4 b o n z))
        rw [decide_eq_true ek]
        refine iteF ?_
        clear wk hG
        unfold tNext
        dsimp only
        refine cutSeq (t := tIfS _ _ _) (fun σ' H' => σ' = [some (.ref p), some (.ref lp), some wv, a, b] ∧ ButI p H H' ∧ H' p = some (.ins C dx (putF "longest" (.int (L : Nat)) [])) ∧ LamX.Tabs Tb H' ∧
          ((wv = .non ∧ ∀ os ws H' lt wt tr, IsOrd ls os → CanoOf ls os ws → ButT p H H' → LamX.Tabs Tb H' → H' p = some (.ins C dx (coF L ls.length lt wt tr)) → H' lt = some (.tup (ls.map fun n : Nat => V.int (n : Nat))) → H' wt = some (.tup (ws.map wV)) → Q .non H') ∨
           (∃ (s : Addr) (ws : List W), wv = .ref s ∧ LT H s (ws.map wV) ∧ ws.map List.length = ls ∧ PF ws ∧ ∀ H' lt wt tr, ButT p H H' → LamX.Tabs Tb H' → H' p = some (.ins C dx (coF L ls.length lt wt tr)) → H' lt = some (.tup (ls.map fun n : Nat => V.int (n : Nat))) → H' wt = some (.tup (ws.map wV)) → Q .non H'))) (fun nx hnx => ?_) ?_
        · rcases out with ⟨rfl, out⟩ | ⟨hlL, s0, us, rfl, hu, lu, lu60, ku, out⟩
          · refine ⟨_, rfl, rfl, _, rfl, ?_⟩
            exact iteF (hnx _ _ ⟨rfl, f4, hp4, tab4, .inl ⟨rfl, out⟩⟩)
          · refine ⟨_, rfl, rfl, _, rfl, ?_⟩
            have hl4 : H4 lp = some (.lst (ls.map fun n : Nat => V.int (n : Nat))) := np4 _ _ hlL fun _ _ _ z => nomatch z
            have hu4 : LT H4 s0 us := hu.imp (fun z => np4 _ _ z fun _ _ _ y => nomatch y) fun z => np4 _ _ z fun _ _ _ y => nomatch y
            have kn4 : ∀ v ∈ us, Kn H4 v ∧ ∀ x, v = .str x → x.length ≤ 10000 := fun v hv => by
              refine ⟨?_, (ku v hv).2⟩
              cases (ku v hv).1 with
              | non => exact .non
              | bl b => exact .bl b
              | int i => exact .int i
              | str x => exact .str x
              | lst z => exact .lst (np4 _ _ z fun _ _ _ y => nomatch y)
              | tup z => exact .tup (np4 _ _ z fun _ _ _ y => nomatch y)
            have nw : ∀ d, H4 d = none → H d = none := fun d n => by
              cases z : H d with
              | none => rfl
              | some o =>
                have nd : d ≠ p := fun ed => by
                  rw [ed, hp4] at n
                  cases n
                rw [f4 d o nd z] at n
                cases n
            have rb : ∀ d H' fs, Rsd H4 H' d fs → RsB p H H' d fs := fun d H' fs r => ⟨nw d r.new, fun b o n z => r.same _ _ (f4 b o n z), r.at_⟩
            refine iteT ⟨_, rfl, _, rfl, lp, s0, ls, us, rfl, hl4, hu4, lu, lu60, kn4, ?_⟩
            rcases out with ⟨i, v, h1, h2, h3, out⟩ | ⟨ws, rfl, h2, ⟨hls, i, j, x, y, g1, g2, g3, g4, g5, out⟩ | ⟨pf, out⟩⟩
            · exact .inl ⟨i, v, h1, h2, h3, fun d H' r => out d H' (rb d H' _ r)⟩
            · exact .inr ⟨ws, rfl, h2, .inl ⟨np4 _ _ hls (fun _ _ _ y => nomatch y), i, j, x, y, g1, g2, g3, g4, g5, fun d H' r => out d H' (rb d H' _ r)⟩⟩
            · exact .inr ⟨ws, rfl, h2, .inr ⟨pf, fun H' e' => hnx _ _ ⟨rfl, fun b o n z => e' _ _ (f4 b o n z), e' _ _ hp4, tab4.ext e', .inr ⟨s0, ws, rfl, hu, h2, pf, out⟩⟩⟩⟩
        · clear out
          rintro σ' H5 ⟨rfl, f5, hp5, tab5, go⟩
          have hl5 : LT H5 lp (ls.map fun n : Nat => V.int (n : Nat)) := hl.butI hp f5
          refine ⟨_, rfl, hl5.tup fun lt H5' e6 ht5 => ?_⟩
          refine ⟨_, rfl, p, C, dx, _, rfl, e6 _ _ hp5, T.cl, T.l, by show 1 < 1000; decide, ?_⟩
          have f6 : ButI p H (upd (H5') p (.ins C dx (putF "lengths" (.ref lt) (putF "longest" (.int (L : Nat)) [])))) := fun b o n z => (upd_ne n).trans (e6 _ _ (f5 _ _ n z))
          have hp6 : upd (H5') p (.ins C dx (putF "lengths" (.ref lt) (putF "longest" (.int (L : Nat)) []))) p = some (.ins C dx (putF "lengths" (.ref lt) (putF "longest" (.int (L : Nat)) []))) := upd_same
          have nlp : lt ≠ p := ne_of ht5 (e6 _ _ hp5) fun z => nomatch z
          have ht6 : upd (H5') p (.ins C dx (putF "lengths" (.ref lt) (putF "longest" (.int (L : Nat)) []))) lt = some (.tup (ls.map fun n : Nat => V.int (n : Nat))) := (upd_ne nlp).trans ht5
          have tab6 : LamX.Tabs Tb (upd (H5') p (.ins C dx (putF "lengths" (.ref lt) (putF "longest" (.int (L : Nat)) [])))) := tabs_at (tab5.ext e6) (e6 _ _ hp5) (fun _ z => nomatch z) (fun _ z => nomatch z) fun b o n z => (upd_ne n).trans z
          show (fun H' => _) (upd (H5') p (.ins C dx (putF "lengths" (.ref lt) (putF "longest" (.int (L : Nat)) []))))
          generalize upd (H5') p (.ins C dx (putF "lengths" (.ref lt) (putF "longest" (.int (L : Nat)) []))) = H6 at f6 hp6 ht6 tab6 ⊢
          have hl6 : LT H6 lp (ls.map fun n : Nat => V.int (n : Nat)) := hl.butI hp f6
          clear e6 f5 hp5 tab5 hl5 ht5
          dsimp only
          refine cutSeq (t := sFld _ _ _ _) (fun σ' H' => ∃ (wt : Addr) (ws : List W), σ' = [some (.ref p), some (.ref lp), some wv, a, b] ∧ ButT p H H' ∧ LamX.Tabs Tb H' ∧ H' p = some (.ins C dx (putF "words" (.ref wt) (putF "lengths" (.ref lt) (putF "longest" (.int (L : Nat)) [])))) ∧
            H' lt = some (.tup (ls.map fun n : Nat => V.int (n : Nat))) ∧ H' wt = some (.tup (ws.map wV)) ∧ PF ws ∧ ws.length = ls.length ∧ (∀ w ∈ ws, w.length ≤ L) ∧ kr L ws = 2 ^ L ∧
            ∀ H' lt wt tr, ButT p H H' → LamX.Tabs Tb H' → H' p = some (.ins C dx (coF L ls.length lt wt tr)) → H' lt = some (.tup (ls.map fun n : Nat => V.int (n : Nat))) → H' wt = some (.tup (ws.map wV)) → Q .non H') (fun nx hnx => ?_) ?_
          · have fin : ∀ (H8 : Hp) (wt : Addr) (ws : List W), LamX.ExtN H6 H8 → LamX.Tabs Tb H8 → H8 wt = some (.tup (ws.map wV)) → PF ws → ws.length = ls.length → (∀ w ∈ ws, w.length ≤ L) → kr L ws = 2 ^ L →
                (∀ H' lt wt tr, ButT p H H' → LamX.Tabs Tb H' → H' p = some (.ins C dx (coF L ls.length lt wt tr)) → H' lt = some (.tup (ls.map fun n : Nat => V.int (n : Nat))) → H' wt = some (.tup (ws.map wV)) → Q .non H') →
                nx [some (.ref p), some (.ref lp), some wv, a, b] (upd H8 p (.ins C dx (putF "words" (.ref wt) (putF "lengths" (.ref lt) (putF "longest" (.int (L : Nat)) []))))) := fun H8 wt ws en tab8 hw pf lw lL kw out => by
              have hp8 := en _ _ hp6 fun _ z => nomatch z
              refine hnx _ _ ⟨wt, ws, rfl, fun b o n z m => (upd_ne n).trans (en _ _ (f6 b o n z) m), tabs_at tab8 hp8 (fun _ z => nomatch z) (fun _ z => nomatch z) fun b o n z => (upd_ne n).trans z, upd_same, (upd_ne nlp).trans (en _ _ ht6 fun _ z => nomatch z), (upd_ne (ne_of hw hp8 fun z => nomatch z)).trans hw, pf, lw, lL, kw, out⟩
            rcases go with ⟨rfl, out⟩ | ⟨s0, ws, rfl, hu, ll, pf, out⟩
            · refine ⟨_, rfl, rfl, _, rfl, ?_⟩
              refine iteT ⟨_, rfl, lp, ls, L, rfl, hl6, n2, lb, L6, Nat.le_of_eq ek, tab6, fun os ws D H7 O c en tab7 fr hD => ?_⟩
              refine .inl ⟨D, _, rfl, SqL.of hD, fun wt nwt => ?_⟩
              have e8 := same_new (o := .tup (ws.map wV)) nwt
              obtain ⟨g1, g2, g3⟩ := c.good O (fun l h => (lb l h).2) ek
              refine ⟨_, rfl, p, C, dx, _, rfl, e8 _ _ (en _ _ hp6 fun _ z => nomatch z), T.cl, T.w, by show 2 < 1000; decide, ?_⟩
              exact fin _ wt ws (fun b o z m => e8 _ _ (en _ _ z m)) (tab7.ext e8) upd_same g1 c.1 g2 g3 fun H' lt wt tr => out os ws H' lt wt tr O c
            · refine ⟨_, rfl, rfl, _, rfl, ?_⟩
              have lw : ws.length = ls.length := by rw [← ll, List.length_map]
              have g2 : ∀ w ∈ ws, w.length ≤ L := fun w hw => (lb w.length (by rw [← ll]; exact List.mem_map_of_mem hw)).2
              have g3 : kr L ws = 2 ^ L := by rw [kr_kl, ll, ek]
              refine iteF ⟨_, rfl, ?_⟩
              rcases hu with hu | hu
              · have hu6 := f6 _ _ (ne_of hu hp fun z => nomatch z) hu
                refine .inl ⟨s0, _, rfl, SqL.of hu6, fun wt nwt => ?_⟩
                have e8 := same_new (o := .tup (ws.map wV)) nwt
                refine ⟨_, rfl, p, C, dx, _, rfl, e8 _ _ hp6, T.cl, T.w, by show 2 < 1000; decide, ?_⟩
                exact fin _ wt ws (fun b o z m => e8 _ _ z) (tab6.ext e8) upd_same pf lw g2 g3 out
              · have hu6 := f6 _ _ (ne_of hu hp fun z => nomatch z) hu
                refine .inr ⟨s0, _, rfl, SqT.of hu6, ?_⟩
                refine ⟨_, rfl, p, C, dx, _, rfl, hp6, T.cl, T.w, by show 2 < 1000; decide, ?_⟩
                exact fin _ s0 ws (fun b o z m => z) tab6 hu6 pf lw g2 g3 out
          · rintro σ' H9 ⟨wt, ws, rfl, f9, tab9, hp9, hlt9, hwt9, pf, lw, lL, kw, out⟩
            have c1 : (putF "words" (V.ref wt) (putF "lengths" (.ref lt) (putF "longest" (.int (L : Nat)) []))).lookup ("lengths" : Str) = some (.ref lt) := by
              rw [lookup_putF, if_neg (by decide +kernel), lookup_putF, if_pos rfl]
            refine ⟨_, rfl, p, C, dx, _, _, rfl, hp9, T.cl, T.l, c1, lt, _, rfl, .inr (SqT.of hlt9), ?_⟩
            rw [lN]
            refine ⟨_, rfl, p, C, dx, _, rfl, hp9, T.cl, T.s, by show 3 < 1000; decide, ?_⟩
            have c2 : (putF "size" (V.int (ls.length : Nat)) (putF "words" (V.ref wt) (putF "lengths" (.ref lt) (putF "longest" (.int (L : Nat)) [])))).lookup ("words" : Str) = some (.ref wt) := by
              rw [lookup_putF, if_neg (by decide +kernel), lookup_putF, if_pos rfl]
            have hp10 : upd H9 p (.ins C dx (putF "size" (.int (ls.length : Nat)) (putF "words" (.ref wt) (putF "lengths" (.ref lt) (putF "longest" (.int (L : Nat)) []))))) p = some (.ins C dx (putF "size" (.int (ls.length : Nat)) (putF "words" (.ref wt) (putF "lengths" (.ref lt) (putF "longest" (.int (L : Nat)) []))))) := upd_same
            have f10 : ButT p H (upd H9 p (.ins C dx (putF "size" (.int (ls.length : Nat)) (putF "words" (.ref wt) (putF "lengths" (.ref lt) (putF "longest" (.int (L : Nat)) [])))))) := fun b o n z m => (upd_ne n).trans (f9 b o n z m)
            have hlt10 : upd H9 p (.ins C dx (putF "size" (.int (ls.length : Nat)) (putF "words" (.ref wt) (putF "lengths" (.ref lt) (putF "longest" (.int (L : Nat)) []))))) lt = _ := (upd_ne nlp).trans hlt9
            have hwt10 : upd H9 p (.ins C dx (putF "size" (.int (ls.length : Nat)) (putF "words" (.ref wt) (putF "lengths" (.ref lt) (putF "longest" (.int (L : Nat)) []))))) wt = _ := (upd_ne (ne_of hwt9 hp9 fun z => nomatch z)).trans hwt9
            have tab10 : LamX.Tabs Tb (upd H9 p (.ins C dx (putF "size" (.int (ls.length : Nat)) (putF "words" (.ref wt) (putF "lengths" (.ref lt) (putF "longest" (.int (L : Nat)) [])))))) := tabs_at tab9 hp9 (fun _ z => nomatch z) (fun _ z => nomatch z) fun b o n z => (upd_ne n).trans z
            dsimp only
            generalize upd H9 p (.ins C dx (putF "size" (.int (ls.length : Nat)) (putF "words" (.ref wt) (putF "lengths" (.ref lt) (putF "longest" (.int (L : Nat)) []))))) = H10 at hp10 f10 hlt10 hwt10 tab10 ⊢
            refine ⟨_, rfl, p, C, dx, _, _, rfl, hp10, T.cl, T.w, c2, fun x dx2 nx ndx ne => ?_⟩
            have e11 : Same H10 (upd (upd H10 dx2 (.own x)) x (.ins CR dx2 [])) := fun b o z => (upd_ne (ne_of_none z nx)).trans ((upd_ne (ne_of_none z ndx)).trans z)
            refine ⟨x, dx2, wt, ws, L, rfl, upd_same, e11 _ _ hwt10, pf, by omega, by omega, lL, by omega, kw, tab10.ext e11, fun H' fs bt hx tab' => ⟨rfl, _, rfl, p, C, dx, _, rfl, bt _ _ (ne_of_none hp10 nx) (e11 _ _ hp10) (fun _ z => nomatch z), T.cl, T.t, by show 4 < 1000; decide, ?_⟩⟩
            refine out _ lt wt x (fun b o n z m => (upd_ne n).trans (bt b o (ne_of_none (f10 b o n z m) nx) (e11 _ _ (f10 b o n z m)) m)) ?_ upd_same ?_ ?_
            · exact tabs_at tab' (bt _ _ (ne_of_none hp10 nx) (e11 _ _ hp10) fun _ z => nomatch z) (fun _ z => nomatch z) (fun _ z => nomatch z) fun b o n z => (upd_ne n).trans z
            · exact (upd_ne nlp).trans (bt _ _ (ne_of_none hlt10 nx) (e11 _ _ hlt10) fun _ z => nomatch z)
            · exact (upd_ne (ne_of hwt10 hp10 fun z => nomatch z)).trans (bt _ _ (ne_of_none hwt10 nx) (e11 _ _ hwt10) fun _ z => nomatch z)
end
end K38
set_option Elab.async false
set_option linter.all false
set_option maxRecDepth 100001
set_option maxHeartbeats 3999999
namespace K38
open PySem L2
abbrev sCoE : Stmt := inClass (topS 26) 1
abbrev sChC : Stmt := topS 25
abbrev sCCC : Stmt := topS 30
abbrev sCost : Stmt := topS 31
abbrev sCostOf : Stmt := topS 34
theorem flat_w (w : W) : Flat (wV w) := by
  show ((bS w).cps.all (· < 0x110000)) = true
  rw [Array.all_eq_true']
  intro c hc
  have : c ∈ w.map cd := by simpa [bS, S] using hc
  obtain ⟨b, _, rfl⟩ := List.mem_map.mp this
  cases b <;> rfl
theorem flat_ws (ws : List W) : ∀ v ∈ ws.map wV, Flat v := fun v hv => by
  obtain ⟨w, _, rfl⟩ := List.mem_map.mp hv
  exact flat_w w
theorem eqvAll_ws : ∀ (as bs : List W), PyData.eqvAll ((as.map wV).map dOf) ((bs.map wV).map dOf) = decide (as = bs)
  | [], [] => by simp [PyData.eqvAll]
  | [], _ :: _ => by simp [PyData.eqvAll]
  | _ :: _, [] => by simp [PyData.eqvAll]
  | a :: as, b :: bs => by
    have ih := eqvAll_ws as bs
    have e : PyData.eqvAll (((a :: as).map wV).map dOf) (((b :: bs).map wV).map dOf) = (PyData.eqv (.str (bS a)) (.str (bS b)) && PyData.eqvAll ((as.map wV).map dOf) ((bs.map wV).map dOf)) := by simp only [List.map_cons, PyData.eqvAll, wV, dOf]
    have e2 : PyData.eqv (.str (bS a)) (.str (bS b)) = decide (a = b) := by
      have : PyData.eqv (.str (bS a)) (.str (bS b)) = (bS a == bS b) := by simp only [PyData.eqv]
      rw [this, Bool.eq_iff_iff, decide_eq_true_iff, beq_iff_eq]
      exact ⟨bS_inj, fun h => h ▸ rfl⟩
    rw [e, ih, e2]
    by_cases h1 : a = b
    · by_cases h2 : as = bs
      · simp [h1, h2]
      · simp [h1, h2]
    · simp [h1]
/-- two tuples of words -/
def rEqW (K : PySem.W.Frag) (neg : Bool) : R2 := fun x y H Q => ∃ (a b : Addr) (us vs : List W), x = .ref a ∧ y = .ref b ∧ SqT K H a (us.map wV) ∧ SqT K H b (vs.map wV) ∧ Q (.bl (if neg then !decide (us = vs) else decide (us = vs))) H
section
variable {X : Cx}
theorem op_eqW (hu : X.A.units + 64 < cLine) : OpR X (compareOp .Eq) (rEqW X.K false) := by
  intro pins s σ H x y v u Q I rx ry h
  obtain ⟨a, b, us, vs, rfl, rfl, d1, d2, q⟩ := h
  refine op_eqD hu pins s σ H _ _ v u Q I rx ry ⟨_, _, .tup d1 (dpAll_flat (flat_ws us)), .tup d2 (dpAll_flat (flat_ws vs)), shT_flat (flat_ws us), shT_flat (flat_ws vs), ?_⟩
  rw [show PyData.eqv (.tuple ((us.map wV).map dOf)) (.tuple ((vs.map wV).map dOf)) = decide (us = vs) by rw [← eqvAll_ws]; simp only [PyData.eqv]]
  exact q
theorem op_neW (hu : X.A.units + 64 < cLine) : OpR X (compareOp .NotEq) (rEqW X.K true) := by
  intro pins s σ H x y v u Q I rx ry h
  obtain ⟨a, b, us, vs, rfl, rfl, d1, d2, q⟩ := h
  refine op_neD hu pins s σ H _ _ v u Q I rx ry ⟨_, _, .tup d1 (dpAll_flat (flat_ws us)), .tup d2 (dpAll_flat (flat_ws vs)), shT_flat (flat_ws us), shT_flat (flat_ws vs), ?_⟩
  rw [show PyData.eqv (.tuple ((us.map wV).map dOf)) (.tuple ((vs.map wV).map dOf)) = decide (us = vs) by rw [← eqvAll_ws]; simp only [PyData.eqv]]
  exact q
end
/-- a code -/
def IsCo (C : Addr) (H : Hp) (q : Addr) (L : Nat) (ls : List Nat) (ws : List W) : Prop := ∃ dx lt wt tr, H q = some (.ins C dx (coF L ls.length lt wt tr)) ∧ H lt = some (.tup (ls.map fun n : Nat => V.int (n : Nat))) ∧ H wt = some (.tup (ws.map wV))
section
variable (L n : Nat) (lt wt tr : Addr)
theorem co_longest : (coF L n lt wt tr).lookup ("longest" : Str) = some (.int (L : Nat)) := by
  unfold coF
  rw [lookup_putF, if_neg (by decide +kernel), lookup_putF, if_neg (by decide +kernel), lookup_putF, if_neg (by decide +kernel), lookup_putF, if_neg (by decide +kernel), lookup_putF, if_pos rfl]
theorem co_lengths : (coF L n lt wt tr).lookup ("lengths" : Str) = some (.ref lt) := by
  unfold coF
  rw [lookup_putF, if_neg (by decide +kernel), lookup_putF, if_neg (by decide +kernel), lookup_putF, if_neg (by decide +kernel), lookup_putF, if_pos rfl]
theorem co_words : (coF L n lt wt tr).lookup ("words" : Str) = some (.ref wt) := by
  unfold coF
  rw [lookup_putF, if_neg (by decide +kernel), lookup_putF, if_neg (by decide +kernel), lookup_putF, if_pos rfl]
theorem co_size : (coF L n lt wt tr).lookup ("size" : Str) = some (.int (n : Nat)) := by
  unfold coF
  rw [lookup_putF, if_neg (by decide +kernel), lookup_putF, if_pos rfl]
end
structure TxE (K : PySem.W.Frag) (C : Addr) : Prop where
  cc : PySem.W.findIn K (.ref C) "__class__" = some (some (.builtin "object.__class__"))
  gg : PySem.W.specialIn K (.builtin "object.__class__") "__get__" = some (some (.builtin "getset_descriptor.__get__"))
  tk : PySem.W.takesIn K (.builtin "object.__class__") = some true
  mr : PySem.W.mroIn K C (.type "object") = some true
  kT : PySem.W.kitOne K (.type "tuple") (.ref C) = some false
theorem IsCo.ty {K : PySem.W.Frag} {C : Addr} {H : Hp} {p : Addr} {L : Nat} {ls : List Nat} {ws : List W} (T : TxC K C) (E : TxE K C) (q : IsCo C H p L ls ws) : TyX K H (.ref p) (.ref C) :=
  let ⟨_, _, _, _, h1, _⟩ := q
  .base (.ins h1 T.cl E.cc E.gg E.tk E.mr)
def spEqC (C : Addr) : Sp := fun vs H Q _ => ∃ (p : Addr) (y : V) (L : Nat) (ls : List Nat) (ws : List W), vs = [.ref p, y] ∧ IsCo C H p L ls ws ∧
  ((∃ (q : Addr) (L2 : Nat) (ls2 : List Nat) (ws2 : List W), y = .ref q ∧ IsCo C H q L2 ls2 ws2 ∧ Q (.bl (decide (ws = ws2))) H) ∨ (∃ t xs, y = .ref t ∧ H t = some (.tup xs) ∧ Q (.bl false) H))
/-- counts that are looked at -/
def spCC (CT CA : Addr) : Sp := fun vs H Q E => ∃ (cp : Addr) (ts : List V), vs = [.ref cp] ∧ LT H cp ts ∧ (∀ v ∈ ts, Kn H v) ∧ ts.length ≤ 5000 ∧
  ((¬ (2 ≤ ts.length ∧ ts.length ≤ 2000) ∧ ∀ d H', Rsd H H' d [("most", .int 2000), ("many", .int (ts.length : Nat)), ("what", .str "signs")] → E (.ref CT) (some d) H') ∨
   (2 ≤ ts.length ∧ ts.length ≤ 2000 ∧ ∃ i v, ts[i]? = some v ∧ frm v 0 = false ∧ (∀ j u, j < i → ts[j]? = some u → frm u 0 = true) ∧ ∀ d H', Rsd H H' d [("index", .int (i : Nat))] → E (.ref CA) (some d) H') ∨
   (2 ≤ ts.length ∧ ts.length ≤ 2000 ∧ (∀ v ∈ ts, frm v 0 = true) ∧ ∀ H', Same H H' → Q .non H'))
section
variable {P : Program} {w : World} {K : PySem.W.Frag} {mg : Str → Option Value} {base : Heap}
theorem scCoE : FnScope ["self", "other"] ["self", "other"] (defScope sCoE) := ⟨rfl, rfl, rfl, by decide +kernel, rfl, by decide +kernel, by decide +kernel⟩
theorem ok_eqC {f C : Addr} {fd : FuncData} (F : Fun K "__eq__" "Code.__eq__" sCoE f fd) (B : Bi mg) (T : TxC K C) (TE : TxE K C) (gC : mg "Code" = some (.ref C)) : FnOk P w K mg base CX0 1 f fd ["self", "other"] (spEqC C) := by
  refine F.ok scCoE (fun vs H Q E h => ?_) (fun cdv A outer s H vs Q E hr h => ?_)
  · obtain ⟨p, y, L, ls, ws, rfl, _⟩ := h
    rfl
  · obtain ⟨p, y, L, ls, ws, rfl, M, h⟩ := h
    refine ⟨_, pss_one (ps_ret (pe_and (pe_isi B.isi (pa_cons (pv 1) (pa_cons (pe_glob (v := .ref C) rfl gC rfl) pa_nil))) (pe_one (pe_cmpR (op_eqW (hu64 hr)) (pe_fld (pv 0) rfl) (pe_fld (pv 1) rfl) (nomark _))))), ?_⟩
    obtain ⟨dx, lt, wt, tr, h1, h2, h3⟩ := id M
    rcases h with ⟨q, L2, ls2, ws2, rfl, M2, h⟩ | ⟨t2, xs, rfl, ht, h⟩
    · obtain ⟨dx2, lt2, wt2, tr2, g1, g2, g3⟩ := id M2
      refine ⟨_, rfl, _, _, _, _, _, rfl, .own C, M2.ty T TE, kit_self, _, rfl, ?_⟩
      exact ⟨_, rfl, p, C, dx, _, _, rfl, h1, T.cl, T.w, co_words _ _ _ _ _, _, rfl, q, C, dx2, _, _, rfl, g1, T.cl, T.w, co_words _ _ _ _ _, _, _, ws, ws2, rfl, rfl, SqT.of h3, SqT.of g3, h⟩
    · exact ⟨_, rfl, _, _, _, _, _, rfl, .own C, .base (.tup ht), TE.kT, _, rfl, h⟩
theorem scChC : FnScope ["counts", "index", "count"] ["counts"] (defScope sChC) := ⟨rfl, rfl, rfl, by decide +kernel, rfl, by decide +kernel, by decide +kernel⟩
theorem ok_chC {f CT CA : Addr} {fd : FuncData} (F : Fun K "check_counts" "check_counts" sChC f fd) (B : Bi mg) (M : Cm mg) (cB : Cal CX0 P w K mg base 2 "is_from" spFrom)
    (xT : Xc P w K mg base 2 "TooMany" CT (spX3 K "what" "many" "most")) (xA : Xc P w K mg base 2 "BadTally" CA (spX1 K "index")) (R : ErC K CT CA) : FnOk P w K mg base (L2.CX P w) 4 f fd ["counts"] (spCC CT CA) := by
  refine F.okX scChC (fun vs H Q E h => ?_) (fun cdv A outer s H vs Q E hr h => ?_)
  · obtain ⟨cp, ts, rfl, _⟩ := h
    rfl
  · obtain ⟨cp, ts, rfl, hl, kn, l5, out⟩ := h
    refine ⟨_, pss_cons (ps_if (pt_not (pt_chain op_le op_le pe_int (pe_len B.len (pa_cons (pv 0) pa_nil)) (C8.pe_gc rfl M.signs))) (pss_one (ps_raise rfl (takes_of rfl rfl rfl rfl) (pmk_x xT hr (pa_cons pe_str (pa_cons (pe_len B.len (pa_cons (pv 0) pa_nil)) (pa_cons (C8.pe_gc rfl M.signs) pa_nil)))))) pss_nil)
      (pss_one (ps_for (passes_of rfl) rfl (pi_en B.enum (pa_cons (pv 0) pa_nil)) (pg_tup rfl (pgs_cons (pg_name (i := 1) scChC.nd rfl (.inl rfl)) (pgs_cons (pg_name (i := 2) scChC.nd rfl (.inl rfl)) pgs_nil)))
        (pss_one (ps_if (pt_not (pt_val (pe_c cB hr pass0 (pa_cons (pv 2) (pa_cons pe_int pa_nil))))) (pss_one (ps_raise rfl (takes_of rfl rfl rfl rfl) (pmk_x xA hr (pa_cons (pv 1) pa_nil)))) pss_nil)))), ?_⟩
    have hs := hl.sq (K := K)
    rcases out with ⟨h, out⟩ | ⟨n1, n2, i0, x0, hx0, bad, good, out⟩ | ⟨n1, n2, good, out⟩
    · refine ⟨_, rfl, cp, ts, rfl, hs, _, _, rfl, rfl, _, rfl, ?_⟩
      by_cases c1 : 2 ≤ ts.length
      · rw [decide_eq_true (show (2 : Int) ≤ ((ts.length : Nat) : Int) by omega)]
        refine iteT ⟨_, _, rfl, rfl, _, rfl, ?_⟩
        rw [decide_eq_false (show ¬ ((ts.length : Nat) : Int) ≤ 2000 by omega)]
        exact iteT ⟨_, rfl, cp, ts, rfl, hs, raise3 xT.T R.t1 R.t2 R.t3 (by show PyData.strOk _ = true; decide +kernel) True.intro True.intro fun d H' r => out d H' r⟩
      · rw [decide_eq_false (show ¬ (2 : Int) ≤ ((ts.length : Nat) : Int) by omega)]
        exact iteF ⟨_, rfl, iteT ⟨_, rfl, cp, ts, rfl, hs, raise3 xT.T R.t1 R.t2 R.t3 (by show PyData.strOk _ = true; decide +kernel) True.intro True.intro fun d H' r => out d H' r⟩⟩
    · refine ⟨_, rfl, cp, ts, rfl, hs, _, _, rfl, rfl, _, rfl, ?_⟩
      rw [decide_eq_true (show (2 : Int) ≤ ((ts.length : Nat) : Int) by omega)]
      refine iteT ⟨_, _, rfl, rfl, _, rfl, ?_⟩
      rw [decide_eq_true (show ((ts.length : Nat) : Int) ≤ 2000 by omega)]
      refine iteF ⟨_, rfl, cp, ts, rfl, hs, fun J G wk hG => for_it wk (fun i σ H' => ∃ (a b : Option V), σ = [some (.ref cp), a, b] ∧ Same H H' ∧ i ≤ i0) ⟨none, none, rfl, Same.refl _, Nat.zero_le _⟩ (fun i σ H' _ ⟨_, _, _, e, _⟩ => hG H' fun o z => e _ _ z) ?_ ?_⟩
      · rintro i x σ H2 H3 hi ⟨a, b, rfl, e, le⟩ ⟨T0, y, v', rfl, nT0, rfl, ey, hv⟩
        have ey : y = .int (i : Nat) := (Option.some.inj ey).symm
        subst ey
        have e3 : Same H (upd H2 T0 (.tup [.int (i : Nat), v'])) := e.trans (same_new nT0)
        have kv := kn v' (List.mem_of_getElem? hv)
        refine ⟨T0, _, rfl, SqT.of upd_same, rfl, _, _, rfl, _, _, rfl, rfl, ?_⟩
        refine ⟨v', rfl, v', 0, rfl, kv.same e3, _, rfl, ?_⟩
        by_cases c : i = i0
        · subst c
          have hxv : x0 = v' := Option.some.inj (hx0.symm.trans hv)
          subst hxv
          rw [bad]
          exact iteT ⟨_, rfl, raise1 xA.T R.l1 True.intro fun d H' r => out d H' (r.back e3)⟩
        · rw [good i v' (by omega) hv]
          exact iteF ⟨_, _, rfl, e3, by omega⟩
      · rintro σ H2 ⟨a, b, rfl, e, le⟩
        have := (List.getElem?_eq_some_iff.mp hx0).1
        omega
    · refine ⟨_, rfl, cp, ts, rfl, hs, _, _, rfl, rfl, _, rfl, ?_⟩
      rw [decide_eq_true (show (2 : Int) ≤ ((ts.length : Nat) : Int) by omega)]
      refine iteT ⟨_, _, rfl, rfl, _, rfl, ?_⟩
      rw [decide_eq_true (show ((ts.length : Nat) : Int) ≤ 2000 by omega)]
      refine iteF ⟨_, rfl, cp, ts, rfl, hs, fun J G wk hG => for_it wk (fun i σ H' => ∃ (a b : Option V), σ = [some (.ref cp), a, b] ∧ Same H H') ⟨none, none, rfl, Same.refl _⟩ (fun i σ H' _ ⟨_, _, _, e⟩ => hG H' fun o z => e _ _ z) ?_ ?_⟩
      · rintro i x σ H2 H3 hi ⟨a, b, rfl, e⟩ ⟨T0, y, v', rfl, nT0, rfl, ey, hv⟩
        have e3 : Same H (upd H2 T0 (.tup [y, v'])) := e.trans (same_new nT0)
        have kv := kn v' (List.mem_of_getElem? hv)
        refine ⟨T0, _, rfl, SqT.of upd_same, rfl, _, _, rfl, _, _, rfl, rfl, ?_⟩
        refine ⟨v', rfl, v', 0, rfl, kv.same e3, _, rfl, ?_⟩
        rw [good v' (List.mem_of_getElem? hv)]
        exact iteF ⟨_, _, rfl, e3⟩
      · rintro σ H2 ⟨a, b, rfl, e⟩
        exact out _ e
end
end K38
set_option Elab.async false
set_option linter.all false
set_option maxRecDepth 100001
set_option maxHeartbeats 3999999
namespace K38
open PySem L2
/-- counts for a code -/
def spCCC (C CT CA CO : Addr) : Sp := fun vs H Q E => ∃ (q cp : Addr) (L : Nat) (ls : List Nat) (ws : List W) (ts : List V), vs = [.ref q, .ref cp] ∧ IsCo C H q L ls ws ∧ LT H cp ts ∧ (∀ v ∈ ts, Kn H v) ∧ ts.length ≤ 5000 ∧
  ((¬ (2 ≤ ts.length ∧ ts.length ≤ 2000) ∧ ∀ d H', Rsd H H' d [("most", .int 2000), ("many", .int (ts.length : Nat)), ("what", .str "signs")] → E (.ref CT) (some d) H') ∨
   (2 ≤ ts.length ∧ ts.length ≤ 2000 ∧ ∃ i v, ts[i]? = some v ∧ frm v 0 = false ∧ (∀ j u, j < i → ts[j]? = some u → frm u 0 = true) ∧ ∀ d H', Rsd H H' d [("index", .int (i : Nat))] → E (.ref CA) (some d) H') ∨
   (2 ≤ ts.length ∧ ts.length ≤ 2000 ∧ (∀ v ∈ ts, frm v 0 = true) ∧ ts.length ≠ ls.length ∧ ∀ d H', Rsd H H' d [("wanted", .int (ls.length : Nat)), ("many", .int (ts.length : Nat))] → E (.ref CO) (some d) H') ∨
   (2 ≤ ts.length ∧ ts.length ≤ 2000 ∧ (∀ v ∈ ts, frm v 0 = true) ∧ ts.length = ls.length ∧ ∀ H', Same H H' → Q .non H'))
theorem _root_.L2.FnOk.or {P : Program} {w : World} {K : PySem.W.Frag} {mg : Str → Option Value} {base : Heap} {CX : CXT} {k : Nat} {f : Addr} {fd : FuncData} {ps : List Str} {sp sp' : Sp} (F : FnOk P w K mg base CX k f fd ps sp) (G : FnOk P w K mg base CX k f fd ps sp') :
    FnOk P w K mg base CX k f fd ps (fun vs H Q E => sp vs H Q E ∨ sp' vs H Q E) :=
  ⟨fun vs H Q E h => h.elim (F.len vs H Q E) (G.len vs H Q E), fun A outer s H args us vs Q E hr he hb hv h => h.elim (F.run A outer s H args us vs Q E hr he hb hv) (G.run A outer s H args us vs Q E hr he hb hv)⟩
section
variable {P : Program} {w : World} {K : PySem.W.Frag} {mg : Str → Option Value} {base : Heap}
theorem scCCC : FnScope ["code", "counts"] ["code", "counts"] (defScope sCCC) := ⟨rfl, rfl, rfl, by decide +kernel, rfl, by decide +kernel, by decide +kernel⟩
theorem ok_ccc {f C CT CA CO : Addr} {fd : FuncData} (F : Fun K "check_code_counts" "check_code_counts" sCCC f fd) (B : Bi mg) (T : TxC K C) (cC : Cal (L2.CX P w) P w K mg base 4 "check_counts" (spCC CT CA))
    (xO : Xc P w K mg base 2 "OtherSize" CO (spX2 K "many" "wanted")) (n1 : PySem.W.findIn K (.ref CO) "many" = some none) (n2 : PySem.W.findIn K (.ref CO) "wanted" = some none) : FnOk P w K mg base (L2.CX P w) 5 f fd ["code", "counts"] (spCCC C CT CA CO) := by
  refine F.okX scCCC (fun vs H Q E h => ?_) (fun cdv A outer s H vs Q E hr h => ?_)
  · obtain ⟨q, cp, L, ls, ws, ts, rfl, _⟩ := h
    rfl
  · obtain ⟨q, cp, L, ls, ws, ts, rfl, M, hl, kn, l5, out⟩ := h
    refine ⟨_, pss_cons (ps_expr (pe_c cC hr (passes_call (takes_of rfl rfl rfl rfl) fun _ _ _ _ h => h) (pa_cons (pv 1) pa_nil)))
      (pss_one (ps_if (pt_cmpR op_ne (pe_len B.len (pa_cons (pv 1) pa_nil)) (pe_fld (pv 0) rfl) (nomark _)) (pss_one (ps_raise rfl (takes_of rfl rfl rfl rfl) (pmk_x xO hr (pa_cons (pe_len B.len (pa_cons (pv 1) pa_nil)) (pa_cons (pe_fld (pv 0) rfl) pa_nil))))) pss_nil)), ?_⟩
    obtain ⟨dx, lt, wt, tr, h1, h2, h3⟩ := id M
    refine ⟨_, rfl, cp, ts, rfl, hl, kn, l5, ?_⟩
    rcases out with out | out | ⟨g1, g2, good, ne, out⟩ | ⟨g1, g2, good, e0, out⟩
    · exact .inl out
    · exact .inr (.inl out)
    · refine .inr (.inr ⟨g1, g2, good, fun H1 e1 => ?_⟩)
      refine ⟨_, rfl, cp, ts, rfl, (hl.same e1).sq, _, rfl, q, C, dx, _, _, rfl, e1 _ _ h1, T.cl, T.s, co_size _ _ _ _ _, rfl, _, rfl, ?_⟩
      rw [dec_int, show (((ts.length : Nat) : Int) == ((ls.length : Nat) : Int)) = false by rw [beq_eq_false_iff_ne]; omega]
      exact iteT ⟨_, rfl, cp, ts, rfl, (hl.same e1).sq, _, rfl, q, C, dx, _, _, rfl, e1 _ _ h1, T.cl, T.s, co_size _ _ _ _ _, raise2 xO.T n1 n2 True.intro True.intro fun d H' r => out d H' (r.back e1)⟩
    · refine .inr (.inr ⟨g1, g2, good, fun H1 e1 => ?_⟩)
      refine ⟨_, rfl, cp, ts, rfl, (hl.same e1).sq, _, rfl, q, C, dx, _, _, rfl, e1 _ _ h1, T.cl, T.s, co_size _ _ _ _ _, rfl, _, rfl, ?_⟩
      rw [dec_int, show (((ts.length : Nat) : Int) == ((ls.length : Nat) : Int)) = true by rw [beq_iff_eq]; omega]
      exact iteF (out _ e1)
end
end K38
set_option Elab.async false
set_option linter.all false
set_option maxRecDepth 100001
/-! zip over sources of either kind: a list with its iterator, or a tuple with its iterator -/
namespace ZM
open PySem PySem.Spec PyProof.Rows L2
/-- an iterator of a tuple (t) or of a list, k items on -/
def ItB (t : Bool) (h : Heap) (it l : Addr) (k : Nat) : Prop := match t with
  | true => h.IsTupleIter it l k
  | false => h.IsListIter it l k
/-- a tuple (t) or a list of these items -/
def InB (t : Bool) (h : Heap) (a : Addr) (its : Array Value) : Prop := match t with
  | true => h.IsTuple a its
  | false => h.IsList a its
/-- at it an iterator, k items on, over what lies at l: xs, a list or a tuple -/
def Src (t : Bool) (h : Heap) (it l : Addr) (k : Nat) (xs : Array Value) : Prop := ItB t h it l k ∧ InB t h l xs
theorem ItB.keep {t : Bool} {h h' : Heap} {it l : Addr} {k : Nat} (b : ItB t h it l k) (e : ∀ o, h.get? it = some o → h'.get? it = some o) : ItB t h' it l k := by
  cases t <;> exact b.at e
theorem ItB.obj {t : Bool} {h : Heap} {it l : Addr} {k : Nat} (b : ItB t h it l k) : ∃ o, h.get? it = some o ∧ ∀ v, o.data ≠ .cell v := by
  cases t <;> (obtain ⟨o, e, _, d⟩ := b; exact ⟨o, e, fun v q => by rw [d] at q; cases q⟩)
section
variable {prog : Program} {w : World} {A : Around} {E : Value → Shared → Prop} {s : Shared} {t : Bool}
theorem Src.next {it l : Addr} {k : Nat} {xs : Array Value} {x : Value} {Q : Value → Shared → Prop} (ne : it ≠ l) (h : Src t s.heap it l k xs) (hx : xs[k]? = some x)
    (hQ : ∀ h', Src t h' it l (k + 1) xs → Heap.SameBut it s.heap h' → Q x { s with heap := h' }) : wpAny (model prog w) A (Builtin.SmallTypes.nextOf (.ref it)) Q E s := by
  obtain ⟨h1, h2⟩ := h
  cases t
  · exact wpAny_nextOf_list_item h1 h2 hx fun h' z sb => hQ h' ⟨z, Heap.IsList.extBut h2 sb.extBut (Ne.symm ne)⟩ sb
  · exact RZ.nextOf_tuple_item h1 h2 hx fun h' z sb => hQ h' ⟨z, Heap.IsTuple.extBut h2 sb.extBut (Ne.symm ne)⟩ sb
theorem Src.ends {it l : Addr} {k : Nat} {xs : Array Value} {Q : Value → Shared → Prop} (hh : A.handled = none) (h : Src t s.heap it l k xs) (hx : xs[k]? = none)
    (hE : ∀ h' e, Heap.ExtBut it s.heap h' → (∃ o, h'.get? e = some o ∧ o.cls = .type "StopIteration") → E (.ref e) { s with heap := h' }) : wpAny (model prog w) A (Builtin.SmallTypes.nextOf (.ref it)) Q E s := by
  obtain ⟨h1, h2⟩ := h
  cases t
  · exact wpAny_nextOf_list_end hh h1 h2 hx hE
  · exact RZ.nextOf_tuple_end hh h1 h2 hx hE
end
theorem Src.at {t : Bool} {h h' : Heap} {it l : Addr} {k : Nat} {xs : Array Value} (s : Src t h it l k xs) (e1 : ∀ o, h.get? it = some o → h'.get? it = some o) (e2 : ∀ o, h.get? l = some o → h'.get? l = some o) : Src t h' it l k xs := by
  obtain ⟨h1, h2⟩ := s
  refine ⟨h1.keep e1, ?_⟩
  cases t <;> (obtain ⟨o, z, r⟩ := h2; exact ⟨o, e2 _ z, r⟩)
end ZM
set_option Elab.async false
set_option linter.all false
set_option maxRecDepth 100001
set_option maxHeartbeats 999999
/-! zip of two sources, of which each is a list or a tuple -/
namespace ZM
open PySem PySem.Spec PyProof.Rows L2
theorem Src.off {t : Bool} {h h' : Heap} {it l c : Addr} {k : Nat} {xs : Array Value} (s : Src t h it l k xs) (n1 : it ≠ c) (n2 : l ≠ c) (e : Heap.ExtBut c h h') : Src t h' it l k xs :=
  s.at (fun o z => e it o n1 z) fun o z => e l o n2 z
/-- what a zip that goes holds: itself, its pair of iterators, its pair of items, both sources -/
structure Zp (t u : Bool) (h : Heap) (g ti to ja jb la lb : Addr) (k : Nat) (xs ys : Array Value) : Prop where
  zi : IsZip h g ti to .none
  pi : IsPair h ti (.ref ja) (.ref jb)
  po : ∃ x y, IsPair h to x y
  sa : Src t h ja la k xs
  sb : Src u h jb lb k ys
section
variable {prog : Program} {w : World} {A : Around} {E : Value → Shared → Prop} {s : Shared} {g ti to ja jb la lb : Addr} {k : Nat} {xs ys : Array Value} {t t2 : Bool}
theorem Zp.item {x y : Value} {Q : Option Value → Shared → Prop} (D : ZipApart g ti to ja jb la lb) (Z : Zp t t2 s.heap g ti to ja jb la lb k xs ys) (hx : xs[k]? = some x) (hy : ys[k]? = some y)
    (hQ : ∀ h', IsZip h' g ti to (rawInt s.heap.objs.size) → IsPair h' ti (.ref ja) (.ref jb) → IsPair h' to x y → Src t h' ja la (k + 1) xs → Src t2 h' jb lb (k + 1) ys → IsPair h' s.heap.objs.size x y → h'.objs.size = s.heap.objs.size + 1 →
      (∀ c o, c ≠ g → c ≠ to → c ≠ ja → c ≠ jb → s.heap.get? c = some o → h'.get? c = some o) → Q (some (.ref s.heap.objs.size)) { s with heap := h' }) :
    wpAny (model prog w) A (pyNext (.ref g)) Q E s := by
  obtain ⟨zi, pi, ⟨u, v, po⟩, sa, sb⟩ := Z
  have ty : s.TypeIs (.ref g) "zip" := ⟨_, zi, rfl⟩
  unfold pyNext
  refine PySem.wpAny_bind (wpAny_attempt (wpAny_callSpecial?_slot (name := Str.ofString "__next__") ty F.slot_zip_next
    (wpAny_call_entry F.slot_zip_next ty F.entry_zip_next (Q := fun r s1 => wpAny (model prog w) A (pure (some r)) Q E s1) ?_ (F.args_zip_next_1 _))))
  show wpAny _ _ (field (.ref g) 2 >>= _) _ _ _
  refine PySem.wpAny_bind (wpAny_field zi rfl (x := .bool false) rfl ?_)
  show wpAny _ _ (field (.ref g) 3 >>= _) _ _ _
  refine PySem.wpAny_bind (wpAny_field zi rfl (x := .ref ti) rfl ?_)
  refine PySem.wpAny_bind (wpAny_seqItems pi rfl ?_)
  show wpAny _ _ (Builtin.SmallTypes.ownedTupleIsFree (.ref g) >>= _) _ _ _
  refine PySem.wpAny_bind ?_
  unfold Builtin.SmallTypes.ownedTupleIsFree
  refine PySem.wpAny_bind (wpAny_field zi rfl (x := .none) rfl (wpAny_pure ?_))
  simp only [if_true]
  refine PySem.wpAny_bind (wpAny_rule ?_)
  refine PySem.wpAny_bind (wpAny_field zi rfl (x := .ref to) rfl ?_)
  refine PySem.wpAny_bind (wpAny_setField_rec zi (by simp) fun g1 zi1 s1 => ?_)
  replace zi1 : IsZip g1 g ti to .ellipsis := zi1
  refine PySem.wpAny_bind ?_
  simp only [List.zipIdx_cons, List.zipIdx_nil, List.forIn_cons, List.forIn_nil]
  refine PySem.wpAny_bind (PySem.wpAny_bind (wpAny_onRaise ?_))
  show wpAny _ _ (Builtin.SmallTypes.nextOf (.ref ja) >>= _) _ _ _
  refine PySem.wpAny_bind ((sa.off D.i1z D.l1z s1.extBut).next (Ne.symm D.l1i1) hx fun g2 sa2 s2 => wpAny_pure ?_)
  have po2 : IsPair g2 to u v := s2.extBut _ _ D.TOi1 (s1.extBut _ _ D.TOz po)
  refine PySem.wpAny_bind (wpAny_seqItems po2 rfl ?_)
  refine PySem.wpAny_bind (wpAny_updateSeq_pair po2 fun g3 po3 s3 => ?_)
  replace po3 : IsPair g3 to x v := po3
  refine PySem.wpAny_bind (wpAny_letGo (wpAny_pure ?_))
  refine PySem.wpAny_bind (PySem.wpAny_bind (wpAny_onRaise ?_))
  show wpAny _ _ (Builtin.SmallTypes.nextOf (.ref jb) >>= _) _ _ _
  refine PySem.wpAny_bind ((((sb.off D.i2z D.l2z s1.extBut).off D.i12.symm D.l2i1 s2.extBut).off D.TOi2.symm D.l2TO s3.extBut).next (Ne.symm D.l2i2) hy fun g4 sb4 s4 => wpAny_pure ?_)
  have po4 : IsPair g4 to x v := s4.extBut _ _ D.TOi2 po3
  refine PySem.wpAny_bind (wpAny_seqItems po4 rfl ?_)
  refine PySem.wpAny_bind (wpAny_updateSeq_pair po4 fun g5 po5 s5 => ?_)
  replace po5 : IsPair g5 to x y := po5
  refine PySem.wpAny_bind (wpAny_letGo (wpAny_pure (wpAny_pure ?_)))
  refine PySem.wpAny_bind (wpAny_seqItems po5 rfl ?_)
  refine PySem.wpAny_bind (wpAny_newTuple ?_)
  have sz : g5.objs.size = s.heap.objs.size := by rw [s5.1, s4.1, s3.1, s2.1, s1.1]
  have zi5 : IsZip g5 g ti to .ellipsis := s5.extBut _ _ D.TOz.symm (s4.extBut _ _ D.i2z.symm (s3.extBut _ _ D.TOz.symm (s2.extBut _ _ D.i1z.symm zi1)))
  have keep5 : ∀ c o, c ≠ g → c ≠ to → c ≠ ja → c ≠ jb → s.heap.get? c = some o → g5.get? c = some o := fun c o c1 c2 c3 c4 e =>
    s5.extBut _ _ c2 (s4.extBut _ _ c4 (s3.extBut _ _ c2 (s2.extBut _ _ c3 (s1.extBut _ _ c1 e))))
  have sa5 : Src t g5 ja la (k + 1) xs := ((sa2.off D.TOi1.symm D.l1TO s3.extBut).off D.i12 D.l1i2 s4.extBut).off D.TOi1.symm D.l1TO s5.extBut
  have sb5 : Src t2 g5 jb lb (k + 1) ys := sb4.off D.TOi2.symm D.l2TO s5.extBut
  have glt : g < g5.objs.size := Heap.lt_size zi5
  show wpAny _ _ (Builtin.SmallTypes.ownedTupleHandOut (.ref g) (.ref g5.objs.size) >>= _) _ _ _
  refine PySem.wpAny_bind ?_
  unfold Builtin.SmallTypes.ownedTupleHandOut
  have zi6 : IsZip (g5.push { cls := .type "tuple", data := .seq #[x, y] }) g ti to .ellipsis := Heap.get?_push_of_some _ zi5
  refine PySem.wpAny_bind (wpAny_setField_rec zi6 (by simp) fun g7 zi7 s7 => ?_)
  replace zi7 : IsZip g7 g ti to (rawInt g5.objs.size) := zi7
  refine wpAny_setField_rec zi7 (by simp) fun g8 zi8 s8 => ?_
  replace zi8 : IsZip g8 g ti to (rawInt g5.objs.size) := zi8
  have up : ∀ c o, c ≠ g → g5.get? c = some o → g8.get? c = some o := fun c o c1 e => s8.extBut _ _ c1 (s7.extBut _ _ c1 (Heap.get?_push_of_some _ e))
  have np8 : IsPair g8 g5.objs.size x y := s8.extBut _ _ (Nat.ne_of_gt glt) (s7.extBut _ _ (Nat.ne_of_gt glt) (Heap.get?_push_size _ rfl))
  have sz8 : g8.objs.size = g5.objs.size + 1 := by rw [s8.1, s7.1, Heap.size_push]
  rw [sz] at zi8 np8 sz8
  refine wpAny_pure ⟨_, rfl, ?_⟩
  show wpAny _ _ (pure (some (Value.ref g5.objs.size))) _ _ _
  rw [sz]
  refine wpAny_pure (hQ g8 zi8 (up _ _ D.TIz (keep5 _ _ D.TIz D.TITO D.TIi1 D.TIi2 pi)) (up _ _ D.TOz po5) (sa5.at (fun o e => up _ o D.i1z e) fun o e => up _ o D.l1z e) (sb5.at (fun o e => up _ o D.i2z e) fun o e => up _ o D.l2z e) np8 sz8 fun c o c1 c2 c3 c4 e => up c o c1 (keep5 c o c1 c2 c3 c4 e))
theorem Zp.ends {Q : Option Value → Shared → Prop} (hh : A.handled = none) (D : ZipApart g ti to ja jb la lb) (Z : Zp t t2 s.heap g ti to ja jb la lb k xs ys) (no : xs[k]? = none ∨ ys[k]? = none)
    (hQ : ∀ h', (∀ c o, c ≠ g → c ≠ to → c ≠ ja → c ≠ jb → s.heap.get? c = some o → h'.get? c = some o) → Q none { s with heap := h' }) : wpAny (model prog w) A (pyNext (.ref g)) Q E s := by
  obtain ⟨zi, pi, ⟨u, v, po⟩, sa, sb⟩ := Z
  have ty : s.TypeIs (.ref g) "zip" := ⟨_, zi, rfl⟩
  have fin : ∀ (h' : Heap) (e : Addr), (∀ c o, c ≠ g → c ≠ to → c ≠ ja → c ≠ jb → s.heap.get? c = some o → h'.get? c = some o) → (∃ o, h'.get? e = some o ∧ o.cls = .type "StopIteration") →
      wpAny (model prog w) A (do if (← isInstance (.ref e) (.type "StopIteration")) then pure none else throw (.ref e)) Q E { s with heap := h' } := fun h' e kp ⟨o, ho, hc⟩ =>
    PySem.wpAny_bind (wpAny_isInstance (T := "StopIteration") (b := true) ⟨o, ho, hc⟩ isSubtype_stop (wpAny_pure (hQ _ kp)))
  unfold pyNext
  refine PySem.wpAny_bind (wpAny_attempt (wpAny_callSpecial?_slot (name := Str.ofString "__next__") ty F.slot_zip_next
    (wpAny_call_entry F.slot_zip_next ty F.entry_zip_next ?_ (F.args_zip_next_1 _))))
  show wpAny _ _ (field (.ref g) 2 >>= _) _ _ _
  refine PySem.wpAny_bind (wpAny_field zi rfl (x := .bool false) rfl ?_)
  show wpAny _ _ (field (.ref g) 3 >>= _) _ _ _
  refine PySem.wpAny_bind (wpAny_field zi rfl (x := .ref ti) rfl ?_)
  refine PySem.wpAny_bind (wpAny_seqItems pi rfl ?_)
  show wpAny _ _ (Builtin.SmallTypes.ownedTupleIsFree (.ref g) >>= _) _ _ _
  refine PySem.wpAny_bind ?_
  unfold Builtin.SmallTypes.ownedTupleIsFree
  refine PySem.wpAny_bind (wpAny_field zi rfl (x := .none) rfl (wpAny_pure ?_))
  simp only [if_true]
  refine PySem.wpAny_bind (wpAny_rule ?_)
  refine PySem.wpAny_bind (wpAny_field zi rfl (x := .ref to) rfl ?_)
  refine PySem.wpAny_bind (wpAny_setField_rec zi (by simp) fun g1 zi1 s1 => ?_)
  replace zi1 : IsZip g1 g ti to .ellipsis := zi1
  refine PySem.wpAny_bind ?_
  simp only [List.zipIdx_cons, List.zipIdx_nil, List.forIn_cons, List.forIn_nil]
  refine PySem.wpAny_bind (PySem.wpAny_bind (wpAny_onRaise ?_))
  show wpAny _ _ (Builtin.SmallTypes.nextOf (.ref ja) >>= _) _ _ _
  cases hx : xs[k]? with
  | none =>
    refine PySem.wpAny_bind ((sa.off D.i1z D.l1z s1.extBut).ends hh hx fun g2 e s2 he => ?_)
    obtain ⟨oe, ho, hc⟩ := he
    have zi2 : IsZip g2 g ti to .ellipsis := s2 _ _ D.i1z.symm zi1
    have ne : e ≠ g := fun z => by subst z; rw [zi2] at ho; cases ho; simp at hc
    refine wpAny_setField_rec zi2 (by simp) fun g3 _ s3 => fin g3 e (fun c o c1 _ c3 _ z => s3.extBut _ _ c1 (s2 _ _ c3 (s1.extBut _ _ c1 z))) ⟨oe, s3.extBut _ _ ne ho, hc⟩
  | some x =>
    have hy : ys[k]? = none := by
      rcases no with h | h
      · rw [hx] at h; cases h
      · exact h
    refine PySem.wpAny_bind ((sa.off D.i1z D.l1z s1.extBut).next (Ne.symm D.l1i1) hx fun g2 sa2 s2 => wpAny_pure ?_)
    have po2 : IsPair g2 to u v := s2.extBut _ _ D.TOi1 (s1.extBut _ _ D.TOz po)
    refine PySem.wpAny_bind (wpAny_seqItems po2 rfl ?_)
    refine PySem.wpAny_bind (wpAny_updateSeq_pair po2 fun g3 po3 s3 => ?_)
    refine PySem.wpAny_bind (wpAny_letGo (wpAny_pure ?_))
    refine PySem.wpAny_bind (PySem.wpAny_bind (wpAny_onRaise ?_))
    show wpAny _ _ (Builtin.SmallTypes.nextOf (.ref jb) >>= _) _ _ _
    refine PySem.wpAny_bind ((((sb.off D.i2z D.l2z s1.extBut).off D.i12.symm D.l2i1 s2.extBut).off D.TOi2.symm D.l2TO s3.extBut).ends hh hy fun g4 e s4 he => ?_)
    obtain ⟨oe, ho, hc⟩ := he
    have zi4 : IsZip g4 g ti to .ellipsis := s4 _ _ D.i2z.symm (s3.extBut _ _ D.TOz.symm (s2.extBut _ _ D.i1z.symm (zi1)))
    have ne : e ≠ g := fun z => by subst z; rw [zi4] at ho; cases ho; simp at hc
    refine wpAny_setField_rec zi4 (by simp) fun g5 _ s5 => fin g5 e (fun c o c1 c2 c3 c4 z => s5.extBut _ _ c1 (s4 _ _ c4 (s3.extBut _ _ c2 (s2.extBut _ _ c3 (s1.extBut _ _ c1 z))))) ⟨oe, s5.extBut _ _ ne ho, hc⟩
/-! how it begins -/
theorem zipB_new {v1 v2 : Value} {o1 o2 : Obj} {G1 G2 : Heap → Prop} (B1 : Begins v1 o1 G1) (B2 : Begins v2 o2 G2) : Meets (Builtin.«zip.__new__» ⟨[.type "zip", v1, v2], []⟩)
    (fun _ R z => G1 z.heap ∧ G2 z.heap ∧ ∀ h3 h4 h5, h3 = ((z.heap.push o1).push o2).push { cls := .type "tuple", data := .seq #[.ref z.heap.objs.size, .ref (z.heap.push o1).objs.size] } → h4 = h3.push { cls := .type "tuple", data := .seq #[.none, .none] } →
      h5 = h4.push { cls := .type "zip", data := .fields #[.none, .bool false, .bool false, .ref ((z.heap.push o1).push o2).objs.size, .ref h3.objs.size] } → R (.ok (.ret (.ref h4.objs.size))) { z with heap := h5 }) :=
  .of_wp fun prog w A R z hz => by
    obtain ⟨hp, gs, dr, tk, os⟩ := z
    obtain ⟨g1, g2, r⟩ := hz
    have su := sub_zip
    have it1 : ∀ {A' : Around} {E : Value → Shared → Prop} {Q : Value → Shared → Prop}, Q (.ref hp.objs.size) ⟨hp.push o1, gs, dr, tk, os⟩ → wpAny (model prog w) A' (pyIter v1) Q E ⟨hp, gs, dr, tk, os⟩ :=
      fun q => B1.iter prog w _ _ ⟨hp, gs, dr, tk, os⟩ _ g1 q
    have it2 : ∀ {A' : Around} {E : Value → Shared → Prop} {Q : Value → Shared → Prop}, Q (.ref (hp.push o1).objs.size) ⟨(hp.push o1).push o2, gs, dr, tk, os⟩ → wpAny (model prog w) A' (pyIter v2) Q E ⟨hp.push o1, gs, dr, tk, os⟩ :=
      fun q => B2.iter prog w _ _ ⟨hp.push o1, gs, dr, tk, os⟩ _ (B2.keeps _ _ g2 fun b u e => Heap.get?_push_of_some _ e) q
    wp_walk using it1, it2
    exact ⟨_, rfl, r _ _ _ rfl rfl rfl⟩
end
end ZM
set_option Elab.async false
set_option linter.all false
set_option maxRecDepth 100001
set_option maxHeartbeats 999999
/-! zip of two sources, of which each is a list or a tuple: the rule -/
namespace ZM
open PySem PySem.Spec PyProof.Rows L2
/-- a tuple (t) or a list of these items -/
def SqB (K : PySem.W.Frag) (t : Bool) (H : Hp) (a : Addr) (xs : List V) : Prop := match t with
  | true => SqT K H a xs
  | false => SqL K H a xs
def obB (t : Bool) (a : Addr) : Obj := match t with
  | true => { cls := .type "tuple_iterator", data := .fields #[.ref a, .int 0 0] }
  | false => { cls := .type "list_iterator", data := .fields #[.ref a, .int 0 0] }
theorem begB (t : Bool) (a : Addr) (its : Array Value) : Begins (.ref a) (obB t a) fun h => InB t h a its := by
  cases t
  · exact begins_list a its
  · exact begins_tuple a its
theorem itB0 (t : Bool) {h : Heap} {it a : Addr} (e : h.get? it = some (obB t a)) : ItB t h it a 0 := by
  cases t <;> exact ⟨_, e, rfl, rfl⟩
section
variable {X : Cx} {pins : List (Addr × Obj)} {σ : L2.St} {H : Hp} {s : Shared} {a : Addr} {xs ys : List V} {t : Bool}
theorem inB_of (I : Inv X pins σ H s) (h : SqB X.K t H a xs) : ∃ its : List Value, Vals xs its ∧ InB t s.heap a its.toArray ∧ a < s.heap.objs.size := by
  cases t
  · obtain ⟨its, r, p, _⟩ := I.list h
    exact ⟨its, r, p.isList, p.lt⟩
  · obtain ⟨its, r, p, _⟩ := I.tuple h
    exact ⟨its, r, p, p.lt⟩
theorem sqB_inj (I : Inv X pins σ H s) (h : SqB X.K t H a xs) (h' : SqB X.K t H a ys) : xs = ys := by
  cases t
  · exact I.list_inj h h'
  · exact I.tuple_inj h h'
end
def ItzM (K : PySem.W.Frag) (t u : Bool) (a b : Addr) : It where
  go := fun i H => ∃ (xs ys : List V) (x y : V), SqB K t H a xs ∧ SqB K u H b ys ∧ xs[i]? = some x ∧ ys[i]? = some y
  yld := fun i H v H2 => ∃ p x y, v = .ref p ∧ H p = none ∧ H2 = upd H p (.tup [x, y]) ∧ (∀ xs, SqB K t H a xs → xs[i]? = some x) ∧ ∀ ys, SqB K u H b ys → ys[i]? = some y
  stop := fun i H => ∃ xs ys : List V, SqB K t H a xs ∧ SqB K u H b ys ∧ (xs.length ≤ i ∨ ys.length ≤ i)
theorem five {c g ti to ja jb : Addr} (h : c ∈ [g, ti, to, ja, jb]) : c = g ∨ c = ti ∨ c = to ∨ c = ja ∨ c = jb := by simpa using h
theorem turn_zipM {P : Program} {W : World} {K : PySem.W.Frag} {es : List Expr} {kk : Nat} {tp : Pos} {t u : Bool} {a b g ti to ja jb : Addr} (D : ZipApart g ti to ja jb a b) :
    Turn P W K (.Tuple es kk tp) (ItzM K t u a b) [g, ti, to, ja, jb] g (fun i h => IsZip h g ti to .none ∧ IsPair h ti (.ref ja) (.ref jb) ∧ (∃ x y, IsPair h to x y) ∧ ItB t h ja a i ∧ ItB u h jb b i) where
  mem := List.mem_cons_self
  obj := fun i h st c hc => by
    obtain ⟨zi, pi, ⟨x, y, po⟩, b1, b2⟩ := st
    rcases five hc with q | q | q | q | q
    · rw [q]; exact ⟨_, zi, fun v z => nomatch z⟩
    · rw [q]; exact ⟨_, pi, fun v z => nomatch z⟩
    · rw [q]; exact ⟨_, po, fun v z => nomatch z⟩
    · rw [q]; exact b1.obj
    · rw [q]; exact b2.obj
  keep := fun i h h2 st k => ⟨k g (by simp) _ st.1, k ti (by simp) _ st.2.1, let ⟨x, y, po⟩ := st.2.2.1; ⟨x, y, k to (by simp) _ po⟩, st.2.2.2.1.keep fun o q => k ja (by simp) o q, st.2.2.2.2.keep fun o q => k jb (by simp) o q⟩
  item := by
    intro X hP hW hK hc i pins s σ H E I hf st hg
    subst hP hW hK
    obtain ⟨zi, pi, po, b1, b2⟩ := st
    obtain ⟨xs, ys, x, y, q1, q2, hx, hy⟩ := hg
    obtain ⟨i1, r1, p1, _⟩ := inB_of I q1
    obtain ⟨i2, r2, p2, _⟩ := inB_of I q2
    obtain ⟨v1, hv1, rv1⟩ := r1.get hx
    obtain ⟨v2, hv2, rv2⟩ := r2.get hy
    have lg : g < s.heap.objs.size := Heap.lt_size zi
    have hts : ti < s.heap.objs.size ∧ to < s.heap.objs.size ∧ ja < s.heap.objs.size ∧ jb < s.heap.objs.size := by
      obtain ⟨_, _, po⟩ := po
      obtain ⟨_, e1, _⟩ := b1.obj
      obtain ⟨_, e2, _⟩ := b2.obj
      exact ⟨Heap.lt_size pi, Heap.lt_size po, Heap.lt_size e1, Heap.lt_size e2⟩
    have Z : Zp t u s.heap g ti to ja jb a b i i1.toArray i2.toArray := ⟨zi, pi, po, ⟨b1, p1⟩, ⟨b2, p2⟩⟩
    refine Z.item D (x := v1) (y := v2) (by simpa using hv1) (by simpa using hv2) fun h' zi' pi' po' a' b' np' sz' kp' => ?_
    refine ⟨_, rfl, wpAny_letOwnedTupleGo_zip (s := { s with heap := h' }) zi' fun h'' zi'' sb => ?_⟩
    have np'' : h''.get? s.heap.objs.size = some { cls := .type "tuple", data := .seq #[v1, v2] } := (sb.2 _ (Nat.ne_of_gt lg)).trans np'
    have new : ObjOk X.prog X.w (upd H s.heap.objs.size (.tup [x, y])) h'' s.heap.objs.size (.tup [x, y]) :=
      ⟨by show 2 ≤ sizeLine; decide, [v1, v2], .cons rv1 (.cons rv2 .nil), ⟨_, np'', rfl, _, rfl⟩⟩
    have J : Inv X pins σ (upd H s.heap.objs.size (.tup [x, y])) { s with heap := h'' } :=
      I.turnedNew (t' := s.toks) (ch := [g, ti, to, ja, jb]) (fun c o hb q => (sb.2 c fun z => hb (by simp [z])).trans (kp' c o (fun z => hb (by simp [z])) (fun z => hb (by simp [z])) (fun z => hb (by simp [z])) (fun z => hb (by simp [z])) q)) hf (Nat.le_refl _) new
    refine ⟨.ref s.heap.objs.size, _, J, rfl, ⟨_, x, y, rfl, I.hok.fresh (Nat.le_refl _), rfl, fun l hl => by rw [sqB_inj I hl q1]; exact hx, fun l hl => by rw [sqB_inj I hl q2]; exact hy⟩, ⟨zi'', ?_, ⟨v1, v2, ?_⟩, ?_, ?_⟩, fun c hcm => ?_⟩
    · exact (sb.2 _ D.TIz).trans pi'
    · exact (sb.2 _ D.TOz).trans po'
    · exact a'.1.keep fun o q => (sb.2 _ D.i1z).trans q
    · exact b'.1.keep fun o q => (sb.2 _ D.i2z).trans q
    · have lc : c < s.heap.objs.size := by
        rcases five hcm with q | q | q | q | q <;> rw [q]
        · exact lg
        · exact hts.1
        · exact hts.2.1
        · exact hts.2.2.1
        · exact hts.2.2.2
      rw [upd_ne (Nat.ne_of_lt lc)]
      exact (hf c hcm).1
  done := by
    intro X hP hW hK hc i pins s σ H E I hf st hg
    subst hP hW hK
    obtain ⟨zi, pi, po, b1, b2⟩ := st
    obtain ⟨xs, ys, q1, q2, no⟩ := hg
    obtain ⟨i1, r1, p1, _⟩ := inB_of I q1
    obtain ⟨i2, r2, p2, _⟩ := inB_of I q2
    have l1 := r1.length
    have l2 := r2.length
    have Z : Zp t u s.heap g ti to ja jb a b i i1.toArray i2.toArray := ⟨zi, pi, po, ⟨b1, p1⟩, ⟨b2, p2⟩⟩
    refine Z.ends (I.ok.hd hc) D (no.imp (fun z => by simp; omega) fun z => by simp; omega) fun h' kp => ⟨rfl, I.turnedL (t' := s.toks) (ch := [g, ti, to, ja, jb]) (fun c o hb q =>
      kp c o (fun z => hb (by simp [z])) (fun z => hb (by simp [z])) (fun z => hb (by simp [z])) (fun z => hb (by simp [z])) q) hf⟩
  self := fun A i s Q E st h => wpAny_pyIter_zip st.1 h
/-- zip(x, y): x a tuple (t) or a list, y a tuple (u) or a list -/
def iZipM (K : PySem.W.Frag) (t u : Bool) (ta : TA) : TI := fun σ H R => ta σ H fun vs H1 => ∃ a b xs ys, vs = [.ref a, .ref b] ∧ SqB K t H1 a xs ∧ SqB K u H1 b ys ∧ R (ItzM K t u a b) H1
theorem pi_zipM (t u : Bool) {X : Cx} {e e2 : Expr} {ta : TA} {p pos tp : Pos} {es : List Expr} {kk : Nat} (hm : X.mg "zip" = none) (ha : PA X [e, e2] ta) (hg : Gl X "zip" := by rfl)
    (hs : starEach [e, e2] X.env = (false, eval e X.env) :: starEach [e2] X.env := by rfl) (hpl : (backTo pos (starEach [e2] X.env)).any (·.1) = false := by rfl) :
    PI X (.Tuple es kk tp) (.Call (.Name "zip" p) [e, e2] [] pos) (iZipM X.K t u ta) := by
  constructor
  intro pins s σ H R I h
  refine Call_ (ld_blt I hg hm PyProof.Rows.boot_zip (PyProof.Rows.callWith_type1 (thn (ha.run pos pins s σ H _ I h) fun us s1 hh => ?_) hs hpl))
  obtain ⟨vs, H1, I1, r1, a, b, xs, ys, ex, q1, q2, q⟩ := hh
  subst ex
  cases r1 with
  | cons r rr =>
    cases rr with
    | cons r' rr =>
      cases rr
      cases r
      cases r'
      obtain ⟨i1, _, p1, l1⟩ := inB_of I1 q1
      obtain ⟨i2, _, p2, l2⟩ := inB_of I1 q2
      refine callType_new F.called_zip (by decide) (F.typeCall_zip_2 _ _) (F.newCall_zip_2 _ _) (fun ob => F.args_object_init_3 ob _ _) F.entry_zip_new (zipB_new (begB t a i1.toArray) (begB u b i2.toArray)) ⟨p1, p2, ?_⟩
      intro h3 h4 h5 e3 e4 e5
      have z1 : (s1.heap.push (obB t a)).objs.size = s1.heap.objs.size + 1 := Heap.size_push ..
      have z2 : ((s1.heap.push (obB t a)).push (obB u b)).objs.size = s1.heap.objs.size + 2 := by rw [Heap.size_push, z1]
      have z3 : h3.objs.size = s1.heap.objs.size + 3 := by rw [e3, Heap.size_push, z2]
      have z4 : h4.objs.size = s1.heap.objs.size + 4 := by rw [e4, Heap.size_push, z3]
      have up3 : ∀ c o, h3.get? c = some o → h5.get? c = some o := fun c o z => by rw [e5, e4]; exact Heap.get?_push_of_some _ (Heap.get?_push_of_some _ z)
      have k5 : h5.get? h4.objs.size = some { cls := .type "zip", data := .fields #[.none, .bool false, .bool false, .ref ((s1.heap.push (obB t a)).push (obB u b)).objs.size, .ref h3.objs.size] } := by rw [e5]; exact Heap.get?_push_size _ rfl
      have k4 : h5.get? h3.objs.size = some { cls := .type "tuple", data := .seq #[.none, .none] } := by rw [e5, e4]; exact Heap.get?_push_of_some _ (Heap.get?_push_size _ rfl)
      have k3 := up3 ((s1.heap.push (obB t a)).push (obB u b)).objs.size { cls := .type "tuple", data := .seq #[.ref s1.heap.objs.size, .ref (s1.heap.push (obB t a)).objs.size] } (by rw [e3]; exact Heap.get?_push_size _ rfl)
      have k2 := up3 (s1.heap.push (obB t a)).objs.size (obB u b) (by rw [e3]; exact Heap.get?_push_of_some _ (Heap.get?_push_size _ (begB u b #[]).free))
      have k1 := up3 s1.heap.objs.size (obB t a) (by rw [e3]; exact Heap.get?_push_of_some _ (Heap.get?_push_of_some _ (Heap.get?_push_size _ (begB t a #[]).free)))
      have kp : ∀ c o, s1.heap.get? c = some o → h5.get? c = some o := fun c o z => up3 c o (by rw [e3]; exact Heap.get?_push_of_some _ (Heap.get?_push_of_some _ (Heap.get?_push_of_some _ z)))
      rw [z2, z3, z4] at k5
      rw [z3] at k4
      rw [z1, z2] at k3
      rw [z1] at k2
      show _ ∧ _
      rw [z4]
      refine ⟨⟨_, k5, rfl⟩, wpAny_pyIter_zip k5 ?_⟩
      have J : Inv X pins σ H1 { s1 with heap := h5 } := I1.kept (t' := s1.toks) kp
      refine ⟨s1.heap.objs.size + 4, [s1.heap.objs.size + 4, s1.heap.objs.size + 2, s1.heap.objs.size + 3, s1.heap.objs.size, s1.heap.objs.size + 1], _, _, H1, rfl, J, turn_zipM (PySem.W.ktu_apart s1.heap.objs.size a b l1 l2), ⟨k5, k3, ⟨_, _, k4⟩, itB0 t k1, itB0 u k2⟩, fun c hcm => ?_, q⟩
      have ge : s1.heap.objs.size ≤ c := by
        rcases five hcm with z | z | z | z | z <;> rw [z]
        · exact Nat.le_add_right _ _
        · exact Nat.le_add_right _ _
        · exact Nat.le_add_right _ _
        · exact Nat.le_refl _
        · exact Nat.le_add_right _ _
      exact I1.fpOk ge (I1.hok.fresh ge)
theorem walk_zipM {K : PySem.W.Frag} {t u : Bool} {a b : Addr} {xs ys : List V} {n : Nat} (hn : n = min xs.length ys.length) : Walk (ItzM K t u a b) n (fun H => SqB K t H a xs ∧ SqB K u H b ys) (YPair (fun i => xs[i]?) fun i => ys[i]?) where
  goes := fun i _ hi q => ⟨xs, ys, xs[i]'(by omega), ys[i]'(by omega), q.1, q.2, List.getElem?_eq_getElem _, List.getElem?_eq_getElem _⟩
  stops := fun _ q => ⟨xs, ys, q.1, q.2, by omega⟩
  yields := fun i H v H2 _ q y => let ⟨p, x, z, h1, h2, h3, h4, h5⟩ := y; ⟨p, x, z, h1, h2, h3, h4 xs q.1, h5 ys q.2⟩
end ZM
set_option linter.all false
namespace Huff
/-! ### the least cost by joining the two least counts, again and again -/
abbrev Asc (l : List Nat) : Prop := l.Pairwise (· ≤ ·)
def ins (a : Nat) : List Nat → List Nat
  | [] => [a]
  | b :: r => if a ≤ b then a :: b :: r else b :: ins a r
def srt : List Nat → List Nat
  | [] => []
  | a :: r => ins a (srt r)
theorem ins_perm (a : Nat) : ∀ l : List Nat, (ins a l).Perm (a :: l)
  | [] => .refl _
  | b :: r => by
    unfold ins
    split
    · exact .refl _
    · exact ((ins_perm a r).cons b).trans (.swap a b r)
theorem srt_perm : ∀ l : List Nat, (srt l).Perm l
  | [] => .refl _
  | a :: r => (ins_perm a (srt r)).trans ((srt_perm r).cons a)
theorem ins_asc (a : Nat) : ∀ {l : List Nat}, Asc l → Asc (ins a l)
  | [], _ => .cons (fun _ h => nomatch h) .nil
  | b :: r, h => by
    obtain ⟨h1, h2⟩ := List.pairwise_cons.mp h
    unfold ins
    split
    · rename_i c
      refine .cons (fun z hz => ?_) h
      rcases List.mem_cons.mp hz with rfl | hz
      · exact c
      · exact Nat.le_trans c (h1 z hz)
    · rename_i c
      refine .cons (fun z hz => ?_) (ins_asc a h2)
      rcases List.mem_cons.mp ((ins_perm a r).subset hz) with rfl | hz
      · omega
      · exact h1 z hz
theorem srt_asc : ∀ l : List Nat, Asc (srt l)
  | [] => .nil
  | a :: r => ins_asc a (srt_asc r)
theorem asc_uniq : ∀ {a b : List Nat}, Asc a → Asc b → a.Perm b → a = b
  | [], b, _, _, p => (List.nil_perm.mp p).symm
  | x :: a, [], _, _, p => by
    have := p.length_eq
    simp at this
  | x :: a, y :: b, h1, h2, p => by
    obtain ⟨g1, g2⟩ := List.pairwise_cons.mp h1
    obtain ⟨k1, k2⟩ := List.pairwise_cons.mp h2
    have e : x = y := by
      have m1 : x ∈ y :: b := p.subset List.mem_cons_self
      have m2 : y ∈ x :: a := p.symm.subset List.mem_cons_self
      rcases List.mem_cons.mp m1 with e | m1
      · exact e
      · rcases List.mem_cons.mp m2 with e | m2
        · exact e.symm
        · exact Nat.le_antisymm (g1 y m2) (k1 x m1)
    subst e
    rw [asc_uniq g2 k2 ((List.perm_cons x).mp p)]
theorem srt_eq {a b : List Nat} (h : Asc b) (p : a.Perm b) : srt a = b := asc_uniq (srt_asc a) h ((srt_perm a).trans p)
theorem srt_congr {a b : List Nat} (p : a.Perm b) : srt a = srt b := asc_uniq (srt_asc a) (srt_asc b) ((srt_perm a).trans (p.trans (srt_perm b).symm))
def hfF : Nat → List Nat → Nat
  | f + 1, a :: b :: r => (a + b) + hfF f (ins (a + b) r)
  | _, _ => 0
def hf (l : List Nat) : Nat := hfF l.length (srt l)
theorem hf_perm {a b : List Nat} (p : a.Perm b) : hf a = hf b := by
  unfold hf
  rw [p.length_eq, srt_congr p]
theorem hf_one (a : Nat) : hf [a] = 0 := rfl
theorem hf_two {l g : List Nat} {x y : Nat} (p : l.Perm (x :: y :: g)) (h : x ≤ y) (hg : ∀ z ∈ g, y ≤ z) : hf l = (x + y) + hf ((x + y) :: g) := by
  have e : srt l = x :: y :: srt g := by
    refine srt_eq (.cons (fun z hz => ?_) (.cons (fun z hz => hg z ((srt_perm g).subset hz)) (srt_asc g))) (p.trans (((srt_perm g).symm.cons y).cons x))
    rcases List.mem_cons.mp hz with rfl | hz
    · exact h
    · exact Nat.le_trans h (hg z ((srt_perm g).subset hz))
  unfold hf
  rw [e, p.length_eq]
  rfl
/-! ### full codes -/
def kl (L : Nat) (ls : List Nat) : Nat := (ls.map fun l => 2 ^ (L - l)).sum
theorem kl_cons (L a : Nat) (r : List Nat) : kl L (a :: r) = 2 ^ (L - a) + kl L r := rfl
theorem sum_perm {a b : List Nat} (p : a.Perm b) : a.sum = b.sum := p.sum_nat
theorem kl_perm {L : Nat} {a b : List Nat} (p : a.Perm b) : kl L a = kl L b := sum_perm (p.map _)
/-- counts with lengths: what they cost -/
def cst (ps : List (Nat × Nat)) : Nat := (ps.map fun p => p.1 * p.2).sum
theorem cst_cons (p : Nat × Nat) (r : List (Nat × Nat)) : cst (p :: r) = p.1 * p.2 + cst r := rfl
theorem cst_perm {a b : List (Nat × Nat)} (p : a.Perm b) : cst a = cst b := sum_perm (p.map _)
theorem le_min : ∀ {l : List Nat}, l ≠ [] → ∃ m ∈ l, ∀ z ∈ l, m ≤ z
  | [], h => absurd rfl h
  | [a], _ => ⟨a, List.mem_cons_self, fun z hz => by rw [List.mem_singleton.mp hz]; exact Nat.le_refl _⟩
  | a :: b :: r, _ => by
    obtain ⟨m, h1, h2⟩ := le_min (l := b :: r) (by simp)
    by_cases c : a ≤ m
    · refine ⟨a, List.mem_cons_self, fun z hz => ?_⟩
      rcases List.mem_cons.mp hz with rfl | hz
      · exact Nat.le_refl _
      · exact Nat.le_trans c (h2 z hz)
    · refine ⟨m, List.mem_cons_of_mem _ h1, fun z hz => ?_⟩
      rcases List.mem_cons.mp hz with rfl | hz
      · omega
      · exact h2 z hz
theorem le_max : ∀ {l : List Nat}, l ≠ [] → ∃ m ∈ l, ∀ z ∈ l, z ≤ m
  | [], h => absurd rfl h
  | [a], _ => ⟨a, List.mem_cons_self, fun z hz => by rw [List.mem_singleton.mp hz]; exact Nat.le_refl _⟩
  | a :: b :: r, _ => by
    obtain ⟨m, h1, h2⟩ := le_max (l := b :: r) (by simp)
    by_cases c : m ≤ a
    · refine ⟨a, List.mem_cons_self, fun z hz => ?_⟩
      rcases List.mem_cons.mp hz with rfl | hz
      · exact Nat.le_refl _
      · exact Nat.le_trans (h2 z hz) c
    · refine ⟨m, List.mem_cons_of_mem _ h1, fun z hz => ?_⟩
      rcases List.mem_cons.mp hz with rfl | hz
      · omega
      · exact h2 z hz
theorem mem_perm {α : Type} {a : α} : ∀ {l : List α}, a ∈ l → ∃ r, l.Perm (a :: r)
  | b :: r, h => by
    rcases List.mem_cons.mp h with rfl | h
    · exact ⟨r, .refl _⟩
    · obtain ⟨s, hs⟩ := mem_perm h
      exact ⟨b :: s, (hs.cons b).trans (.swap a b s)⟩
/-- the exchange: the least count takes the greatest length -/
theorem exch {ps : List (Nat × Nat)} {w M : Nat} (hw : w ∈ ps.map (·.1)) (hM : M ∈ ps.map (·.2)) (lw : ∀ p ∈ ps, w ≤ p.1) (lM : ∀ p ∈ ps, p.2 ≤ M) :
    ∃ r, (ps.map (·.1)).Perm (w :: r.map (·.1)) ∧ (ps.map (·.2)).Perm (M :: r.map (·.2)) ∧ w * M + cst r ≤ cst ps := by
  obtain ⟨⟨w', l⟩, m1, rfl⟩ := List.mem_map.mp hw
  obtain ⟨⟨v, M'⟩, m2, rfl⟩ := List.mem_map.mp hM
  obtain ⟨s, hs⟩ := mem_perm m1
  dsimp only at lw lM ⊢
  rcases List.mem_cons.mp (hs.subset m2) with e | m3
  · cases e
    refine ⟨s, hs.map (·.1), hs.map (·.2), ?_⟩
    rw [cst_perm hs, cst_cons]
    exact Nat.le_refl _
  · obtain ⟨t, ht⟩ := mem_perm m3
    have hp := hs.trans (ht.cons _)
    refine ⟨(v, l) :: t, ?_, ?_, ?_⟩
    · exact hp.map (·.1)
    · exact (hp.map (·.2)).trans (.swap _ _ _)
    · rw [cst_perm hp, cst_cons, cst_cons, cst_cons]
      dsimp only
      have h1 := lw _ m2
      have h2 := lM _ m1
      dsimp only at h1 h2
      obtain ⟨a, rfl⟩ := Nat.exists_eq_add_of_le h1
      obtain ⟨b, rfl⟩ := Nat.exists_eq_add_of_le h2
      simp only [Nat.mul_add, Nat.add_mul]
      have : 0 ≤ a * b := Nat.zero_le _
      omega
theorem kl_parity {M : Nat} : ∀ {ls : List Nat}, (∀ l ∈ ls, l ≤ M) → kl M ls % 2 = ls.count M % 2
  | [], _ => rfl
  | a :: r, h => by
    have ih := kl_parity (ls := r) fun l hl => h l (List.mem_cons_of_mem _ hl)
    have ha := h a List.mem_cons_self
    rw [kl_cons, List.count_cons]
    by_cases c : a = M
    · subst c
      rw [Nat.sub_self, if_pos (by exact beq_self_eq_true a)]
      show (1 + _) % 2 = _
      omega
    · rw [if_neg (by simpa using c), show M - a = (M - a - 1) + 1 by omega, Nat.pow_succ]
      omega
theorem kl_scale {L M : Nat} (h : M ≤ L) : ∀ {ls : List Nat}, (∀ l ∈ ls, l ≤ M) → kl L ls = 2 ^ (L - M) * kl M ls
  | [], _ => by simp [kl]
  | a :: r, hl => by
    have ha := hl a List.mem_cons_self
    rw [kl_cons, kl_cons, kl_scale h (ls := r) fun l z => hl l (List.mem_cons_of_mem _ z), Nat.mul_add, ← Nat.pow_add, show L - M + (M - a) = L - a by omega]
theorem kl_max {L M : Nat} (h : M ≤ L) {ls : List Nat} (hl : ∀ l ∈ ls, l ≤ M) (k : kl L ls = 2 ^ L) : kl M ls = 2 ^ M := by
  rw [kl_scale h hl, show L = (L - M) + M by omega, Nat.pow_add, show L - M + M - M = L - M by omega] at k
  exact Nat.eq_of_mul_eq_mul_left (Nat.two_pow_pos _) k
theorem kl_pos : ∀ {ls : List Nat}, ls ≠ [] → ∀ L, 0 < kl L ls
  | [], h, _ => absurd rfl h
  | a :: r, _, L => by
    rw [kl_cons]
    have := Nat.two_pow_pos (L - a)
    omega
/-- two words of the greatest length at least -/
theorem kl_twice {L M : Nat} {ls : List Nat} (n : 2 ≤ ls.length) (h : M ≤ L) (hl : ∀ l ∈ ls, l ≤ M) (m : M ∈ ls) (k : kl L ls = 2 ^ L) : 1 ≤ M ∧ ∃ r, ls.Perm (M :: M :: r) := by
  have k2 := kl_max h hl k
  have M1 : 1 ≤ M := by
    cases M with
    | zero =>
      exfalso
      match ls, n with
      | a :: b :: r, _ =>
        rw [kl_cons, kl_cons, Nat.zero_sub, Nat.zero_sub] at k2
        simp only [Nat.pow_zero] at k2
        omega
    | succ M => omega
  refine ⟨M1, ?_⟩
  obtain ⟨r, hr⟩ := mem_perm m
  have pr := kl_parity hl
  rw [k2, hr.count_eq, List.count_cons_self, show M = (M - 1) + 1 by omega, Nat.pow_succ] at pr
  have : 0 < r.count (M - 1 + 1) := by omega
  rw [show M - 1 + 1 = M by omega] at this
  obtain ⟨s, hs⟩ := mem_perm (List.count_pos_iff.mp this)
  exact ⟨s, hr.trans (hs.cons M)⟩
/-- no full code costs less -/
theorem opt : ∀ (n : Nat) (ps : List (Nat × Nat)) (L : Nat), ps.length = n → 1 ≤ n → (∀ p ∈ ps, p.2 ≤ L) → kl L (ps.map (·.2)) = 2 ^ L → hf (ps.map (·.1)) ≤ cst ps
  | 0, _, _, _, h, _, _ => absurd h (by decide)
  | 1, [p], _, _, _, _, _ => Nat.zero_le _
  | n + 2, ps, L, en, _, lb, k => by
    have ne : ps.map (·.2) ≠ [] := by
      intro e
      have := congrArg List.length e
      rw [List.length_map, en] at this
      cases this
    have ne1 : ps.map (·.1) ≠ [] := by
      intro e
      have := congrArg List.length e
      rw [List.length_map, en] at this
      cases this
    obtain ⟨M, mM, hM⟩ := le_max ne
    obtain ⟨w, mw, hw⟩ := le_min ne1
    have M_L : M ≤ L := by
      obtain ⟨p, mp, rfl⟩ := List.mem_map.mp mM
      exact lb p mp
    obtain ⟨M1, s, hs⟩ := kl_twice (by rw [List.length_map, en]; omega) M_L hM mM k
    obtain ⟨r, p1, p2, c1⟩ := exch mw mM (fun p hp => hw _ (List.mem_map_of_mem hp)) (fun p hp => hM _ (List.mem_map_of_mem hp))
    have pr2 : (r.map (·.2)).Perm (M :: s) := (List.perm_cons M).mp (p2.symm.trans hs)
    have mM2 : M ∈ r.map (·.2) := pr2.symm.subset List.mem_cons_self
    have lr : r.length = n + 1 := by
      have := p1.length_eq
      rw [List.length_map, List.length_cons, List.length_map, en] at this
      omega
    have ne2 : r.map (·.1) ≠ [] := by
      intro e
      have := congrArg List.length e
      rw [List.length_map, lr] at this
      cases this
    obtain ⟨v, mv, hv⟩ := le_min ne2
    have hM2 : ∀ p ∈ r, p.2 ≤ M := fun p hp => hM _ (p2.symm.subset (List.mem_cons_of_mem _ (List.mem_map_of_mem hp)))
    obtain ⟨q, q1, q2, c2⟩ := exch mv mM2 (fun p hp => hv _ (List.mem_map_of_mem hp)) hM2
    have pw := p1.trans (q1.cons w)
    have pl := p2.trans (q2.cons M)
    have wv : w ≤ v := hw v (p1.symm.subset (List.mem_cons_of_mem _ mv))
    have vq : ∀ z ∈ q.map (·.1), v ≤ z := fun z hz => hv z (q1.symm.subset (List.mem_cons_of_mem _ hz))
    rw [hf_two pw wv vq]
    have lq : q.length = n := by
      have := q1.length_eq
      rw [List.length_map, List.length_cons, List.length_map, lr] at this
      omega
    have ih : hf ((w + v) :: q.map (·.1)) ≤ (w + v) * (M - 1) + cst q := opt (n + 1) ((w + v, M - 1) :: q) L (by rw [List.length_cons, lq]) (by omega) (fun p hp => ?_) ?_
    · have e : (w + v) * M = (w + v) * (M - 1) + (w + v) := by
        conv => lhs; rw [show M = (M - 1) + 1 by omega]
        rw [Nat.mul_add, Nat.mul_one]
      rw [Nat.add_mul w v M] at e
      omega
    · rcases List.mem_cons.mp hp with rfl | hp
      · show M - 1 ≤ L
        omega
      · have := hM _ (pl.symm.subset (List.mem_cons_of_mem _ (List.mem_cons_of_mem _ (List.mem_map_of_mem (f := (·.2)) hp))))
        exact Nat.le_trans this M_L
    · rw [kl_perm pl, kl_cons, kl_cons] at k
      show kl L ((M - 1) :: q.map (·.2)) = _
      rw [kl_cons, ← k, show L - (M - 1) = (L - M) + 1 by omega, Nat.pow_succ]
      omega
end Huff
set_option linter.all false
namespace Huff
/-- a count with the number of its node -/
abbrev It := Nat × Nat
inductive Chain (n : Nat) (I0 : List It) : List (Nat × Nat) → List Nat → List It → Prop
  | nil {I : List It} : I.Perm I0 → Chain n I0 [] [] I
  | snoc {js : List (Nat × Nat)} {ms : List Nat} {I I' G : List It} {x y : It} : Chain n I0 js ms I → I.Perm (x :: y :: G) → x.1 ≤ y.1 → (∀ z ∈ G, y.1 ≤ z.1) → I'.Perm ((x.1 + y.1, n + js.length) :: G) →
      Chain n I0 (js ++ [(x.2, y.2)]) (ms ++ [x.1 + y.1]) I'
variable {n : Nat} {I0 I : List It} {js : List (Nat × Nat)} {ms : List Nat}
theorem Chain.len (c : Chain n I0 js ms I) : ms.length = js.length ∧ I.length + js.length = I0.length := by
  induction c with
  | nil p => exact ⟨rfl, p.length_eq⟩
  | snoc c p _ _ p' ih =>
    have h1 := p.length_eq
    have h2 := p'.length_eq
    simp only [List.length_append, List.length_cons, List.length_nil] at *
    omega
theorem Chain.hf (c : Chain n I0 js ms I) : Huff.hf (I0.map (·.1)) = ms.sum + Huff.hf (I.map (·.1)) := by
  induction c with
  | nil p => rw [hf_perm (p.map (·.1))]; simp
  | @snoc js ms I I' G x y c p h1 h2 p' ih =>
    have e : Huff.hf (I.map (·.1)) = (x.1 + y.1) + Huff.hf ((x.1 + y.1) :: G.map (·.1)) := hf_two (p.map (·.1)) h1 (fun z hz => by obtain ⟨v, hv, rfl⟩ := List.mem_map.mp hz; exact h2 v hv)
    have e2 : Huff.hf (I'.map (·.1)) = Huff.hf ((x.1 + y.1) :: G.map (·.1)) := hf_perm (p'.map (·.1))
    rw [ih, e, e2, List.sum_append, List.sum_singleton]
    omega
theorem Chain.ids (c : Chain n I0 js ms I) (nd : (I0.map (·.2)).Nodup) (lt : ∀ v ∈ I0, v.2 < n) : (I.map (·.2)).Nodup ∧ ∀ v ∈ I, v.2 < n + js.length := by
  induction c with
  | nil p => exact ⟨(p.map (·.2)).nodup_iff.mpr nd, fun v hv => lt v (p.subset hv)⟩
  | @snoc js ms I I' G x y c p h1 h2 p' ih =>
    obtain ⟨a, b⟩ := ih
    have a2 := (p.map (·.2)).nodup_iff.mp a
    obtain ⟨_, a3⟩ := List.nodup_cons.mp a2
    obtain ⟨_, a4⟩ := List.nodup_cons.mp a3
    have bG : ∀ v ∈ G, v.2 < n + js.length := fun v hv => b v (p.symm.subset (List.mem_cons_of_mem _ (List.mem_cons_of_mem _ hv)))
    refine ⟨(p'.map (·.2)).nodup_iff.mpr (List.nodup_cons.mpr ⟨fun z => ?_, a4⟩), fun v hv => ?_⟩
    · obtain ⟨v, hv, e⟩ := List.mem_map.mp z
      have := bG v hv
      dsimp only at e
      omega
    · rw [List.length_append]
      rcases List.mem_cons.mp (p'.subset hv) with rfl | hv
      · exact Nat.lt_succ_self _
      · have := bG v hv
        exact Nat.lt_succ_of_lt this
/-- how deep the nodes lie -/
structure Deep (L : Nat) (d : Nat → Nat) (I : List It) (t b : Nat) : Prop where
  kr : (I.map fun v => 2 ^ (L - d v.2)).sum = 2 ^ L
  co : (I.map fun v => v.1 * d v.2).sum = t
  hi : ∀ v ∈ I, d v.2 ≤ b
theorem Deep.perm {L : Nat} {d : Nat → Nat} {I I' : List It} {t b : Nat} (h : Deep L d I t b) (p : I.Perm I') : Deep L d I' t b :=
  ⟨by rw [← h.kr]; exact (sum_perm (p.map _)).symm, by rw [← h.co]; exact (sum_perm (p.map _)).symm, fun v hv => h.hi v (p.symm.subset hv)⟩
theorem Chain.back {p q : Nat} {L t b : Nat} {d d' : Nat → Nat} (c : Chain n I0 (js ++ [(p, q)]) ms I) (nd : (I0.map (·.2)).Nodup) (lt : ∀ v ∈ I0, v.2 < n) (h : Deep L d I t b) (hb : b < L)
    (e1 : d' p = d (n + js.length) + 1) (e2 : d' q = d (n + js.length) + 1) (e3 : ∀ v, v ≠ p → v ≠ q → d' v = d v) :
    p < n + js.length ∧ q < n + js.length ∧ p ≠ q ∧ ∃ ms' s I', ms = ms' ++ [s] ∧ Chain n I0 js ms' I' ∧ Deep L d' I' (t + s) (b + 1) := by
  generalize ej : js ++ [(p, q)] = js2 at c
  cases c with
  | nil _ => simp at ej
  | @snoc js1 ms1 I1 _ G x y c pm h1 h2 p' =>
    obtain ⟨rfl, e⟩ := List.append_inj' ej rfl
    obtain ⟨a, bb⟩ := c.ids nd lt
    have a2 := (pm.map (·.2)).nodup_iff.mp a
    have ex : p = x.2 ∧ q = y.2 := by
      have := List.singleton_inj.mp e
      exact ⟨congrArg Prod.fst this, congrArg Prod.snd this⟩
    obtain ⟨rfl, rfl⟩ := ex
    obtain ⟨a3, a4⟩ := List.nodup_cons.mp a2
    obtain ⟨a5, _⟩ := List.nodup_cons.mp a4
    have ne : x.2 ≠ y.2 := fun z => a3 (by show x.2 ∈ _; rw [z]; exact List.mem_cons_self)
    have eG : ∀ v ∈ G, d' v.2 = d v.2 := fun v hv => e3 _ (fun z => a3 (List.mem_cons_of_mem _ (List.mem_map.mpr ⟨v, hv, z⟩))) (fun z => a5 (List.mem_map.mpr ⟨v, hv, z⟩))
    have H := h.perm p'
    have k1 := H.kr
    have k2 := H.co
    have k3 := H.hi _ List.mem_cons_self
    simp only [List.map_cons, List.sum_cons] at k1 k2
    dsimp only at k3
    refine ⟨bb x (pm.symm.subset List.mem_cons_self), bb y (pm.symm.subset (List.mem_cons_of_mem _ List.mem_cons_self)), ne, ms1, x.1 + y.1, I1, rfl, c, Deep.perm (I := x :: y :: G) ⟨?_, ?_, ?_⟩ pm.symm⟩
    · simp only [List.map_cons, List.sum_cons]
      rw [e1, e2, List.map_congr_left (fun v hv => by rw [eG v hv]) (g := fun v => 2 ^ (L - d v.2)), ← k1, show L - d (n + js.length) = (L - (d (n + js.length) + 1)) + 1 by omega, Nat.pow_succ]
      omega
    · simp only [List.map_cons, List.sum_cons]
      rw [e1, e2, List.map_congr_left (fun v hv => by rw [eG v hv]) (g := fun v => v.1 * d v.2), ← k2, Nat.mul_add, Nat.mul_add, Nat.add_mul]
      omega
    · intro v hv
      rcases List.mem_cons.mp hv with rfl | hv
      · rw [e1]
        omega
      · rcases List.mem_cons.mp hv with rfl | hv
        · rw [e2]
          omega
        · rw [eG v hv]
          have := H.hi v (List.mem_cons_of_mem _ hv)
          omega
/-! ### two rows, each ascending -/
abbrev AscI (l : List It) : Prop := l.Pairwise fun a b => a.1 ≤ b.1
def Pk (lv md : List It) (x : It) (lv' md' : List It) : Prop := (lv = x :: lv' ∧ md' = md ∧ ∀ z ∈ md, x.1 ≤ z.1) ∨ (md = x :: md' ∧ lv' = lv ∧ ∀ z ∈ lv, x.1 ≤ z.1)
theorem Pk.perm {lv md lv' md' : List It} {x : It} (h : Pk lv md x lv' md') : (lv ++ md).Perm (x :: (lv' ++ md')) := by
  rcases h with ⟨rfl, rfl, _⟩ | ⟨rfl, rfl, _⟩
  · exact .refl _
  · exact List.perm_middle
theorem Pk.asc {lv md lv' md' : List It} {x : It} (h : Pk lv md x lv' md') (a : AscI lv) (b : AscI md) : AscI lv' ∧ AscI md' ∧ ∀ z ∈ lv' ++ md', x.1 ≤ z.1 := by
  rcases h with ⟨rfl, rfl, h⟩ | ⟨rfl, rfl, h⟩
  · obtain ⟨a1, a2⟩ := List.pairwise_cons.mp a
    exact ⟨a2, b, fun z hz => (List.mem_append.mp hz).elim (a1 z) (h z)⟩
  · obtain ⟨a1, a2⟩ := List.pairwise_cons.mp b
    exact ⟨a, a2, fun z hz => (List.mem_append.mp hz).elim (h z) (a1 z)⟩
theorem Pk.sub {lv md lv' md' : List It} {x : It} (h : Pk lv md x lv' md') : (∀ z ∈ lv', z ∈ lv) ∧ ∀ z ∈ md', z ∈ md := by
  rcases h with ⟨rfl, rfl, h⟩ | ⟨rfl, rfl, h⟩
  · exact ⟨fun z hz => List.mem_cons_of_mem _ hz, fun z hz => hz⟩
  · exact ⟨fun z hz => hz, fun z hz => List.mem_cons_of_mem _ hz⟩
/-- the two rows, and what is known of them -/
structure Two (lv md : List It) : Prop where
  l : AscI lv
  m : AscI md
  pq : ∃ p q : Nat, (∀ z ∈ md, z.1 ≤ p + q) ∧ ∀ z ∈ lv ++ md, p ≤ z.1 ∧ q ≤ z.1
theorem Two.start {lv : List It} (h : AscI lv) : Two lv [] := ⟨h, .nil, 0, 0, (fun z hz => nomatch hz), fun z _ => ⟨Nat.zero_le _, Nat.zero_le _⟩⟩
theorem Two.step {lv md lv1 md1 lv2 md2 : List It} {x y : It} {i : Nat} (t : Two lv md) (k1 : Pk lv md x lv1 md1) (k2 : Pk lv1 md1 y lv2 md2) :
    (lv ++ md).Perm (x :: y :: (lv2 ++ md2)) ∧ x.1 ≤ y.1 ∧ (∀ z ∈ lv2 ++ md2, y.1 ≤ z.1) ∧ Two lv2 (md2 ++ [(x.1 + y.1, i)]) := by
  obtain ⟨a1, b1, c1⟩ := k1.asc t.l t.m
  obtain ⟨a2, b2, c2⟩ := k2.asc a1 b1
  have xy : x.1 ≤ y.1 := c1 y (k2.perm.symm.subset List.mem_cons_self)
  obtain ⟨p, q, h1, h2⟩ := t.pq
  have hx := h2 x (k1.perm.symm.subset List.mem_cons_self)
  have hy := h2 y (k1.perm.symm.subset (List.mem_cons_of_mem _ (k2.perm.symm.subset List.mem_cons_self)))
  have hm : ∀ z ∈ md2, z.1 ≤ x.1 + y.1 := fun z hz => by
    have := h1 z (k1.sub.2 z (k2.sub.2 z hz))
    omega
  refine ⟨k1.perm.trans (k2.perm.cons x), xy, c2, a2, List.pairwise_append.mpr ⟨b2, .cons (fun z hz => nomatch hz) .nil, fun z hz u hu => ?_⟩, x.1, y.1, fun z hz => ?_, fun z hz => ?_⟩
  · rw [List.mem_singleton.mp hu]
    exact hm z hz
  · rcases List.mem_append.mp hz with hz | hz
    · exact hm z hz
    · rw [List.mem_singleton.mp hz]
      exact Nat.le_refl _
  · rw [← List.append_assoc] at hz
    rcases List.mem_append.mp hz with hz | hz
    · have := c2 z hz
      omega
    · rw [List.mem_singleton.mp hz]
      dsimp only
      omega
end Huff
set_option linter.all false
namespace Huff
/-- lengths times counts, added up -/
def dot (ls cs : List Nat) : Nat := cst (cs.zip ls)
theorem cst_zip_fst {cs ls : List Nat} (h : cs.length = ls.length) : (cs.zip ls).map (·.1) = cs := by
  rw [← List.unzip_fst, List.unzip_zip_left (by omega)]
theorem cst_zip_snd {cs ls : List Nat} (h : cs.length = ls.length) : (cs.zip ls).map (·.2) = ls := by
  rw [← List.unzip_snd, List.unzip_zip_right (by omega)]
/-- lengths of a full code -/
def Full (ls : List Nat) : Prop := ∃ L, (∀ l ∈ ls, l ≤ L) ∧ kl L ls = 2 ^ L
/-- no full code costs less than joining -/
theorem hf_le {cs ls : List Nat} (h : cs.length = ls.length) (n : 1 ≤ ls.length) (f : Full ls) : hf cs ≤ dot ls cs := by
  obtain ⟨L, h1, h2⟩ := f
  have := opt ls.length (cs.zip ls) L (by rw [List.length_zip]; omega) n (fun p hp => h1 _ (List.of_mem_zip hp).2) (by rw [cst_zip_snd h]; exact h2)
  rw [cst_zip_fst h] at this
  exact this
theorem dot_cons (l c : Nat) (ls cs : List Nat) : dot (l :: ls) (c :: cs) = c * l + dot ls cs := rfl
theorem dot_nil (cs : List Nat) : dot [] cs = 0 := by
  unfold dot
  rw [List.zip_nil_right]
  rfl
/-- counts and so many steps -/
def stp (cs ss : List Nat) (m : Nat) : List Nat := List.zipWith (fun c s => c + m * s) cs ss
theorem stp_len {cs ss : List Nat} {m : Nat} (h : ss.length = cs.length) : (stp cs ss m).length = cs.length := by
  unfold stp
  rw [List.length_zipWith]
  omega
theorem dot_stp : ∀ (ls cs ss : List Nat) (m : Nat), ss.length = cs.length → dot ls (stp cs ss m) = dot ls cs + m * dot ls ss
  | [], _, _, _, _ => by rw [dot_nil, dot_nil, dot_nil]; rfl
  | l :: ls, [], [], m, _ => by simp [stp, dot, cst]
  | l :: ls, c :: cs, s :: ss, m, h => by
    have ih := dot_stp ls cs ss m (by simpa using h)
    show dot (l :: ls) ((c + m * s) :: stp cs ss m) = _
    rw [dot_cons, dot_cons, dot_cons, ih, Nat.add_mul, Nat.mul_add, Nat.mul_assoc]
    omega
  | _ :: _, [], _ :: _, _, h => by simp at h
  | _ :: _, _ :: _, [], _, h => by simp at h
theorem dot_le : ∀ {ls cs : List Nat} {b : Nat}, (∀ l ∈ ls, l ≤ b) → ls.length = cs.length → dot ls cs ≤ b * cs.sum
  | [], [], b, _, _ => by rw [dot_nil]; exact Nat.zero_le _
  | l :: ls, c :: cs, b, h, e => by
    have ih := dot_le (ls := ls) (cs := cs) (fun x hx => h x (List.mem_cons_of_mem _ hx)) (by simpa using e)
    have hl := h l List.mem_cons_self
    rw [dot_cons, List.sum_cons, Nat.mul_add, Nat.mul_comm c l]
    exact Nat.add_le_add (Nat.mul_le_mul_right _ hl) ih
  | [], _ :: _, _, _, e => by simp at e
  | _ :: _, [], _, _, e => by simp at e
theorem sum_le : ∀ {ls cs : List Nat}, (∀ l ∈ ls, 1 ≤ l) → ls.length = cs.length → cs.sum ≤ dot ls cs
  | [], [], _, _ => by rw [dot_nil]; exact Nat.le_refl _
  | l :: ls, c :: cs, h, e => by
    have ih := sum_le (ls := ls) (cs := cs) (fun x hx => h x (List.mem_cons_of_mem _ hx)) (by simpa using e)
    have hl := h l List.mem_cons_self
    rw [dot_cons, List.sum_cons]
    have : c ≤ c * l := Nat.le_mul_of_pos_right c hl
    omega
  | [], _ :: _, _, e => by simp at e
  | _ :: _, [], _, e => by simp at e
theorem dot_range {ls cs : List Nat} (h : cs.length = ls.length) : ((List.range ls.length).map fun i => cs.getD i 0 * ls.getD i 0).sum = dot ls cs := by
  unfold dot cst
  congr 1
  refine List.ext_getElem (by simp [h]) fun i h1 h2 => ?_
  simp only [List.length_map, List.length_range] at h1
  simp [List.getElem?_eq_getElem (show i < cs.length by omega), List.getElem?_eq_getElem h1]
/-- the items that a row of counts gives -/
theorem zipIdx_fst (cs : List Nat) : cs.zipIdx.map (·.1) = cs := by
  rw [List.zipIdx_map_fst]
theorem zipIdx_snd (cs : List Nat) : cs.zipIdx.map (·.2) = List.range cs.length := by
  rw [List.zipIdx_map_snd, List.range_eq_range']
theorem zipIdx_nd (cs : List Nat) : (cs.zipIdx.map (·.2)).Nodup := by
  rw [zipIdx_snd]
  exact List.nodup_range
theorem zipIdx_lt {cs : List Nat} : ∀ v ∈ cs.zipIdx, v.2 < cs.length := fun v hv => by
  have : v.2 ∈ cs.zipIdx.map (·.2) := List.mem_map_of_mem hv
  rw [zipIdx_snd] at this
  exact List.mem_range.mp this
/-- the joined rows' depths are a full code's lengths, and cost what the joins cost -/
theorem Deep.end_ {L : Nat} {d : Nat → Nat} {cs : List Nat} {I : List It} {t b : Nat} (h : Deep L d I t b) (p : I.Perm cs.zipIdx) :
    kl L ((List.range cs.length).map d) = 2 ^ L ∧ dot ((List.range cs.length).map d) cs = t ∧ ∀ l ∈ (List.range cs.length).map d, l ≤ b := by
  have H := h.perm p
  refine ⟨?_, ?_, fun l hl => ?_⟩
  · rw [← H.kr, ← zipIdx_snd]
    unfold kl
    rw [List.map_map, List.map_map]
    rfl
  · rw [← H.co]
    unfold dot cst
    congr 1
    refine List.ext_getElem (by simp) fun i h1 h2 => ?_
    simp at h1
    simp
  · obtain ⟨i, hi, rfl⟩ := List.mem_map.mp hl
    have : i ∈ cs.zipIdx.map (·.2) := by rw [zipIdx_snd]; exact hi
    obtain ⟨v, hv, rfl⟩ := List.mem_map.mp this
    exact H.hi v hv
theorem full_pos {ls : List Nat} {L : Nat} (n : 2 ≤ ls.length) (k : kl L ls = 2 ^ L) : ∀ l ∈ ls, 1 ≤ l := fun l hl => by
  obtain ⟨r, hr⟩ := mem_perm hl
  rw [kl_perm hr, kl_cons] at k
  have ne : r ≠ [] := by
    rintro rfl
    have := hr.length_eq
    simp at this
    omega
  have := kl_pos ne L
  by_cases c : 1 ≤ l
  · exact c
  · have : l = 0 := by omega
    subst this
    rw [Nat.sub_zero] at k
    omega
/-! ### how long a code stays the least one -/
def Least (ls cs : List Nat) : Prop := dot ls cs = hf cs
/-- what is known of a code that costs least -/
structure Best (bs cs : List Nat) : Prop where
  len : bs.length = cs.length
  full : Full bs
  eq : dot bs cs = hf cs
theorem least_both {ls cs ss : List Nat} {m : Nat} {b : List Nat} (e1 : ls.length = cs.length) (e2 : ss.length = cs.length) (n : 1 ≤ ls.length) (f : Full ls) (hc : Least ls cs) (hs : Least ls ss) (hb : Best b (stp cs ss m)) : Least ls (stp cs ss m) := by
  unfold Least
  refine Nat.le_antisymm ?_ (hf_le (by rw [stp_len e2]; exact e1.symm) n f)
  have lb := hb.len
  rw [stp_len e2] at lb
  rw [← hb.eq, dot_stp _ _ _ _ e2, dot_stp _ _ _ _ e2]
  have h1 := hf_le (cs := cs) (ls := b) lb.symm (by omega) hb.full
  have h2 := hf_le (cs := ss) (ls := b) (by omega) (by omega) hb.full
  rw [← hc] at h1
  rw [← hs] at h2
  exact Nat.add_le_add h1 (Nat.mul_le_mul_left m h2)
/-- between nought and a number at which it is least -/
theorem least_between {ls cs ss : List Nat} {m M : Nat} {b : List Nat} (e1 : ls.length = cs.length) (e2 : ss.length = cs.length) (n : 1 ≤ ls.length) (f : Full ls) (hc : Least ls cs) (hM : Least ls (stp cs ss M)) (le : m ≤ M) (hb : Best b (stp cs ss m)) : Least ls (stp cs ss m) := by
  unfold Least
  refine Nat.le_antisymm ?_ (hf_le (by rw [stp_len e2]; exact e1.symm) n f)
  have lb := hb.len
  rw [stp_len e2] at lb
  rw [← hb.eq, dot_stp _ _ _ _ e2, dot_stp _ _ _ _ e2]
  have h1 := hf_le (cs := cs) (ls := b) lb.symm (by omega) hb.full
  have h2 := hf_le (cs := stp cs ss M) (ls := b) (by rw [stp_len e2]; omega) (by omega) hb.full
  rw [← hc] at h1
  rw [← hM, dot_stp _ _ _ _ e2, dot_stp _ _ _ _ e2] at h2
  by_cases c : dot ls ss ≤ dot b ss
  · exact Nat.add_le_add h1 (Nat.mul_le_mul_left m c)
  · obtain ⟨d, hd⟩ := Nat.exists_eq_add_of_le (show dot b ss ≤ dot ls ss by omega)
    rw [hd, Nat.mul_add] at h2 ⊢
    have : m * d ≤ M * d := Nat.mul_le_mul_right d le
    omega
/-- a code that is better by some steps is better for all greater numbers -/
theorem not_least {ls cs ss b : List Nat} {m : Nat} (e1 : b.length = cs.length) (e2 : ss.length = cs.length) (n : 1 ≤ b.length) (f : Full b) (h : dot b cs + m * dot b ss < dot ls cs + m * dot ls ss) : ¬ Least ls (stp cs ss m) := fun z => by
  have := hf_le (cs := stp cs ss m) (ls := b) (by rw [stp_len e2]; exact e1.symm) n f
  rw [← z, dot_stp _ _ _ _ e2, dot_stp _ _ _ _ e2] at this
  omega
/-- the first number is great enough -/
theorem last_start {ls cs ss b : List Nat} (e1 : ls.length = cs.length) (e2 : ss.length = cs.length) (n : 2 ≤ ls.length) (p : ∀ l ∈ ls, 1 ≤ l) (hb : Best b ss) (bb : ∀ l ∈ b, l ≤ ls.length) (hs : ¬ Least ls ss) (f : Full ls) {m : Nat} (hm : dot ls cs * ls.length + 1 ≤ m) :
    ¬ Least ls (stp cs ss m) := by
  have lb := hb.len
  refine not_least (by omega) e2 (by omega) hb.full ?_
  have h1 : dot b ss < dot ls ss := by
    have := hf_le (cs := ss) (ls := ls) (by omega) (by omega) f
    rw [hb.eq]
    unfold Least at hs
    omega
  have h2 : dot b cs ≤ ls.length * cs.sum := dot_le bb (by omega)
  have h3 : cs.sum ≤ dot ls cs := sum_le p e1
  have h4 : ls.length * cs.sum ≤ ls.length * dot ls cs := Nat.mul_le_mul_left _ h3
  rw [Nat.mul_comm ls.length (dot ls cs)] at h4
  have h5 : m * (dot b ss + 1) ≤ m * dot ls ss := Nat.mul_le_mul_left m h1
  rw [Nat.mul_add, Nat.mul_one] at h5
  omega
/-- one turn: a better code is met -/
theorem last_turn {ls cs ss b : List Nat} {many : Nat} (e1 : ls.length = cs.length) (e2 : ss.length = cs.length) (n : 1 ≤ ls.length) (hc : Least ls cs) (hb : Best b (stp cs ss many)) (g : dot b (stp cs ss many) < dot ls (stp cs ss many)) :
    dot ls cs ≤ dot b cs ∧ dot b ss < dot ls ss ∧ (dot b cs - dot ls cs) / (dot ls ss - dot b ss) < many ∧ ∀ m, (dot b cs - dot ls cs) / (dot ls ss - dot b ss) < m → ¬ Least ls (stp cs ss m) := by
  have lb := hb.len
  rw [stp_len e2] at lb
  have h1 := hf_le (cs := cs) (ls := b) lb.symm (by omega) hb.full
  rw [← hc] at h1
  rw [dot_stp _ _ _ _ e2, dot_stp _ _ _ _ e2] at g
  have h2 : dot b ss < dot ls ss := by
    refine Nat.lt_of_not_le fun z => ?_
    have := Nat.mul_le_mul_left many z
    omega
  obtain ⟨d, hd⟩ := Nat.exists_eq_add_of_lt h2
  obtain ⟨a, ha⟩ := Nat.exists_eq_add_of_le h1
  have key : ∀ m, a < m * (d + 1) → dot b cs + m * dot b ss < dot ls cs + m * dot ls ss := fun m hm => by
    rw [hd, ha, show dot b ss + d + 1 = dot b ss + (d + 1) by omega, Nat.mul_add m (dot b ss) (d + 1)]
    omega
  have ea : dot b cs - dot ls cs = a := by omega
  have ed : dot ls ss - dot b ss = d + 1 := by omega
  rw [ea, ed]
  refine ⟨h1, h2, ?_, fun m hm => ?_⟩
  · rw [hd, ha, show dot b ss + d + 1 = dot b ss + (d + 1) by omega, Nat.mul_add] at g
    exact (Nat.div_lt_iff_lt_mul (by omega)).mpr (by omega)
  · exact not_least lb e2 (by omega) hb.full (key m ((Nat.div_lt_iff_lt_mul (by omega)).mp hm))
end Huff
set_option Elab.async false
set_option linter.all false
set_option maxRecDepth 100001
set_option maxHeartbeats 3999999
namespace K38
open PySem L2
open Huff (hf dot Full Least Best stp)
abbrev sCostOf' : Stmt := sCostOf
def nV (ns : List Nat) : List V := ns.map fun n : Nat => V.int (n : Nat)
theorem nV_len (cs : List Nat) : (nV cs).length = cs.length := List.length_map _
theorem nV_app (a b : List Nat) : nV (a ++ b) = nV a ++ nV b := List.map_append
theorem nV_frm (cs : List Nat) : ∀ v ∈ nV cs, frm v 0 = true := fun v hv => by
  obtain ⟨c, _, rfl⟩ := List.mem_map.mp hv
  exact decide_eq_true (Int.natCast_nonneg c)
theorem nV_kn {H : Hp} (cs : List Nat) : ∀ v ∈ nV cs, Kn H v := fun v hv => by
  obtain ⟨c, _, rfl⟩ := List.mem_map.mp hv
  exact .int _
theorem nV_num (cs : List Nat) : ∀ v ∈ nV cs, Num v := fun v hv => by
  obtain ⟨c, _, rfl⟩ := List.mem_map.mp hv
  exact .inr ⟨_, rfl⟩
theorem lAt_get {ls : List Nat} {i : Nat} (h : i < ls.length) : lAt ls i = ls[i] := by
  show ls.getD i 0 = _
  rw [List.getD_eq_getElem?_getD, List.getElem?_eq_getElem h]
  rfl
theorem nV_get {ls : List Nat} {i : Nat} {x : V} (e : (nV ls)[i]? = some x) : i < ls.length ∧ x = .int ((lAt ls i : Nat) : Int) := by
  unfold nV at e
  rw [List.getElem?_map] at e
  cases h : ls[i]? with
  | none => rw [h] at e; cases e
  | some y =>
    rw [h] at e
    obtain ⟨lt, ey⟩ := List.getElem?_eq_some_iff.mp h
    cases e
    exact ⟨lt, by rw [lAt_get lt, ey]⟩
theorem nV_at {ls : List Nat} {i : Nat} (h : i < ls.length) : (nV ls)[i]? = some (.int ((lAt ls i : Nat) : Int)) := by
  unfold nV
  rw [List.getElem?_map, List.getElem?_eq_getElem h, lAt_get h]
  rfl
theorem nV_range (f : Nat → Nat) (n : Nat) : (List.range n).map (fun i => V.int ((f i : Nat) : Int)) = nV ((List.range n).map f) := by
  unfold nV
  rw [List.map_map]
  rfl
theorem dot_sum {ls cs : List Nat} (h : cs.length = ls.length) : ((List.range ls.length).map fun i => ((lAt cs i * lAt ls i : Nat) : Int)).sum = ((dot ls cs : Nat) : Int) := by
  rw [← Huff.dot_range h, ← sum_cast, List.map_map]
  rfl
/-- small lengths -/
def Sm (ls : List Nat) : Prop := ∀ l ∈ ls, l ≤ 100
def spCOf : Sp := fun vs H Q _ => ∃ (lt cp : Addr) (ls cs : List Nat), vs = [.ref lt, .ref cp] ∧ H lt = some (.tup (nV ls)) ∧ H cp = some (.lst (nV cs)) ∧ cs.length = ls.length ∧ ls.length ≤ 5000 ∧ Sm ls ∧
  ∀ H', Same H H' → Q (.int ((dot ls cs : Nat) : Int)) H'
def spCOfT : Sp := fun vs H Q _ => ∃ (lt cp : Addr) (ls cs : List Nat), vs = [.ref lt, .ref cp] ∧ H lt = some (.tup (nV ls)) ∧ H cp = some (.tup (nV cs)) ∧ cs.length = ls.length ∧ ls.length ≤ 5000 ∧ Sm ls ∧
  ∀ H', Same H H' → Q (.int ((dot ls cs : Nat) : Int)) H'
def spCOfA : Sp := fun vs H Q _ => ∃ (lt cp : Addr) (ls cs : List Nat), vs = [.ref lt, .ref cp] ∧ H lt = some (.tup (nV ls)) ∧ LT H cp (nV cs) ∧ cs.length = ls.length ∧ ls.length ≤ 5000 ∧ Sm ls ∧
  ∀ H', Same H H' → Q (.int ((dot ls cs : Nat) : Int)) H'
section
variable {P : Program} {w : World} {K : PySem.W.Frag} {mg : Str → Option Value} {base : Heap}
theorem scCOf : FnScope ["lengths", "counts", "count", "length"] ["lengths", "counts"] (defScope sCostOf) := ⟨rfl, rfl, rfl, by decide +kernel, rfl, by decide +kernel, by decide +kernel⟩
theorem ok_cof {f : Addr} {fd : FuncData} (F : Fun K "cost_of" "cost_of" sCostOf f fd) (Z : Bs mg) (mz : mg "zip" = none) : FnOk P w K mg base CX0 1 f fd ["lengths", "counts"] spCOf := by
  refine F.ok scCOf (fun vs H Q E h => ?_) (fun cdv A outer s H vs Q E hr h => ?_)
  · obtain ⟨lt, cp, ls, cs, rfl, _⟩ := h
    rfl
  · obtain ⟨lt, cp, ls, cs, rfl, hl, hc, el, l5, sm, q⟩ := h
    refine ⟨_, pss_one (ps_ret (pe_sum rfl Z.sum (pa_cons (pe_lc (own := [("count", 2), ("length", 3)]) rfl scCOf.nd (ZM.pi_zipM false true mz (pa_cons (pv 1) (pa_cons (pv 0) pa_nil))) (blkOk_by (N := ["lengths", "counts", "count", "length"]) (sc := defScope sCostOf) (by decide +kernel))
          (fun _ _ _ _ _ => pg_pairK K rfl rfl (pg_name (i := 2) scCOf.nd rfl (Or.inl rfl) (.inr rfl)) (pg_name (i := 3) scCOf.nd rfl (Or.inl rfl) (.inr rfl))) (fun _ _ _ _ _ => pts_nil) (fun _ _ _ _ _ => pe_op op_mul (pv 2) (pv 3))) pa_nil))), ?_⟩
    have eN : min (nV cs).length (nV ls).length = ls.length := by rw [nV_len, nV_len, el, Nat.min_self]
    refine ⟨_, rfl, _, rfl, cp, lt, nV cs, nV ls, rfl, SqL.of hc, SqT.of hl, fun D nD => lcM (ZM.walk_zipM eN.symm) (fun i => .int ((lAt cs i * lAt ls i : Nat) : Int)) (by omega) nD (fun H' e => ⟨SqL.of (e _ _ hc), SqT.of (e _ _ hl)⟩) ?_ ?_⟩
    · rintro i x H2 H3 N hi e ⟨T0, y, z, rfl, nT0, rfl, hy, hz⟩ hN
      obtain ⟨i1, rfl⟩ := nV_get hy
      obtain ⟨i2, rfl⟩ := nV_get hz
      have b1 := sm _ (List.getElem_mem i2)
      rw [← lAt_get i2] at b1
      refine ⟨T0, _, rfl, SqT.of upd_same, rfl, _, _, rfl, _, _, rfl, rfl, rfl, ?_⟩
      refine ⟨_, rfl, _, rfl, _, _, rfl, rfl, .inr ⟨by omega, by omega⟩, ?_⟩
      have := hN _ (same_new (o := .tup [.int ((lAt cs i : Nat) : Int), .int ((lAt ls i : Nat) : Int)]) nT0)
      rw [Int.natCast_mul] at this
      exact this
    · intro H4 e4 hD
      refine ⟨D, (List.range ls.length).map fun i => ((lAt cs i * lAt ls i : Nat) : Int), rfl, SqL.of (by rw [List.map_map]; exact hD), ?_⟩
      rw [dot_sum el]
      exact q H4 e4
theorem ok_cofT {f : Addr} {fd : FuncData} (F : Fun K "cost_of" "cost_of" sCostOf f fd) (Z : Bs mg) (mz : mg "zip" = none) : FnOk P w K mg base CX0 1 f fd ["lengths", "counts"] spCOfT := by
  refine F.ok scCOf (fun vs H Q E h => ?_) (fun cdv A outer s H vs Q E hr h => ?_)
  · obtain ⟨lt, cp, ls, cs, rfl, _⟩ := h
    rfl
  · obtain ⟨lt, cp, ls, cs, rfl, hl, hc, el, l5, sm, q⟩ := h
    refine ⟨_, pss_one (ps_ret (pe_sum rfl Z.sum (pa_cons (pe_lc (own := [("count", 2), ("length", 3)]) rfl scCOf.nd (ZM.pi_zipM true true mz (pa_cons (pv 1) (pa_cons (pv 0) pa_nil))) (blkOk_by (N := ["lengths", "counts", "count", "length"]) (sc := defScope sCostOf) (by decide +kernel))
          (fun _ _ _ _ _ => pg_pairK K rfl rfl (pg_name (i := 2) scCOf.nd rfl (Or.inl rfl) (.inr rfl)) (pg_name (i := 3) scCOf.nd rfl (Or.inl rfl) (.inr rfl))) (fun _ _ _ _ _ => pts_nil) (fun _ _ _ _ _ => pe_op op_mul (pv 2) (pv 3))) pa_nil))), ?_⟩
    have eN : min (nV cs).length (nV ls).length = ls.length := by rw [nV_len, nV_len, el, Nat.min_self]
    refine ⟨_, rfl, _, rfl, cp, lt, nV cs, nV ls, rfl, SqT.of hc, SqT.of hl, fun D nD => lcM (ZM.walk_zipM eN.symm) (fun i => .int ((lAt cs i * lAt ls i : Nat) : Int)) (by omega) nD (fun H' e => ⟨SqT.of (e _ _ hc), SqT.of (e _ _ hl)⟩) ?_ ?_⟩
    · rintro i x H2 H3 N hi e ⟨T0, y, z, rfl, nT0, rfl, hy, hz⟩ hN
      obtain ⟨i1, rfl⟩ := nV_get hy
      obtain ⟨i2, rfl⟩ := nV_get hz
      have b1 := sm _ (List.getElem_mem i2)
      rw [← lAt_get i2] at b1
      refine ⟨T0, _, rfl, SqT.of upd_same, rfl, _, _, rfl, _, _, rfl, rfl, rfl, ?_⟩
      refine ⟨_, rfl, _, rfl, _, _, rfl, rfl, .inr ⟨by omega, by omega⟩, ?_⟩
      have := hN _ (same_new (o := .tup [.int ((lAt cs i : Nat) : Int), .int ((lAt ls i : Nat) : Int)]) nT0)
      rw [Int.natCast_mul] at this
      exact this
    · intro H4 e4 hD
      refine ⟨D, (List.range ls.length).map fun i => ((lAt cs i * lAt ls i : Nat) : Int), rfl, SqL.of (by rw [List.map_map]; exact hD), ?_⟩
      rw [dot_sum el]
      exact q H4 e4
theorem ok_cofA {f : Addr} {fd : FuncData} (F : Fun K "cost_of" "cost_of" sCostOf f fd) (Z : Bs mg) (mz : mg "zip" = none) : FnOk P w K mg base CX0 1 f fd ["lengths", "counts"] spCOfA :=
  ((ok_cof F Z mz).or (ok_cofT F Z mz)).imp fun vs H Q E ⟨lt, cp, ls, cs, e, hl, hc, r⟩ => hc.elim (fun z => .inl ⟨lt, cp, ls, cs, e, hl, z, r⟩) fun z => .inr ⟨lt, cp, ls, cs, e, hl, z, r⟩
end
end K38
set_option linter.all false
namespace Huff
theorem zipIdx_lenN (ms : List Nat) (n : Nat) : (ms.zipIdx n).length = ms.length := List.length_zipIdx
theorem zipIdx_at {ms : List Nat} {n am : Nat} (h : am < ms.length) : (ms.zipIdx n).drop am = (ms[am], n + am) :: (ms.zipIdx n).drop (am + 1) := by
  rw [List.drop_eq_getElem_cons (by rw [zipIdx_lenN]; exact h)]
  simp
theorem zipIdx_snoc (ms : List Nat) (n s : Nat) : (ms ++ [s]).zipIdx n = ms.zipIdx n ++ [(s, n + ms.length)] := by
  rw [List.zipIdx_append]
  rfl
theorem zipIdx_drop {ms : List Nat} {n s am : Nat} (h : am ≤ ms.length) : ((ms ++ [s]).zipIdx n).drop am = (ms.zipIdx n).drop am ++ [(s, n + ms.length)] := by
  rw [zipIdx_snoc, List.drop_append_of_le_length (by rw [zipIdx_lenN]; exact h)]
theorem pick_leaf {lv : List It} {ms : List Nat} {n al am : Nat} (h : al < lv.length) (a : AscI ((ms.zipIdx n).drop am)) (c : ms.length ≤ am ∨ ∃ h2 : am < ms.length, lv[al].1 ≤ ms[am]) :
    Pk (lv.drop al) ((ms.zipIdx n).drop am) lv[al] (lv.drop (al + 1)) ((ms.zipIdx n).drop am) := by
  refine .inl ⟨List.drop_eq_getElem_cons h, rfl, fun z hz => ?_⟩
  rcases c with c | ⟨h2, c⟩
  · rw [List.drop_eq_nil_of_le (by rw [zipIdx_lenN]; exact c)] at hz
    cases hz
  · rw [zipIdx_at h2] at a hz
    obtain ⟨a1, _⟩ := List.pairwise_cons.mp a
    rcases List.mem_cons.mp hz with rfl | hz
    · exact c
    · exact Nat.le_trans c (a1 z hz)
theorem pick_made {lv : List It} {ms : List Nat} {n al am : Nat} (h : am < ms.length) (a : AscI (lv.drop al)) (c : lv.length ≤ al ∨ ∃ h2 : al < lv.length, ms[am] < lv[al].1) :
    Pk (lv.drop al) ((ms.zipIdx n).drop am) (ms[am], n + am) (lv.drop al) ((ms.zipIdx n).drop (am + 1)) := by
  refine .inr ⟨zipIdx_at h, rfl, fun z hz => ?_⟩
  rcases c with c | ⟨h2, c⟩
  · rw [List.drop_eq_nil_of_le c] at hz
    cases hz
  · rw [List.drop_eq_getElem_cons h2] at a hz
    obtain ⟨a1, _⟩ := List.pairwise_cons.mp a
    rcases List.mem_cons.mp hz with rfl | hz
    · exact Nat.le_of_lt c
    · exact Nat.le_trans (Nat.le_of_lt c) (a1 z hz)
inductive PkL (lv md : List It) : List It → List It → List It → Prop
  | nil : PkL lv md [] lv md
  | snoc {xs l m l' m' : List It} {x : It} : PkL lv md xs l m → Pk l m x l' m' → PkL lv md (xs ++ [x]) l' m'
theorem PkL.asc {lv md xs l m : List It} (k : PkL lv md xs l m) (a : AscI lv) (b : AscI md) : AscI l ∧ AscI m ∧ l.length + m.length + xs.length = lv.length + md.length := by
  induction k with
  | nil => exact ⟨a, b, rfl⟩
  | snoc k p ih =>
    obtain ⟨h1, h2, h3⟩ := ih
    obtain ⟨g1, g2, _⟩ := p.asc h1 h2
    have := p.perm.length_eq
    refine ⟨g1, g2, ?_⟩
    simp only [List.length_append, List.length_cons, List.length_nil] at *
    omega
theorem PkL.two {lv md xs l m : List It} (k : PkL lv md xs l m) (e : xs.length = 2) : ∃ x y l1 m1, xs = [x, y] ∧ Pk lv md x l1 m1 ∧ Pk l1 m1 y l m := by
  cases k with
  | nil => cases e
  | snoc k p =>
    rename_i xs0 l0 m0 x0
    cases k with
    | nil => cases e
    | snoc k q =>
      rename_i xs1 l1 m1 x1
      cases k with
      | nil => exact ⟨_, _, _, _, rfl, q, p⟩
      | snoc k r => simp at e
theorem two_lengths {lv : List It} {ms : List Nat} {n al am : Nat} (h1 : al ≤ lv.length) (h2 : am ≤ ms.length) : (lv.drop al).length + ((ms.zipIdx n).drop am).length = (lv.length - al) + (ms.length - am) := by
  rw [List.length_drop, List.length_drop, zipIdx_lenN]
/-- at the end one node is left, and the joins cost as much as the least code -/
theorem Chain.done {cs : List Nat} {js : List (Nat × Nat)} {ms : List Nat} {I : List It} (c : Chain cs.length cs.zipIdx js ms I) (h : cs.length ≤ js.length + 1) (n : 1 ≤ cs.length) : I.length ≤ 1 ∧ ms.sum = Huff.hf cs := by
  have l := c.len
  rw [zipIdx_lenN] at l
  have := c.hf
  rw [zipIdx_fst] at this
  have i1 : I.length ≤ 1 := by omega
  refine ⟨i1, ?_⟩
  rw [this]
  match I, i1 with
  | [], _ => rfl
  | [v], _ => rfl
end Huff
set_option Elab.async false
set_option linter.all false
set_option maxRecDepth 100001
set_option maxHeartbeats 3999999
namespace K38
open PySem L2
open Huff (hf dot Full Least Best stp Two Chain PkL Pk AscI two_lengths)
abbrev sJC : Stmt := topS 36
/-- a pair of numbers at a value -/
def PR (H : Hp) (v : V) (p : Nat × Nat) : Prop := ∃ t, v = .ref t ∧ H t = some (.tup [.int ((p.1 : Nat) : Int), .int ((p.2 : Nat) : Int)])
theorem PR.tt {H H' : Hp} {v : V} {p : Nat × Nat} (e : TT H H') (h : PR H v p) : PR H' v p := let ⟨t, h1, h2⟩ := h; ⟨t, h1, e _ _ h2⟩
theorem paired_imp {α β : Type} {F G : α → β → Prop} (h : ∀ a b, F a b → G a b) : ∀ {ts : List α} {ps : List β}, Paired F ts ps → Paired G ts ps
  | _, _, .nil => .nil
  | _, _, .cons x t => .cons (h _ _ x) (paired_imp h t)
theorem paired_len {α β : Type} {F : α → β → Prop} : ∀ {ts : List α} {ps : List β}, Paired F ts ps → ts.length = ps.length
  | _, _, .nil => rfl
  | _, _, .cons _ t => by rw [List.length_cons, List.length_cons, paired_len t]
theorem paired_of {α β : Type} {F : α → β → Prop} : ∀ {ts : List α} {ps : List β}, ts.length = ps.length → (∀ (i : Nat) (a : α) (b : β), ts[i]? = some a → ps[i]? = some b → F a b) → Paired F ts ps
  | [], [], _, _ => .nil
  | a :: ts, b :: ps, e, h => .cons (h 0 a b rfl rfl) (paired_of (by simpa using e) fun i x y h1 h2 => h (i + 1) x y (by simpa using h1) (by simpa using h2))
  | [], _ :: _, e, _ => by simp at e
  | _ :: _, [], e, _ => by simp at e
def PL (H : Hp) (xs : List V) (ps : List (Nat × Nat)) : Prop := Paired (PR H) xs ps
theorem PL.tt {H H' : Hp} {xs : List V} {ps : List (Nat × Nat)} (e : TT H H') (h : PL H xs ps) : PL H' xs ps := paired_imp (fun _ _ z => PR.tt e z) h
theorem PL.len {H : Hp} {xs : List V} {ps : List (Nat × Nat)} (h : PL H xs ps) : xs.length = ps.length := paired_len h
theorem PL.at {H : Hp} {xs : List V} {ps : List (Nat × Nat)} (h : PL H xs ps) {i : Nat} (hi : i < ps.length) : ∃ t, xs[i]? = some (.ref t) ∧ H t = some (.tup [.int ((ps[i].1 : Nat) : Int), .int ((ps[i].2 : Nat) : Int)]) := by
  obtain ⟨v, h1, t, rfl, h2⟩ := paired_to h (List.getElem?_eq_getElem hi)
  exact ⟨t, h1, h2⟩
/-- a comprehension of which R tells the items; R stays as long as tuples do -/
theorem lcR {J : It} {n : Nat} {G : Hp → Prop} {Y : Nat → Hp → V → Hp → Prop} (wk : Walk J n G Y) {g : TG} {te : TE} {vs : List Nat} {σ : St} {H1 : Hp} {D : Addr} {Qd : Hp → Prop} (R : Nat → V → Hp → Prop) (st : ∀ i v H H', TT H H' → R i v H → R i v H') (hb : n ≤ 10000) (nD : H1 D = none) (hG : ∀ H', Same H1 H' → G H')
    (hs : ∀ (i : Nat) (x : V) (H2 H3 : Hp) (N : VK), i < n → Same H1 H2 → Y i H2 x H3 → (∀ v H4, Same H2 H4 → R i v H4 → N v H4) → g x (wipe σ vs) H3 fun σ2 H4 => wipe σ2 vs = wipe σ vs ∧ te σ2 H4 N)
    (hd : ∀ acc H', Same H1 H' → acc.length = n → (∀ i v, acc[i]? = some v → R i v H') → H' D = some (.lst acc) → Qd H') :
    ∃ W : Nat → Nat → Hp → Prop, (∃ m, W 0 m (upd H1 D (.lst []))) ∧ ∀ i m H, W i m H →
      (J.stop i H ∧ Qd H) ∨ (J.go i H ∧ ∃ Nx : Hp → Prop, (∀ H', Nx H' → ∃ m', m' < m ∧ W (i + 1) m' H') ∧ ∀ x H', J.yld i H x H' → g x (wipe σ vs) H' fun σ2 H2 => wipe σ2 vs = wipe σ vs ∧ tYes σ2 H2 fun b H3 =>
        if b = true then te σ2 H3 fun y H4 => ∃ acc, H4 D = some (.lst acc) ∧ acc.length < sizeLine ∧ Nx (upd H4 D (.lst (acc ++ [y]))) else Nx H3) := by
  refine lc_it wk (fun i H' => Same H1 H' ∧ ∃ acc, H' D = some (.lst acc) ∧ acc.length = i ∧ ∀ j v, acc[j]? = some v → R j v H') ⟨same_new nD, [], upd_same, rfl, fun j v e => by simp at e⟩ (fun i H' _ z => hG H' z.1) ?_ (fun H' ⟨e, acc, h1, h2, h3⟩ => hd acc H' e h2 h3 h1)
  rintro i x H H' hi ⟨e1, acc, hD, la, ra⟩ y
  refine hs i x H H' _ hi e1 y fun v H4 e4 r => ⟨acc, e4 _ _ hD, by rw [la]; exact small10 (by omega), fun b o z => ?_, acc ++ [v], upd_same, by rw [List.length_append, la]; rfl, fun j u ju => ?_⟩
  · rw [upd_ne (ne_of_none z nD)]
    exact e4 _ _ (e1 _ _ z)
  · have tt : TT H4 (upd H4 D (.lst (acc ++ [v]))) := TT.lst (e4 _ _ hD)
    by_cases c : j < acc.length
    · rw [List.getElem?_append_left c] at ju
      exact st j u _ _ tt (st j u _ _ (TT.same e4) (ra j u ju))
    · rw [List.getElem?_append_right (by omega)] at ju
      obtain ⟨j0, hj⟩ : ∃ k, j - acc.length = k := ⟨_, rfl⟩
      rw [hj] at ju
      cases j0 with
      | zero =>
        cases ju
        have : j = i := by omega
        subst this
        exact st _ _ _ _ tt r
      | succ k => simp at ju
/-- what pair lies at a value -/
def kP (H : Hp) : V → Int × Int
  | .ref t => match H t with
    | some (.tup [.int a, .int b]) => (a, b)
    | _ => (0, 0)
  | _ => (0, 0)
theorem kP_of {H : Hp} {t : Addr} {a b : Int} (h : H t = some (.tup [.int a, .int b])) : kP H (.ref t) = (a, b) := by simp only [kP, h]
theorem kP_PR {H : Hp} {v : V} {p : Nat × Nat} (h : PR H v p) : kP H v = (((p.1 : Nat) : Int), ((p.2 : Nat) : Int)) := by
  obtain ⟨t, rfl, e⟩ := h
  exact kP_of e
/-- pairs in order -/
theorem pl_sorted {H : Hp} {acc ys : List V} {zs : List (Nat × Nat)} (h : PL H acc zs) (sr : SrtO.Srtd (ltP (kP H)) ys) (pm : ys.Perm acc) : ∃ lv : List (Nat × Nat), PL H ys lv ∧ lv.Perm zs ∧ AscI lv := by
  have key : ∀ v ∈ acc, ∃ p ∈ zs, PR H v p := fun v hv => by
    obtain ⟨i, hi⟩ := List.mem_iff_getElem?.mp hv
    obtain ⟨p, h1, h2⟩ := paired_get h hi
    exact ⟨p, List.mem_of_getElem? h1, h2⟩
  let g : V → Nat × Nat := fun v => ((kP H v).1.toNat, (kP H v).2.toNat)
  have gp : ∀ v p, PR H v p → g v = p := fun v p z => by
    show ((kP H v).1.toNat, (kP H v).2.toNat) = p
    rw [kP_PR z]
    show (((p.1 : Nat) : Int).toNat, ((p.2 : Nat) : Int).toNat) = p
    rw [Int.toNat_natCast, Int.toNat_natCast]
  have ez : acc.map g = zs := by
    have l := h.len
    refine List.ext_getElem (by rw [List.length_map, l]) fun i h1 h2 => ?_
    obtain ⟨t, e1, e2⟩ := h.at h2
    have e3 : acc[i]'(by rw [l]; exact h2) = .ref t := by
      have := List.getElem?_eq_getElem (l := acc) (i := i) (by rw [l]; exact h2)
      rw [this] at e1
      exact Option.some.inj e1
    rw [List.getElem_map, e3]
    exact gp _ _ ⟨t, rfl, e2⟩
  refine ⟨ys.map g, paired_of (by rw [List.length_map]) fun i a b h1 h2 => ?_, by rw [← ez]; exact pm.map g, ?_⟩
  · rw [List.getElem?_map, h1] at h2
    cases h2
    obtain ⟨p, _, hp⟩ := key a (pm.subset (List.mem_of_getElem? h1))
    rw [gp a p hp]
    exact hp
  · show (ys.map g).Pairwise _
    rw [List.pairwise_map]
    refine sr.imp_of_mem fun {a b} ha hb z => ?_
    obtain ⟨p, _, hp⟩ := key a (pm.subset ha)
    obtain ⟨q, _, hq⟩ := key b (pm.subset hb)
    have z := SrtO.lexB_no.mp z
    rw [kP_PR hp, kP_PR hq] at z
    rw [gp a p hp, gp b q hq]
    simp only at z
    omega
abbrev NJc : List Str := ["counts", "leaves", "made", "joins", "at_leaf", "at_made", "total", "whole", "parts", "_", "sign", "count"]
theorem LT.butN {H H' : Hp} {a p : Addr} {xs : List V} (h : LT H a xs) (n : a ≠ p) (b : ButI p H H') : LT H' a xs := by
  rcases h with z | z
  · exact .inl (b _ _ n z)
  · exact .inr (b _ _ n z)
theorem LT.butI' {H H' : Hp} {a p : Addr} {xs : List V} (h : LT H a xs) (n : H p = none) (b : ButI p H H') : LT H' a xs := by
  rcases h with z | z
  · exact .inl (b _ _ (ne_of_none z n) z)
  · exact .inr (b _ _ (ne_of_none z n) z)
def spJC : Sp := fun vs H Q _ => ∃ (cp : Addr) (cs : List Nat), vs = [.ref cp] ∧ LT H cp (nV cs) ∧ 2 ≤ cs.length ∧ cs.length ≤ 2000 ∧
  ∀ (t jo : Addr) (jv : List V) (js : List (Nat × Nat)) (ms : List Nat) (I : List (Nat × Nat)) H', Same H H' → H t = none → H jo = none → H' t = some (.tup [.ref jo, .int ((hf cs : Nat) : Int)]) → H' jo = some (.lst jv) → PL H' jv js → Chain cs.length cs.zipIdx js ms I → js.length + 1 = cs.length → ms.sum = hf cs → Q (.ref t) H'
theorem tIfS_dec {tt : L2.TT} {t1 t2 : TS} {D : Ends} {σ : St} {H : Hp} {c : Prop} [Decidable c] (ht : ∀ Q : Bool → Hp → Prop, Q (decide c) H → tt σ H Q) (h1 : c → t1 D σ H) (h2 : ¬ c → t2 D σ H) : tIfS tt t1 t2 D σ H := by
  refine ht _ ?_
  by_cases z : c
  · rw [decide_eq_true z]
    exact iteT (h1 z)
  · rw [decide_eq_false z]
    exact iteF (h2 z)
theorem PL.atI {H : Hp} {xs : List V} {ps : List (Nat × Nat)} (h : PL H xs ps) {i : Nat} (hi : i < ps.length) : ∃ t, atI xs ((i : Nat) : Int) = some (.ref t) ∧ H t = some (.tup [.int ((ps[i].1 : Nat) : Int), .int ((ps[i].2 : Nat) : Int)]) := by
  obtain ⟨t, h1, h2⟩ := h.at hi
  exact ⟨t, atI_nat h1, h2⟩
theorem nV_atI {ls : List Nat} {i : Nat} (h : i < ls.length) : atI (nV ls) ((i : Nat) : Int) = some (.int ((ls[i] : Nat) : Int)) := by
  have := atI_nat (nV_at h)
  rw [lAt_get h] at this
  exact this
/-- where the joining stands -/
structure JS (H : Hp) (lA mA jA : Addr) (cs : List Nat) (lv : List (Nat × Nat)) (ys : List V) (al am : Nat) (js : List (Nat × Nat)) (ms : List Nat) (jv : List V) (H' : Hp) : Prop where
  same : Same H H'
  l : H' lA = some (.lst ys)
  pl : PL H' ys lv
  m : H' mA = some (.lst (nV ms))
  j : H' jA = some (.lst jv)
  pj : PL H' jv js
  al_ : al ≤ lv.length
  am_ : am ≤ ms.length
  two : Two (lv.drop al) ((ms.zipIdx cs.length).drop am)
  ch : Chain cs.length cs.zipIdx js ms (lv.drop al ++ (ms.zipIdx cs.length).drop am)
  le : js.length + 1 ≤ cs.length
section
variable {P : Program} {w : World} {K : PySem.W.Frag} {mg : Str → Option Value} {base : Heap}
theorem scJC : FnScope NJc ["counts"] (defScope sJC) := ⟨rfl, rfl, rfl, by decide +kernel, rfl, by decide +kernel, by decide +kernel⟩
theorem ok_jc {f : Addr} {fd : FuncData} (F : Fun K "joined_counts" "joined_counts" sJC f fd) (B : Bi mg) (ms : mg "sorted" = none) : FnOk P w K mg base CX0 1 f fd ["counts"] spJC := by
  refine F.ok scJC (fun vs H Q E h => ?_) (fun cdv A outer s H vs Q E hr h => ?_)
  · obtain ⟨cp, cs, rfl, _⟩ := h
    rfl
  · obtain ⟨cp, cs, rfl, hc, c2, c20, q⟩ := h
    refine ⟨_, pss_cons (ps_set (i := 1) scJC.nd rfl (Or.inl rfl) (pe_callB cr_sortedPO rfl ms (by decide +kernel) (pa_cons (pe_lc (own := [("sign", 10), ("count", 11)]) rfl scJC.nd (pi_en B.enum (pa_cons (pv 0) pa_nil)) (blkOk_by (N := NJc) (sc := defScope sJC) (by decide +kernel))
          (fun _ _ _ _ _ => pg_pairK K rfl rfl (pg_name (i := 10) scJC.nd rfl (Or.inl rfl) (.inr rfl)) (pg_name (i := 11) scJC.nd rfl (Or.inl rfl) (.inr rfl))) (fun _ _ _ _ _ => pts_nil) (fun _ _ _ _ _ => pe_tup (pa_cons (pv 11) (pa_cons (pv 10) pa_nil)))) pa_nil)))
      (pss_cons (ps_set (i := 2) scJC.nd rfl (Or.inl rfl) (pe_lst pa_nil))
      (pss_cons (ps_set (i := 3) scJC.nd rfl (Or.inl rfl) (pe_lst pa_nil))
      (pss_cons (ps_asg3 pe_int (pg_name (i := 4) scJC.nd rfl (Or.inl rfl)) (pg_name (i := 5) scJC.nd rfl (Or.inl rfl)) (pg_name (i := 6) scJC.nd rfl (Or.inl rfl)))
      (pss_cons (ps_while PassesOwn.never (pt_cmpR op_lt (pe_len B.len (pa_cons (pv 3) pa_nil)) (pe_op op_sub (pe_len B.len (pa_cons (pv 0) pa_nil)) pe_int) (nomark _))
        (pss_cons (ps_set (i := 7) scJC.nd rfl (Or.inl rfl) pe_int)
        (pss_cons (ps_set (i := 8) scJC.nd rfl (Or.inl rfl) (pe_lst pa_nil))
        (pss_cons (ps_for PassesOwn.never rfl (pi_range1 rfl B.range (pa_cons pe_int pa_nil)) (pg_name (i := 9) scJC.nd rfl (Or.inl rfl))
          (pss_one (ps_if (PW.pt (pw_and (pt_cmpR op_lt (pv 4) (pe_len B.len (pa_cons (pv 1) pa_nil)) (nomark _)) (pw_and1 (PW.pt (pw_or (pt_cmpR op_eq (pv 5) (pe_len B.len (pa_cons (pv 2) pa_nil)) (nomark _)) (pw_or1 (pt_cmpR op_le (pe_ix ix_tup (pe_ix ix_list (pv 1) (pv 4) (fun _ _ => rfl)) pe_int (fun _ _ => rfl)) (pe_ix ix_list (pv 2) (pv 5) (fun _ _ => rfl)) (nomark _))))))))
            (pss_cons (ps_aug (i := 7) scJC.nd rfl (Or.inl rfl) (pe_ix ix_tup (pe_ix ix_list (pv 1) (pv 4) (fun _ _ => rfl)) pe_int (fun _ _ => rfl)) ip_add)
            (pss_cons (ps_expr (pe_bm PySem.F.plainAttrs_list PySem.F.slot_list_append PySem.F.type_list_append mt_append (pv 8) (pa_cons (pe_ix ix_tup (pe_ix ix_list (pv 1) (pv 4) (fun _ _ => rfl)) pe_int (fun _ _ => rfl)) pa_nil)))
            (pss_one (ps_aug (i := 4) scJC.nd rfl (Or.inl rfl) pe_int ip_add))))
            (pss_cons (ps_aug (i := 7) scJC.nd rfl (Or.inl rfl) (pe_ix ix_list (pv 2) (pv 5) (fun _ _ => rfl)) ip_add)
            (pss_cons (ps_expr (pe_bm PySem.F.plainAttrs_list PySem.F.slot_list_append PySem.F.type_list_append mt_append (pv 8) (pa_cons (pe_op op_add (pe_len B.len (pa_cons (pv 0) pa_nil)) (pv 5)) pa_nil)))
            (pss_one (ps_aug (i := 5) scJC.nd rfl (Or.inl rfl) pe_int ip_add)))))))
        (pss_cons (ps_expr (pe_bm PySem.F.plainAttrs_list PySem.F.slot_list_append PySem.F.type_list_append mt_append (pv 2) (pa_cons (pv 7) pa_nil)))
        (pss_cons (ps_expr (pe_bm PySem.F.plainAttrs_list PySem.F.slot_list_append PySem.F.type_list_append mt_append (pv 3) (pa_cons (pe_tupleOf rfl B.tuple (pv 8)) pa_nil)))
        (pss_one (ps_aug (i := 6) scJC.nd rfl (Or.inl rfl) (pv 7) ip_add))))))))
      (pss_one (ps_ret (pe_tup (pa_cons (pv 3) (pa_cons (pv 6) pa_nil))))))))), ?_⟩
    refine ⟨_, rfl, cp, _, rfl, hc.sq, fun J G wk hG D nD => lcR wk (fun i v H' => PR H' v (lAt cs i, i)) (fun i v H2 H3 tt z => PR.tt tt z) (by rw [nV_len]; omega) nD (fun H' e => hG H' fun o z => e _ _ z) ?_ ?_⟩
    · rintro i x H2 H3 N hi e2 ⟨T0, y, v', rfl, nT0, rfl, ey, hv⟩ fin
      have ey : y = .int ((i : Nat) : Int) := (Option.some.inj ey).symm
      subst ey
      obtain ⟨i1, rfl⟩ := nV_get hv
      refine ⟨T0, _, rfl, SqT.of upd_same, rfl, _, _, rfl, _, _, rfl, rfl, rfl, ?_⟩
      refine ⟨_, rfl, _, rfl, by show 2 ≤ sizeLine; decide, fun t2 nt2 => ?_⟩
      exact fin _ _ ((same_new nT0).trans (same_new nt2)) ⟨t2, rfl, upd_same⟩
    intro acc H2 e2 la ra hD
    refine ⟨D, acc, kP H2, rfl, SqL.of hD, fun x hx => ?_, fun ys p sr st np => ?_⟩
    · obtain ⟨i, hi⟩ := List.mem_iff_getElem?.mp hx
      obtain ⟨t2, rfl, h2⟩ := ra i x hi
      exact ⟨t2, rfl, by rw [kP_of h2]; exact h2⟩
    rw [nV_len] at la
    have pl : PL H2 acc cs.zipIdx := paired_of (by rw [la, Huff.zipIdx_lenN]) fun i a b h1 h2 => by
      have hi := (List.getElem?_eq_some_iff.mp h1).1
      rw [la] at hi
      have := ra i a h1
      rw [lAt_get hi] at this
      have e : b = (cs[i], i) := by
        rw [List.getElem?_eq_getElem (by rw [Huff.zipIdx_lenN]; exact hi)] at h2
        rw [← Option.some.inj h2]
        simp
      rw [e]
      exact this
    obtain ⟨lv, ply, pm, asc⟩ := pl_sorted pl sr st.perm
    have e3 : Same H (upd H2 p (.lst ys)) := e2.trans (same_new np)
    have hp3 : upd H2 p (.lst ys) p = some (.lst ys) := upd_same
    have ply := PL.tt (TT.same (same_new (o := .lst ys) np)) ply
    generalize upd H2 p (.lst ys) = H3 at e3 hp3 ply ⊢
    refine ⟨by show 0 ≤ sizeLine; decide, fun m0 nm => ⟨by show 0 ≤ sizeLine; decide, fun j0 nj => ?_⟩⟩
    have e4 := same_new (o := .lst []) nm
    have e5 := same_new (o := .lst []) nj
    have hm : upd (upd H3 m0 (.lst [])) j0 (.lst []) m0 = some (.lst (nV [])) := e5 _ _ upd_same
    have hj : upd (upd H3 m0 (.lst [])) j0 (.lst []) j0 = some (.lst []) := upd_same
    have hp : upd (upd H3 m0 (.lst [])) j0 (.lst []) p = some (.lst ys) := e5 _ _ (e4 _ _ hp3)
    have nmj : m0 ≠ j0 := ne_of_none (show upd H3 m0 (.lst []) m0 = some (.lst []) from upd_same) nj
    have npm : p ≠ m0 := ne_of_none hp3 nm
    have npj : p ≠ j0 := ne_of_none (e4 _ _ hp3) nj
    have nHm : H m0 = none := Same.none' e3 nm
    have nHj : H j0 = none := Same.none' (e3.trans e4) nj
    have e0 := e3.trans (e4.trans e5)
    have pl0 := PL.tt (TT.same (e4.trans e5)) ply
    generalize upd (upd H3 m0 (.lst [])) j0 (.lst []) = H5 at hm hj hp e0 pl0 ⊢
    have ll : lv.length = cs.length := by rw [pm.length_eq, Huff.zipIdx_lenN]
    refine ⟨fun k σ H' => ∃ (al am : Nat) (js : List (Nat × Nat)) (ms : List Nat) (jv : List V) (x7 x8 x9 : Option V), k = cs.length - js.length ∧ σ = [some (.ref cp), some (.ref p), some (.ref m0), some (.ref j0), some (.int ((al : Nat) : Int)), some (.int ((am : Nat) : Int)), some (.int ((ms.sum : Nat) : Int)), x7, x8, x9, none, none] ∧
      JS H p m0 j0 cs lv ys al am js ms jv H', ⟨_, 0, 0, [], [], [], none, none, none, rfl, rfl, e0, hp, pl0, hm, hj, .nil, Nat.zero_le _, Nat.zero_le _, Two.start asc, .nil (by simpa using pm), by show 0 + 1 ≤ _; omega⟩, ?_⟩
    rintro k σ G ⟨al, am, js, ms, jv, x7, x8, x9, rfl, rfl, S⟩
    have lj := S.pj.len
    refine ⟨_, rfl, j0, _, rfl, .inl (SqL.of S.j), _, rfl, cp, _, rfl, (hc.same S.same).sq, _, _, rfl, rfl, _, _, rfl, rfl, _, rfl, ?_⟩
    rw [nV_len, lj]
    by_cases c : js.length + 1 < cs.length
    · rw [decide_eq_true (show ((js.length : Nat) : Int) < ((cs.length : Nat) : Int) - 1 by omega)]
      refine iteT ⟨fun σ' H' => ∃ k', k' < cs.length - js.length ∧ ∃ (al am : Nat) (js : List (Nat × Nat)) (ms : List Nat) (jv : List V) (x7 x8 x9 : Option V), k' = cs.length - js.length ∧ σ' = [some (.ref cp), some (.ref p), some (.ref m0), some (.ref j0), some (.int ((al : Nat) : Int)), some (.int ((am : Nat) : Int)), some (.int ((ms.sum : Nat) : Int)), x7, x8, x9, none, none] ∧
        JS H p m0 j0 cs lv ys al am js ms jv H', fun σ' H' ⟨k', l, z⟩ => ⟨k', l, z⟩, ?_⟩
      refine ⟨by show 0 ≤ sizeLine; decide, fun pA npA => ?_⟩
      have npA0 := Same.none' S.same npA
      have e6 := same_new (o := .lst []) npA
      have hpA : upd G pA (.lst []) pA = some (.lst (nV [])) := upd_same
      have n1 : p ≠ pA := ne_of_none S.l npA
      have n2 : m0 ≠ pA := ne_of_none S.m npA
      have n3 : j0 ≠ pA := ne_of_none S.j npA
      generalize upd G pA (.lst []) = G1 at e6 hpA ⊢
      refine ⟨2, rfl, by decide, by decide, for_range (n := 2) (fun i σ H' => ∃ (al' am' : Nat) (xs : List (Nat × Nat)) (x9 : Option V), xs.length = i ∧ σ = [some (.ref cp), some (.ref p), some (.ref m0), some (.ref j0), some (.int ((al' : Nat) : Int)), some (.int ((am' : Nat) : Int)), some (.int ((ms.sum : Nat) : Int)), some (.int (((xs.map (·.1)).sum : Nat) : Int)), some (.ref pA), x9, none, none] ∧
        ButI pA G1 H' ∧ H' pA = some (.lst (nV (xs.map (·.2)))) ∧ al' ≤ lv.length ∧ am' ≤ ms.length ∧ PkL (lv.drop al) ((ms.zipIdx cs.length).drop am) xs (lv.drop al') ((ms.zipIdx cs.length).drop am')) ⟨al, am, [], x9, rfl, rfl, fun _ _ _ z => z, hpA, S.al_, S.am_, .nil⟩ ?_ ?_⟩
      · rintro i σ H6 hi ⟨al', am', xs, y9, lx, rfl, b6, hpA6, a1, a2, pk⟩
        have hl6 := b6 _ _ n1 (e6 _ _ S.l)
        have hm6 := b6 _ _ n2 (e6 _ _ S.m)
        have tt6 : TT G1 H6 := fun a zs z => b6 _ _ (ne_of z hpA fun y => nomatch y) z
        have pl6 := PL.tt ((TT.same e6).trans tt6) S.pl
        have hc6 := ((hc.same S.same).same e6).butN (hc.ne npA0) b6
        have ly : ys.length = lv.length := S.pl.len
        obtain ⟨A1, A2, A3⟩ := pk.asc S.two.l S.two.m
        rw [two_lengths a1 a2, two_lengths S.al_ S.am_] at A3
        have clen := S.ch.len
        rw [List.length_append, two_lengths S.al_ S.am_, Huff.zipIdx_lenN] at clen
        show tIfS _ _ _ _ [some (.ref cp), some (.ref p), some (.ref m0), some (.ref j0), some (.int ((al' : Nat) : Int)), some (.int ((am' : Nat) : Int)), some (.int ((ms.sum : Nat) : Int)), some (.int (((xs.map (·.1)).sum : Nat) : Int)), some (.ref pA), some (.int (0 + ((i : Nat) : Int))), none, none] H6
        refine tIfS_dec (c := al' < lv.length ∧ (ms.length ≤ am' ∨ ∃ (h1 : al' < lv.length) (h2 : am' < ms.length), lv[al'].1 ≤ ms[am'])) (fun Q hQ => ?_) (fun hc => ?_) (fun hc => ?_)
        · refine ⟨_, rfl, _, rfl, p, _, rfl, .inl (SqL.of hl6), _, _, rfl, rfl, _, rfl, ?_⟩
          rw [ly]
          by_cases z1 : al' < lv.length
          · rw [decide_eq_true (show ((al' : Nat) : Int) < ((lv.length : Nat) : Int) by omega)]
            refine iteT ⟨_, rfl, _, rfl, m0, _, rfl, .inl (SqL.of hm6), rfl, _, rfl, ?_⟩
            rw [nV_len, dec_int]
            by_cases z2 : am' = ms.length
            · rw [show (((am' : Nat) : Int) == ((ms.length : Nat) : Int)) = true by rw [beq_iff_eq]; omega]
              rw [decide_eq_true ⟨z1, .inl (by omega)⟩] at hQ
              exact iteT hQ
            · rw [show (((am' : Nat) : Int) == ((ms.length : Nat) : Int)) = false by rw [beq_eq_false_iff_ne]; omega]
              obtain ⟨t, t1, t2⟩ := pl6.atI z1
              have z3 : am' < ms.length := by omega
              refine iteF ⟨_, rfl, _, rfl, p, _, _, _, rfl, rfl, SqL.of hl6, t1, t, _, _, _, rfl, rfl, SqT.of t2, rfl, _, rfl, _, rfl, m0, _, _, _, rfl, rfl, SqL.of hm6, nV_atI z3, _, _, rfl, rfl, _, rfl, ?_⟩
              rw [show decide (((lv[al'].1 : Nat) : Int) ≤ ((ms[am'] : Nat) : Int)) = decide (al' < lv.length ∧ (ms.length ≤ am' ∨ ∃ (h1 : al' < lv.length) (h2 : am' < ms.length), lv[al'].1 ≤ ms[am'])) from decide_eq_decide.mpr ⟨fun h => ⟨z1, .inr ⟨z1, z3, by omega⟩⟩, fun h => by
                rcases h.2 with h | ⟨_, _, h⟩ <;> omega⟩]
              exact hQ
          · rw [decide_eq_false (show ¬ ((al' : Nat) : Int) < ((lv.length : Nat) : Int) by omega)]
            rw [decide_eq_false fun h => z1 h.1] at hQ
            exact iteF hQ
        · obtain ⟨z1, hc⟩ := hc
          obtain ⟨t, t1, t2⟩ := pl6.atI z1
          have k := Huff.pick_leaf (lv := lv) (ms := ms) (n := cs.length) z1 A2 (hc.imp id fun ⟨_, h2, h3⟩ => ⟨h2, h3⟩)
          refine ⟨_, rfl, _, rfl, _, rfl, p, _, _, _, rfl, rfl, SqL.of hl6, t1, t, _, _, _, rfl, rfl, SqT.of t2, rfl, _, _, rfl, rfl, ?_⟩
          refine ⟨_, rfl, .inl ⟨rfl, _, SqL.of hpA6⟩, _, rfl, _, rfl, p, _, _, _, rfl, rfl, SqL.of hl6, t1, t, _, _, _, rfl, rfl, SqT.of t2, rfl, pA, _, _, rfl, rfl, hpA6, by rw [nV_len, List.length_map]; exact small10 (by omega), ?_⟩
          refine ⟨_, rfl, _, _, rfl, rfl, al' + 1, am', xs ++ [lv[al']], some (.int (0 + ((i : Nat) : Int))), by rw [List.length_append, lx]; rfl, ?_, fun b o nb z => (upd_ne nb).trans (b6 _ _ nb z), ?_, z1, a2, .snoc pk k⟩
          · rw [List.map_append, List.sum_append, List.map_singleton, List.sum_singleton]
            rfl
          · rw [upd_same, List.map_append, nV_app]
            rfl
        · have z3 : am' < ms.length := by
            rcases Nat.lt_or_ge am' ms.length with z | z
            · exact z
            · exfalso
              refine hc ⟨?_, .inl z⟩
              omega
          have k := Huff.pick_made (lv := lv) (ms := ms) (n := cs.length) z3 A1 (by
            rcases Nat.lt_or_ge al' lv.length with z | z
            · refine .inr ⟨z, ?_⟩
              refine Nat.lt_of_not_le fun y => hc ⟨z, .inr ⟨z, z3, y⟩⟩
            · exact .inl z)
          refine ⟨_, rfl, _, rfl, _, rfl, m0, _, _, _, rfl, rfl, SqL.of hm6, nV_atI z3, _, _, rfl, rfl, ?_⟩
          refine ⟨_, rfl, .inl ⟨rfl, _, SqL.of hpA6⟩, _, rfl, cp, _, rfl, hc6.sq, _, rfl, _, _, rfl, rfl, pA, _, _, rfl, rfl, hpA6, by rw [nV_len, List.length_map]; exact small10 (by omega), ?_⟩
          refine ⟨_, rfl, _, _, rfl, rfl, al', am' + 1, xs ++ [(ms[am'], cs.length + am')], some (.int (0 + ((i : Nat) : Int))), by rw [List.length_append, lx]; rfl, ?_, fun b o nb z => (upd_ne nb).trans (b6 _ _ nb z), ?_, a1, z3, .snoc pk k⟩
          · rw [List.map_append, List.sum_append, List.map_singleton, List.sum_singleton]
            rfl
          · rw [upd_same, List.map_append, nV_app, nV_len]
            rfl
      · rintro σ H6 ⟨al', am', xs, y9, lx, rfl, b6, hpA6, a1, a2, pk⟩
        obtain ⟨x, y, l1, m1, rfl, k1, k2⟩ := pk.two lx
        have tt6 : TT G1 H6 := fun a zs z => b6 _ _ (ne_of z hpA fun y => nomatch y) z
        have hl6 := b6 _ _ n1 (e6 _ _ S.l)
        have hm6 := b6 _ _ n2 (e6 _ _ S.m)
        have hj6 := b6 _ _ n3 (e6 _ _ S.j)
        have pl6 := PL.tt ((TT.same e6).trans tt6) S.pl
        have pj6 := PL.tt ((TT.same e6).trans tt6) S.pj
        have clen := S.ch.len
        rw [Huff.zipIdx_lenN] at clen
        refine ⟨_, rfl, .inl ⟨rfl, _, SqL.of hm6⟩, _, rfl, m0, _, _, rfl, rfl, hm6, by rw [nV_len]; exact small10 (by omega), ?_⟩
        have e7 : ButI m0 H6 (upd H6 m0 (.lst (nV ms ++ [.int ((([x, y].map (·.1)).sum : Nat) : Int)]))) := fun b o nb z => (upd_ne nb).trans z
        have hm7 : upd H6 m0 (.lst (nV ms ++ [.int ((([x, y].map (·.1)).sum : Nat) : Int)])) m0 = some (.lst (nV (ms ++ [x.1 + y.1]))) := by
          rw [upd_same, nV_app]
          rfl
        have tt7 : TT H6 (upd H6 m0 (.lst (nV ms ++ [.int ((([x, y].map (·.1)).sum : Nat) : Int)]))) := TT.lst hm6
        generalize upd H6 m0 (.lst (nV ms ++ [.int ((([x, y].map (·.1)).sum : Nat) : Int)])) = H7 at e7 hm7 tt7 ⊢
        have hl7 := e7 _ _ npm hl6
        have hj7 := e7 _ _ (Ne.symm nmj) hj6
        have hpA7 := e7 _ _ (Ne.symm n2) hpA6
        refine ⟨_, rfl, .inl ⟨rfl, _, SqL.of hj7⟩, _, rfl, .inl ⟨pA, _, rfl, SqL.of hpA7, fun t nt => ?_⟩⟩
        have e8 := same_new (o := .tup (nV ([x, y].map (·.2)))) nt
        refine ⟨j0, _, _, rfl, rfl, e8 _ _ hj7, small10 (by omega), ?_⟩
        have ht8 : upd H7 t (.tup (nV ([x, y].map (·.2)))) t = some (.tup [.int ((x.2 : Nat) : Int), .int ((y.2 : Nat) : Int)]) := upd_same
        have hj8 := e8 _ _ hj7
        have hl8 := e8 _ _ hl7
        have hm8 := e8 _ _ hm7
        have tt8 : TT H6 (upd H7 t (.tup (nV ([x, y].map (·.2))))) := tt7.trans (TT.same e8)
        have nt0 : H t = none := by
          cases z : H t with
          | none => rfl
          | some o =>
            have := e7 _ _ (ne_of_none z nHm) (b6 _ _ (ne_of_none z npA0) (e6 _ _ (S.same _ _ z)))
            rw [nt] at this
            cases this
        have s8 : ∀ b o, H b = some o → upd H7 t (.tup (nV ([x, y].map (·.2)))) b = some o := fun b o z => e8 _ _ (e7 _ _ (ne_of_none z nHm) (b6 _ _ (ne_of_none z npA0) (e6 _ _ (S.same _ _ z))))
        generalize upd H7 t (.tup (nV ([x, y].map (·.2)))) = H8 at e8 hj8 hl8 hm8 ht8 tt8 s8 ⊢
        have tt9 : TT H8 (upd H8 j0 (.lst (jv ++ [.ref t]))) := TT.lst hj8
        obtain ⟨T1, T2, T3, T4⟩ := Huff.Two.step (i := cs.length + ms.length) S.two k1 k2
        refine ⟨_, rfl, _, rfl, _, _, rfl, rfl, _, ?_, al', am', js ++ [(x.2, y.2)], ms ++ [x.1 + y.1], jv ++ [.ref t], some (.int ((([x, y].map (·.1)).sum : Nat) : Int)), some (.ref pA), y9, rfl, ?_, ?_⟩
        · rw [List.length_append]
          show cs.length - (js.length + 1) < _
          omega
        · rw [List.sum_append]
          rfl
        · refine ⟨fun b o z => (upd_ne (ne_of_none z nHj)).trans (s8 _ _ z), (upd_ne npj).trans hl8, PL.tt (tt8.trans tt9) pl6, (upd_ne nmj).trans hm8, upd_same, paired_snoc ⟨t, rfl, tt9 _ _ ht8⟩ (PL.tt (tt8.trans tt9) pj6), a1, by rw [List.length_append]; omega, ?_, ?_, ?_⟩
          · rw [Huff.zipIdx_drop a2]
            exact T4
          · rw [Huff.zipIdx_drop a2]
            refine .snoc S.ch T1 T2 T3 ?_
            rw [← List.append_assoc, clen.1]
            exact List.perm_append_singleton _ _
          · rw [List.length_append]
            exact c
    · rw [decide_eq_false (show ¬ ((js.length : Nat) : Int) < ((cs.length : Nat) : Int) - 1 by omega)]
      have le := S.le
      obtain ⟨_, sm⟩ := S.ch.done (by omega) (by omega)
      refine iteF ⟨_, rfl, _, rfl, by show 2 ≤ sizeLine; decide, fun t nt => ?_⟩
      have e9 := same_new (o := .tup [.ref j0, .int ((ms.sum : Nat) : Int)]) nt
      refine q t j0 jv js ms _ _ (fun b o z => e9 _ _ (S.same _ _ z)) (Same.none' S.same nt) nHj ?_ (e9 _ _ S.j) (PL.tt (TT.same e9) S.pj) S.ch (by omega) sm
      rw [← sm]
      exact upd_same
end
end K38
set_option Elab.async false
set_option linter.all false
set_option maxRecDepth 100001
set_option maxHeartbeats 3999999
namespace K38
open PySem L2
/-! ### first of all -/
theorem least {p : Nat → Prop} (h : ∃ n, p n) : ∃ n, p n ∧ ∀ m, m < n → ¬ p m := by
  obtain ⟨n, hn⟩ := h
  induction n using Nat.strongRecOn with
  | ind n ih =>
    by_cases c : ∃ m, m < n ∧ p m
    · obtain ⟨m, lt, hm⟩ := c
      exact ih m lt hm
    · exact ⟨n, hn, fun m lt hm => c ⟨m, lt, hm⟩⟩
/-- what is due for words: the first that is none, or all are words: two of which one begins the other, the first such, or none -/
theorem word_cases (ls : List Nat) (us : List V) (el : us.length = ls.length) :
    (∃ (i : Nat) (v : V), us[i]? = some v ∧ okB (ls.getD i 0) v = false ∧ ∀ (j : Nat) (u : V), j < i → us[j]? = some u → okB (ls.getD j 0) u = true) ∨
    ∃ ws : List W, us = ws.map wV ∧ ws.map List.length = ls ∧ ((∃ (i j : Nat) (a b : W), i < j ∧ ws[i]? = some a ∧ ws[j]? = some b ∧ bg a b ∧ ∀ (i' j' : Nat) (x y : W), i' < j' → (i' < i ∨ (i' = i ∧ j' < j)) → ws[i']? = some x → ws[j']? = some y → ¬ bg x y) ∨ PF ws) := by
  by_cases c : ∃ i : Nat, ∃ v : V, us[i]? = some v ∧ okB (ls.getD i 0) v = false
  · obtain ⟨i, ⟨v, h1, h2⟩, h3⟩ := least c
    refine .inl ⟨i, v, h1, h2, fun j u lt hu => ?_⟩
    cases ob : okB (ls.getD j 0) u with
    | true => rfl
    | false => exact absurd ⟨u, hu, ob⟩ (h3 j lt)
  · have all : ∀ (i : Nat) (v : V), us[i]? = some v → okB (ls.getD i 0) v = true := fun i v h => by
      cases ob : okB (ls.getD i 0) v with
      | true => rfl
      | false => exact absurd ⟨i, v, h, ob⟩ c
    obtain ⟨ws, rfl, hw⟩ : ∃ ws : List W, us = ws.map wV ∧ ws.map List.length = ls := by
      clear c
      induction us generalizing ls with
      | nil => exact ⟨[], rfl, by cases ls with | nil => rfl | cons _ _ => cases el⟩
      | cons v us ih =>
        cases ls with
        | nil => cases el
        | cons l ls =>
          obtain ⟨ws, h1, h2⟩ := ih ls (by simpa using el) fun i u h => all (i + 1) u (by simpa using h)
          have h0 := all 0 v rfl
          have h0 : okB l v = true := h0
          cases v with
          | str x =>
            have h0 : (isBs (.str x) && decide (x.length = l)) = true := h0
            rw [Bool.and_eq_true, decide_eq_true_iff] at h0
            obtain ⟨w, e⟩ := isBs_of h0.1
            refine ⟨w :: ws, by rw [List.map_cons, ← h1, e]; rfl, ?_⟩
            rw [List.map_cons, h2]
            injection e with e
            rw [← h0.2, e, bS_len]
          | _ => cases h0
    refine .inr ⟨ws, rfl, hw, ?_⟩
    by_cases c2 : ∃ i : Nat, ∃ (j : Nat) (a b : W), i < j ∧ ws[i]? = some a ∧ ws[j]? = some b ∧ bg a b
    · obtain ⟨i, hi, fi⟩ := least c2
      obtain ⟨j, ⟨a, b, h1, h2, h3, h4⟩, fj⟩ := least hi
      refine .inl ⟨i, j, a, b, h1, h2, h3, h4, fun i' j' x y lt o hx hy g => ?_⟩
      rcases o with o | ⟨rfl, o⟩
      · exact fi i' o ⟨j', x, y, lt, hx, hy, g⟩
      · exact fj j' o ⟨x, y, lt, hx, hy, g⟩
    · refine .inr ?_
      rw [PF, List.pairwise_iff_getElem]
      intro i j h1 h2 h3
      exact ⟨fun z => c2 ⟨i, j, _, _, h3, List.getElem?_eq_getElem h1, List.getElem?_eq_getElem h2, .inl z⟩, fun z => c2 ⟨i, j, _, _, h3, List.getElem?_eq_getElem h1, List.getElem?_eq_getElem h2, .inr z⟩⟩
theorem top_of : ∀ {ls : List Nat}, ls ≠ [] → ∃ L, L ∈ ls ∧ ∀ l ∈ ls, l ≤ L
  | [], h => absurd rfl h
  | [a], _ => ⟨a, List.mem_cons_self, fun l h => by rw [List.mem_singleton.mp h]; exact Nat.le_refl _⟩
  | a :: b :: r, _ => by
    obtain ⟨L, h1, h2⟩ := top_of (ls := b :: r) (by simp)
    by_cases c : a ≤ L
    · exact ⟨L, List.mem_cons_of_mem _ h1, fun l h => by
        rcases List.mem_cons.mp h with rfl | h
        · exact c
        · exact h2 l h⟩
    · exact ⟨a, List.mem_cons_self, fun l h => by
        rcases List.mem_cons.mp h with rfl | h
        · exact Nat.le_refl _
        · have := h2 l h
          omega⟩
theorem kl_up {L M : Nat} (h : L ≤ M) : ∀ {ls : List Nat}, (∀ l ∈ ls, l ≤ L) → kl M ls = 2 ^ (M - L) * kl L ls
  | [], _ => by simp [kl]
  | l :: ls, a => by
    rw [kl_cons, kl_cons, kl_up h fun x m => a x (List.mem_cons_of_mem _ m), Nat.mul_add, ← Nat.pow_add]
    congr 2
    have := a l List.mem_cons_self
    omega
section
variable {P : Program} {w : World} {K : PySem.W.Frag} {mg : Str → Option Value} {base : Heap}
/-- a class that may be made by its name, with one thing left out that is None then -/
structure MakN (CX : CXT) (P : Program) (w : World) (K : PySem.W.Frag) (mg : Str → Option Value) (base : Heap) (k : Nat) (x : Str) (C : Addr) (sp : Sp) : Prop where
  ex : ∃ (f : Addr) (fd : FuncData) (ps : List Str), Mk K C f ∧ FnOk P w K mg base CX k f fd ps sp ∧ mg x = some (.ref C) ∧ Binds K fd ps [.none]
end
section
variable {X : Cx} {CX : CXT} {k j : Nat} {C : Addr} {x : Str} {sp : Sp} {p pos : Pos} {e : Expr} {es : List Expr} {t : TA} {E : XK}
theorem pe_mkN (c : MakN CX X.prog X.w X.K X.mg X.base k x C sp) (hr : Room j X.A) (hx : Passes CX X E) (ha : PA X (e :: es) t) (hk : k + 1 ≤ j := by decide) (hg : Gl X x := by rfl) (hdb : (x == ("__debug__" : Str)) = false := by decide)
    (he : starEach (e :: es) X.env = (false, eval e X.env) :: starEach es X.env := by rfl) (hpl : (backTo pos (starEach es X.env)).any (·.1) = false := by rfl) : PE X (.Call (.Name x p) (e :: es) [] pos) (tMake C sp [.non] E t) := by
  obtain ⟨f, fd, ps, M, F, hm, b⟩ := c.ex
  exact pe_make M F (hr.mono hk) hg hm b (.cons rfl .nil) hx ha hdb he hpl
end
end K38
set_option Elab.async false
set_option linter.all false
set_option maxRecDepth 100001
set_option maxHeartbeats 3999999
namespace K38
open PySem L2
open Huff (hf dot Full Least Best stp Two Chain PkL Pk AscI Deep)
abbrev sLO : Stmt := topS 35
abbrev sIL : Stmt := topS 32
abbrev sLC : Stmt := topS 33
/-- how counts may be refused by a code -/
def Rfs (CT CA CO : Addr) (n : Nat) (ts : List V) (H : Hp) (E : XK) : Prop :=
  (¬ (2 ≤ ts.length ∧ ts.length ≤ 2000) ∧ ∀ d H', Rsd H H' d [("most", .int 2000), ("many", .int (ts.length : Nat)), ("what", .str "signs")] → E (.ref CT) (some d) H') ∨
   (2 ≤ ts.length ∧ ts.length ≤ 2000 ∧ ∃ i v, ts[i]? = some v ∧ frm v 0 = false ∧ (∀ j u, j < i → ts[j]? = some u → frm u 0 = true) ∧ ∀ d H', Rsd H H' d [("index", .int (i : Nat))] → E (.ref CA) (some d) H') ∨
   (2 ≤ ts.length ∧ ts.length ≤ 2000 ∧ (∀ v ∈ ts, frm v 0 = true) ∧ ts.length ≠ n ∧ ∀ d H', Rsd H H' d [("wanted", .int (n : Nat)), ("many", .int (ts.length : Nat))] → E (.ref CO) (some d) H')
def spCost (C CT CA CO : Addr) : Sp := fun vs H Q E => ∃ (q cp : Addr) (L : Nat) (ls : List Nat) (ws : List W) (ts : List V), vs = [.ref q, .ref cp] ∧ IsCo C H q L ls ws ∧ LT H cp ts ∧ (∀ v ∈ ts, Kn H v) ∧ ts.length ≤ 5000 ∧
  (Rfs CT CA CO ls.length ts H E ∨
   (2 ≤ ts.length ∧ ts.length ≤ 2000 ∧ ts.length = ls.length ∧ Sm ls ∧ ∃ cs : List Nat, ts = nV cs ∧ ∀ H', Same H H' → Q (.int ((dot ls cs : Nat) : Int)) H'))
def spLO : Sp := fun vs H Q _ => ∃ (cp : Addr) (cs : List Nat), vs = [.ref cp] ∧ LT H cp (nV cs) ∧ 2 ≤ cs.length ∧ cs.length ≤ 2000 ∧ ∀ H', Same H H' → Q (.int ((hf cs : Nat) : Int)) H'
def spIL (C CT CA CO : Addr) : Sp := fun vs H Q E => ∃ (q cp : Addr) (L : Nat) (ls : List Nat) (ws : List W) (ts : List V), vs = [.ref q, .ref cp] ∧ IsCo C H q L ls ws ∧ LT H cp ts ∧ (∀ v ∈ ts, Kn H v) ∧ ts.length ≤ 5000 ∧
  (Rfs CT CA CO ls.length ts H E ∨
   (2 ≤ ts.length ∧ ts.length ≤ 2000 ∧ ts.length = ls.length ∧ Sm ls ∧ ∃ cs : List Nat, ts = nV cs ∧ ∀ H', Same H H' → Q (.bl (decide (dot ls cs = hf cs))) H'))
def spLC (C CT CA : Addr) (Tb : List (Addr × Str)) : Sp := fun vs H Q E => ∃ (cp : Addr) (ts : List V), vs = [.ref cp] ∧ H cp = some (.lst ts) ∧ (∀ v ∈ ts, Kn H v) ∧ ts.length ≤ 5000 ∧ LamX.Tabs Tb H ∧
  ((¬ (2 ≤ ts.length ∧ ts.length ≤ 2000) ∧ ∀ d H', Rsd H H' d [("most", .int 2000), ("many", .int (ts.length : Nat)), ("what", .str "signs")] → E (.ref CT) (some d) H') ∨
   (2 ≤ ts.length ∧ ts.length ≤ 2000 ∧ ∃ i v, ts[i]? = some v ∧ frm v 0 = false ∧ (∀ j u, j < i → ts[j]? = some u → frm u 0 = true) ∧ ∀ d H', Rsd H H' d [("index", .int (i : Nat))] → E (.ref CA) (some d) H') ∨
   (∃ cs : List Nat, ts = nV cs ∧ 2 ≤ cs.length ∧ cs.length ≤ 60 ∧ ∀ q L ls ws H', IsCo C H' q L ls ws → (∃ os, IsOrd ls os ∧ CanoOf ls os ws) → H q = none → Best ls cs → (∀ l ∈ ls, 1 ≤ l ∧ l + 1 ≤ cs.length) → LamX.ExtN H H' → LamX.Tabs Tb H' → Q (.ref q) H'))
section
variable {P : Program} {w : World} {K : PySem.W.Frag} {mg : Str → Option Value} {base : Heap}
theorem scCost : FnScope ["code", "counts"] ["code", "counts"] (defScope sCost) := ⟨rfl, rfl, rfl, by decide +kernel, rfl, by decide +kernel, by decide +kernel⟩
theorem ok_cost {f C CT CA CO : Addr} {fd : FuncData} (F : Fun K "cost" "cost" sCost f fd) (T : TxC K C) (cC : Cal (L2.CX P w) P w K mg base 5 "check_code_counts" (spCCC C CT CA CO)) (cO : Cal CX0 P w K mg base 1 "cost_of" spCOfA) :
    FnOk P w K mg base (L2.CX P w) 6 f fd ["code", "counts"] (spCost C CT CA CO) := by
  refine F.okX scCost (fun vs H Q E h => ?_) (fun cdv A outer s H vs Q E hr h => ?_)
  · obtain ⟨q, cp, L, ls, ws, ts, rfl, _⟩ := h
    rfl
  · obtain ⟨q, cp, L, ls, ws, ts, rfl, M, hl, kn, l5, out⟩ := h
    refine ⟨_, pss_cons (ps_expr (pe_c cC hr (passes_call (takes_of rfl rfl rfl rfl) fun _ _ _ _ h => h) (pa_cons (pv 0) (pa_cons (pv 1) pa_nil))))
      (pss_one (ps_ret (pe_c cO hr pass0 (pa_cons (pe_fld (pv 0) rfl) (pa_cons (pv 1) pa_nil))))), ?_⟩
    refine ⟨_, rfl, _, rfl, q, cp, L, ls, ws, ts, rfl, M, hl, kn, l5, ?_⟩
    rcases out with (out | out | out) | ⟨g1, g2, e0, sm, cs, rfl, out⟩
    · exact .inl out
    · exact .inr (.inl out)
    · exact .inr (.inr (.inl out))
    · refine .inr (.inr (.inr ⟨g1, g2, nV_frm cs, e0, fun H1 e1 => ?_⟩))
      obtain ⟨dx, lt, wt, tr, h1, h2, h3⟩ := M
      rw [nV_len] at e0 g2
      exact ⟨_, rfl, q, C, dx, _, _, rfl, e1 _ _ h1, T.cl, T.l, co_lengths _ _ _ _ _, _, rfl, lt, cp, ls, cs, rfl, e1 _ _ h2, hl.same e1, e0, by omega, sm, fun H2 e2 => out H2 (e1.trans e2)⟩
theorem scLO : FnScope ["counts", "_", "total"] ["counts"] (defScope sLO) := ⟨rfl, rfl, rfl, by decide +kernel, rfl, by decide +kernel, by decide +kernel⟩
theorem ok_lo {f : Addr} {fd : FuncData} (F : Fun K "least_of" "least_of" sLO f fd) (cJ : Cal CX0 P w K mg base 1 "joined_counts" spJC) : FnOk P w K mg base CX0 2 f fd ["counts"] spLO := by
  refine F.ok scLO (fun vs H Q E h => ?_) (fun cdv A outer s H vs Q E hr h => ?_)
  · obtain ⟨cp, cs, rfl, _⟩ := h
    rfl
  · obtain ⟨cp, cs, rfl, hc, c2, c20, q⟩ := h
    refine ⟨_, pss_cons (ps_asg (pe_c cJ hr pass0 (pa_cons (pv 0) pa_nil)) (pg_tup rfl (pgs_cons (pg_name (i := 1) scLO.nd rfl (.inl rfl)) (pgs_cons (pg_name (i := 2) scLO.nd rfl (.inl rfl)) pgs_nil))))
      (pss_one (ps_ret (pv 2))), ?_⟩
    refine ⟨_, rfl, cp, cs, rfl, hc, c2, c20, fun t jo jv js ms I H' e _ _ ht _ _ _ _ _ => ?_⟩
    exact ⟨t, _, rfl, SqT.of ht, rfl, _, _, rfl, _, _, rfl, rfl, _, rfl, q H' e⟩
theorem scIL : FnScope ["code", "counts"] ["code", "counts"] (defScope sIL) := ⟨rfl, rfl, rfl, by decide +kernel, rfl, by decide +kernel, by decide +kernel⟩
theorem ok_il {f C CT CA CO : Addr} {fd : FuncData} (F : Fun K "is_least" "is_least" sIL f fd) (cC : Cal (L2.CX P w) P w K mg base 6 "cost" (spCost C CT CA CO)) (cL : Cal CX0 P w K mg base 2 "least_of" spLO) :
    FnOk P w K mg base (L2.CX P w) 7 f fd ["code", "counts"] (spIL C CT CA CO) := by
  refine F.okX scIL (fun vs H Q E h => ?_) (fun cdv A outer s H vs Q E hr h => ?_)
  · obtain ⟨q, cp, L, ls, ws, ts, rfl, _⟩ := h
    rfl
  · obtain ⟨q, cp, L, ls, ws, ts, rfl, M, hl, kn, l5, out⟩ := h
    refine ⟨_, pss_one (ps_ret (pe_cmpR op_eq (pe_c cC hr (passes_call (takes_of rfl rfl rfl rfl) fun _ _ _ _ h => h) (pa_cons (pv 0) (pa_cons (pv 1) pa_nil))) (pe_c cL hr pass0 (pa_cons (pv 1) pa_nil)) (nomark _))), ?_⟩
    refine ⟨_, rfl, _, rfl, q, cp, L, ls, ws, ts, rfl, M, hl, kn, l5, ?_⟩
    rcases out with out | ⟨g1, g2, e0, sm, cs, rfl, out⟩
    · exact .inl out
    · refine .inr ⟨g1, g2, e0, sm, cs, rfl, fun H1 e1 => ?_⟩
      rw [nV_len] at g1 g2
      refine ⟨_, rfl, cp, cs, rfl, hl.same e1, g1, g2, fun H2 e2 => ?_⟩
      refine ⟨rfl, ?_⟩
      rw [dec_int, show (((dot ls cs : Nat) : Int) == ((hf cs : Nat) : Int)) = decide (dot ls cs = hf cs) by
        rw [Bool.eq_iff_iff, beq_iff_eq, decide_eq_true_iff]
        exact Int.ofNat_inj]
      exact out H2 (e1.trans e2)
abbrev NLC : List Str := ["counts", "joins", "_", "depths", "join", "part"]
theorem scLC : FnScope NLC ["counts"] (defScope sLC) := ⟨rfl, rfl, rfl, by decide +kernel, rfl, by decide +kernel, by decide +kernel⟩
theorem lAt_set {ds : List Nat} {p x i : Nat} (h : p < ds.length) : lAt (ds.set p x) i = if i = p then x else lAt ds i := by
  show (ds.set p x).getD i 0 = if i = p then x else ds.getD i 0
  rw [List.getD_eq_getElem?_getD, List.getD_eq_getElem?_getD, List.getElem?_set]
  by_cases c : p = i
  · subst c
    rw [if_pos rfl, if_pos rfl, if_pos h]
    rfl
  · rw [if_neg c, if_neg (Ne.symm c)]
theorem nV_set (ds : List Nat) (p x : Nat) : (nV ds).set p (.int ((x : Nat) : Int)) = nV (ds.set p x) := by
  unfold nV
  rw [List.map_set]
theorem ok_lc {f C CT CA CL CN CB CG : Addr} {fd : FuncData} {Tb : List (Addr × Str)} (F : Fun K "least_code" "least_code" sLC f fd) (B : Bi mg) (cC : Cal (L2.CX P w) P w K mg base 4 "check_counts" (spCC CT CA)) (cJ : Cal CX0 P w K mg base 1 "joined_counts" spJC)
    (mN : MakN (L2.CX P w) P w K mg base 8 "Code" C (spCoI C CT CL CN CB CG Tb)) : FnOk P w K mg base (L2.CX P w) 10 f fd ["counts"] (spLC C CT CA Tb) := by
  refine F.okX scLC (fun vs H Q E h => ?_) (fun cdv A outer s H vs Q E hr h => ?_)
  · obtain ⟨cp, ts, rfl, _⟩ := h
    rfl
  · obtain ⟨cp, ts, rfl, hl, kn, l5, tabs, out⟩ := h
    refine ⟨_, pss_cons (ps_expr (pe_c cC hr (passes_call (takes_of rfl rfl rfl rfl) fun _ _ _ _ h => h) (pa_cons (pv 0) pa_nil)))
      (pss_cons (ps_asg (pe_c cJ hr pass0 (pa_cons (pv 0) pa_nil)) (pg_tup rfl (pgs_cons (pg_name (i := 1) scLC.nd rfl (.inl rfl)) (pgs_cons (pg_name (i := 2) scLC.nd rfl (.inl rfl)) pgs_nil))))
      (pss_cons (ps_set (i := 3) scLC.nd rfl (Or.inl rfl) (pe_op op_rep (pe_lst (pa_cons pe_int pa_nil)) (pe_op op_add (pe_len B.len (pa_cons (pv 0) pa_nil)) (pe_len B.len (pa_cons (pv 1) pa_nil)))))
      (pss_cons (ps_for (passes_of rfl) rfl (pi_range3 rfl B.range (pa_cons (pe_op op_sub (pe_len B.len (pa_cons (pv 1) pa_nil)) pe_int) (pa_cons (pe_un un_neg pe_int) (pa_cons (pe_un un_neg pe_int) pa_nil)))) (pg_name (i := 4) scLC.nd rfl (Or.inl rfl))
        (pss_one (ps_for (passes_of rfl) rfl (pi_sqA (pe_ix ix_list (pv 1) (pv 4) (fun _ _ => rfl))) (pg_name (i := 5) scLC.nd rfl (Or.inl rfl))
          (pss_one (ps_asg (pe_op op_add (pe_ix ix_list (pv 3) (pe_op op_add (pe_len B.len (pa_cons (pv 0) pa_nil)) (pv 4)) (fun _ _ => rfl)) pe_int) (pg_sub (pv 3) (pv 5) set_list))))))
      (pss_one (ps_ret (pe_mkN mN hr (passes_call (takes_of rfl rfl rfl rfl) fun _ _ _ _ h => h) (pa_cons (pe_slice sl_list (pv 3) po_none (po_some (pe_len B.len (pa_cons (pv 0) pa_nil)))) pa_nil))))))), ?_⟩
    refine ⟨_, rfl, cp, ts, rfl, .inl hl, kn, l5, ?_⟩
    rcases out with out | out | ⟨cs, rfl, c2, c6, out⟩
    · exact .inl out
    · exact .inr (.inl out)
    refine .inr (.inr ⟨by rw [nV_len]; omega, by rw [nV_len]; omega, nV_frm cs, fun H1 e1 => ?_⟩)
    refine ⟨_, rfl, cp, cs, rfl, .inl (e1 _ _ hl), c2, by omega, fun t jo jv js ms I H2 e2 _ njo ht hjo pj ch lj sm => ?_⟩
    refine ⟨t, _, rfl, SqT.of ht, rfl, _, _, rfl, _, _, rfl, rfl, ?_⟩
    have ljv := pj.len
    have hc2 := e2 _ _ (e1 _ _ hl)
    refine ⟨by show 1 ≤ sizeLine; decide, fun z0 nz0 => ⟨_, rfl, cp, _, rfl, .inl (SqL.of (same_new nz0 _ _ hc2)), _, rfl, jo, _, rfl, .inl (SqL.of (same_new nz0 _ _ hjo)), _, _, rfl, rfl, ?_⟩⟩
    have eR : (List.replicate (((cs.length : Nat) : Int) + ((jv.length : Nat) : Int)).toNat [V.int 0]).flatten = nV (List.replicate (cs.length + js.length) 0) := by
      rw [show (((cs.length : Nat) : Int) + ((jv.length : Nat) : Int)).toNat = cs.length + js.length by omega]
      unfold nV
      rw [List.map_replicate]
      exact List.flatten_replicate_singleton
    rw [nV_len]
    refine ⟨z0, _, _, rfl, rfl, upd_same, by omega, by omega, ?_, fun D nD => ?_⟩
    · rw [show (((cs.length : Nat) : Int) + ((jv.length : Nat) : Int)).toNat = cs.length + js.length by omega, List.length_singleton]
      exact Nat.le_of_lt (small10 (by omega))
    rw [eR]
    have e4 : Same H2 (upd (upd H2 z0 (.lst [.int 0])) D (.lst (nV (List.replicate (cs.length + js.length) 0)))) := (same_new nz0).trans (same_new nD)
    have hD4 : upd (upd H2 z0 (.lst [.int 0])) D (.lst (nV (List.replicate (cs.length + js.length) 0))) D = some (.lst (nV (List.replicate (cs.length + js.length) 0))) := upd_same
    have nD2 : H2 D = none := Same.none' (same_new nz0) nD
    generalize upd (upd H2 z0 (.lst [.int 0])) D (.lst (nV (List.replicate (cs.length + js.length) 0))) = H4 at e4 hD4 ⊢
    have hj4 := e4 _ _ hjo
    have hc4 := e4 _ _ hc2
    have pj4 := PL.tt (TT.same e4) pj
    have njD : jo ≠ D := ne_of_none hjo nD2
    have ncD : cp ≠ D := ne_of_none hc2 nD2
    have nd0 := Huff.zipIdx_nd cs
    have lt0 : ∀ v ∈ cs.zipIdx, v.2 < cs.length := Huff.zipIdx_lt
    obtain ⟨i1, _⟩ := ch.done (by omega) (by omega)
    have len0 := ch.len
    rw [Huff.zipIdx_lenN] at len0
    have I1 : ∃ v, I = [v] := by
      match I, len0 with
      | [], l => exact absurd l.2 (by simp; omega)
      | [v], _ => exact ⟨v, rfl⟩
      | _ :: _ :: _, l => simp at i1
    obtain ⟨v0, rfl⟩ := I1
    have hv0 := (ch.ids nd0 lt0).2 v0 List.mem_cons_self
    have deep0 : Deep cs.length (lAt (List.replicate (cs.length + js.length) 0)) [v0] 0 0 := by
      have e0 : ∀ i, lAt (List.replicate (cs.length + js.length) 0) i = 0 := fun i => by
        show (List.replicate _ 0).getD i 0 = 0
        rw [List.getD_eq_getElem?_getD, List.getElem?_replicate]
        split <;> rfl
      refine ⟨?_, ?_, fun v hv => ?_⟩
      · show 2 ^ (cs.length - lAt _ v0.2) + 0 = _
        rw [e0]
        rfl
      · show v0.1 * lAt _ v0.2 + 0 = _
        rw [e0, Nat.mul_zero]
      · rw [e0]
        exact Nat.le_refl _
    refine ⟨_, rfl, jo, _, rfl, .inl (SqL.of hj4), _, _, rfl, rfl, _, rfl, _, rfl, _, _, _, js.length, rfl, ?_, for_rangeC (n := js.length) (fun i σ H' => ∃ (ds : List Nat) (ms' : List Nat) (I' : List (Nat × Nat)) (t : Nat) (x4 x5 : Option V), σ = [some (.ref cp), some (.ref jo), some (.int ((hf cs : Nat) : Int)), some (.ref D), x4, x5] ∧ ButI D H4 H' ∧ H' D = some (.lst (nV ds)) ∧
        ds.length = cs.length + js.length ∧ Chain cs.length cs.zipIdx (js.take (js.length - i)) ms' I' ∧ Deep cs.length (lAt ds) I' t i ∧ t + ms'.sum = hf cs ∧ i ≤ js.length)
        ⟨_, ms, [v0], 0, none, none, rfl, fun _ _ _ z => z, hD4, List.length_replicate, by rw [Nat.sub_zero, List.take_length]; exact ch, deep0, by omega, Nat.zero_le _⟩ ?_ ?_⟩
    · have := RgC.neg (i := ((jv.length : Nat) : Int) - 1) (j := -1) (by omega) (by omega) (by omega) (by omega)
      rw [show ((((jv.length : Nat) : Int) - 1) - -1).toNat = js.length by omega] at this
      exact this
    · rintro i σ H5 hi ⟨ds, ms', I', t', x4, x5, rfl, b5, hD5, lds, ch5, dp5, es, _⟩
      have ej : ((jv.length : Nat) : Int) - 1 + ((i : Nat) : Int) * -1 = ((js.length - 1 - i : Nat) : Int) := by omega
      show gName 4 (V.int (((jv.length : Nat) : Int) - 1 + ((i : Nat) : Int) * -1)) _ _ _
      rw [ej]
      have hj : js.length - 1 - i < js.length := by omega
      obtain ⟨j, ejj⟩ : ∃ j, js.length - 1 - i = j := ⟨_, rfl⟩
      rw [ejj] at hj ⊢
      rw [show js.length - i = j + 1 by omega, List.take_succ_eq_append_getElem hj] at ch5
      obtain ⟨tp, t1, t2⟩ := pj4.atI hj
      have t2 := b5 _ _ (fun z => by subst z; rw [hD4] at t2; cases t2) t2
      have hj5 := b5 _ _ njD hj4
      have hc5 := b5 _ _ ncD hc4
      have ltake : (js.take j).length = j := by rw [List.length_take]; omega
      generalize js[j] = pq at ch5 t2
      obtain ⟨p, q⟩ := pq
      dsimp only at t2
      have bk := fun (d' : Nat → Nat) e1 e2 e3 => ch5.back (d' := d') nd0 lt0 dp5 (by omega) e1 e2 e3
      rw [ltake] at bk
      have pre : p < cs.length + j ∧ q < cs.length + j ∧ p ≠ q := by
        by_cases pq : p = q
        · obtain ⟨_, _, z, _⟩ := bk (fun v => if v = p then lAt ds (cs.length + j) + 1 else lAt ds v) (if_pos rfl) (if_pos pq.symm) (fun v h1 _ => if_neg h1)
          exact absurd pq z
        · obtain ⟨a, b, c, _⟩ := bk (fun v => if v = p then lAt ds (cs.length + j) + 1 else if v = q then lAt ds (cs.length + j) + 1 else lAt ds v) (if_pos rfl) (by rw [if_neg (Ne.symm pq), if_pos rfl]) (fun v h1 h2 => by rw [if_neg h1, if_neg h2])
          exact ⟨a, b, c⟩
      obtain ⟨p1, q1, pq⟩ := pre
      refine ⟨_, rfl, _, rfl, jo, _, _, _, rfl, rfl, SqL.of hj5, t1, tp, _, rfl, .inr (SqT.of t2), fun J G wk hG => for_it wk (fun k σ H' => ∃ x5 : Option V, σ = [some (.ref cp), some (.ref jo), some (.int ((hf cs : Nat) : Int)), some (.ref D), some (.int ((j : Nat) : Int)), x5] ∧ ButI D H5 H' ∧
        H' D = some (.lst (nV (match k with | 0 => ds | 1 => ds.set p (lAt ds (cs.length + j) + 1) | _ => (ds.set p (lAt ds (cs.length + j) + 1)).set q (lAt ds (cs.length + j) + 1))))) ⟨_, rfl, fun _ _ _ z => z, hD5⟩ (fun k σ H' _ ⟨_, _, e, _⟩ => hG H' fun o z => e _ _ (fun y => by subst y; rw [t2] at hD5; cases hD5) z) ?_ ?_⟩
      · have hat : ∀ dk : List Nat, dk.length = cs.length + js.length → atI (nV dk) (((nV cs).length : Nat) + ((j : Nat) : Int)) = some (.int ((lAt dk (cs.length + j) : Nat) : Int)) := fun dk h => by
          rw [nV_len, show ((cs.length : Nat) : Int) + ((j : Nat) : Int) = ((cs.length + j : Nat) : Int) by omega]
          exact atI_nat (nV_at (by omega))
        rintro k x σ H6 H7 hk ⟨x5, rfl, b6, hD6⟩ ⟨rfl, hx⟩
        have hc6 := b6 _ _ ncD hc5
        match k, hk with
        | 0, _ =>
          cases hx
          have hD6 : H7 D = some (.lst (nV ds)) := hD6
          refine ⟨_, rfl, _, rfl, cp, _, rfl, .inl (SqL.of hc6), _, rfl, _, _, rfl, rfl, D, _, _, _, rfl, rfl, SqL.of hD6, hat _ lds, _, _, rfl, rfl, _, rfl, _, rfl, D, _, _, p, rfl, rfl, hD6, ixn (by rw [nV_len]; omega), _, rfl, fun b o nb z => (upd_ne nb).trans (b6 _ _ nb z), ?_⟩
          rw [upd_same]
          show some (HO.lst ((nV ds).set p (.int ((lAt ds (cs.length + j) + 1 : Nat) : Int)))) = some (HO.lst (nV (ds.set p (lAt ds (cs.length + j) + 1))))
          rw [nV_set]
        | 1, _ =>
          cases hx
          have hD6 : H7 D = some (.lst (nV (ds.set p (lAt ds (cs.length + j) + 1)))) := hD6
          have l1 : (ds.set p (lAt ds (cs.length + j) + 1)).length = cs.length + js.length := by rw [List.length_set, lds]
          refine ⟨_, rfl, _, rfl, cp, _, rfl, .inl (SqL.of hc6), _, rfl, _, _, rfl, rfl, D, _, _, _, rfl, rfl, SqL.of hD6, hat _ l1, _, _, rfl, rfl, _, rfl, _, rfl, D, _, _, q, rfl, rfl, hD6, ixn (by rw [nV_len]; omega), _, rfl, fun b o nb z => (upd_ne nb).trans (b6 _ _ nb z), ?_⟩
          rw [upd_same, lAt_set (by omega), if_neg (by omega)]
          show some (HO.lst ((nV (ds.set p (lAt ds (cs.length + j) + 1))).set q (.int ((lAt ds (cs.length + j) + 1 : Nat) : Int)))) = some (HO.lst (nV ((ds.set p (lAt ds (cs.length + j) + 1)).set q (lAt ds (cs.length + j) + 1))))
          rw [nV_set]
      · rintro σ H6 ⟨x5, rfl, b6, hD6⟩
        have hD6 : H6 D = some (.lst (nV ((ds.set p (lAt ds (cs.length + j) + 1)).set q (lAt ds (cs.length + j) + 1)))) := hD6
        obtain ⟨_, _, _, ms2, s2, I2, em, ch6, dp6⟩ := bk (lAt ((ds.set p (lAt ds (cs.length + j) + 1)).set q (lAt ds (cs.length + j) + 1))) (by
            rw [lAt_set (by rw [List.length_set]; omega), if_neg pq, lAt_set (by omega), if_pos rfl]) (by rw [lAt_set (by rw [List.length_set]; omega), if_pos rfl]) (fun v h1 h2 => by
            rw [lAt_set (by rw [List.length_set]; omega), if_neg h2, lAt_set (by omega), if_neg h1])
        refine ⟨_, ms2, I2, t' + s2, _, _, rfl, fun b o nb z => b6 _ _ nb (b5 _ _ nb z), hD6, by rw [List.length_set, List.length_set, lds], ?_, dp6, ?_, hi⟩
        · rw [show js.length - (i + 1) = j by omega]
          exact ch6
        · rw [em, List.sum_append, List.sum_singleton] at es
          omega
    · rintro σ H5 ⟨ds, ms', I', t', x4, x5, rfl, b5, hD5, lds, ch5, dp5, es, _⟩
      rw [Nat.sub_self, List.take_zero] at ch5
      have hc5 := b5 _ _ ncD hc4
      have fin : ms' = [] ∧ I'.Perm cs.zipIdx := by
        generalize ej : ([] : List (Nat × Nat)) = j0 at ch5
        cases ch5 with
        | nil p => exact ⟨rfl, p⟩
        | snoc _ _ _ _ _ => simp at ej
      obtain ⟨rfl, pI⟩ := fin
      obtain ⟨k1, k2, k3⟩ := dp5.end_ pI
      have et : t' = hf cs := by simpa using es
      have els : (List.range cs.length).map (lAt ds) = ds.take cs.length := by
        refine List.ext_getElem (by simp; omega) fun i h1 h2 => ?_
        rw [List.length_map, List.length_range] at h1
        rw [List.getElem_map, List.getElem_range, List.getElem_take, lAt_get]
      rw [els] at k1 k2 k3
      have ell : (ds.take cs.length).length = cs.length := by rw [List.length_take]; omega
      refine ⟨_, rfl, ?_⟩
      simp only [tNoPart]
      refine ⟨_, rfl, cp, _, rfl, .inl (SqL.of hc5), _, rfl, D, _, rfl, SqL.of hD5, fun lp nlp => ?_⟩
      rw [show cutV (nV ds) none (some (((nV cs).length : Nat) : Int)) = nV (ds.take cs.length) by
        rw [nV_len, cut_to (by rw [nV_len]; omega)]
        unfold nV
        rw [List.map_take]]
      refine fun p dx np ndx ne => ?_
      have e6 := (same_new (o := .lst (nV (ds.take cs.length))) nlp)
      have hl6 : upd H5 lp (.lst (nV (ds.take cs.length))) lp = some (.lst (nV (ds.take cs.length))) := upd_same
      generalize upd H5 lp (.lst (nV (ds.take cs.length))) = H6 at e6 hl6 np ndx ⊢
      have s6 : Same H H6 := fun b o z => e6 _ _ (b5 _ _ (fun y => by
        have := e2 _ _ (e1 _ _ z)
        rw [y, nD2] at this
        cases this) (e4 _ _ (e2 _ _ (e1 _ _ z))))
      have e7 : Same H6 (upd (upd H6 dx (.own p)) p (.ins C dx [])) := same_ins np ndx
      have hp7 : upd (upd H6 dx (.own p)) p (.ins C dx []) p = some (.ins C dx []) := upd_same
      generalize upd (upd H6 dx (.own p)) p (.ins C dx []) = H7 at e7 hp7 ⊢
      generalize ds.take cs.length = ls at k1 k2 k3 ell hl6
      have lk : ∀ l ∈ ls, 1 ≤ l ∧ l + 1 ≤ cs.length := fun l hl => ⟨Huff.full_pos (by omega) k1 l hl, by have := k3 l hl; omega⟩
      obtain ⟨L, Lm, LM⟩ := top_of (ls := ls) (by intro z; subst z; simp at ell; omega)
      have L6 := (lk L Lm).2
      have kL : Huff.kl L ls = 2 ^ L := Huff.kl_max (L := cs.length) (by omega) LM k1
      refine ⟨p, dx, lp, .non, _, rfl, hp7, .inl (e7 _ _ hl6), nV_kn _, tabs.ext (s6.trans e7), by rw [nV_len]; omega, .inr (.inr ⟨by rw [nV_len]; omega, by rw [nV_len]; omega, ls, L, rfl, fun l hl => ⟨(lk l hl).1, LM l hl⟩, Lm, by omega, .inr (.inl ⟨kL, rfl, fun os ws H8 lt wt tr O Cn bt tab8 hp8 hlt hwt => ⟨rfl, ?_⟩⟩)⟩)⟩
      refine out p L ls ws H8 ⟨dx, lt, wt, tr, hp8, hlt, hwt⟩ ⟨os, O, Cn⟩ (Same.none' s6 np) ⟨ell, ⟨L, LM, kL⟩, by rw [k2, et]⟩ lk (fun c o z n => bt c o (ne_of_none z (Same.none' s6 np)) (e7 _ _ (s6 _ _ z)) n) tab8
end
end K38
set_option linter.all false
namespace Huff
theorem least_item {I : List It} (h : I ≠ []) : ∃ x r, I.Perm (x :: r) ∧ ∀ z ∈ r, x.1 ≤ z.1 := by
  obtain ⟨m, h1, h2⟩ := le_min (l := I.map (·.1)) (by intro e; exact h (List.map_eq_nil_iff.mp e))
  obtain ⟨x, hx, rfl⟩ := List.mem_map.mp h1
  obtain ⟨r, hr⟩ := mem_perm hx
  exact ⟨x, r, hr, fun z hz => h2 _ (List.mem_map_of_mem (hr.symm.subset (List.mem_cons_of_mem _ hz)))⟩
theorem chain_ex (n : Nat) (I0 : List It) : ∀ k, k + 1 ≤ I0.length → ∃ js ms I, Chain n I0 js ms I ∧ js.length = k
  | 0, _ => ⟨[], [], I0, .nil (.refl _), rfl⟩
  | k + 1, h => by
    obtain ⟨js, ms, I, c, e⟩ := chain_ex n I0 k (by omega)
    have l := c.len.2
    obtain ⟨x, r, pr, hr⟩ := least_item (I := I) (by rintro rfl; simp at l; omega)
    have lr := pr.length_eq
    rw [List.length_cons] at lr
    obtain ⟨y, g, pg, hg⟩ := least_item (I := r) (by rintro rfl; simp at lr; omega)
    exact ⟨_, _, _, .snoc c (pr.trans (pg.cons x)) (hr y (pg.symm.subset List.mem_cons_self)) hg (.refl _), by rw [List.length_append, e]; rfl⟩
theorem deep_ex {n : Nat} {I0 : List It} (nd : (I0.map (·.2)).Nodup) (lt : ∀ v ∈ I0, v.2 < n) {L : Nat} : ∀ (k : Nat) (js : List (Nat × Nat)) (ms : List Nat) (I : List It) (d : Nat → Nat) (t b : Nat), js.length = k → Chain n I0 js ms I → Deep L d I t b → b + k ≤ L →
    ∃ d' I', I'.Perm I0 ∧ Deep L d' I' (t + ms.sum) (b + k)
  | 0, js, ms, I, d, t, b, e, c, h, _ => by
    have : js = [] := List.length_eq_zero_iff.mp e
    subst this
    generalize ej : ([] : List (Nat × Nat)) = j0 at c
    cases c with
    | nil p => exact ⟨d, I, p, h⟩
    | snoc _ _ _ _ _ => simp at ej
  | k + 1, js, ms, I, d, t, b, e, c, h, hb => by
    have ne : js ≠ [] := by rintro rfl; simp at e
    obtain ⟨js', pq, rfl⟩ : ∃ js' pq, js = js' ++ [pq] := ⟨_, _, (List.dropLast_concat_getLast ne).symm⟩
    obtain ⟨p, q⟩ := pq
    rw [List.length_append] at e
    have e' : js'.length = k := by simpa using e
    by_cases z : p = q
    · obtain ⟨_, _, z2, _⟩ := c.back (d' := fun v => if v = p then d (n + js'.length) + 1 else d v) nd lt h (by omega) (if_pos rfl) (if_pos z.symm) (fun v h1 _ => if_neg h1)
      exact absurd z z2
    · obtain ⟨_, _, _, ms', s, I', rfl, c', h'⟩ := c.back (d' := fun v => if v = p then d (n + js'.length) + 1 else if v = q then d (n + js'.length) + 1 else d v) nd lt h (by omega) (if_pos rfl) (by rw [if_neg (Ne.symm z), if_pos rfl]) (fun v h1 h2 => by rw [if_neg h1, if_neg h2])
      obtain ⟨d2, I2, p2, h2⟩ := deep_ex nd lt k js' ms' I' _ (t + s) (b + 1) e' c' h' (by omega)
      refine ⟨d2, I2, p2, ?_⟩
      rw [List.sum_append, List.sum_singleton, show t + (ms'.sum + s) = t + s + ms'.sum by omega, show b + (k + 1) = b + 1 + k by omega]
      exact h2
/-- there is a code that costs least -/
theorem best_ex {cs : List Nat} (n : 1 ≤ cs.length) : ∃ b, Best b cs ∧ ∀ l ∈ b, l + 1 ≤ cs.length := by
  obtain ⟨js, ms, I, c, e⟩ := chain_ex cs.length cs.zipIdx (cs.length - 1) (by rw [zipIdx_lenN]; omega)
  have l := c.len
  rw [zipIdx_lenN] at l
  obtain ⟨i1, sm⟩ := c.done (by omega) n
  have I1 : ∃ v, I = [v] := by
    match I, l.2 with
    | [], h => simp at h; omega
    | [v], _ => exact ⟨v, rfl⟩
    | _ :: _ :: _, h => simp at i1
  obtain ⟨v, rfl⟩ := I1
  obtain ⟨d, I', p, h⟩ := deep_ex (L := cs.length) (zipIdx_nd cs) zipIdx_lt _ js ms [v] (fun _ => 0) 0 0 e c ⟨by simp, by simp, fun _ _ => Nat.le_refl _⟩ (by omega)
  obtain ⟨k1, k2, k3⟩ := h.end_ p
  refine ⟨_, ⟨by simp, ⟨cs.length, fun l hl => by have := k3 l hl; omega, k1⟩, by rw [k2, sm, Nat.zero_add]⟩, fun l hl => by have := k3 l hl; omega⟩
end Huff
set_option Elab.async false
set_option linter.all false
set_option maxRecDepth 100001
set_option maxHeartbeats 3999999
namespace K38
open PySem L2
open Huff (hf dot Least Best stp)
/-- numbers that aren't too great -/
def Bd (cs : List Nat) : Prop := ∀ c ∈ cs, c < 2 ^ 200
theorem sum_bd : ∀ {cs : List Nat}, Bd cs → cs.sum ≤ cs.length * 2 ^ 200
  | [], _ => Nat.zero_le _
  | c :: cs, h => by
    have ih := sum_bd (cs := cs) fun x hx => h x (List.mem_cons_of_mem _ hx)
    have := h c List.mem_cons_self
    rw [List.sum_cons, List.length_cons, Nat.add_mul]
    omega
theorem dot_bd {ls cs : List Nat} (s : Sm ls) (e : cs.length = ls.length) (l : ls.length ≤ 60) (h : Bd cs) : dot ls cs < 2 ^ 213 := by
  have h1 := Huff.dot_le (ls := ls) (cs := cs) (b := 100) s e.symm
  have h2 := sum_bd h
  have h3 : cs.length * 2 ^ 200 ≤ 60 * 2 ^ 200 := Nat.mul_le_mul_right _ (by omega)
  have h4 : 100 * (60 * 2 ^ 200) < 2 ^ 213 := by decide
  omega
theorem lAt_stp {cs ss : List Nat} {m i : Nat} (e : ss.length = cs.length) (h : i < cs.length) : lAt (stp cs ss m) i = lAt cs i + m * lAt ss i := by
  rw [lAt_get (by rw [Huff.stp_len e]; exact h), lAt_get h, lAt_get (by omega)]
  unfold stp
  rw [List.getElem_zipWith]
theorem gN {i : Nat} {v : V} {σ : St} {H : Hp} {Q : St → Hp → Prop} (h : Q (σ.set i (some v)) H) : gName i v σ H Q := h
section
variable {P : Program} {w : World} {K : PySem.W.Frag} {mg : Str → Option Value} {base : Heap}
end
end K38
set_option Elab.async false
set_option linter.all false
set_option maxRecDepth 100001
set_option maxHeartbeats 3999999
namespace K38
open PySem L2
open Huff (hf dot Least Best stp)
abbrev sShuf : Stmt := topS 56
theorem perm_erase {α : Type} : ∀ (l : List α) (i : Nat) (h : i < l.length), (l[i] :: l.eraseIdx i).Perm l
  | a :: l, 0, _ => List.Perm.refl _
  | a :: l, i + 1, h => by
    have ih := perm_erase l i (by simpa using h)
    exact (List.Perm.swap a _ _).trans (ih.cons a)
theorem map_erase {α β : Type} (f : α → β) : ∀ (l : List α) (i : Nat), (l.map f).eraseIdx i = (l.eraseIdx i).map f
  | [], _ => rfl
  | _ :: _, 0 => rfl
  | a :: l, i + 1 => by
    show f a :: (l.map f).eraseIdx i = _
    rw [map_erase f l i]
    rfl
theorem seqIx {k n : Nat} (h : k < n) : seqIndex? ((k : Nat) : Int) n = some k := by
  unfold seqIndex?
  simp
  omega
def spShuf : Sp := fun vs H Q _ => ∃ (pn cl ip : Addr) (ws : List Nat) (b : Nat), vs = [.ref pn, .ref ip] ∧ Pen H pn cl b ∧ H ip = some (.lst (nV ws)) ∧ ws.length ≤ 60 ∧ b ≤ 100000 ∧
  ∀ (us : List Nat) D H', us.Perm ws → But pn H H' → Pen H' pn cl (b + ws.length) → H D = none → H' D = some (.lst (nV us)) → Q (.ref D) H'
section
variable {P : Program} {w : World} {K : PySem.W.Frag} {mg : Str → Option Value} {base : Heap}
theorem scShuf : FnScope ["_law_pen", "_law_items", "_law_rest", "_law_found"] ["_law_pen", "_law_items"] (defScope sShuf) := ⟨rfl, rfl, rfl, by decide +kernel, rfl, by decide +kernel, by decide +kernel⟩
theorem ok_shuf {f : Addr} {fd : FuncData} (F : Fun K "_law_shuffled" "_law_shuffled" sShuf f fd) (B : Bi mg) (cD : Cal CX0 P w K mg base 1 "_law_draw" spDraw) : FnOk P w K mg base CX0 3 f fd ["_law_pen", "_law_items"] spShuf := by
  refine F.ok scShuf (fun vs H Q E h => ?_) (fun cdv A outer s H vs Q E hr h => ?_)
  · obtain ⟨pn, cl, ip, ws, b, rfl, _⟩ := h
    rfl
  · obtain ⟨pn, cl, ip, ws, b, rfl, pen, hi, l20, hb, q⟩ := h
    refine ⟨_, pss_cons (ps_par (i := 2) (j := 3) rfl scShuf.nd rfl rfl (by decide) rfl rfl (pa_cons (pe_callTy call_list_of rfl B.list (by decide +kernel) (pa_cons (pv 1) pa_nil)) (pa_cons (pe_lst pa_nil) pa_nil)) rfl)
      (pss_cons (ps_while PassesOwn.never (pt_cmpR (op_neN (hu64 hr)) (pv 2) (pe_lst pa_nil) (nomark _))
        (pss_one (ps_expr (pe_bm PySem.F.plainAttrs_list PySem.F.slot_list_append PySem.F.type_list_append mt_append (pv 3) (pa_cons (pe_bm PySem.F.plainAttrs_list PySem.F.slot_list_pop PySem.F.type_list_pop mt_popAt (pv 2) (pa_cons (pe_c cD hr pass0 (pa_cons (pv 0) (pa_cons (pe_len B.len (pa_cons (pv 2) pa_nil)) pa_nil))) pa_nil)) pa_nil)))))
      (pss_one (ps_ret (pv 3)))), ?_⟩
    refine ⟨_, rfl, ip, _, rfl, .inl (SqL.of hi), fun rs nrs => ⟨by show 0 ≤ sizeLine; decide, fun fo nfo => ?_⟩⟩
    have e1 := same_new (o := .lst (nV ws)) nrs
    have e2 := same_new (o := .lst []) nfo
    have hr1 : upd H rs (.lst (nV ws)) rs = some (.lst (nV ws)) := upd_same
    have hr2 := e2 _ _ hr1
    have hf2 : upd (upd H rs (.lst (nV ws))) fo (.lst []) fo = some (.lst []) := upd_same
    have nrf : rs ≠ fo := ne_of_none hr1 nfo
    have mfo : H fo = none := Same.none' e1 nfo
    have e12 := e1.trans e2
    generalize upd (upd H rs (.lst (nV ws))) fo (.lst []) = H2 at hr2 hf2 e12 ⊢
    have pen2 := pen.same e12
    have nr : pn ≠ rs ∧ cl ≠ rs := pen.off nrs
    have nf : pn ≠ fo ∧ cl ≠ fo := pen.off mfo
    clear e1 e2 hr1
    refine ⟨_, _, rfl, fun k σ H' => ∃ (us rest : List Nat), k = rest.length ∧ σ = [some (.ref pn), some (.ref ip), some (.ref rs), some (.ref fo)] ∧ But pn H H' ∧ Pen H' pn cl (b + us.length) ∧ H' rs = some (.lst (nV rest)) ∧ H' fo = some (.lst (nV us)) ∧ (us ++ rest).Perm ws,
      ⟨_, [], ws, rfl, rfl, fun c o _ z => e12 _ _ z, pen2, hr2, hf2, List.Perm.refl _⟩, ?_⟩
    rintro k σ G ⟨us, rest, rfl, rfl, e5, pen5, hr5, hf5, pm⟩
    refine ⟨_, rfl, by show 0 ≤ sizeLine; decide, fun e0 ne0 => ?_⟩
    have e6 := same_new (o := .lst []) ne0
    have hr6 := e6 _ _ hr5
    have hf6 := e6 _ _ hf5
    have pen6 := pen5.same e6
    have lp := pm.length_eq
    rw [List.length_append] at lp
    refine ⟨rs, e0, nV rest, [], rfl, rfl, .inl ⟨SqL.of hr6, SqL.of upd_same⟩, nV_num _, (fun v hv => nomatch hv), _, rfl, ?_⟩
    rw [if_pos rfl, show decide (nV rest = []) = decide (rest = []) from decide_eq_decide.mpr ⟨fun z => List.map_eq_nil_iff.mp z, fun z => by rw [z]; rfl⟩]
    generalize upd G e0 (.lst []) = G6 at e6 hr6 hf6 pen6 ⊢
    by_cases c : rest = []
    · subst c
      rw [show (!decide (([] : List Nat) = [])) = false from rfl]
      rw [List.append_nil] at pm
      refine iteF ⟨_, rfl, q us fo G6 pm (fun c o n z => e6 _ _ (e5 c o n z)) ?_ mfo hf6⟩
      rw [← pm.length_eq]
      exact pen6
    · rw [decide_eq_false c]
      refine iteT ⟨fun σ' H' => ∃ k', k' < rest.length ∧ ∃ (us rest : List Nat), k' = rest.length ∧ σ' = [some (.ref pn), some (.ref ip), some (.ref rs), some (.ref fo)] ∧ But pn H H' ∧ Pen H' pn cl (b + us.length) ∧ H' rs = some (.lst (nV rest)) ∧ H' fo = some (.lst (nV us)) ∧ (us ++ rest).Perm ws, fun σ' H' ⟨k', l, z⟩ => ⟨k', l, z⟩, ?_⟩
      have l0 : 0 < rest.length := List.length_pos_iff.mpr c
      have lm : (nV rest).length = rest.length := List.length_map _
      refine ⟨_, rfl, .inl ⟨rfl, _, SqL.of hf6⟩, _, rfl, .inl ⟨rfl, _, SqL.of hr6⟩, _, rfl, _, rfl, rs, _, rfl, .inl (SqL.of hr6), pn, cl, _, b + us.length, rfl, pen6, by omega, by rw [lm]; omega, by rw [lm]; omega, fun d H7 d0 d1 e7 pen7 => ?_⟩
      obtain ⟨d, rfl⟩ := Int.eq_ofNat_of_zero_le d0
      rw [lm] at d1
      have d2 : d < rest.length := by omega
      have hr7 := e7 _ _ (Ne.symm nr.1) hr6
      have hf7 := e7 _ _ (Ne.symm nf.1) hf6
      have eg : (nV rest)[d]? = some (.int ((rest[d] : Nat) : Int)) := by rw [nV_at d2, lAt_get d2]
      refine ⟨rs, _, _, d, _, rfl, rfl, hr7, by omega, by omega, by rw [lm]; exact seqIx d2, eg, ?_⟩
      refine ⟨fo, _, _, rfl, rfl, (upd_ne (Ne.symm nrf)).trans hf7, ?_, ?_⟩
      · rw [nV_len]
        exact small10 (by omega)
      refine ⟨_, ?_, us ++ [rest[d]], rest.eraseIdx d, rfl, rfl, fun c o n z => ?_, ?_, ?_, ?_, ?_⟩
      · rw [List.length_eraseIdx_of_lt d2]
        omega
      · have z7 := e7 _ _ n (e6 _ _ (e5 c o n z))
        rw [upd_ne (ne_of_none z mfo), upd_ne (ne_of_none z nrs)]
        exact z7
      · rw [List.length_append]
        exact (pen7.upd nr.1 nr.2).upd nf.1 nf.2
      · rw [upd_ne nrf, upd_same]
        unfold nV
        rw [map_erase]
      · rw [upd_same, nV_app]
        rfl
      · rw [List.append_assoc]
        exact (List.Perm.append_left us (perm_erase rest d d2)).trans pm
end
end K38
set_option Elab.async false
set_option linter.all false
set_option maxRecDepth 100001
set_option maxHeartbeats 3999999
namespace K38
open PySem L2
open Huff (hf dot Least Best stp)
abbrev sSC : Stmt := topS 57
abbrev sLCost : Stmt := topS 58
abbrev sLLeast : Stmt := topS 60
/-- lengths of a full code, told by a great length -/
structure FC (xs : List Nat) : Prop where
  lo : ∀ l ∈ xs, 1 ≤ l
  hi : ∀ l ∈ xs, l + 1 ≤ xs.length
  kl : Huff.kl 60 xs = 2 ^ 60
theorem FC.start : FC [1, 1] := ⟨by simp, by simp, rfl⟩
theorem FC.perm {a b : List Nat} (h : FC a) (p : a.Perm b) : FC b := ⟨fun l hl => h.lo l (p.symm.subset hl), fun l hl => by rw [← p.length_eq]; exact h.hi l (p.symm.subset hl), by rw [← Huff.kl_perm p]; exact h.kl⟩
theorem FC.cut {xs : List Nat} {i : Nat} (h : FC xs) (hi : i < xs.length) (l : xs.length ≤ 60) : FC (xs.take i ++ [xs[i] + 1, xs[i] + 1] ++ xs.drop (i + 1)) := by
  have p1 : xs.Perm (xs[i] :: (xs.take i ++ xs.drop (i + 1))) := by
    conv => lhs; rw [← List.take_append_drop i xs, List.drop_eq_getElem_cons hi]
    exact List.perm_middle
  have p2 : ((xs[i] + 1) :: (xs[i] + 1) :: (xs.take i ++ xs.drop (i + 1))).Perm (xs.take i ++ [xs[i] + 1, xs[i] + 1] ++ xs.drop (i + 1)) := by
    rw [List.append_assoc]
    exact ((List.perm_middle (l₁ := xs.take i) (l₂ := (xs[i] + 1) :: xs.drop (i + 1)) (a := xs[i] + 1)).trans ((List.perm_middle).cons _)).symm
  refine FC.perm ⟨fun x hx => ?_, fun x hx => ?_, ?_⟩ p2
  · rcases List.mem_cons.mp hx with rfl | hx
    · omega
    · rcases List.mem_cons.mp hx with rfl | hx
      · omega
      · exact h.lo x (p1.symm.subset (List.mem_cons_of_mem _ hx))
  · have pl := p1.length_eq
    rw [List.length_cons] at pl
    rw [List.length_cons, List.length_cons, ← pl]
    have e0 := h.hi xs[i] (List.getElem_mem hi)
    rcases List.mem_cons.mp hx with rfl | hx
    · omega
    · rcases List.mem_cons.mp hx with rfl | hx
      · omega
      · have := h.hi x (p1.symm.subset (List.mem_cons_of_mem _ hx))
        omega
  · have k := h.kl
    rw [Huff.kl_perm p1, Huff.kl_cons] at k
    rw [Huff.kl_cons, Huff.kl_cons, ← k]
    have e0 := h.hi xs[i] (List.getElem_mem hi)
    rw [show 60 - xs[i] = (60 - (xs[i] + 1)) + 1 by omega, Nat.pow_succ]
    omega
theorem FC.full {xs : List Nat} (h : FC xs) (l : xs.length ≤ 61) : Huff.Full xs := ⟨60, fun x hx => by have := h.hi x hx; omega, h.kl⟩
theorem nV_take (xs : List Nat) (i : Nat) : (nV xs).take i = nV (xs.take i) := by
  unfold nV
  rw [List.map_take]
theorem nV_drop (xs : List Nat) (i : Nat) : (nV xs).drop i = nV (xs.drop i) := by
  unfold nV
  rw [List.map_drop]
def spSC : Sp := fun vs H Q _ => ∃ (pn cl : Addr) (m b : Nat), vs = [.ref pn, .int (m : Nat)] ∧ Pen H pn cl b ∧ 2 ≤ m ∧ m ≤ 60 ∧ b ≤ 90000 ∧
  ∀ (ls : List Nat) D H', FC ls → ls.length = m → But pn H H' → Pen H' pn cl (b + 120) → H D = none → H' D = some (.lst (nV ls)) → Q (.ref D) H'
def spLCo : Sp := fun vs H Q _ => ∃ (lt cp : Addr) (ls cs : List Nat), vs = [.ref lt, .ref cp] ∧ LT H lt (nV ls) ∧ H cp = some (.lst (nV cs)) ∧ cs.length = ls.length ∧ ls.length ≤ 5000 ∧ Sm ls ∧
  ∀ H', Same H H' → Q (.int ((dot ls cs : Nat) : Int)) H'
def spLLe : Sp := fun vs H Q _ => ∃ (cp : Addr) (cs : List Nat), vs = [.ref cp] ∧ H cp = some (.lst (nV cs)) ∧ cs.length ≤ 2000 ∧ ∀ H', Same H H' → Q (.int ((hf cs : Nat) : Int)) H'
theorem old_none {H H' : Hp} {pn D : Addr} (b : But pn H H') (hp : H' pn ≠ none) (n : H' D = none) : H D = none := by
  cases z : H D with
  | none => rfl
  | some o =>
    have n1 : D ≠ pn := fun e => hp (by rw [← e]; exact n)
    rw [b D o n1 z] at n
    cases n
theorem Pen.some_ {H : Hp} {pn cl : Addr} {b : Nat} (p : Pen H pn cl b) : H pn ≠ none := by
  obtain ⟨_, _, _, g1, _⟩ := p
  rw [g1]
  exact fun z => nomatch z
section
variable {P : Program} {w : World} {K : PySem.W.Frag} {mg : Str → Option Value} {base : Heap}
theorem scSC : FnScope ["_law_pen", "_law_many", "_law_lengths", "_law_at"] ["_law_pen", "_law_many"] (defScope sSC) := ⟨rfl, rfl, rfl, by decide +kernel, rfl, by decide +kernel, by decide +kernel⟩
theorem ok_sc {f : Addr} {fd : FuncData} (F : Fun K "_law_some_code" "_law_some_code" sSC f fd) (B : Bi mg) (cD : Cal CX0 P w K mg base 1 "_law_draw" spDraw) (cS : Cal CX0 P w K mg base 3 "_law_shuffled" spShuf) : FnOk P w K mg base CX0 4 f fd ["_law_pen", "_law_many"] spSC := by
  refine F.ok scSC (fun vs H Q E h => ?_) (fun cdv A outer s H vs Q E hr h => ?_)
  · obtain ⟨pn, cl, m, b, rfl, _⟩ := h
    rfl
  · obtain ⟨pn, cl, m, b, rfl, pen, m2, m6, hb, q⟩ := h
    refine ⟨_, pss_cons (ps_set (i := 2) scSC.nd rfl (Or.inl rfl) (pe_lst (pa_cons pe_int (pa_cons pe_int pa_nil))))
      (pss_cons (ps_while PassesOwn.never (pt_cmpR op_lt (pe_len B.len (pa_cons (pv 2) pa_nil)) (pv 1) (nomark _))
        (pss_cons (ps_set (i := 3) scSC.nd rfl (Or.inl rfl) (pe_c cD hr pass0 (pa_cons (pv 0) (pa_cons (pe_len B.len (pa_cons (pv 2) pa_nil)) pa_nil))))
        (pss_one (ps_set (i := 2) scSC.nd rfl (Or.inl rfl) (pe_op op_cat (pe_op op_cat (pe_slice sl_list (pv 2) po_none (po_some (pv 3))) (pe_lst (pa_cons (pe_op op_add (pe_ix ix_list (pv 2) (pv 3) (fun _ _ => rfl)) pe_int) (pa_cons (pe_op op_add (pe_ix ix_list (pv 2) (pv 3) (fun _ _ => rfl)) pe_int) pa_nil)))) (pe_slice sl_list (pv 2) (po_some (pe_op op_add (pv 3) pe_int)) po_none))))))
      (pss_one (ps_ret (pe_c cS hr pass0 (pa_cons (pv 0) (pa_cons (pv 2) pa_nil)))))), ?_⟩
    refine ⟨by show 2 ≤ sizeLine; decide, fun l0 n0 => ?_⟩
    have e1 := same_new (o := .lst [.int 1, .int 1]) n0
    have h1 : upd H l0 (.lst [.int 1, .int 1]) l0 = some (.lst (nV [1, 1])) := upd_same
    have pen1 := pen.same e1
    have b1 : But pn H (upd H l0 (.lst [.int 1, .int 1])) := fun c o _ z => e1 _ _ z
    generalize upd H l0 (.lst [.int 1, .int 1]) = H1 at h1 pen1 b1 ⊢
    refine ⟨fun k σ H' => ∃ (xs : List Nat) (l : Addr) (x3 : Option V), k = m - xs.length ∧ σ = [some (.ref pn), some (.int (m : Nat)), some (.ref l), x3] ∧ FC xs ∧ 2 ≤ xs.length ∧ xs.length ≤ m ∧ H' l = some (.lst (nV xs)) ∧ H l = none ∧ But pn H H' ∧ Pen H' pn cl (b + xs.length),
      ⟨_, [1, 1], l0, none, rfl, rfl, FC.start, by decide, m2, h1, n0, b1, pen1.mono (by omega)⟩, ?_⟩
    rintro k σ G ⟨xs, l, x3, rfl, rfl, fw, x2, xm, hl, nl, bt, pen2⟩
    refine ⟨_, rfl, l, _, rfl, .inl (SqL.of hl), _, rfl, _, _, rfl, rfl, _, rfl, ?_⟩
    rw [nV_len]
    by_cases c : xs.length < m
    · rw [decide_eq_true (show ((xs.length : Nat) : Int) < ((m : Nat) : Int) by omega)]
      refine iteT ⟨fun σ' H' => ∃ k', k' < m - xs.length ∧ ∃ (xs : List Nat) (l : Addr) (x3 : Option V), k' = m - xs.length ∧ σ' = [some (.ref pn), some (.int (m : Nat)), some (.ref l), x3] ∧ FC xs ∧ 2 ≤ xs.length ∧ xs.length ≤ m ∧ H' l = some (.lst (nV xs)) ∧ H l = none ∧ But pn H H' ∧ Pen H' pn cl (b + xs.length), fun σ' H' ⟨k', l, z⟩ => ⟨k', l, z⟩, ?_⟩
      refine ⟨_, rfl, _, rfl, l, _, rfl, .inl (SqL.of hl), pn, cl, _, b + xs.length, rfl, pen2, by omega, by rw [nV_len]; omega, by rw [nV_len]; omega, fun d H3 d0 d1 e3 pen3 => ?_⟩
      obtain ⟨d, rfl⟩ := Int.eq_ofNat_of_zero_le d0
      rw [nV_len] at d1
      have d2 : d < xs.length := by omega
      have hl3 := e3 _ _ (pen2.ne hl fun _ z => nomatch z) hl
      refine ⟨_, rfl, ?_⟩
      simp only [tNoPart]
      refine ⟨_, rfl, _, rfl, l, _, rfl, SqL.of hl3, fun p1 np1 => ?_⟩
      rw [cut_to (by rw [nV_len]; omega), nV_take]
      have e4 := same_new (o := .lst (nV (xs.take d))) np1
      have hp4 : upd H3 p1 (.lst (nV (xs.take d))) p1 = some (.lst (nV (xs.take d))) := upd_same
      have hl4 := e4 _ _ hl3
      generalize upd H3 p1 (.lst (nV (xs.take d))) = H4 at e4 hp4 hl4 ⊢
      refine ⟨_, rfl, _, rfl, l, _, _, _, rfl, rfl, SqL.of hl4, nV_atI d2, _, _, rfl, rfl, _, rfl, _, rfl, l, _, _, _, rfl, rfl, SqL.of hl4, nV_atI d2, _, _, rfl, rfl, by show 2 ≤ sizeLine; decide, fun p2 np2 => ?_⟩
      dsimp only
      have e5 := same_new (o := .lst [.int (((xs[d] : Nat) : Int) + 1), .int (((xs[d] : Nat) : Int) + 1)]) np2
      have hp5 : upd H4 p2 (.lst [.int (((xs[d] : Nat) : Int) + 1), .int (((xs[d] : Nat) : Int) + 1)]) p2 = some (.lst (nV [xs[d] + 1, xs[d] + 1])) := upd_same
      have hl5 := e5 _ _ hl4
      have hq5 := e5 _ _ hp4
      generalize upd H4 p2 (.lst [.int (((xs[d] : Nat) : Int) + 1), .int (((xs[d] : Nat) : Int) + 1)]) = H5 at e5 hp5 hl5 hq5 ⊢
      refine ⟨p1, p2, _, _, rfl, rfl, hq5, hp5, ?_, fun p3 np3 => ?_⟩
      · rw [nV_len, nV_len, List.length_take]
        exact Nat.le_of_lt (small10 (by show _ + 2 ≤ _; omega))
      rw [← nV_app]
      have e6 := same_new (o := .lst (nV (xs.take d ++ [xs[d] + 1, xs[d] + 1]))) np3
      have hp6 : upd H5 p3 (.lst (nV (xs.take d ++ [xs[d] + 1, xs[d] + 1]))) p3 = some (.lst (nV (xs.take d ++ [xs[d] + 1, xs[d] + 1]))) := upd_same
      have hl6 := e6 _ _ hl5
      generalize upd H5 p3 (.lst (nV (xs.take d ++ [xs[d] + 1, xs[d] + 1]))) = H6 at e6 hp6 hl6 ⊢
      refine ⟨_, rfl, _, rfl, _, _, rfl, rfl, _, rfl, ?_⟩
      simp only [tNoPart]
      refine ⟨l, _, rfl, SqL.of hl6, fun p4 np4 => ?_⟩
      dsimp only
      rw [show ((d : Nat) : Int) + 1 = ((d + 1 : Nat) : Int) from rfl, cut_from (by rw [nV_len]; omega), nV_drop]
      have e7 := same_new (o := .lst (nV (xs.drop (d + 1)))) np4
      have hp7 := e7 _ _ hp6
      have hq7 : upd H6 p4 (.lst (nV (xs.drop (d + 1)))) p4 = some (.lst (nV (xs.drop (d + 1)))) := upd_same
      generalize upd H6 p4 (.lst (nV (xs.drop (d + 1)))) = H7 at e7 hp7 hq7 ⊢
      have el : (xs.take d ++ [xs[d] + 1, xs[d] + 1] ++ xs.drop (d + 1)).length = xs.length + 1 := by
        rw [List.length_append, List.length_append, List.length_take, List.length_drop]
        show min d xs.length + 2 + (xs.length - (d + 1)) = _
        omega
      refine ⟨p3, p4, _, _, rfl, rfl, hp7, hq7, ?_, fun p5 np5 => ?_⟩
      · rw [← List.length_append, ← nV_app, nV_len, el]
        exact Nat.le_of_lt (small10 (by omega))
      rw [← nV_app]
      have e37 := e4.trans (e5.trans (e6.trans e7))
      have e8 := same_new (o := .lst (nV (xs.take d ++ [xs[d] + 1, xs[d] + 1] ++ xs.drop (d + 1)))) np5
      have b7 : But pn H H7 := fun c o n z => e37 _ _ (e3 _ _ n (bt c o n z))
      have pen7 := pen3.same e37
      refine ⟨_, ?_, xs.take d ++ [xs[d] + 1, xs[d] + 1] ++ xs.drop (d + 1), p5, _, rfl, rfl, fw.cut d2 (by omega), by omega, by omega, upd_same, old_none b7 pen7.some_ np5, fun c o n z => e8 _ _ (b7 c o n z), (pen7.same e8).mono (by omega)⟩
      omega
    · rw [decide_eq_false (show ¬ ((xs.length : Nat) : Int) < ((m : Nat) : Int) by omega)]
      have em : xs.length = m := by omega
      refine iteF ?_
      refine ⟨_, rfl, _, rfl, pn, cl, l, xs, _, rfl, pen2, hl, by omega, by omega, fun us D H' pm e' pen' nD hD => ?_⟩
      exact q us D H' (fw.perm pm.symm) (by rw [pm.length_eq, em]) (bt.trans e') (pen'.mono (by omega)) (old_none bt pen2.some_ nD) hD
theorem scLCo : FnScope ["_law_lengths", "_law_counts", "_law_length", "_law_count"] ["_law_lengths", "_law_counts"] (defScope sLCost) := ⟨rfl, rfl, rfl, by decide +kernel, rfl, by decide +kernel, by decide +kernel⟩
theorem ok_lco {f : Addr} {fd : FuncData} (F : Fun K "_law_cost" "_law_cost" sLCost f fd) (Z : Bs mg) (mz : mg "zip" = none) : FnOk P w K mg base CX0 1 f fd ["_law_lengths", "_law_counts"] spLCo := by
  refine F.ok scLCo (fun vs H Q E h => ?_) (fun cdv A outer s H vs Q E hr h => ?_)
  · obtain ⟨lt, cp, ls, cs, rfl, _⟩ := h
    rfl
  · obtain ⟨lt, cp, ls, cs, rfl, hl, hc, el, l5, sm, q⟩ := h
    obtain ⟨tb, ht⟩ : ∃ tb : Bool, ∀ H', Same H H' → ZM.SqB K tb H' lt (nV ls) := hl.elim (fun z => ⟨false, fun H' e => SqL.of (e _ _ z)⟩) fun z => ⟨true, fun H' e => SqT.of (e _ _ z)⟩
    refine ⟨_, pss_one (ps_ret (pe_sum rfl Z.sum (pa_cons (pe_lc (own := [("_law_length", 2), ("_law_count", 3)]) rfl scLCo.nd (ZM.pi_zipM tb false mz (pa_cons (pv 0) (pa_cons (pv 1) pa_nil))) (blkOk_by (N := ["_law_lengths", "_law_counts", "_law_length", "_law_count"]) (sc := defScope sLCost) (by decide +kernel))
          (fun _ _ _ _ _ => pg_pairK K rfl rfl (pg_name (i := 2) scLCo.nd rfl (Or.inl rfl) (.inr rfl)) (pg_name (i := 3) scLCo.nd rfl (Or.inl rfl) (.inr rfl))) (fun _ _ _ _ _ => pts_nil) (fun _ _ _ _ _ => pe_op op_mul (pv 2) (pv 3))) pa_nil))), ?_⟩
    have eN : min (nV ls).length (nV cs).length = ls.length := by rw [nV_len, nV_len, el, Nat.min_self]
    refine ⟨_, rfl, _, rfl, lt, cp, nV ls, nV cs, rfl, ht H (Same.refl _), SqL.of hc, fun D nD => lcM (ZM.walk_zipM eN.symm) (fun i => .int ((lAt cs i * lAt ls i : Nat) : Int)) (by omega) nD (fun H' e => ⟨ht H' e, SqL.of (e _ _ hc)⟩) ?_ ?_⟩
    · rintro i x H2 H3 N hi e ⟨T0, y, z, rfl, nT0, rfl, hy, hz⟩ hN
      obtain ⟨i1, rfl⟩ := nV_get hy
      obtain ⟨i2, rfl⟩ := nV_get hz
      have b1 := sm _ (List.getElem_mem i1)
      rw [← lAt_get i1] at b1
      refine ⟨T0, _, rfl, SqT.of upd_same, rfl, _, _, rfl, _, _, rfl, rfl, rfl, ?_⟩
      refine ⟨_, rfl, _, rfl, _, _, rfl, rfl, .inl ⟨by omega, by omega⟩, ?_⟩
      have := hN _ (same_new (o := .tup [.int ((lAt ls i : Nat) : Int), .int ((lAt cs i : Nat) : Int)]) nT0)
      rw [Nat.mul_comm, Int.natCast_mul] at this
      exact this
    · intro H4 e4 hD
      refine ⟨D, (List.range ls.length).map fun i => ((lAt cs i * lAt ls i : Nat) : Int), rfl, SqL.of (by rw [List.map_map]; exact hD), ?_⟩
      rw [dot_sum el]
      exact q H4 e4
theorem nat_list : ∀ {ns : List Int} {cs : List Nat}, ns.Perm (cs.map fun c : Nat => (c : Int)) → ns.Pairwise (· ≤ ·) → ∃ xs : List Nat, ns.map V.int = nV xs ∧ xs.Perm cs ∧ Huff.Asc xs := fun {ns cs} p a => by
  have e : ∀ z ∈ ns, ((z.toNat : Nat) : Int) = z := fun z hz => by
    obtain ⟨c, _, rfl⟩ := List.mem_map.mp (p.subset hz)
    exact congrArg _ (Int.toNat_natCast c)
  refine ⟨ns.map Int.toNat, ?_, ?_, ?_⟩
  · unfold nV
    rw [List.map_map]
    exact List.map_congr_left fun z hz => congrArg V.int (e z hz).symm
  · have q := p.map Int.toNat
    rw [List.map_map] at q
    have : cs.map (Int.toNat ∘ fun c : Nat => (c : Int)) = cs := by
      conv => rhs; rw [← List.map_id cs]
      exact List.map_congr_left fun c _ => Int.toNat_natCast c
    rw [this] at q
    exact q
  · show (ns.map Int.toNat).Pairwise _
    rw [List.pairwise_map]
    exact a.imp_of_mem fun {x y} hx hy h => by
      have := e x hx
      have := e y hy
      omega
theorem scLLe : FnScope ["_law_counts", "_law_left", "_law_total", "_law_weight"] ["_law_counts"] (defScope sLLeast) := ⟨rfl, rfl, rfl, by decide +kernel, rfl, by decide +kernel, by decide +kernel⟩
theorem ok_lle {f : Addr} {fd : FuncData} (F : Fun K "_law_least" "_law_least" sLLeast f fd) (B : Bi mg) (ms : mg "sorted" = none) : FnOk P w K mg base CX0 1 f fd ["_law_counts"] spLLe := by
  refine F.ok scLLe (fun vs H Q E h => ?_) (fun cdv A outer s H vs Q E hr h => ?_)
  · obtain ⟨cp, cs, rfl, _⟩ := h
    rfl
  · obtain ⟨cp, cs, rfl, hc, c20, q⟩ := h
    refine ⟨_, pss_cons (ps_par (i := 1) (j := 2) rfl scLLe.nd rfl rfl (by decide) rfl rfl (pa_cons (pe_callB cr_sortedI rfl ms (by decide +kernel) (pa_cons (pv 0) pa_nil)) (pa_cons pe_int pa_nil)) rfl)
      (pss_cons (ps_while PassesOwn.never (pt_cmpR op_gt (pe_len B.len (pa_cons (pv 1) pa_nil)) pe_int (nomark _))
        (pss_cons (ps_set (i := 3) scLLe.nd rfl (Or.inl rfl) (pe_op op_add (pe_ix ix_list (pv 1) pe_int (fun _ _ => rfl)) (pe_ix ix_list (pv 1) pe_int (fun _ _ => rfl))))
        (pss_cons (ps_set (i := 1) scLLe.nd rfl (Or.inl rfl) (pe_callB cr_sortedI rfl ms (by decide +kernel) (pa_cons (pe_op op_cat (pe_slice sl_list (pv 1) (po_some pe_int) po_none) (pe_lst (pa_cons (pv 3) pa_nil))) pa_nil)))
        (pss_one (ps_set (i := 2) scLLe.nd rfl (Or.inl rfl) (pe_op op_add (pv 2) (pv 3)))))))
      (pss_one (ps_ret (pv 2)))), ?_⟩
    have hcI : ∀ cs : List Nat, nV cs = (cs.map fun c : Nat => (c : Int)).map V.int := fun cs => by
      unfold nV
      rw [List.map_map]
      rfl
    refine ⟨_, rfl, cp, cs.map fun c : Nat => (c : Int), rfl, SqL.of (by rw [← hcI]; exact hc), fun ns l p a nl => ?_⟩
    obtain ⟨xs, ex, px, ax⟩ := nat_list p a
    rw [ex]
    have e12 := same_new (o := .lst (nV xs)) nl
    have hl2 : upd H l (.lst (nV xs)) l = some (.lst (nV xs)) := upd_same
    generalize upd H l (.lst (nV xs)) = H2 at e12 hl2 ⊢
    refine ⟨_, _, rfl, fun k σ H' => ∃ (xs : List Nat) (l : Addr) (tot : Nat) (x3 : Option V), k = xs.length ∧ σ = [some (.ref cp), some (.ref l), some (.int ((tot : Nat) : Int)), x3] ∧ Same H H' ∧ H' l = some (.lst (nV xs)) ∧ Huff.Asc xs ∧ tot + hf xs = hf cs ∧ xs.length ≤ 2000, ⟨_, xs, l, 0, none, rfl, rfl, e12, hl2, ax, by rw [Nat.zero_add]; exact Huff.hf_perm px, by rw [px.length_eq]; exact c20⟩, ?_⟩
    clear ex px ax a p hl2 e12
    rintro k σ G ⟨xs, l, tot, x3, rfl, rfl, e, hl, ax, et, l20⟩
    refine ⟨_, rfl, l, _, rfl, .inl (SqL.of hl), _, _, rfl, rfl, _, rfl, ?_⟩
    rw [nV_len]
    match xs, ax with
    | [], _ => exact iteF ⟨_, rfl, by have := q G e; rw [← et] at this; exact this⟩
    | [a], _ => exact iteF ⟨_, rfl, by have := q G e; rw [← et] at this; exact this⟩
    | a :: b :: r, ax =>
      rw [decide_eq_true (show (1 : Int) < (((a :: b :: r).length : Nat) : Int) by simp only [List.length_cons]; omega)]
      obtain ⟨a1, a2⟩ := List.pairwise_cons.mp ax
      obtain ⟨a3, a4⟩ := List.pairwise_cons.mp a2
      have h2 := Huff.hf_two (l := a :: b :: r) (.refl _) (a1 b List.mem_cons_self) a3
      rw [h2] at et
      refine iteT ⟨fun σ' H' => ∃ k', k' < (a :: b :: r).length ∧ ∃ (xs : List Nat) (l : Addr) (tot : Nat) (x3 : Option V), k' = xs.length ∧ σ' = [some (.ref cp), some (.ref l), some (.int ((tot : Nat) : Int)), x3] ∧ Same H H' ∧ H' l = some (.lst (nV xs)) ∧ Huff.Asc xs ∧ tot + hf xs = hf cs ∧ xs.length ≤ 2000, fun σ' H' ⟨k', l, z⟩ => ⟨k', l, z⟩, ?_⟩
      have i0 : atI (nV (a :: b :: r)) 0 = some (.int ((a : Nat) : Int)) := nV_atI (i := 0) (by simp)
      have i1 : atI (nV (a :: b :: r)) 1 = some (.int ((b : Nat) : Int)) := nV_atI (i := 1) (by simp)
      refine ⟨_, rfl, l, _, _, _, rfl, rfl, SqL.of hl, i0, _, rfl, l, _, _, _, rfl, rfl, SqL.of hl, i1, _, _, rfl, rfl, ?_⟩
      refine gN ?_
      refine ⟨_, rfl, ?_⟩
      simp only [tNoPart]
      refine ⟨_, rfl, l, _, rfl, SqL.of hl, fun p1 np1 => ?_⟩
      rw [show cutV (nV (a :: b :: r)) (some 2) none = nV r from cut_from (xs := nV (a :: b :: r)) (k := 2) (by rw [nV_len]; simp)]
      have e4 := same_new (o := .lst (nV r)) np1
      have hp4 : upd G p1 (.lst (nV r)) p1 = some (.lst (nV r)) := upd_same
      generalize upd G p1 (.lst (nV r)) = G4 at e4 hp4 ⊢
      refine ⟨_, rfl, by show 1 ≤ sizeLine; decide, fun p2 np2 => ?_⟩
      dsimp only
      have e5 := same_new (o := .lst [.int (((a : Nat) : Int) + ((b : Nat) : Int))]) np2
      have hp5 := e5 _ _ hp4
      have hq5 : upd G4 p2 (.lst [.int (((a : Nat) : Int) + ((b : Nat) : Int))]) p2 = some (.lst (nV [a + b])) := upd_same
      generalize upd G4 p2 (.lst [.int (((a : Nat) : Int) + ((b : Nat) : Int))]) = G5 at e5 hp5 hq5 ⊢
      refine ⟨p1, p2, _, _, rfl, rfl, hp5, hq5, ?_, fun p3 np3 => ?_⟩
      · rw [nV_len, nV_len]
        simp only [List.length_cons, List.length_nil] at l20 ⊢
        exact Nat.le_of_lt (small10 (by omega))
      rw [← nV_app]
      have e6 := same_new (o := .lst (nV (r ++ [a + b]))) np3
      have hp6 : upd G5 p3 (.lst (nV (r ++ [a + b]))) p3 = some (.lst (nV (r ++ [a + b]))) := upd_same
      generalize upd G5 p3 (.lst (nV (r ++ [a + b]))) = G6 at e6 hp6 ⊢
      refine ⟨p3, (r ++ [a + b]).map fun c : Nat => (c : Int), rfl, SqL.of (by rw [← hcI]; exact hp6), fun ns l2 p an nl => ?_⟩
      obtain ⟨ys, ey, py, ay⟩ := nat_list p an
      rw [ey]
      refine gN ?_
      have e46 := e4.trans (e5.trans e6)
      have e7 := same_new (o := .lst (nV ys)) nl
      refine ⟨_, rfl, _, rfl, _, _, rfl, rfl, _, ?_, ys, l2, tot + (a + b), _, rfl, rfl, e.trans (e46.trans e7), upd_same, ay, ?_, ?_⟩
      · rw [py.length_eq]
        simp
      · rw [Huff.hf_perm py, Huff.hf_perm (List.perm_append_singleton _ _)]
        rw [← et]
        omega
      · rw [py.length_eq]
        simp only [List.length_cons, List.length_append, List.length_nil] at l20 ⊢
        omega
end
end K38
set_option Elab.async false
set_option linter.all false
set_option maxRecDepth 100001
set_option maxHeartbeats 3999999
namespace K38
open PySem L2
open Huff (hf dot Least Best stp)
abbrev sSCn : Stmt := topS 59
/-- a comprehension over a range that draws -/
theorem lcPen {g : TG} {te : TE} {vs : List Nat} {σ : St} {H1 : Hp} {D : Addr} {Qd : Hp → Prop} {pn cl : Addr} {b n s N0 : Nat} (hb : n ≤ 10000) (nD : H1 D = none) (pen : Pen H1 pn cl b)
    (hs : ∀ (i : Nat) (H2 : Hp) (N : VK), i < n → But pn H1 H2 → Pen H2 pn cl (b + s * i) → (∀ (c : Nat) H4, c < N0 → But pn H2 H4 → Pen H4 pn cl (b + s * i + s) → N (.int ((c : Nat) : Int)) H4) → g (.int (0 + ((i : Nat) : Int))) (wipe σ vs) H2 fun σ2 H4 => wipe σ2 vs = wipe σ vs ∧ te σ2 H4 N)
    (hd : ∀ (cs : List Nat) H', cs.length = n → (∀ c ∈ cs, c < N0) → But pn H1 H' → Pen H' pn cl (b + s * n) → H' D = some (.lst (nV cs)) → Qd H') :
    ∃ W : Nat → Nat → Hp → Prop, (∃ m, W 0 m (upd H1 D (.lst []))) ∧ ∀ i m H, W i m H →
      ((Itr 0 n).stop i H ∧ Qd H) ∨ ((Itr 0 n).go i H ∧ ∃ Nx : Hp → Prop, (∀ H', Nx H' → ∃ m', m' < m ∧ W (i + 1) m' H') ∧ ∀ x H', (Itr 0 n).yld i H x H' → g x (wipe σ vs) H' fun σ2 H2 => wipe σ2 vs = wipe σ vs ∧ tYes σ2 H2 fun b H3 =>
        if b = true then te σ2 H3 fun y H4 => ∃ acc, H4 D = some (.lst acc) ∧ acc.length < sizeLine ∧ Nx (upd H4 D (.lst (acc ++ [y]))) else Nx H3) := by
  refine lc_it walk_range (fun i H' => ∃ cs : List Nat, cs.length = i ∧ H' D = some (.lst (nV cs)) ∧ (∀ c ∈ cs, c < N0) ∧ But pn H1 H' ∧ Pen H' pn cl (b + s * i)) ⟨[], rfl, upd_same, (fun c hc => nomatch hc), fun c o _ z => same_new nD _ _ z, pen.same (same_new nD)⟩ (fun _ _ _ _ => True.intro) ?_ (fun H' ⟨cs, lc, hD, cN, bt, p⟩ => hd cs H' lc cN bt p hD)
  rintro i x H2 H3 hi ⟨cs, lc, hD, cN, b2, pen2⟩ ⟨rfl, rfl⟩
  refine hs i _ _ hi b2 pen2 fun c H4 hc b4 pen4 => ?_
  have hD4 := b4 _ _ (pen2.ne hD fun _ z => nomatch z) hD
  refine ⟨_, hD4, ?_, cs ++ [c], ?_, ?_, ?_, ?_, ?_⟩
  · rw [nV_len]
    exact small10 (by omega)
  · rw [List.length_append, lc]
    rfl
  · rw [upd_same, nV_app]
    rfl
  · intro z hz
    rcases List.mem_append.mp hz with q | q
    · exact cN z q
    · rw [List.mem_singleton.mp q]
      exact hc
  · intro c o n z
    rw [upd_ne (ne_of_none z nD)]
    exact b4 _ _ n (b2 _ _ n z)
  · have e1 : pn ≠ D := Ne.symm (pen4.ne hD4 fun _ z => nomatch z)
    rw [Nat.mul_add, Nat.mul_one, ← Nat.add_assoc]
    refine pen4.upd e1 ?_
    obtain ⟨_, _, _, _, p2, _⟩ := pen
    exact ne_of_none p2 nD
def spSCn : Sp := fun vs H Q _ => ∃ (pn cl : Addr) (m b : Nat), vs = [.ref pn, .int (m : Nat)] ∧ Pen H pn cl b ∧ m ≤ 60 ∧ b ≤ 90000 ∧
  ∀ (cs : List Nat) D H', cs.length = m → (∀ c ∈ cs, c < 2 ^ 110) → But pn H H' → Pen H' pn cl (b + 130) → H D = none → H' D = some (.lst (nV cs)) → Q (.ref D) H'
section
variable {P : Program} {w : World} {K : PySem.W.Frag} {mg : Str → Option Value} {base : Heap}
abbrev NSn : List Str := ["_law_pen", "_law_many", "_law_kind", "_law_sign"]
theorem scSCn : FnScope NSn ["_law_pen", "_law_many"] (defScope sSCn) := ⟨rfl, rfl, rfl, by decide +kernel, rfl, by decide +kernel, by decide +kernel⟩
theorem ok_scn {f : Addr} {fd : FuncData} (F : Fun K "_law_some_counts" "_law_some_counts" sSCn f fd) (B : Bi mg) (cD : Cal CX0 P w K mg base 1 "_law_draw" spDraw) (cK : Cal CX0 P w K mg base 2 "_law_pick" spPick) : FnOk P w K mg base CX0 3 f fd ["_law_pen", "_law_many"] spSCn := by
  refine F.ok scSCn (fun vs H Q E h => ?_) (fun cdv A outer s H vs Q E hr h => ?_)
  · obtain ⟨pn, cl, m, b, rfl, _⟩ := h
    rfl
  · obtain ⟨pn, cl, m, b, rfl, pen, m6, hb, q⟩ := h
    refine ⟨_, pss_cons (ps_set (i := 2) scSCn.nd rfl (Or.inl rfl) (pe_c cD hr pass0 (pa_cons (pv 0) (pa_cons pe_int pa_nil))))
      (pss_cons (ps_if (pt_cmpR op_eq (pv 2) pe_int (nomark _)) (pss_one (ps_ret (pe_lc (own := [("_law_sign", 3)]) rfl scSCn.nd (pi_range1 rfl B.range (pa_cons (pv 1) pa_nil)) (blkOk_by (N := NSn) (sc := defScope sSCn) (by decide +kernel)) (fun _ _ _ _ _ => pg_name (i := 3) scSCn.nd rfl (Or.inl rfl)) (fun _ _ _ _ _ => pts_nil)
          (fun _ _ _ _ _ => pe_c cD hr pass0 (pa_cons (pv 0) (pa_cons pe_int pa_nil)))))) pss_nil)
      (pss_cons (ps_if (pt_cmpR op_eq (pv 2) pe_int (nomark _)) (pss_one (ps_ret (pe_lc (own := [("_law_sign", 3)]) rfl scSCn.nd (pi_range1 rfl B.range (pa_cons (pv 1) pa_nil)) (blkOk_by (N := NSn) (sc := defScope sSCn) (by decide +kernel)) (fun _ _ _ _ _ => pg_name (i := 3) scSCn.nd rfl (Or.inl rfl)) (fun _ _ _ _ _ => pts_nil)
          (fun _ _ _ _ _ => pe_c cD hr pass0 (pa_cons (pv 0) (pa_cons pe_int pa_nil)))))) pss_nil)
      (pss_cons (ps_if (pt_cmpR op_eq (pv 2) pe_int (nomark _)) (pss_one (ps_ret (pe_lc (own := [("_law_sign", 3)]) rfl scSCn.nd (pi_range1 rfl B.range (pa_cons (pv 1) pa_nil)) (blkOk_by (N := NSn) (sc := defScope sSCn) (by decide +kernel)) (fun _ _ _ _ _ => pg_name (i := 3) scSCn.nd rfl (Or.inl rfl)) (fun _ _ _ _ _ => pts_nil)
          (fun _ _ _ _ _ => pe_c cK hr pass0 (pa_cons (pv 0) (pa_cons (pe_lst (pa_cons pe_int (pa_cons pe_int (pa_cons pe_int (pa_cons pe_int (pa_cons pe_int (pa_cons pe_int pa_nil))))))) pa_nil)))))) pss_nil)
      (pss_one (ps_ret (pe_lc (own := [("_law_sign", 3)]) rfl scSCn.nd (pi_range1 rfl B.range (pa_cons (pv 1) pa_nil)) (blkOk_by (N := NSn) (sc := defScope sSCn) (by decide +kernel)) (fun _ _ _ _ _ => pg_name (i := 3) scSCn.nd rfl (Or.inl rfl)) (fun _ _ _ _ _ => pts_nil)
          (fun _ _ _ _ _ => pe_op op_add (pe_op op_mul (pe_c cD hr pass0 (pa_cons (pv 0) (pa_cons pe_int pa_nil))) (pe_op op_pow pe_int pe_int)) (pe_c cD hr pass0 (pa_cons (pv 0) (pa_cons pe_int pa_nil)))))))))), ?_⟩
    refine ⟨_, rfl, pn, cl, 4, b, rfl, pen, by omega, by decide, by decide, fun r H1 r0 r1 b1 pen1 => ?_⟩
    have em : ((m : Nat) : Int).toNat = m := Int.toNat_natCast m
    have fin : ∀ (s : Nat) (cs : List Nat) (D : Addr) (H' : Hp), s ≤ 2 → H1 D = none → cs.length = m → (∀ c ∈ cs, c < 2 ^ 110) → But pn H1 H' → Pen H' pn cl (b + 1 + s * m) → H' D = some (.lst (nV cs)) → Q (.ref D) H' := fun s cs D H' s2 nD l c bt p hD => by
      refine q cs D H' l c (b1.trans bt) (p.mono ?_) (old_none b1 pen1.some_ nD) hD
      have : s * m ≤ 2 * m := Nat.mul_le_mul_right m s2
      omega
    refine gN ?_
    refine ⟨_, rfl, rfl, _, rfl, ?_⟩
    rw [dec_int]
    by_cases c0 : r = 0
    · rw [show (r == 0) = true by rw [beq_iff_eq]; exact c0]
      refine iteT ⟨_, rfl, _, rfl, by omega, by omega, fun D nD => lcPen (s := 1) (N0 := 2 ^ 110) (by omega) nD pen1 (fun i H2 N hi b2 pen2 hN => ?_) fun cs H' l c bt p hD => fin 1 cs D H' (by decide) nD (l.trans em) c bt (by rw [em] at p; exact p) hD⟩
      refine ⟨rfl, _, rfl, pn, cl, 3, _, rfl, pen2, by omega, by decide, by decide, fun r H4 r0 r1 b4 pen4 => ?_⟩
      obtain ⟨r, rfl⟩ := Int.eq_ofNat_of_zero_le r0
      exact hN r H4 (by omega) b4 pen4
    rw [show (r == 0) = false by rw [beq_eq_false_iff_ne]; exact c0]
    refine iteF ⟨_, rfl, rfl, _, rfl, ?_⟩
    rw [dec_int]
    by_cases c1 : r = 1
    · rw [show (r == 1) = true by rw [beq_iff_eq]; exact c1]
      refine iteT ⟨_, rfl, _, rfl, by omega, by omega, fun D nD => lcPen (s := 1) (N0 := 2 ^ 110) (by omega) nD pen1 (fun i H2 N hi b2 pen2 hN => ?_) fun cs H' l c bt p hD => fin 1 cs D H' (by decide) nD (l.trans em) c bt (by rw [em] at p; exact p) hD⟩
      refine ⟨rfl, _, rfl, pn, cl, 12, _, rfl, pen2, by omega, by decide, by decide, fun r H4 r0 r1 b4 pen4 => ?_⟩
      obtain ⟨r, rfl⟩ := Int.eq_ofNat_of_zero_le r0
      exact hN r H4 (by omega) b4 pen4
    rw [show (r == 1) = false by rw [beq_eq_false_iff_ne]; exact c1]
    refine iteF ⟨_, rfl, rfl, _, rfl, ?_⟩
    rw [dec_int]
    by_cases c2 : r = 2
    · rw [show (r == 2) = true by rw [beq_iff_eq]; exact c2]
      refine iteT ⟨_, rfl, _, rfl, by omega, by omega, fun D nD => lcPen (s := 1) (N0 := 2 ^ 110) (by omega) nD pen1 (fun i H2 N hi b2 pen2 hN => ?_) fun cs H' l c bt p hD => fin 1 cs D H' (by decide) nD (l.trans em) c bt (by rw [em] at p; exact p) hD⟩
      refine ⟨rfl, _, rfl, by show 6 ≤ sizeLine; decide, fun t nt => ?_⟩
      have e3 := same_new (o := .lst [.int 1, .int 1, .int 2, .int 4, .int 8, .int 16]) nt
      refine ⟨pn, cl, t, _, _, rfl, pen2.same e3, by omega, upd_same, by decide, by decide, fun x H4 mx b4 pen4 => ?_⟩
      have : ∃ c : Nat, c < 2 ^ 110 ∧ x = .int ((c : Nat) : Int) := by
        simp only [List.mem_cons, List.not_mem_nil, or_false] at mx
        rcases mx with rfl | rfl | rfl | rfl | rfl | rfl
        · exact ⟨1, by decide, rfl⟩
        · exact ⟨1, by decide, rfl⟩
        · exact ⟨2, by decide, rfl⟩
        · exact ⟨4, by decide, rfl⟩
        · exact ⟨8, by decide, rfl⟩
        · exact ⟨16, by decide, rfl⟩
      obtain ⟨c, hc, rfl⟩ := this
      exact hN c H4 hc (fun d o n z => b4 _ _ n (e3 _ _ z)) pen4
    rw [show (r == 2) = false by rw [beq_eq_false_iff_ne]; exact c2]
    refine iteF ⟨_, rfl, _, rfl, by omega, by omega, fun D nD => lcPen (s := 2) (N0 := 2 ^ 110) (by omega) nD pen1 (fun i H2 N hi b2 pen2 hN => ?_) fun cs H' l c bt p hD => fin 2 cs D H' (by decide) nD (l.trans em) c bt (by rw [em] at p; exact p) hD⟩
    refine ⟨rfl, _, rfl, pn, cl, 4, _, rfl, pen2, by omega, by decide, by decide, fun r H4 r0 r1 b4 pen4 => ?_⟩
    obtain ⟨r, rfl⟩ := Int.eq_ofNat_of_zero_le r0
    refine ⟨_, _, rfl, rfl, ⟨by decide, by decide, by decide⟩, _, _, rfl, rfl, .inl ⟨by omega, by omega⟩, _, rfl, pn, cl, 5, _, rfl, pen4, by omega, by decide, by decide, fun u H5 u0 u1 b5 pen5 => ?_⟩
    obtain ⟨u, rfl⟩ := Int.eq_ofNat_of_zero_le u0
    refine ⟨_, _, rfl, rfl, ?_⟩
    have lt : r * 10 ^ 30 + u < 2 ^ 110 := Nat.lt_of_le_of_lt (Nat.add_le_add (Nat.mul_le_mul_right _ (show r ≤ 3 by omega)) (show u ≤ 5 by omega)) (by decide)
    have := hN (r * 10 ^ 30 + u) H5 lt (b4.trans b5) pen5
    rw [Int.natCast_add, Int.natCast_mul] at this
    exact this
end
end K38
set_option Elab.async false
set_option linter.all false
set_option maxRecDepth 100001
set_option maxHeartbeats 3999999
namespace K38
open PySem L2
open Huff (hf dot Least Best stp)
abbrev sNC : Stmt := topS 63
def spNC : Sp := fun vs H Q _ => ∃ (pn cl lp : Addr) (ls : List Nat) (b : Nat), vs = [.ref pn, .ref lp] ∧ Pen H pn cl b ∧ H lp = some (.lst (nV ls)) ∧ FC ls ∧ 2 ≤ ls.length ∧ ls.length ≤ 60 ∧ b ≤ 80000 ∧
  ∀ (cs : List Nat) D H', cs.length = ls.length → (∀ c ∈ cs, c < 2 ^ 120) → But pn H H' → Pen H' pn cl (b + 200) → H D = none → H' D = some (.lst (nV cs)) → Q (.ref D) H'
abbrev NNc : List Str := ["_law_pen", "_law_lengths", "_law_way", "_law_found", "_law_length", "_law_count", "_law_turn", "_law_at"]
theorem nV_I (cs : List Nat) : nV cs = (cs.map fun c : Nat => (c : Int)).map V.int := by
  unfold nV
  rw [List.map_map]
  rfl
section
variable {P : Program} {w : World} {K : PySem.W.Frag} {mg : Str → Option Value} {base : Heap}
theorem scNC : FnScope NNc ["_law_pen", "_law_lengths"] (defScope sNC) := ⟨rfl, rfl, rfl, by decide +kernel, rfl, by decide +kernel, by decide +kernel⟩
theorem ok_nc {f : Addr} {fd : FuncData} (F : Fun K "_law_near_counts" "_law_near_counts" sNC f fd) (B : Bi mg) (cD : Cal CX0 P w K mg base 1 "_law_draw" spDraw) (cK : Cal CX0 P w K mg base 2 "_law_pick" spPick) (cSn : Cal CX0 P w K mg base 3 "_law_some_counts" spSCn) : FnOk P w K mg base CX0 4 f fd ["_law_pen", "_law_lengths"] spNC := by
  refine F.ok scNC (fun vs H Q E h => ?_) (fun cdv A outer s H vs Q E hr h => ?_)
  · obtain ⟨pn, cl, lp, ls, b, rfl, _⟩ := h
    rfl
  · obtain ⟨pn, cl, lp, ls, b, rfl, pen, hl, fc, l2, l6, hb, q⟩ := h
    refine ⟨_, pss_cons (ps_par (i := 2) (j := 3) rfl scNC.nd rfl rfl (by decide) rfl rfl (pa_cons (pe_c cD hr pass0 (pa_cons (pv 0) (pa_cons pe_int pa_nil))) (pa_cons (pe_lst pa_nil) pa_nil)) rfl)
      (pss_cons (ps_if (pt_cmpR op_eq (pv 2) pe_int (nomark _)) (pss_one (ps_ret (pe_c cSn hr pass0 (pa_cons (pv 0) (pa_cons (pe_len B.len (pa_cons (pv 1) pa_nil)) pa_nil))))) pss_nil)
      (pss_cons (ps_for PassesOwn.never rfl (pi_sqA (pv 1)) (pg_name (i := 4) scNC.nd rfl (Or.inl rfl))
        (pss_cons (ps_set (i := 5) scNC.nd rfl (Or.inl rfl) pe_int)
        (pss_cons (ps_for PassesOwn.never rfl (pi_range1 rfl B.range (pa_cons (pe_op op_sub (pe_callB (cr_max rfl) rfl B.max (by decide +kernel) (pa_cons (pv 1) pa_nil)) (pv 4)) pa_nil)) (pg_name (i := 6) scNC.nd rfl (Or.inl rfl))
          (pss_one (ps_set (i := 5) scNC.nd rfl (Or.inl rfl) (pe_op op_mul (pv 5) pe_int))))
        (pss_one (ps_expr (pe_bm PySem.F.plainAttrs_list PySem.F.slot_list_append PySem.F.type_list_append mt_append (pv 3) (pa_cons (pv 5) pa_nil)))))))
      (pss_cons (ps_for PassesOwn.never rfl (pi_range1 rfl B.range (pa_cons (pe_c cD hr pass0 (pa_cons (pv 0) (pa_cons pe_int pa_nil))) pa_nil)) (pg_name (i := 6) scNC.nd rfl (Or.inl rfl))
        (pss_cons (ps_set (i := 7) scNC.nd rfl (Or.inl rfl) (pe_c cD hr pass0 (pa_cons (pv 0) (pa_cons (pe_len B.len (pa_cons (pv 3) pa_nil)) pa_nil))))
        (pss_one (ps_asg (pe_callB (call_max2 rfl) rfl B.max (by decide +kernel) (pa_cons pe_int (pa_cons (pe_op op_add (pe_ix ix_list (pv 3) (pv 7) (fun _ _ => rfl)) (pe_c cK hr pass0 (pa_cons (pv 0) (pa_cons (pe_lst (pa_cons (pe_un un_neg pe_int) (pa_cons pe_int (pa_cons pe_int (pa_cons pe_int pa_nil))))) pa_nil)))) pa_nil))) (pg_sub (pv 3) (pv 7) set_list)))))
      (pss_one (ps_ret (pv 3)))))), ?_⟩
    refine ⟨_, rfl, pn, cl, 4, b, rfl, pen, by omega, by decide, by decide, fun r H1 r0 r1 b1 pen1 => ⟨by show 0 ≤ sizeLine; decide, fun D nD => ⟨_, _, rfl, _, rfl, rfl, _, rfl, ?_⟩⟩⟩
    have e2 := same_new (o := .lst []) nD
    have hD2 : upd H1 D (.lst []) D = some (.lst (nV [])) := upd_same
    have pen2 := pen1.same e2
    have b2 : But pn H (upd H1 D (.lst [])) := fun c o n z => e2 _ _ (b1 c o n z)
    have nD0 := old_none b1 pen1.some_ nD
    have nDp : pn ≠ D ∧ cl ≠ D := pen1.off nD
    generalize upd H1 D (.lst []) = H2 at e2 hD2 pen2 b2 ⊢
    have nlp : lp ≠ pn := pen.ne hl fun _ z => nomatch z
    have hl2 := b2 _ _ nlp hl
    rw [dec_int]
    by_cases c0 : r = 0
    · rw [show (r == 0) = true by rw [beq_iff_eq]; exact c0]
      refine iteT ⟨_, rfl, _, rfl, lp, _, rfl, .inl (SqL.of hl2), pn, cl, ls.length, _, by rw [nV_len]; rfl, pen2, l6, by omega, fun cs D2 H' l c bt p nD2 hD => ?_⟩
      exact q cs D2 H' l (fun z hz => Nat.lt_trans (c z hz) (by decide)) (b2.trans bt) (p.mono (by omega)) (old_none b2 pen2.some_ nD2) hD
    rw [show (r == 0) = false by rw [beq_eq_false_iff_ne]; exact c0]
    refine iteF ?_
    refine ⟨_, rfl, lp, _, rfl, .inl (SqL.of hl2), fun J G wk hG => for_it wk (fun i σ H' => ∃ (fs : List Nat) (x4 x5 x6 : Option V), σ = [some (.ref pn), some (.ref lp), some (.int r), some (.ref D), x4, x5, x6, none] ∧ ButI D H2 H' ∧ H' D = some (.lst (nV fs)) ∧ fs.length = i ∧ ∀ c ∈ fs, c < 2 ^ 100)
      ⟨[], none, none, none, rfl, fun _ _ _ z => z, hD2, rfl, (fun c hc => nomatch hc)⟩ (fun i σ H' _ ⟨_, _, _, _, _, e, _⟩ => hG H' fun o z => e _ _ (ne_of_none hl nD0) z) ?_ ?_⟩
    · rintro i x σ H3 H4 hi ⟨fs, x4, x5, x6, rfl, b3, hD3, lf, cf⟩ ⟨rfl, hx⟩
      obtain ⟨i1, rfl⟩ := nV_get hx
      have hl3 := b3 _ _ (ne_of_none hl nD0) hl2
      have li : lAt ls i ≤ 60 := by
        rw [lAt_get i1]
        have := fc.hi _ (List.getElem_mem i1)
        omega
      refine ⟨_, rfl, lp, ls.map fun c : Nat => (c : Int), rfl, SqL.of (by rw [← nV_I]; exact hl3), by rw [List.length_map]; omega, fun mx mm hle => ?_⟩
      obtain ⟨mx, ml, rfl⟩ := List.mem_map.mp mm
      have m60 := fc.hi _ ml
      refine ⟨_, rfl, _, _, rfl, rfl, _, rfl, by omega, by omega, for_range (n := (((mx : Nat) : Int) - ((lAt ls i : Nat) : Int)).toNat) (fun k σ H' => ∃ x6 : Option V, σ = [some (.ref pn), some (.ref lp), some (.int r), some (.ref D), some (.int ((lAt ls i : Nat) : Int)), some (.int ((2 ^ k : Nat) : Int)), x6, none] ∧ H' = H4) ⟨x6, rfl, rfl⟩ ?_ ?_⟩
      · rintro k σ H' hk ⟨x6, rfl, rfl⟩
        refine ⟨_, rfl, _, _, rfl, rfl, .inr ⟨by decide, by decide⟩, some (.int (0 + ((k : Nat) : Int))), ?_, rfl⟩
        rw [Nat.pow_succ, Int.natCast_mul]
        rfl
      · rintro σ H' ⟨x6, rfl, rfl⟩
        refine ⟨_, rfl, .inl ⟨rfl, _, SqL.of hD3⟩, _, rfl, D, _, _, rfl, rfl, hD3, by rw [nV_len]; exact small10 (by rw [nV_len] at hi; omega), ?_⟩
        refine ⟨fs ++ [2 ^ (((mx : Nat) : Int) - ((lAt ls i : Nat) : Int)).toNat], _, _, _, rfl, fun c o n z => (upd_ne n).trans (b3 _ _ n z), ?_, by rw [List.length_append, lf]; rfl, fun c hc => ?_⟩
        · rw [upd_same, nV_app]
          rfl
        · rcases List.mem_append.mp hc with z | z
          · exact cf c z
          · rw [List.mem_singleton.mp z]
            exact Nat.pow_lt_pow_right (by decide) (by omega)
    · rintro σ H3 ⟨fs, x4, x5, x6, rfl, b3, hD3, lf, cf⟩
      rw [nV_len] at lf
      have b3p : But pn H H3 := fun c o n z => b3 _ _ (ne_of_none z nD0) (b2 _ _ n z)
      have pen3 : Pen H3 pn cl (b + 1) := by
        obtain ⟨k, l, cs, g1, g2, g3, g4⟩ := pen2
        exact ⟨k, l, cs, b3 _ _ nDp.1 g1, b3 _ _ nDp.2 g2, g3, g4⟩
      refine ⟨_, rfl, pn, cl, 4, _, rfl, pen3, by omega, by decide, by decide, fun t H4 t0 t1 b4 pen4 => ⟨_, rfl, by omega, by omega, for_range (n := t.toNat) (fun k σ H' => ∃ (fs : List Nat) (x6 x7 : Option V), σ = [some (.ref pn), some (.ref lp), some (.int r), some (.ref D), x4, x5, x6, x7] ∧ But pn H H' ∧ Pen H' pn cl (b + 2 + 2 * k) ∧ H' D = some (.lst (nV fs)) ∧ fs.length = ls.length ∧ ∀ c ∈ fs, c < 2 ^ 100 + 2 * k)
        ⟨fs, x6, none, rfl, b3p.trans b4, pen4, b4 _ _ (Ne.symm nDp.1) hD3, lf, fun c hc => cf c hc⟩ ?_ ?_⟩⟩
      · rintro k σ H5 hk ⟨fs, x6, x7, rfl, b5, pen5, hD5, lf, cf⟩
        refine ⟨_, rfl, _, rfl, D, _, rfl, .inl (SqL.of hD5), pn, cl, _, _, rfl, pen5, by omega, by rw [nV_len]; omega, by rw [nV_len]; omega, fun d H6 d0 d1 b6 pen6 => ?_⟩
        obtain ⟨d, rfl⟩ := Int.eq_ofNat_of_zero_le d0
        rw [nV_len] at d1
        have d2 : d < fs.length := by omega
        have hD6 := b6 _ _ (Ne.symm nDp.1) hD5
        refine ⟨_, rfl, _, rfl, D, _, _, _, rfl, rfl, SqL.of hD6, nV_atI d2, _, rfl, _, rfl, by show 4 ≤ sizeLine; decide, fun tt ntt => ?_⟩
        have e7 := same_new (o := .lst [.int (-1), .int 1, .int 1, .int 2]) ntt
        refine ⟨pn, cl, tt, _, _, rfl, pen6.same e7, by omega, upd_same, by decide, by decide, fun x H8 mx b8 pen8 => ?_⟩
        have hD8 := b8 _ _ (Ne.symm nDp.1) (e7 _ _ hD6)
        have : ∃ z : Int, x = .int z ∧ z ≤ 2 := by
          simp only [List.mem_cons, List.not_mem_nil, or_false] at mx
          rcases mx with rfl | rfl | rfl | rfl
          · exact ⟨-1, rfl, by decide⟩
          · exact ⟨1, rfl, by decide⟩
          · exact ⟨1, rfl, by decide⟩
          · exact ⟨2, rfl, by decide⟩
        obtain ⟨z, rfl, z2⟩ := this
        have fd := cf _ (List.getElem_mem d2)
        obtain ⟨y, ey⟩ : ∃ y : Nat, (if ((fs[d] : Nat) : Int) + z > 0 then ((fs[d] : Nat) : Int) + z else 0) = ((y : Nat) : Int) ∧ y ≤ fs[d] + 2 := by
          refine ⟨(((fs[d] : Nat) : Int) + z).toNat, ?_, by omega⟩
          split <;> omega
        refine ⟨_, _, rfl, rfl, _, _, rfl, ?_⟩
        rw [ey.1]
        refine ⟨_, rfl, _, rfl, D, _, _, d, rfl, rfl, hD8, ixn (by rw [nV_len]; exact d2), ?_⟩
        refine ⟨fs.set d y, _, _, rfl, fun c o n w => (upd_ne (ne_of_none w nD0)).trans (b8 _ _ n (e7 _ _ (b6 _ _ n (b5 _ _ n w)))), (pen8.upd nDp.1 nDp.2).mono (by omega), ?_, by rw [List.length_set, lf], fun c hc => ?_⟩
        · rw [upd_same, ← nV_set]
        · rcases List.mem_or_eq_of_mem_set hc with w | w
          · have := cf c w
            omega
          · omega
      · rintro σ H5 ⟨fs, x6, x7, rfl, b5, pen5, hD5, lf, cf⟩
        refine ⟨_, rfl, q fs D H5 lf (fun c hc => ?_) b5 (pen5.mono (by omega)) nD0 hD5⟩
        have := cf c hc
        have h : 2 ^ 100 + 2 * 4 < 2 ^ 120 := by decide
        omega
end
end K38
set_option Elab.async false
set_option linter.all false
set_option maxRecDepth 100001
set_option maxHeartbeats 3999999
namespace K38
open PySem L2
abbrev sLWords : Stmt := topS 61
theorem shL_flat {xs : List V} (h : ∀ v ∈ xs, Flat v) : SeqAt.shaped (.list (xs.map dOf)) = true := by
  have h1 := lay_flat h
  have h2 := depth_flat xs
  show (PyData.canLay0 (.list (xs.map dOf)) && decide (PyData.depth (.list (xs.map dOf)) ≤ 64)) = true
  rw [Bool.and_eq_true]
  refine ⟨by simp only [PyData.canLay0]; exact h1, decide_eq_true ?_⟩
  simp only [PyData.depth]
  omega
/-- lists of flat values, one of them empty -/
def rNeFl (K : PySem.W.Frag) : R2 := fun x y H Q => ∃ (a b : Addr) (us : List V), x = .ref a ∧ y = .ref b ∧ SqL K H a us ∧ SqL K H b [] ∧ (∀ v ∈ us, Flat v) ∧ Q (.bl (!us.isEmpty)) H
theorem op_neFl {X : Cx} (hu : X.A.units + 64 < cLine) : OpR X (compareOp .NotEq) (rNeFl X.K) := by
  intro pins s σ H x y v u Q I rx ry h
  obtain ⟨a, b, us, rfl, rfl, d1, d2, fl, q⟩ := h
  refine op_neD hu pins s σ H _ _ v u Q I rx ry ⟨_, _, .lst d1 (dpAll_flat fl), .lst d2 .nil, shL_flat fl, shL_flat (xs := []) (fun _ h => nomatch h), ?_⟩
  rw [show PyData.eqv (.list (us.map dOf)) (.list []) = us.isEmpty by
    cases us with
    | nil => simp [PyData.eqv, PyData.eqvAll]
    | cons a r => simp [PyData.eqv, PyData.eqvAll]]
  exact q
def spShufF : Sp := fun vs H Q _ => ∃ (pn cl ip : Addr) (ws : List V) (b : Nat), vs = [.ref pn, .ref ip] ∧ Pen H pn cl b ∧ H ip = some (.lst ws) ∧ (∀ v ∈ ws, Flat v) ∧ ws.length ≤ 100 ∧ b ≤ 100000 ∧
  ∀ (us : List V) D H', us.Perm ws → But pn H H' → Pen H' pn cl (b + ws.length) → H D = none → H' D = some (.lst us) → Q (.ref D) H'
section
variable {P : Program} {w : World} {K : PySem.W.Frag} {mg : Str → Option Value} {base : Heap}
theorem ok_shufF {f : Addr} {fd : FuncData} (F : Fun K "_law_shuffled" "_law_shuffled" sShuf f fd) (B : Bi mg) (cD : Cal CX0 P w K mg base 1 "_law_draw" spDraw) : FnOk P w K mg base CX0 3 f fd ["_law_pen", "_law_items"] spShufF := by
  refine F.ok scShuf (fun vs H Q E h => ?_) (fun cdv A outer s H vs Q E hr h => ?_)
  · obtain ⟨pn, cl, ip, ws, b, rfl, _⟩ := h
    rfl
  · obtain ⟨pn, cl, ip, ws, b, rfl, pen, hi, fl, l20, hb, q⟩ := h
    refine ⟨_, pss_cons (ps_par (i := 2) (j := 3) rfl scShuf.nd rfl rfl (by decide) rfl rfl (pa_cons (pe_callTy call_list_of rfl B.list (by decide +kernel) (pa_cons (pv 1) pa_nil)) (pa_cons (pe_lst pa_nil) pa_nil)) rfl)
      (pss_cons (ps_while PassesOwn.never (pt_cmpR (op_neFl (hu64 hr)) (pv 2) (pe_lst pa_nil) (nomark _))
        (pss_one (ps_expr (pe_bm PySem.F.plainAttrs_list PySem.F.slot_list_append PySem.F.type_list_append mt_append (pv 3) (pa_cons (pe_bm PySem.F.plainAttrs_list PySem.F.slot_list_pop PySem.F.type_list_pop mt_popAt (pv 2) (pa_cons (pe_c cD hr pass0 (pa_cons (pv 0) (pa_cons (pe_len B.len (pa_cons (pv 2) pa_nil)) pa_nil))) pa_nil)) pa_nil)))))
      (pss_one (ps_ret (pv 3)))), ?_⟩
    refine ⟨_, rfl, ip, _, rfl, .inl (SqL.of hi), fun rs nrs => ⟨by show 0 ≤ sizeLine; decide, fun fo nfo => ?_⟩⟩
    have e1 := same_new (o := .lst ws) nrs
    have e2 := same_new (o := .lst []) nfo
    have hr1 : upd H rs (.lst ws) rs = some (.lst ws) := upd_same
    have hr2 := e2 _ _ hr1
    have hf2 : upd (upd H rs (.lst ws)) fo (.lst []) fo = some (.lst []) := upd_same
    have nrf : rs ≠ fo := ne_of_none hr1 nfo
    have mfo : H fo = none := Same.none' e1 nfo
    have e12 := e1.trans e2
    generalize upd (upd H rs (.lst ws)) fo (.lst []) = H2 at hr2 hf2 e12 ⊢
    have pen2 := pen.same e12
    have nr : pn ≠ rs ∧ cl ≠ rs := pen.off nrs
    have nf : pn ≠ fo ∧ cl ≠ fo := pen.off mfo
    clear e1 e2 hr1
    refine ⟨_, _, rfl, fun k σ H' => ∃ (us rest : List V), k = rest.length ∧ σ = [some (.ref pn), some (.ref ip), some (.ref rs), some (.ref fo)] ∧ But pn H H' ∧ Pen H' pn cl (b + us.length) ∧ H' rs = some (.lst rest) ∧ H' fo = some (.lst us) ∧ (us ++ rest).Perm ws,
      ⟨_, [], ws, rfl, rfl, fun c o _ z => e12 _ _ z, pen2, hr2, hf2, List.Perm.refl _⟩, ?_⟩
    rintro k σ G ⟨us, rest, rfl, rfl, e5, pen5, hr5, hf5, pm⟩
    refine ⟨_, rfl, by show 0 ≤ sizeLine; decide, fun e0 ne0 => ?_⟩
    have e6 := same_new (o := .lst []) ne0
    have hr6 := e6 _ _ hr5
    have hf6 := e6 _ _ hf5
    have pen6 := pen5.same e6
    have lp := pm.length_eq
    rw [List.length_append] at lp
    have flr : ∀ v ∈ rest, Flat v := fun v hv => fl v (pm.subset (List.mem_append_right us hv))
    refine ⟨rs, e0, rest, rfl, rfl, SqL.of hr6, SqL.of upd_same, flr, _, rfl, ?_⟩
    generalize upd G e0 (.lst []) = G6 at e6 hr6 hf6 pen6 ⊢
    by_cases c : rest = []
    · subst c
      rw [show (!([] : List V).isEmpty) = false from rfl]
      rw [List.append_nil] at pm
      refine iteF ⟨_, rfl, q us fo G6 pm (fun c o n z => e6 _ _ (e5 c o n z)) ?_ mfo hf6⟩
      rw [← pm.length_eq]
      exact pen6
    · rw [show rest.isEmpty = false by rw [List.isEmpty_eq_false_iff]; exact c]
      refine iteT ⟨fun σ' H' => ∃ k', k' < rest.length ∧ ∃ (us rest : List V), k' = rest.length ∧ σ' = [some (.ref pn), some (.ref ip), some (.ref rs), some (.ref fo)] ∧ But pn H H' ∧ Pen H' pn cl (b + us.length) ∧ H' rs = some (.lst rest) ∧ H' fo = some (.lst us) ∧ (us ++ rest).Perm ws, fun σ' H' ⟨k', l, z⟩ => ⟨k', l, z⟩, ?_⟩
      have l0 : 0 < rest.length := List.length_pos_iff.mpr c
      refine ⟨_, rfl, .inl ⟨rfl, _, SqL.of hf6⟩, _, rfl, .inl ⟨rfl, _, SqL.of hr6⟩, _, rfl, _, rfl, rs, _, rfl, .inl (SqL.of hr6), pn, cl, _, b + us.length, rfl, pen6, by omega, by omega, by omega, fun d H7 d0 d1 e7 pen7 => ?_⟩
      obtain ⟨d, rfl⟩ := Int.eq_ofNat_of_zero_le d0
      have d2 : d < rest.length := by omega
      have hr7 := e7 _ _ (Ne.symm nr.1) hr6
      have hf7 := e7 _ _ (Ne.symm nf.1) hf6
      have eg : rest[d]? = some rest[d] := List.getElem?_eq_getElem d2
      refine ⟨rs, _, _, d, _, rfl, rfl, hr7, by omega, by omega, seqIx d2, eg, ?_⟩
      refine ⟨fo, _, _, rfl, rfl, (upd_ne (Ne.symm nrf)).trans hf7, ?_, ?_⟩
      · exact small10 (by omega)
      refine ⟨_, ?_, us ++ [rest[d]], rest.eraseIdx d, rfl, rfl, fun c o n z => ?_, ?_, ?_, ?_, ?_⟩
      · rw [List.length_eraseIdx_of_lt d2]
        omega
      · have z7 := e7 _ _ n (e6 _ _ (e5 c o n z))
        rw [upd_ne (ne_of_none z mfo), upd_ne (ne_of_none z nrs)]
        exact z7
      · rw [List.length_append]
        exact (pen7.upd nr.1 nr.2).upd nf.1 nf.2
      · rw [upd_ne nrf, upd_same]
      · rw [upd_same]
      · rw [List.append_assoc]
        exact (List.Perm.append_left us (perm_erase rest d d2)).trans pm
end
end K38
set_option Elab.async false
set_option linter.all false
set_option maxRecDepth 100001
set_option maxHeartbeats 3999999
namespace K38
open PySem L2
theorem perm_map {α β : Type} (f : α → β) {ys zs : List β} (p : ys.Perm zs) : ∀ {xs : List α}, zs = xs.map f → ∃ us : List α, ys = us.map f ∧ us.Perm xs := by
  induction p with
  | nil => exact fun {xs} h => ⟨[], rfl, by cases xs with | nil => exact .nil | cons a r => cases h⟩
  | cons a _ ih =>
    intro xs h
    cases xs with
    | nil => cases h
    | cons x r =>
      injection h with h1 h2
      obtain ⟨us, e, q⟩ := ih h2
      exact ⟨x :: us, by rw [List.map_cons, ← h1, e], q.cons x⟩
  | swap a b l =>
    intro xs h
    match xs, h with
    | x :: y :: r, h =>
      injection h with h1 h2
      injection h2 with h2 h3
      exact ⟨y :: x :: r, by rw [List.map_cons, List.map_cons, ← h1, ← h2, ← h3], List.Perm.swap _ _ _⟩
  | trans _ _ ih1 ih2 =>
    intro xs h
    obtain ⟨us, e, q⟩ := ih2 h
    obtain ⟨vs, e2, q2⟩ := ih1 e
    exact ⟨vs, e2, q2.trans q⟩
def spShufW : Sp := fun vs H Q _ => ∃ (pn cl ip : Addr) (ws : List W) (b : Nat), vs = [.ref pn, .ref ip] ∧ Pen H pn cl b ∧ H ip = some (.lst (ws.map wV)) ∧ ws.length ≤ 20 ∧ b ≤ 100000 ∧
  ∀ (us : List W) D H', us.Perm ws → But pn H H' → Pen H' pn cl (b + ws.length) → H D = none → H' D = some (.lst (us.map wV)) → Q (.ref D) H'
section
variable {P : Program} {w : World} {K : PySem.W.Frag} {mg : Str → Option Value} {base : Heap}
theorem ok_shufW {f : Addr} {fd : FuncData} (F : Fun K "_law_shuffled" "_law_shuffled" sShuf f fd) (B : Bi mg) (cD : Cal CX0 P w K mg base 1 "_law_draw" spDraw) : FnOk P w K mg base CX0 3 f fd ["_law_pen", "_law_items"] spShufW :=
  (ok_shufF F B cD).imp fun vs H Q E ⟨pn, cl, ip, ws, b, e, pen, hi, l, hb, q⟩ => ⟨pn, cl, ip, ws.map wV, b, e, pen, hi, flat_ws ws, by rw [List.length_map]; omega, hb, fun us D H' p bt pn' nD hD => by
    obtain ⟨us', rfl, p'⟩ := perm_map wV p rfl
    rw [List.length_map] at pn'
    exact q us' D H' p' bt pn' nD hD⟩
end
end K38
set_option Elab.async false
set_option linter.all false
set_option maxRecDepth 100001
set_option maxHeartbeats 3999999
namespace K38
open PySem L2
/-- words of a full code, at most ten -/
structure FW (ws : List W) : Prop where
  pf : PF ws
  lo : ∀ w ∈ ws, 1 ≤ w.length
  hi : ∀ w ∈ ws, w.length + 1 ≤ ws.length
  kr : kr 10 ws = 2 ^ 10
theorem kr_perm {L : Nat} {a b : List W} (p : a.Perm b) : kr L a = kr L b := (p.map _).sum_nat
theorem FW.perm {a b : List W} (h : FW a) (p : a.Perm b) : FW b :=
  ⟨h.pf.perm p, fun w hw => h.lo w (p.symm.subset hw), fun w hw => by rw [← p.length_eq]; exact h.hi w (p.symm.subset hw), by rw [← kr_perm p]; exact h.kr⟩
theorem FW.start : FW [[false], [true]] := by
  refine ⟨?_, ?_, ?_, rfl⟩
  · refine .cons (fun w hw => ?_) (.cons (fun w hw => nomatch hw) .nil)
    rw [List.mem_singleton.mp hw]
    exact ⟨by decide, by decide⟩
  · intro w hw
    rcases List.mem_cons.mp hw with rfl | hw
    · decide
    · rw [List.mem_singleton.mp hw]
      decide
  · intro w hw
    rcases List.mem_cons.mp hw with rfl | hw
    · decide
    · rw [List.mem_singleton.mp hw]
      decide
theorem kr_app (L : Nat) (a b : List W) : kr L (a ++ b) = kr L a + kr L b := by simp [kr]
theorem FW.cut {w : W} {r : List W} (h : FW (w :: r)) (l : r.length + 1 ≤ 10) : FW (r ++ [w ++ [false], w ++ [true]]) := by
  obtain ⟨p1, p2⟩ := List.pairwise_cons.mp h.pf
  have lw := h.hi w List.mem_cons_self
  rw [List.length_cons] at lw
  have one : ∀ x ∈ r, ∀ b : Bool, ¬ x <+: w ++ [b] ∧ ¬ w ++ [b] <+: x := fun x hx b => by
    obtain ⟨a1, a2⟩ := p1 x hx
    refine ⟨fun z => ?_, fun z => a1 ((List.prefix_append w [b]).trans z)⟩
    rcases List.prefix_concat_iff.mp z with e | z
    · exact a1 (e ▸ List.prefix_append w [b])
    · exact a2 z
  have two : ∀ x ∈ r ++ [w ++ [false], w ++ [true]], x ∈ r ∨ ∃ b : Bool, x = w ++ [b] := fun x hx => by
    rcases List.mem_append.mp hx with z | z
    · exact .inl z
    · rcases List.mem_cons.mp z with rfl | z
      · exact .inr ⟨_, rfl⟩
      · rw [List.mem_singleton.mp z]
        exact .inr ⟨_, rfl⟩
  refine ⟨?_, fun x hx => ?_, fun x hx => ?_, ?_⟩
  · refine List.pairwise_append.mpr ⟨p2, ?_, fun x hx y hy => ?_⟩
    · refine .cons (fun y hy => ?_) (.cons (fun y hy => nomatch hy) .nil)
      rw [List.mem_singleton.mp hy]
      have ne : ∀ b c : Bool, b ≠ c → ¬ w ++ [b] <+: w ++ [c] := fun b c n z => by
        have := z.eq_of_length (by rw [List.length_append, List.length_append]; rfl)
        exact n (List.singleton_inj.mp (List.append_cancel_left this))
      exact ⟨ne _ _ (by decide), ne _ _ (by decide)⟩
    · rcases List.mem_cons.mp hy with rfl | hy
      · exact one x hx false
      · rw [List.mem_singleton.mp hy]
        exact one x hx true
  · rcases two x hx with z | ⟨b, rfl⟩
    · exact h.lo x (List.mem_cons_of_mem _ z)
    · rw [List.length_append]
      exact Nat.le_add_left _ _
  · rw [List.length_append]
    show x.length + 1 ≤ r.length + 2
    rcases two x hx with z | ⟨b, rfl⟩
    · have := h.hi x (List.mem_cons_of_mem _ z)
      rw [List.length_cons] at this
      omega
    · rw [List.length_append]
      show w.length + 1 + 1 ≤ _
      omega
  · have k := h.kr
    rw [kr_cons] at k
    rw [kr_app, kr_cons, kr_cons, List.length_append, List.length_append]
    show K38.kr 10 r + (2 ^ (10 - (w.length + 1)) + (2 ^ (10 - (w.length + 1)) + 0)) = _
    have : 2 ^ (10 - w.length) = 2 * 2 ^ (10 - (w.length + 1)) := by
      rw [← Nat.pow_succ']
      congr 1
      omega
    omega
def spLWo : Sp := fun vs H Q _ => ∃ (pn cl : Addr) (m b : Nat), vs = [.ref pn, .int (m : Nat)] ∧ Pen H pn cl b ∧ 2 ≤ m ∧ m ≤ 10 ∧ b ≤ 10000 ∧
  ∀ (ws : List W) D H', FW ws → ws.length = m → But pn H H' → Pen H' pn cl (b + 20) → H D = none → H' D = some (.lst (ws.map wV)) → Q (.ref D) H'
section
variable {P : Program} {w : World} {K : PySem.W.Frag} {mg : Str → Option Value} {base : Heap}
theorem scLWo : FnScope ["_law_pen", "_law_many", "_law_found", "_law_word"] ["_law_pen", "_law_many"] (defScope sLWords) := ⟨rfl, rfl, rfl, by decide +kernel, rfl, by decide +kernel, by decide +kernel⟩
theorem ok_lwo {f : Addr} {fd : FuncData} (F : Fun K "_law_words" "_law_words" sLWords f fd) (B : Bi mg) (cD : Cal CX0 P w K mg base 1 "_law_draw" spDraw) (cS : Cal CX0 P w K mg base 3 "_law_shuffled" spShufW) : FnOk P w K mg base CX0 4 f fd ["_law_pen", "_law_many"] spLWo := by
  refine F.ok scLWo (fun vs H Q E h => ?_) (fun cdv A outer s H vs Q E hr h => ?_)
  · obtain ⟨pn, cl, m, b, rfl, _⟩ := h
    rfl
  · obtain ⟨pn, cl, m, b, rfl, pen, m2, m10, hb, q⟩ := h
    refine ⟨_, pss_cons (ps_set (i := 2) scLWo.nd rfl (Or.inl rfl) (pe_lst (pa_cons pe_str (pa_cons pe_str pa_nil))))
      (pss_cons (ps_while PassesOwn.never (pt_cmpR op_lt (pe_len B.len (pa_cons (pv 2) pa_nil)) (pv 1) (nomark _))
        (pss_cons (ps_set (i := 3) scLWo.nd rfl (Or.inl rfl) (pe_bm PySem.F.plainAttrs_list PySem.F.slot_list_pop PySem.F.type_list_pop mt_popAt (pv 2) (pa_cons (pe_c cD hr pass0 (pa_cons (pv 0) (pa_cons (pe_len B.len (pa_cons (pv 2) pa_nil)) pa_nil))) pa_nil)))
        (pss_one (ps_set (i := 2) scLWo.nd rfl (Or.inl rfl) (pe_op op_cat (pv 2) (pe_lst (pa_cons (pe_op op_add_str (pv 3) pe_str) (pa_cons (pe_op op_add_str (pv 3) pe_str) pa_nil))))))))
      (pss_one (ps_ret (pe_c cS hr pass0 (pa_cons (pv 0) (pa_cons (pv 2) pa_nil)))))), ?_⟩
    refine ⟨by show 2 ≤ sizeLine; decide, fun l0 n0 => ?_⟩
    have e1 := same_new (o := .lst [.str "0", .str "1"]) n0
    have h1 : upd H l0 (.lst [.str "0", .str "1"]) l0 = some (.lst ([[false], [true]].map wV)) := upd_same
    have pen1 := pen.same e1
    have b1 : But pn H (upd H l0 (.lst [.str "0", .str "1"])) := fun c o _ z => e1 _ _ z
    generalize upd H l0 (.lst [.str "0", .str "1"]) = H1 at h1 pen1 b1 ⊢
    refine ⟨fun k σ H' => ∃ (xs : List W) (l : Addr) (x3 : Option V), k = m - xs.length ∧ σ = [some (.ref pn), some (.int (m : Nat)), some (.ref l), x3] ∧ FW xs ∧ 2 ≤ xs.length ∧ xs.length ≤ m ∧ H' l = some (.lst (xs.map wV)) ∧ H l = none ∧ But pn H H' ∧ Pen H' pn cl (b + xs.length),
      ⟨_, [[false], [true]], l0, none, rfl, rfl, FW.start, by decide, m2, h1, n0, b1, pen1.mono (by omega)⟩, ?_⟩
    rintro k σ G ⟨xs, l, x3, rfl, rfl, fw, x2, xm, hl, nl, bt, pen2⟩
    have lx : (xs.map wV).length = xs.length := List.length_map _
    refine ⟨_, rfl, l, _, rfl, .inl (SqL.of hl), _, rfl, _, _, rfl, rfl, _, rfl, ?_⟩
    rw [lx]
    by_cases c : xs.length < m
    · rw [decide_eq_true (show ((xs.length : Nat) : Int) < ((m : Nat) : Int) by omega)]
      refine iteT ⟨fun σ' H' => ∃ k', k' < m - xs.length ∧ ∃ (xs : List W) (l : Addr) (x3 : Option V), k' = m - xs.length ∧ σ' = [some (.ref pn), some (.int (m : Nat)), some (.ref l), x3] ∧ FW xs ∧ 2 ≤ xs.length ∧ xs.length ≤ m ∧ H' l = some (.lst (xs.map wV)) ∧ H l = none ∧ But pn H H' ∧ Pen H' pn cl (b + xs.length), fun σ' H' ⟨k', l, z⟩ => ⟨k', l, z⟩, ?_⟩
      refine ⟨_, rfl, .inl ⟨rfl, _, SqL.of hl⟩, _, rfl, _, rfl, l, _, rfl, .inl (SqL.of hl), pn, cl, _, b + xs.length, rfl, pen2, by omega, by rw [lx]; omega, by rw [lx]; omega, fun d H3 d0 d1 e3 pen3 => ?_⟩
      obtain ⟨d, rfl⟩ := Int.eq_ofNat_of_zero_le d0
      rw [lx] at d1
      have d2 : d < xs.length := by omega
      have nlp : l ≠ pn := (pen2.ne hl fun _ z => nomatch z)
      have hl3 := e3 _ _ nlp hl
      have eg : (xs.map wV)[d]? = some (wV xs[d]) := by rw [List.getElem?_map, List.getElem?_eq_getElem d2]; rfl
      refine ⟨l, _, _, d, _, rfl, rfl, hl3, by omega, by omega, by rw [lx]; exact seqIx d2, eg, ?_⟩
      rw [map_erase]
      have np3 : pn ≠ l ∧ cl ≠ l := ⟨Ne.symm nlp, fun z => by
        obtain ⟨_, _, _, _, g2, _⟩ := pen
        rw [z, nl] at g2
        cases g2⟩
      have pen4 := pen3.upd (o := .lst ((xs.eraseIdx d).map wV)) np3.1 np3.2
      have hl4 : upd H3 l (.lst ((xs.eraseIdx d).map wV)) l = some (.lst ((xs.eraseIdx d).map wV)) := upd_same
      have b4 : But pn H (upd H3 l (.lst ((xs.eraseIdx d).map wV))) := fun c o n z => (upd_ne (ne_of_none z nl)).trans (e3 _ _ n (bt c o n z))
      have fr4 : ∀ a, upd H3 l (.lst ((xs.eraseIdx d).map wV)) a = none → H a = none := fun a na => by
        cases z : H a with
        | none => rfl
        | some o =>
          have n1 : a ≠ pn := fun e => by
            obtain ⟨_, _, _, g1, _⟩ := pen4
            rw [e, g1] at na
            cases na
          rw [b4 a o n1 z] at na
          cases na
      have pm := perm_erase xs d d2
      have fw2 := (fw.perm pm.symm).cut (by rw [List.length_eraseIdx_of_lt d2]; omega)
      have l6 := List.length_eraseIdx_of_lt d2
      generalize upd H3 l (.lst ((xs.eraseIdx d).map wV)) = H4 at pen4 hl4 b4 fr4 ⊢
      have lw : (xs[d]).length ≤ 100 := by
        have := fw.hi _ (List.getElem_mem d2)
        omega
      generalize xs[d] = wd at fw2 lw ⊢
      generalize xs.eraseIdx d = rest at hl4 fw2 l6 ⊢
      have ap : ∀ b : Bool, V.str (bS wd ++ (⟨#[cd b]⟩ : Str)) = wV (wd ++ [b]) := fun b => congrArg V.str (bS_snoc wd b).symm
      have ln : ∀ z : Str, z.length = 1 → (bS wd).length + z.length ≤ sizeLine := fun z hz => by
        rw [bS_len, hz]
        exact Nat.le_of_lt (small10 (by omega))
      refine ⟨_, rfl, _, rfl, bS wd, "0", rfl, rfl, ln _ rfl, _, rfl, bS wd, "1", rfl, rfl, ln _ rfl, by show 2 ≤ sizeLine; decide, fun l2 n2 => ?_⟩
      have e5 := same_new (o := .lst [V.str (bS wd ++ ("0" : Str)), V.str (bS wd ++ ("1" : Str))]) n2
      have nl2 : H l2 = none := fr4 _ n2
      have hw5 : upd H4 l2 (.lst [V.str (bS wd ++ ("0" : Str)), V.str (bS wd ++ ("1" : Str))]) l2 = some (.lst ([wd ++ [false], wd ++ [true]].map wV)) := by
        rw [upd_same]
        exact congrArg (fun z => some (HO.lst z)) (by rw [List.map_cons, List.map_cons, ← ap false, ← ap true]; rfl)
      have hl5 := e5 _ _ hl4
      have pen5 := pen4.same e5
      have b5 : But pn H (upd H4 l2 (.lst [V.str (bS wd ++ ("0" : Str)), V.str (bS wd ++ ("1" : Str))])) := fun c o n z => e5 _ _ (b4 c o n z)
      have fr5 : ∀ a, upd H4 l2 (.lst [V.str (bS wd ++ ("0" : Str)), V.str (bS wd ++ ("1" : Str))]) a = none → H a = none := fun a na => fr4 a (Same.none' e5 na)
      generalize upd H4 l2 (.lst [V.str (bS wd ++ ("0" : Str)), V.str (bS wd ++ ("1" : Str))]) = H5 at hw5 hl5 pen5 b5 fr5 ⊢
      refine ⟨l, l2, _, _, rfl, rfl, hl5, hw5, ?_, fun l3 n3 => ?_⟩
      · rw [List.length_map]
        exact Nat.le_of_lt (small10 (by show rest.length + 2 ≤ 10000; omega))
      have e6 := same_new (o := .lst (rest.map wV ++ [wd ++ [false], wd ++ [true]].map wV)) n3
      refine ⟨_, ?_, rest ++ [wd ++ [false], wd ++ [true]], l3, some (wV wd), rfl, rfl, fw2, ?_, ?_, ?_, fr5 _ n3, fun c o n z => e6 _ _ (b5 c o n z), (pen5.same e6).mono ?_⟩
      · rw [List.length_append]
        show m - (rest.length + 2) < _
        omega
      · rw [List.length_append]
        exact Nat.le_add_left _ _
      · rw [List.length_append]
        show rest.length + 2 ≤ m
        omega
      · rw [List.map_append]
        exact upd_same
      · rw [List.length_append]
        show b + xs.length + 1 ≤ b + (rest.length + 2)
        omega
    · rw [decide_eq_false (show ¬ ((xs.length : Nat) : Int) < ((m : Nat) : Int) by omega)]
      have em : xs.length = m := by omega
      refine iteF ?_
      refine ⟨_, rfl, _, rfl, pn, cl, l, xs, _, rfl, pen2, hl, by omega, by omega, fun us D H' pm e' pen' nD hD => ?_⟩
      have nD0 : H D = none := by
        cases z : H D with
        | none => rfl
        | some o =>
          have n1 : D ≠ pn := fun e => by
            obtain ⟨_, _, _, g1, _⟩ := pen2
            rw [e, g1] at nD
            cases nD
          rw [bt D o n1 z] at nD
          cases nD
      exact q us D H' (fw.perm pm.symm) (by rw [pm.length_eq, em]) (bt.trans e') (pen'.mono (by omega)) nD0 hD
end
end K38
set_option Elab.async false
set_option linter.all false
set_option maxRecDepth 100001
set_option maxHeartbeats 3999999
namespace K38
open PySem L2
open Huff (hf dot)
abbrev sFrz : Stmt := topS 7
/-! ### known values and objects -/
structure ObC (K : PySem.W.Frag) (C : Addr) : Prop where
  cl : Cls K C
  cc : PySem.W.findIn K (.ref C) "__class__" = some (some (.builtin "object.__class__"))
  mr : PySem.W.mroIn K C (.type "object") = some true
  kI : PySem.W.kitOne K (.ref C) (.type "int") = some false
  kB : PySem.W.kitOne K (.ref C) (.type "bool") = some false
  kT : PySem.W.kitOne K (.ref C) (.type "tuple") = some false
  kL : PySem.W.kitOne K (.ref C) (.type "list") = some false
  kD : PySem.W.kitOne K (.ref C) (.type "dict") = some false
structure ObK (K : PySem.W.Frag) : Prop where
  gg : PySem.W.specialIn K (.builtin "object.__class__") "__get__" = some (some (.builtin "getset_descriptor.__get__"))
  tk : PySem.W.takesIn K (.builtin "object.__class__") = some true
inductive Kv (K : PySem.W.Frag) (H : Hp) : V → Prop where
  | kn {v : V} (k : Kn H v) : Kv K H v
  | ob {p C dx : Addr} {fs : List (Str × V)} (h : H p = some (.ins C dx fs)) (O : ObC K C) (U : ObK K) : Kv K H (.ref p)
theorem isT_ins {H : Hp} {p C dx : Addr} {fs : List (Str × V)} (e : H p = some (.ins C dx fs)) : isT H (.ref p) = false := by simp only [isT, e]
theorem isL_ins {H : Hp} {p C dx : Addr} {fs : List (Str × V)} (e : H p = some (.ins C dx fs)) : isL H (.ref p) = false := by simp only [isL, e]
def KT2 (K : PySem.W.Frag) (t : Value) (bi bb bt bl : Bool) : Prop := PySem.W.kitOne K t (.type "int") = some bi ∧ PySem.W.kitOne K t (.type "bool") = some bb ∧
    PySem.W.kitOne K t (.type "tuple") = some bt ∧ PySem.W.kitOne K t (.type "list") = some bl ∧ PySem.W.kitOne K t (.type "dict") = some false
section
variable {K : PySem.W.Frag} {H H' : Hp} {v : V}
theorem Kv.kinds (k : Kv K H v) : ∃ t : Value, TyX K H v t ∧ KT2 K t (isI v || isB v) (isB v) (isT H v) (isL H v) := by
  cases k with
  | kn k =>
    obtain ⟨t, ty, k⟩ := k.kinds K
    exact ⟨_, ty, k⟩
  | ob h O U =>
    rw [isT_ins h, isL_ins h]
    exact ⟨_, .base (.ins h O.cl O.cc U.gg U.tk O.mr), O.kI, O.kB, O.kT, O.kL, O.kD⟩
theorem Kv.same (k : Kv K H v) (e : Same H H') : Kv K H' v := by
  cases k with
  | kn k => exact .kn (k.same e)
  | ob h O U => exact .ob (e _ _ h) O U
theorem Kv.isT_same (k : Kv K H v) (e : Same H H') : isT H' v = isT H v := by
  cases k with
  | kn k => cases k with
    | lst h => rw [isT_lst h, isT_lst (e _ _ h)]
    | tup h => rw [isT_tup h, isT_tup (e _ _ h)]
    | _ => rfl
  | ob h O U => rw [isT_ins h, isT_ins (e _ _ h)]
theorem Kv.isL_same (k : Kv K H v) (e : Same H H') : isL H' v = isL H v := by
  cases k with
  | kn k => cases k with
    | lst h => rw [isL_lst h, isL_lst (e _ _ h)]
    | tup h => rw [isL_tup h, isL_tup (e _ _ h)]
    | _ => rfl
  | ob h O U => rw [isL_ins h, isL_ins (e _ _ h)]
theorem Kv.any (k : Kv K H v) : ∃ t : Value, TyX K H v t ∧ PySem.W.kitAny K t [.type "list", .type "tuple"] = some (isLT H v) := by
  obtain ⟨t, ty, _, _, k3, k4, _⟩ := k.kinds
  refine ⟨t, ty, kitAny_cons k4 (fun z => ?_) (fun z => by unfold isLT; rw [z]; rfl)⟩
  refine kitAny_cons k3 (fun z2 => by unfold isLT; rw [z, z2]; rfl) (fun z2 => by unfold isLT; rw [z2, Bool.or_true])
end
/-- what frozen leaves as it is -/
def Lf (K : PySem.W.Frag) (H : Hp) (v : V) : Prop := Kv K H v ∧ isLT H v = false
theorem Lf.same {K : PySem.W.Frag} {H H' : Hp} {v : V} (h : Lf K H v) (e : Same H H') : Lf K H' v := ⟨h.1.same e, by
  have := h.2
  unfold isLT at this ⊢
  rw [h.1.isL_same e, h.1.isT_same e]
  exact this⟩
inductive Fd where
  | lf (v : V)
  | nd (ds : List Fd)
def FIn (K : PySem.W.Frag) : Nat → Hp → V → Fd → Prop
  | 0 => fun H v d => d = .lf v ∧ Lf K H v
  | n + 1 => fun H v d => (d = .lf v ∧ Lf K H v) ∨ ∃ a xs ds, v = .ref a ∧ d = .nd ds ∧ LT H a xs ∧ xs.length ≤ 20000 ∧ Paired (FIn K n H) xs ds
def FOut : Nat → Hp → V → Fd → Prop
  | 0 => fun _ v d => d = .lf v
  | n + 1 => fun H v d => d = .lf v ∨ ∃ a xs ds, v = .ref a ∧ d = .nd ds ∧ H a = some (.tup xs) ∧ Paired (FOut n H) xs ds
theorem FIn.same {K : PySem.W.Frag} {H H' : Hp} (e : Same H H') : ∀ (n : Nat) (v : V) (d : Fd), FIn K n H v d → FIn K n H' v d
  | 0, _, _, ⟨h1, h2⟩ => ⟨h1, h2.same e⟩
  | _ + 1, _, _, .inl ⟨h1, h2⟩ => .inl ⟨h1, h2.same e⟩
  | n + 1, _, _, .inr ⟨a, xs, ds, h1, h2, h3, h4, h5⟩ => .inr ⟨a, xs, ds, h1, h2, h3.same e, h4, Paired.mapP h5 fun v d h => FIn.same e n v d h⟩
theorem FOut.tt {H H' : Hp} (e : TT H H') : ∀ (n : Nat) (v : V) (d : Fd), FOut n H v d → FOut n H' v d
  | 0, _, _, h => h
  | _ + 1, _, _, .inl h => .inl h
  | n + 1, _, _, .inr ⟨a, xs, ds, h1, h2, h3, h4⟩ => .inr ⟨a, xs, ds, h1, h2, e _ _ h3, Paired.mapP h4 fun v d h => FOut.tt e n v d h⟩
def spFz (K : PySem.W.Frag) (n : Nat) : Sp := fun vs H Q _ => ∃ v d, vs = [v] ∧ FIn K n H v d ∧ ∀ v' H', Same H H' → FOut n H' v' d → Q v' H'
def spFzL (K : PySem.W.Frag) : Sp := fun vs H Q _ => ∃ v, vs = [v] ∧ Lf K H v ∧ ∀ H', Same H H' → Q v H'
def spFzN (K : PySem.W.Frag) (n : Nat) : Sp := fun vs H Q _ => ∃ a xs ds, vs = [.ref a] ∧ LT H a xs ∧ xs.length ≤ 20000 ∧ Paired (FIn K n H) xs ds ∧ ∀ t ys H', Same H H' → H' t = some (.tup ys) → Paired (FOut n H') ys ds → Q (.ref t) H'
section
variable {P : Program} {w : World} {K : PySem.W.Frag} {mg : Str → Option Value} {base : Heap}
theorem scFrz : FnScope ["value", "part", "key"] ["value"] (defScope sFrz) := ⟨rfl, rfl, rfl, by decide +kernel, rfl, by decide +kernel, by decide +kernel⟩
theorem ok_fzL {f : Addr} {fd : FuncData} (F : Fun K "frozen" "frozen" sFrz f fd) (B : Bi mg) : FnOk P w K mg base CX0 1 f fd ["value"] (spFzL K) := by
  refine F.ok scFrz (fun vs H Q E h => ?_) (fun cdv A outer s H vs Q E hr h => ?_)
  · obtain ⟨v, rfl, _⟩ := h
    rfl
  · obtain ⟨v, rfl, ⟨k, l0⟩, q⟩ := h
    refine ⟨_, pss_cons (ps_if (pt_val (pe_callB call_isiT rfl B.isi PyProof.Rows.boot_isinstance (pa_cons (pv 0) (pa_cons (pe_tup (pa_cons (pe_ty "list" B.list) (pa_cons (pe_ty "tuple" B.tuple) pa_nil))) pa_nil)))) pss_never pss_nil)
      (pss_cons (ps_if (pt_val (pe_isi B.isi (pa_cons (pv 0) (pa_cons (pe_ty "dict" B.dict) pa_nil)))) pss_never pss_nil) (pss_one (ps_ret (pv 0)))), ?_⟩
    refine ⟨_, rfl, by show 2 ≤ sizeLine; decide, fun tp ntp => ?_⟩
    have e := same_new (o := .tup [.ty "list", .ty "tuple"]) ntp
    have htp : upd H tp (.tup [.ty "list", .ty "tuple"]) tp = some (.tup [.ty "list", .ty "tuple"]) := upd_same
    obtain ⟨k1, l1⟩ := (Lf.same ⟨k, l0⟩ e : Lf K _ v)
    generalize upd H tp (.tup [.ty "list", .ty "tuple"]) = H1 at e htp k1 l1 ⊢
    obtain ⟨t, ty, ka⟩ := k1.any
    obtain ⟨t2, ty2, _, _, _, _, k5⟩ := k1.kinds
    rw [l1] at ka
    refine ⟨_, tp, _, t, [.type "list", .type "tuple"], _, rfl, htp, .cons (.ty "list") (.cons (.ty "tuple") .nil), ty, ka, _, rfl, iteF ?_⟩
    exact ⟨_, rfl, _, _, _, _, _, rfl, .ty "dict", ty2, k5, _, rfl, iteF ⟨_, rfl, q _ e⟩⟩
theorem ok_fzN {k n : Nat} {f : Addr} {fd : FuncData} (F : Fun K "frozen" "frozen" sFrz f fd) (B : Bi mg) (c1 : Cal CX0 P w K mg base k "frozen" (spFz K n)) : FnOk P w K mg base CX0 (k + 1) f fd ["value"] (spFzN K n) := by
  refine F.ok scFrz (fun vs H Q E h => ?_) (fun cdv A outer s H vs Q E hr h => ?_)
  · obtain ⟨a, xs, ds, rfl, _⟩ := h
    rfl
  · obtain ⟨a, xs, ds, rfl, ha, len, pr, q⟩ := h
    refine ⟨_, pss_cons (ps_if (pt_val (pe_callB call_isiT rfl B.isi PyProof.Rows.boot_isinstance (pa_cons (pv 0) (pa_cons (pe_tup (pa_cons (pe_ty "list" B.list) (pa_cons (pe_ty "tuple" B.tuple) pa_nil))) pa_nil)))) (pss_one (ps_ret (pe_tupleOf rfl B.tuple (pe_lc (own := [("part", 1)]) rfl scFrz.nd (pi_sqA (pv 0)) (blkOk_by (N := ["value", "part", "key"]) (sc := defScope sFrz) (by decide +kernel))
          (fun _ _ _ _ _ => pg_name (i := 1) scFrz.nd rfl (Or.inl rfl)) (fun _ _ _ _ _ => pts_nil) (fun _ _ _ _ _ => pe_c c1 hr pass0 (pa_cons (pv 1) pa_nil) (Nat.le_refl _)))))) pss_nil)
      (pss_cons (ps_if (pt_val (pe_isi B.isi (pa_cons (pv 0) (pa_cons (pe_ty "dict" B.dict) pa_nil)))) pss_never pss_nil) (pss_one (ps_ret (pv 0)))), ?_⟩
    refine ⟨_, rfl, by show 2 ≤ sizeLine; decide, fun tp ntp => ?_⟩
    have e := same_new (o := .tup [.ty "list", .ty "tuple"]) ntp
    have htp : upd H tp (.tup [.ty "list", .ty "tuple"]) tp = some (.tup [.ty "list", .ty "tuple"]) := upd_same
    generalize upd H tp (.tup [.ty "list", .ty "tuple"]) = H1 at e htp ⊢
    have ha1 := ha.same e
    obtain ⟨t, ty, ka⟩ := ha1.kn.any K
    rw [ha1.is] at ka
    refine ⟨_, tp, _, .type t, [.type "list", .type "tuple"], _, rfl, htp, .cons (.ty "list") (.cons (.ty "tuple") .nil), ty, ka, _, rfl, iteT ?_⟩
    refine ⟨_, rfl, a, _, rfl, ha1.sq, fun J G wk hG D nD => lc_it wk (fun j H' => Same H1 H' ∧ ∃ ys, H' D = some (.lst ys) ∧ Paired (FOut n H') ys (ds.take j)) ⟨same_new nD, [], upd_same, .nil⟩ (fun j H' _ z => hG H' fun o w => z.1 _ _ w) ?_ ?_⟩
    · rintro j y H2 H3 hj ⟨e1, ys, hD, po⟩ ⟨rfl, hy⟩
      obtain ⟨d, hd, hin⟩ := paired_get pr hy
      have ly : ys.length ≤ 20000 := by
        rw [Paired.length po, List.length_take, ← Paired.length pr]
        omega
      refine ⟨rfl, ?_⟩
      unfold tYes
      refine iteT ⟨_, rfl, y, d, rfl, FIn.same (e.trans e1) _ _ _ hin, fun v' H4 e4 o4 => ⟨ys, e4 _ _ hD, Nat.lt_of_le_of_lt ly (by decide), fun b o z => ?_, ys ++ [v'], upd_same, ?_⟩⟩
      · rw [upd_ne (ne_of_none z nD)]
        exact e4 _ _ (e1 _ _ z)
      · have tk : ds.take (j + 1) = ds.take j ++ [d] := by rw [List.take_add_one, hd]; rfl
        rw [tk]
        have h4 := e4 _ _ hD
        exact Paired.snoc (Paired.mapP po fun _ _ h => FOut.tt ((TT.same e4).trans (TT.lst h4)) _ _ _ h) (FOut.tt (TT.lst h4) _ _ _ o4)
    · rintro H2 ⟨e1, ys, hD, po⟩
      rw [Paired.length pr, List.take_length] at po
      exact .inl ⟨D, ys, rfl, SqL.of hD, fun t nt => q _ _ _ ((e.trans e1).trans (same_new nt)) upd_same (Paired.mapP po fun _ _ h => FOut.tt (TT.same (same_new nt)) _ _ _ h)⟩
theorem ok_fz0 {f : Addr} {fd : FuncData} (F : Fun K "frozen" "frozen" sFrz f fd) (B : Bi mg) : FnOk P w K mg base CX0 1 f fd ["value"] (spFz K 0) :=
  (ok_fzL F B).imp fun vs H Q E ⟨v, d, e, ⟨hd, hl⟩, q⟩ => ⟨v, e, hl, fun H' e => q v H' e hd⟩
theorem ok_fzS {k n : Nat} {f : Addr} {fd : FuncData} (F : Fun K "frozen" "frozen" sFrz f fd) (B : Bi mg) (c1 : Cal CX0 P w K mg base k "frozen" (spFz K n)) : FnOk P w K mg base CX0 (k + 1) f fd ["value"] (spFz K (n + 1)) :=
  (((ok_fzL F B).mono (by omega)).or (ok_fzN F B c1)).imp fun vs H Q E ⟨v, d, e, h, q⟩ => by
    rcases h with ⟨hd, hl⟩ | ⟨a, xs, ds, rfl, rfl, h1, h2, h3⟩
    · exact .inl ⟨v, e, hl, fun H' e => q v H' e (.inl hd)⟩
    · exact .inr ⟨a, xs, ds, e, h1, h2, h3, fun t ys H' e ht po => q _ H' e (.inr ⟨t, ys, ds, rfl, rfl, ht, po⟩)⟩
end
end K38
set_option Elab.async false
set_option linter.all false
set_option maxRecDepth 100001
set_option maxHeartbeats 3999999
namespace K38
open PySem L2
open Huff (hf dot)
abbrev sBRank : Stmt := inClass (topS 18) 0
inductive Odd (H : Hp) : V → PyData → Prop
  | flat {v : V} (h : Flat v) : Odd H v (dOf v)
  | tup {a : Addr} {x : V} (e : H a = some (.tup [x])) (f : Flat x) : Odd H (.ref a) (.tuple [dOf x])
  | lst {a : Addr} {xs : List V} (e : H a = some (.lst xs)) (f : ∀ v ∈ xs, Flat v) (l : xs.length ≤ 1000) : Odd H (.ref a) (.list (xs.map dOf))
theorem Odd.kn {H : Hp} {v : V} {d : PyData} (o : Odd H v d) : Kn H v := by
  cases o with
  | flat h => exact kn_flat h
  | tup e f => exact .tup e
  | lst e f l => exact .lst e
theorem Odd.same {H H' : Hp} {v : V} {d : PyData} (o : Odd H v d) (s : Same H H') : Odd H' v d := by
  cases o with
  | flat h => exact .flat h
  | tup e f => exact .tup (s _ _ e) f
  | lst e f l => exact .lst (s _ _ e) f l
theorem Odd.dp {K : PySem.W.Frag} {H : Hp} {v : V} {d : PyData} (o : Odd H v d) : Dp K H v d := by
  cases o with
  | flat h => exact dp_flat h
  | tup e f => exact .tup (SqT.of e) (.cons (dp_flat f) .nil)
  | lst e f l => exact .lst (SqL.of e) (dpAll_flat f)
def spCopy2 : Sp := fun vs H Q _ => ∃ v d, vs = [v] ∧ Odd H v d ∧ ∀ v' H', Same H H' → Odd H' v' d → Q v' H'
section
variable {P : Program} {w : World} {K : PySem.W.Frag} {mg : Str → Option Value} {base : Heap}
theorem ok_copy2 {f : Addr} {fd : FuncData} (F : Fun K "copied" "copied" sCopied f fd) (B : Bi mg) (c1 : Cal CX0 P w K mg base 1 "copied" spCopied) : FnOk P w K mg base CX0 2 f fd ["value"] spCopy2 := by
  refine F.ok scCopied (fun vs H Q E h => ?_) (fun cdv A outer s H vs Q E hr h => ?_)
  · obtain ⟨v, d, rfl, _⟩ := h
    rfl
  · obtain ⟨v, d, rfl, od, q⟩ := h
    refine ⟨_, pss_cons (ps_if (pt_val (pe_isi B.isi (pa_cons (pv 0) (pa_cons (pe_ty "list" B.list) pa_nil)))) (pss_one (ps_ret (pe_lc (own := [("part", 1)]) rfl scCopied.nd (pi_sqA (pv 0)) (blkOk_by (N := ["value", "part", "key"]) (sc := defScope sCopied) (by decide +kernel))
          (fun _ _ _ _ _ => pg_name (i := 1) scCopied.nd rfl (Or.inl rfl)) (fun _ _ _ _ _ => pts_nil) (fun _ _ _ _ _ => pe_c c1 hr pass0 (pa_cons (pv 1) pa_nil))))) pss_nil)
      (pss_cons (ps_if (pt_val (pe_isi B.isi (pa_cons (pv 0) (pa_cons (pe_ty "tuple" B.tuple) pa_nil)))) (pss_one (ps_ret (pe_tupleOf rfl B.tuple (pe_lc (own := [("part", 1)]) rfl scCopied.nd (pi_sqA (pv 0)) (blkOk_by (N := ["value", "part", "key"]) (sc := defScope sCopied) (by decide +kernel))
          (fun _ _ _ _ _ => pg_name (i := 1) scCopied.nd rfl (Or.inl rfl)) (fun _ _ _ _ _ => pts_nil) (fun _ _ _ _ _ => pe_c c1 hr pass0 (pa_cons (pv 1) pa_nil)))))) pss_nil)
      (pss_cons (ps_if (pt_val (pe_isi B.isi (pa_cons (pv 0) (pa_cons (pe_ty "dict" B.dict) pa_nil)))) pss_never pss_nil) (pss_one (ps_ret (pv 0))))), ?_⟩
    obtain ⟨t, ty, _, _, k3, k4, k5⟩ := od.kn.kinds K
    cases od with
    | flat fl =>
      have f3 : isT H v = false := by cases v <;> first | rfl | exact fl.elim
      have f4 : isL H v = false := by cases v <;> first | rfl | exact fl.elim
      rw [f3] at k3
      rw [f4] at k4
      exact ⟨v, rfl, v, _, _, _, _, rfl, .ty "list", ty, k4, _, rfl, iteF ⟨v, rfl, v, _, _, _, _, rfl, .ty "tuple", ty, k3, _, rfl, iteF ⟨v, rfl, v, _, _, _, _, rfl, .ty "dict", ty, k5, _, rfl, iteF ⟨v, rfl, q v H (Same.refl H) (.flat fl)⟩⟩⟩⟩
    | @lst a xs e fx ll =>
      rw [isL_lst e] at k4
      refine ⟨_, rfl, _, _, _, _, _, rfl, .ty "list", ty, k4, _, rfl, iteT ?_⟩
      refine ⟨_, rfl, a, _, rfl, .inl (SqL.of e), fun J G wk hG D nD => lc_it wk (fun j H' => Same H H' ∧ H' D = some (.lst (xs.take j))) ⟨same_new nD, upd_same⟩ (fun j H' _ z => hG H' fun o w => z.1 _ _ w) ?_ ?_⟩
      · rintro j y H1 H2 hj ⟨e1, hD⟩ ⟨rfl, hy⟩
        refine ⟨rfl, ?_⟩
        unfold tYes
        refine iteT ⟨_, rfl, _, rfl, fx y (List.mem_of_getElem? hy), _, hD, by rw [List.length_take]; exact small10 (by omega), fun b o z => ?_, ?_⟩
        · rw [upd_ne (ne_of_none z nD)]
          exact e1 _ _ z
        · rw [upd_same, List.take_add_one, hy]
          rfl
      · rintro H1 ⟨e1, hD⟩
        rw [List.take_length] at hD
        exact q _ H1 e1 (.lst hD fx ll)
    | @tup a x e fx =>
      rw [isL_tup e] at k4
      rw [isT_tup e] at k3
      refine ⟨_, rfl, _, _, _, _, _, rfl, .ty "list", ty, k4, _, rfl, iteF ⟨_, rfl, _, _, _, _, _, rfl, .ty "tuple", ty, k3, _, rfl, iteT ?_⟩⟩
      refine ⟨_, rfl, a, _, rfl, .inr (SqT.of e), fun J G wk hG D nD => lc_it wk (fun j H' => Same H H' ∧ H' D = some (.lst ([x].take j))) ⟨same_new nD, upd_same⟩ (fun j H' _ z => hG H' fun o w => z.1 _ _ w) ?_ ?_⟩
      · rintro j y H1 H2 hj ⟨e1, hD⟩ ⟨rfl, hy⟩
        have j0 : j = 0 := by simpa using hj
        subst j0
        cases hy
        refine ⟨rfl, ?_⟩
        unfold tYes
        refine iteT ⟨_, rfl, _, rfl, fx, _, hD, by show 0 < sizeLine; decide, fun b o z => ?_, upd_same⟩
        rw [upd_ne (ne_of_none z nD)]
        exact e1 _ _ z
      · rintro H1 ⟨e1, hD⟩
        exact .inl ⟨D, _, rfl, SqL.of hD, fun t nt => q _ _ (e1.trans (same_new nt)) (.tup upd_same fx)⟩
end
def spXO (K : PySem.W.Frag) (f : Str) : Sp := fun vs H Q _ => ∃ (a C : Addr) (v : V) (d : PyData), vs = [.ref a, v] ∧ OexC K C ∧ PySem.W.findIn K (.ref C) f = some none ∧ Odd H v d ∧ H a = some (exo a C none) ∧
  ∀ v' H1 dx, Same H H1 → Odd H1 v' d → H1 dx = none → dx ≠ a → Q .non (upd (upd H1 dx (exd dx [(f, v')])) a (exo a C (some dx)))
section
variable {P : Program} {w : World} {K : PySem.W.Frag} {mg : Str → Option Value} {base : Heap}
theorem scBRank : FnScope ["self", "rank"] ["self", "rank"] (defScope sBRank) := ⟨rfl, rfl, rfl, by decide +kernel, rfl, by decide +kernel, by decide +kernel⟩
theorem ok_BRank {f : Addr} {fd : FuncData} (F : Fun K "__init__" "BadRank.__init__" sBRank f fd) (cC : Cal CX0 P w K mg base 2 "copied" spCopy2) : FnOk P w K mg base CX0 3 f fd ["self", "rank"] (spXO K "rank") := by
  refine F.ok scBRank (fun vs H Q E h => ?_) (fun cdv A outer s H vs Q E hr h => ?_)
  · obtain ⟨a, C, v, d, rfl, _⟩ := h
    rfl
  · obtain ⟨a, C, v, d, rfl, T, no, od, ha, q⟩ := h
    refine ⟨_, pss_one (ps_ost (pv 0) (pe_c cC hr pass0 (pa_cons (pv 1) pa_nil))), ?_⟩
    exact ⟨_, rfl, v, d, rfl, od, fun v' H1 e1 o1 => ⟨_, rfl, a, C, rfl, T, no, .inl ⟨e1 _ _ ha, fun dx nd ne => q v' H1 dx e1 o1 nd ne⟩⟩⟩
end
structure RsO (H H' : Hp) (d : Addr) (f : Str) (dd : PyData) : Prop where
  new : H d = none
  same : Same H H'
  at_ : ∃ v', H' d = some (.xd [(f, v')]) ∧ Odd H' v' dd
theorem raiseO {H : Hp} {C : Addr} {f : Str} {v : V} {dd : PyData} {R : XK} {K : PySem.W.Frag} (T : OexC K C) (no : PySem.W.findIn K (.ref C) f = some none) (od : Odd H v dd) (r : ∀ d H', RsO H H' d f dd → R (.ref C) (some d) H') :
    ([v] : List V).length ≤ 1000 ∧ ∀ a, H a = none → spXO K f (.ref a :: ([v] ++ [])) (upd H a (exo a C none)) (fun u H2 => u = .non ∧ ∃ (d : Addr) (fs : List (Str × V)), H2 a = some (exo a C (some d)) ∧ H2 d = some (exd d fs) ∧ H d = none ∧ R (.ref C) (some d) (upd (del H2 a) d (.xd fs))) (fun _ _ _ => False) := by
  refine ⟨by show 1 ≤ 1000; decide, fun a na => ⟨a, C, v, dd, rfl, T, no, od.same (same_new na), upd_same, fun v' H1 dx e1 o1 nd ne => ⟨rfl, dx, [(f, v')], upd_same, by rw [upd_ne ne]; exact upd_same, ?_, r _ _ ?_⟩⟩⟩
  · cases z : H dx with
    | none => rfl
    | some o =>
      rw [e1 _ _ (same_new na _ _ z)] at nd
      cases nd
  · have hne : ∀ b o, H1 b = some o → b ≠ dx := fun b o e => ne_of_none e nd
    have h1a : H1 a = some (exo a C none) := e1 _ _ upd_same
    have keep : ∀ b o, b ≠ a → H1 b = some o → upd (del (upd (upd H1 dx (exd dx [(f, v')])) a (exo a C (some dx))) a) dx (.xd [(f, v')]) b = some o := fun b o h1 h2 => by
      rw [upd_ne (hne b o h2), del_ne h1, upd_ne h1, upd_ne (hne b o h2)]
      exact h2
    refine ⟨?_, fun b o e => ?_, v', upd_same, ?_⟩
    · cases z : H dx with
      | none => rfl
      | some o =>
        rw [e1 _ _ (same_new na _ _ z)] at nd
        cases nd
    · have ba := ne_of_none e na
      exact keep b o ba (e1 _ _ ((upd_ne ba).trans e))
    · cases o1 with
      | flat h => exact .flat h
      | tup e f => exact .tup (keep _ _ (ne_of e h1a fun z => by unfold exo at z; cases z) e) f
      | lst e f l => exact .lst (keep _ _ (ne_of e h1a fun z => by unfold exo at z; cases z) e) f l
theorem RsO.back {H H1 H' : Hp} {d : Addr} {f : Str} {dd : PyData} (r : RsO H1 H' d f dd) (e : Same H H1) : RsO H H' d f dd := ⟨Same.none' e r.new, e.trans r.same, r.at_⟩
abbrev lens (ws : List W) : List Nat := ws.map List.length
def putW (ws : List W) (i r : Nat) : List W := (ws.set i (ws.getD i [] ++ [false])).take r ++ [ws.getD i [] ++ [true]] ++ (ws.set i (ws.getD i [] ++ [false])).drop r
theorem getD_at {α : Type} {l : List α} {i : Nat} {d : α} (h : i < l.length) : l.getD i d = l[i] := by
  rw [List.getD_eq_getElem?_getD, List.getElem?_eq_getElem h]
  rfl
theorem mid_perm {α : Type} (l : List α) (r : Nat) (y : α) : (l.take r ++ [y] ++ l.drop r).Perm (y :: l) := by
  rw [List.append_assoc]
  conv => rhs; rw [← List.take_append_drop r l]
  exact List.perm_middle
theorem putW_perm {ws : List W} {i r : Nat} (h : i < ws.length) : (putW ws i r).Perm (ws.eraseIdx i ++ [ws[i] ++ [false], ws[i] ++ [true]]) := by
  unfold putW
  rw [getD_at h]
  refine (mid_perm _ _ _).trans ?_
  have p := perm_erase (ws.set i (ws[i] ++ [false])) i (by rw [List.length_set]; exact h)
  rw [List.getElem_set_self, List.eraseIdx_set_eq] at p
  have q : (ws.eraseIdx i ++ [ws[i] ++ [false], ws[i] ++ [true]]).Perm ((ws[i] ++ [true]) :: (ws[i] ++ [false]) :: ws.eraseIdx i) := List.perm_append_comm.trans (List.Perm.swap _ _ _)
  exact (p.symm.cons _).trans q.symm
theorem FW.put {ws : List W} {i r : Nat} (h : FW ws) (hi : i < ws.length) (l : ws.length ≤ 10) : FW (putW ws i r) := by
  have p := perm_erase ws i hi
  refine FW.perm (FW.cut (h.perm p.symm) ?_) (putW_perm hi).symm
  rw [List.length_eraseIdx_of_lt hi]
  omega
theorem putW_len {ws : List W} {i r : Nat} (hi : i < ws.length) : (putW ws i r).length = ws.length + 1 := by
  rw [(putW_perm hi).length_eq, List.length_append, List.length_eraseIdx_of_lt hi]
  show ws.length - 1 + 2 = _
  omega
/-! costs -/
theorem dot_app : ∀ {a c : List Nat} (b d : List Nat), a.length = c.length → dot (a ++ b) (c ++ d) = dot a c + dot b d
  | [], [], b, d, _ => by rw [Huff.dot_nil, Nat.zero_add]; rfl
  | x :: a, y :: c, b, d, h => by
    rw [List.cons_append, List.cons_append, Huff.dot_cons, Huff.dot_cons, dot_app b d (by simpa using h)]
    omega
  | [], _ :: _, _, _, h => by simp at h
  | _ :: _, [], _, _, h => by simp at h
theorem dot_split (ls cs : List Nat) (r : Nat) (h : ls.length = cs.length) : dot ls cs = dot (ls.take r) (cs.take r) + dot (ls.drop r) (cs.drop r) := by
  conv => lhs; rw [← List.take_append_drop r ls, ← List.take_append_drop r cs]
  exact dot_app _ _ (by rw [List.length_take, List.length_take, h])
theorem dot_set : ∀ {ls cs : List Nat} {i : Nat}, ls.length = cs.length → (h : i < ls.length) → dot (ls.set i (ls[i] + 1)) cs = dot ls cs + cs.getD i 0
  | l :: ls, c :: cs, 0, _, _ => by
    show dot ((l + 1) :: ls) (c :: cs) = _
    rw [Huff.dot_cons, Huff.dot_cons, Nat.mul_add]
    show c * l + c * 1 + _ = _ + c
    omega
  | l :: ls, c :: cs, i + 1, e, h => by
    have ih := dot_set (ls := ls) (cs := cs) (i := i) (by simpa using e) (by simpa using h)
    show dot (l :: ls.set i ((ls[i]'(by simpa using h)) + 1)) (c :: cs) = dot (l :: ls) (c :: cs) + cs.getD i 0
    rw [Huff.dot_cons, Huff.dot_cons, ih]
    omega
  | [], _, _, _, h => by simp at h
  | _ :: _, [], _, e, _ => by simp at e
theorem krH_kl (L : Nat) (ws : List W) : Huff.kl L (lens ws) = kr L ws := by
  unfold Huff.kl kr lens
  rw [List.map_map]
  rfl
end K38
set_option Elab.async false
set_option linter.all false
set_option maxRecDepth 100001
set_option maxHeartbeats 3999999
namespace K38
open PySem L2
open Huff (hf dot)
abbrev sPt : Stmt := topS 40
def spPt : Sp := fun vs H Q _ => ∃ (wp : Addr) (ws : List W) (i r : Nat), vs = [.ref wp, .int ((i : Nat) : Int), .int ((r : Nat) : Int)] ∧ LT H wp (ws.map wV) ∧ i < ws.length ∧ r ≤ ws.length ∧ ws.length ≤ 2000 ∧ (∀ w ∈ ws, w.length ≤ 5000) ∧
  ∀ D H', Same H H' → H D = none → H' D = some (.lst ((putW ws i r).map wV)) → Q (.ref D) H'
theorem wV_at {ws : List W} {i : Nat} (h : i < ws.length) : (ws.map wV)[i]? = some (wV ws[i]) := by
  rw [List.getElem?_map, List.getElem?_eq_getElem h]
  rfl
theorem wV_snoc (w : W) (b : Bool) : V.str (bS w ++ (⟨#[cd b]⟩ : Str)) = wV (w ++ [b]) := congrArg V.str (bS_snoc w b).symm
theorem bS_app (a b : W) : bS a ++ bS b = bS (a ++ b) := by
  show (⟨(S _).cps ++ (S _).cps⟩ : Str) = S _
  unfold S
  simp
section
variable {P : Program} {w : World} {K : PySem.W.Frag} {mg : Str → Option Value} {base : Heap}
theorem scPt : FnScope ["words", "sign", "rank", "told"] ["words", "sign", "rank"] (defScope sPt) := ⟨rfl, rfl, rfl, by decide +kernel, rfl, by decide +kernel, by decide +kernel⟩
theorem ok_pt {f : Addr} {fd : FuncData} (F : Fun K "parted" "parted" sPt f fd) (B : Bi mg) : FnOk P w K mg base CX0 1 f fd ["words", "sign", "rank"] spPt := by
  refine F.ok scPt (fun vs H Q E h => ?_) (fun cdv A outer s H vs Q E hr h => ?_)
  · obtain ⟨wp, ws, i, r, rfl, _⟩ := h
    rfl
  · obtain ⟨wp, ws, i, r, rfl, hw, hi, hrr, l20, l50, q⟩ := h
    refine ⟨_, pss_cons (ps_set (i := 3) scPt.nd rfl (Or.inl rfl) (pe_callTy call_list_of rfl B.list (by decide +kernel) (pa_cons (pv 0) pa_nil)))
      (pss_cons (ps_asg (pe_op op_add_str (pe_ix (ix_seqK K rfl) (pv 0) (pv 1) (fun _ _ => rfl)) pe_str) (pg_sub (pv 3) (pv 1) set_list))
      (pss_cons (ps_expr (pe_bm PySem.F.plainAttrs_list PySem.F.slot_list_insert PySem.F.type_list_insert mt_insert (pv 3) (pa_cons (pv 2) (pa_cons (pe_op op_add_str (pe_ix (ix_seqK K rfl) (pv 0) (pv 1) (fun _ _ => rfl)) pe_str) pa_nil))))
      (pss_one (ps_ret (pv 3))))), ?_⟩
    refine ⟨_, rfl, wp, _, rfl, hw.sq, fun t nt => ?_⟩
    have e1 := same_new (o := .lst (ws.map wV)) nt
    have ht : upd H t (.lst (ws.map wV)) t = some (.lst (ws.map wV)) := upd_same
    generalize upd H t (.lst (ws.map wV)) = H1 at e1 ht ⊢
    have hw1 := hw.same e1
    have lw := l50 _ (List.getElem_mem hi)
    have sz : ∀ z : Str, z.length = 1 → (bS ws[i]).length + z.length ≤ sizeLine := fun z hz => by
      rw [bS_len, hz]
      exact Nat.le_of_lt (small10 (by omega))
    refine ⟨_, rfl, _, rfl, hw1.ix (atI_nat (wV_at hi)) ⟨bS ws[i], "0", rfl, rfl, sz _ rfl, ?_⟩⟩
    rw [show V.str (bS ws[i] ++ ("0" : Str)) = wV (ws[i] ++ [false]) from wV_snoc ws[i] false]
    refine ⟨_, rfl, _, rfl, t, _, _, i, rfl, rfl, ht, ixn (by rw [List.length_map]; exact hi), ?_⟩
    rw [← List.map_set]
    have e2 : ButI t H1 (upd H1 t (.lst ((ws.set i (ws[i] ++ [false])).map wV))) := fun b o n z => (upd_ne n).trans z
    have ht2 : upd H1 t (.lst ((ws.set i (ws[i] ++ [false])).map wV)) t = some (.lst ((ws.set i (ws[i] ++ [false])).map wV)) := upd_same
    generalize upd H1 t (.lst ((ws.set i (ws[i] ++ [false])).map wV)) = H2 at e2 ht2 ⊢
    have nwt : wp ≠ t := hw.elim (fun z => ne_of_none z nt) fun z => ne_of_none z nt
    have hw2 : LT H2 wp (ws.map wV) := hw1.imp (fun z => e2 _ _ nwt z) fun z => e2 _ _ nwt z
    refine ⟨_, rfl, .inl ⟨rfl, _, SqL.of ht2⟩, _, rfl, _, rfl, _, rfl, hw2.ix (atI_nat (wV_at hi)) ⟨bS ws[i], "1", rfl, rfl, sz _ rfl, ?_⟩⟩
    rw [show V.str (bS ws[i] ++ ("1" : Str)) = wV (ws[i] ++ [true]) from wV_snoc ws[i] true]
    refine ⟨t, _, _, _, rfl, rfl, ht2, by rw [List.length_map, List.length_set]; exact small10 (by omega), by omega, by omega, ?_⟩
    have ep : ((ws.set i (ws[i] ++ [false])).map wV).take ((r : Nat) : Int).toNat ++ [wV (ws[i] ++ [true])] ++ ((ws.set i (ws[i] ++ [false])).map wV).drop ((r : Nat) : Int).toNat = (putW ws i r).map wV := by
      rw [Int.toNat_natCast, ← List.map_take, ← List.map_drop]
      unfold putW
      rw [getD_at hi, List.map_append, List.map_append]
      rfl
    rw [ep]
    exact ⟨_, rfl, q t _ (fun b o z => (upd_ne (ne_of_none z nt)).trans (e2 _ _ (ne_of_none z nt) (e1 _ _ z))) nt upd_same⟩
end
theorem bS_le {w : W} (h : w.length ≤ 10000) : (bS w).length ≤ sizeLine := by
  rw [bS_len]
  exact Nat.le_of_lt (small10 h)
abbrev sCf : Stmt := topS 41
abbrev sLCd : Stmt := topS 62
abbrev sCR : Stmt := topS 38
abbrev sCM : Stmt := topS 39
structure CW (ws : List W) : Prop where
  pf : PF ws
  l2 : 2 ≤ ws.length
  l6 : ws.length ≤ 60
  hi : ∀ l ∈ lens ws, l ≤ 10
  kl : Huff.kl 10 (lens ws) = 2 ^ 10
theorem FW.cw {ws : List W} (h : FW ws) (l2 : 2 ≤ ws.length) (l10 : ws.length ≤ 10) : CW ws := ⟨h.pf, l2, by omega, fun l hl => by
  obtain ⟨w, hw, rfl⟩ := List.mem_map.mp hl
  have := h.hi w hw
  omega, by rw [krH_kl]; exact h.kr⟩
theorem CW.top {ws : List W} (h : CW ws) : ∃ L, L ∈ lens ws ∧ (∀ l ∈ lens ws, 1 ≤ l ∧ l ≤ L) ∧ L ≤ 10 ∧ K38.kl L (lens ws) = 2 ^ L := by
  have l2 := h.l2
  obtain ⟨L, Lm, LM⟩ := top_of (ls := lens ws) (by intro z; have := congrArg List.length z; rw [List.length_map] at this; simp at this; rw [this] at l2; simp at l2)
  have L10 := h.hi L Lm
  exact ⟨L, Lm, fun x hx => ⟨Huff.full_pos (by rw [List.length_map]; exact l2) h.kl x hx, LM x hx⟩, L10, Huff.kl_max (L := 10) L10 LM h.kl⟩
theorem CW.pos {ws : List W} (h : CW ws) : ∀ w ∈ ws, 1 ≤ w.length ∧ w.length ≤ 10 := fun w hw => ⟨Huff.full_pos (by rw [List.length_map]; exact h.l2) h.kl _ (List.mem_map_of_mem hw), h.hi _ (List.mem_map_of_mem hw)⟩
theorem wV_kn {H : Hp} (ws : List W) : ∀ v ∈ ws.map wV, Kn H v := fun v hv => by
  obtain ⟨w, _, rfl⟩ := List.mem_map.mp hv
  exact .str _
theorem mk_wd {C CT CL CN CB CG p dx lp wp : Addr} {Tb : List (Addr × Str)} {H : Hp} {ws : List W} {R : Hp → Prop} {E : XK} (cw : CW ws) (hl : H lp = some (.lst (nV (lens ws)))) (hw : H wp = some (.lst (ws.map wV))) (tabs : LamX.Tabs Tb H) (np : H p = none) (ndx : H dx = none)
    (k : ∀ L H', IsCo C H' p L (lens ws) ws → LamX.ExtN H H' → LamX.Tabs Tb H' → R H') : spCoI C CT CL CN CB CG Tb [.ref p, .ref lp, .ref wp] (upd (upd H dx (.own p)) p (.ins C dx [])) (fun v H2 => v = .non ∧ R H2) E := by
  obtain ⟨L, Lm, lb, L6, kL⟩ := cw.top
  have l2 := cw.l2
  have l6 := cw.l6
  have ll : (lens ws).length = ws.length := List.length_map _
  have e3 : Same H (upd (upd H dx (.own p)) p (.ins C dx [])) := same_ins np ndx
  have hp3 : upd (upd H dx (.own p)) p (.ins C dx []) p = some (.ins C dx []) := upd_same
  generalize upd (upd H dx (.own p)) p (.ins C dx []) = H3 at e3 hp3 ⊢
  refine ⟨p, dx, lp, .ref wp, _, rfl, hp3, .inl (e3 _ _ hl), nV_kn _, tabs.ext e3, by rw [nV_len]; omega, .inr (.inr ⟨by rw [nV_len]; omega, by rw [nV_len]; omega, lens ws, L, rfl, lb, Lm, by omega, .inr (.inr ⟨kL, e3 _ _ hl, wp, ws.map wV, rfl, .inl (e3 _ _ hw), by rw [List.length_map, ll], by rw [List.length_map]; omega, fun v hv => ⟨wV_kn ws v hv, fun x ex => ?_⟩, .inr ⟨ws, rfl, rfl, .inr ⟨cw.pf, fun H8 lt wt tr bt tab8 hp8 hlt hwt => ⟨rfl, ?_⟩⟩⟩⟩)⟩)⟩
  · obtain ⟨w, hw, rfl⟩ := List.mem_map.mp hv
    cases ex
    have := (cw.pos w hw).2
    rw [bS_len]
    omega
  · exact k L H8 ⟨dx, lt, wt, tr, hp8, hlt, hwt⟩ (fun c o z n => bt c o (ne_of_none z np) (e3 _ _ z) n) tab8
def spCf (C : Addr) (Tb : List (Addr × Str)) : Sp := fun vs H Q _ => ∃ (wp : Addr) (ws : List W), vs = [.ref wp] ∧ H wp = some (.lst (ws.map wV)) ∧ CW ws ∧ LamX.Tabs Tb H ∧ ∀ q L H', IsCo C H' q L (lens ws) ws → H q = none → LamX.ExtN H H' → LamX.Tabs Tb H' → Q (.ref q) H'
section
variable {P : Program} {w : World} {K : PySem.W.Frag} {mg : Str → Option Value} {base : Heap}
theorem scCf : FnScope ["words", "word"] ["words"] (defScope sCf) := ⟨rfl, rfl, rfl, by decide +kernel, rfl, by decide +kernel, by decide +kernel⟩
theorem ok_cf {f C CT CL CN CB CG : Addr} {fd : FuncData} {Tb : List (Addr × Str)} (F : Fun K "code_of" "code_of" sCf f fd) (B : Bi mg) (mC : Mak (L2.CX P w) P w K mg base 8 "Code" C (spCoI C CT CL CN CB CG Tb)) : FnOk P w K mg base CX0 10 f fd ["words"] (spCf C Tb) := by
  refine F.ok scCf (fun vs H Q E h => ?_) (fun cdv A outer s H vs Q E hr h => ?_)
  · obtain ⟨wp, ws, rfl, _⟩ := h
    rfl
  · obtain ⟨wp, ws, rfl, hw, cw, tabs, q⟩ := h
    refine ⟨_, pss_one (ps_ret (pe_mk mC hr passL (pa_cons (pe_lc (own := [("word", 1)]) rfl scCf.nd (pi_sqA (pv 0)) (blkOk_by (N := ["words", "word"]) (sc := defScope sCf) (by decide +kernel)) (fun _ _ _ _ _ => pg_name (i := 1) scCf.nd rfl (Or.inl rfl)) (fun _ _ _ _ _ => pts_nil) (fun _ _ _ _ _ => pe_lenS B.len (pa_cons (pv 1) pa_nil))) (pa_cons (pv 0) pa_nil)))), ?_⟩
    have l6 := cw.l6
    refine ⟨_, rfl, wp, _, rfl, .inl (SqL.of hw), fun J G wk hG D nD => lcM wk (fun k => .int (((ws.getD k []).length : Nat) : Int)) (by rw [List.length_map]; omega) nD (fun H' e => hG H' fun o z => e _ _ z) ?_ ?_⟩
    · rintro k x H2 H3 N hk e ⟨rfl, hx⟩ fin
      rw [List.length_map] at hk
      rw [wV_at hk] at hx
      cases hx
      have f := fin _ (Same.refl _)
      rw [getD_at hk] at f
      have lw := (cw.pos _ (List.getElem_mem hk)).2
      refine ⟨rfl, _, rfl, bS ws[k], rfl, bS_le (by omega), ?_⟩
      rw [bS_len]
      exact f
    · intro H3 e3 hD
      rw [List.length_map, nV_range] at hD
      have el : (List.range ws.length).map (fun k => (ws.getD k []).length) = lens ws := by
        refine List.ext_getElem (by simp) fun k h1 h2 => ?_
        rw [List.length_map, List.length_range] at h1
        rw [List.getElem_map, List.getElem_range, List.getElem_map, getD_at h1]
      rw [el] at hD
      refine ⟨_, rfl, fun p dx np ndx ne => mk_wd cw hD (e3 _ _ hw) (tabs.ext e3) np ndx fun L H4 co f4 tab4 => ?_⟩
      exact q p L H4 co (Same.none' e3 np) (LamX.ExtN.trans (LamX.ExtN.of e3) f4) tab4
theorem scLCd : FnScope ["_law_words_here", "_law_word"] ["_law_words_here"] (defScope sLCd) := ⟨rfl, rfl, rfl, by decide +kernel, rfl, by decide +kernel, by decide +kernel⟩
theorem ok_lcd {f C CT CL CN CB CG : Addr} {fd : FuncData} {Tb : List (Addr × Str)} (F : Fun K "_law_code" "_law_code" sLCd f fd) (B : Bi mg) (mC : Mak (L2.CX P w) P w K mg base 8 "Code" C (spCoI C CT CL CN CB CG Tb)) : FnOk P w K mg base CX0 10 f fd ["_law_words_here"] (spCf C Tb) := by
  refine F.ok scLCd (fun vs H Q E h => ?_) (fun cdv A outer s H vs Q E hr h => ?_)
  · obtain ⟨wp, ws, rfl, _⟩ := h
    rfl
  · obtain ⟨wp, ws, rfl, hw, cw, tabs, q⟩ := h
    refine ⟨_, pss_one (ps_ret (pe_mk mC hr passL (pa_cons (pe_lc (own := [("_law_word", 1)]) rfl scLCd.nd (pi_sqA (pv 0)) (blkOk_by (N := ["_law_words_here", "_law_word"]) (sc := defScope sLCd) (by decide +kernel)) (fun _ _ _ _ _ => pg_name (i := 1) scLCd.nd rfl (Or.inl rfl)) (fun _ _ _ _ _ => pts_nil) (fun _ _ _ _ _ => pe_lenS B.len (pa_cons (pv 1) pa_nil))) (pa_cons (pv 0) pa_nil)))), ?_⟩
    have l6 := cw.l6
    refine ⟨_, rfl, wp, _, rfl, .inl (SqL.of hw), fun J G wk hG D nD => lcM wk (fun k => .int (((ws.getD k []).length : Nat) : Int)) (by rw [List.length_map]; omega) nD (fun H' e => hG H' fun o z => e _ _ z) ?_ ?_⟩
    · rintro k x H2 H3 N hk e ⟨rfl, hx⟩ fin
      rw [List.length_map] at hk
      rw [wV_at hk] at hx
      cases hx
      have f := fin _ (Same.refl _)
      rw [getD_at hk] at f
      have lw := (cw.pos _ (List.getElem_mem hk)).2
      refine ⟨rfl, _, rfl, bS ws[k], rfl, bS_le (by omega), ?_⟩
      rw [bS_len]
      exact f
    · intro H3 e3 hD
      rw [List.length_map, nV_range] at hD
      have el : (List.range ws.length).map (fun k => (ws.getD k []).length) = lens ws := by
        refine List.ext_getElem (by simp) fun k h1 h2 => ?_
        rw [List.length_map, List.length_range] at h1
        rw [List.getElem_map, List.getElem_range, List.getElem_map, getD_at h1]
      rw [el] at hD
      refine ⟨_, rfl, fun p dx np ndx ne => mk_wd cw hD (e3 _ _ hw) (tabs.ext e3) np ndx fun L H4 co f4 tab4 => ?_⟩
      exact q p L H4 co (Same.none' e3 np) (LamX.ExtN.trans (LamX.ExtN.of e3) f4) tab4
end
end K38
set_option Elab.async false
set_option linter.all false
set_option maxRecDepth 100001
set_option maxHeartbeats 3999999
namespace K38
open PySem L2
open Huff (hf dot)
abbrev sBCount : Stmt := inClass (topS 11) 0
def spWholeV (K : PySem.W.Frag) : Sp := fun vs H Q _ => ∃ v, vs = [v] ∧ Kv K H v ∧ Q (.bl (isI v)) H
def spBetweenV (K : PySem.W.Frag) : Sp := fun vs H Q _ => ∃ v lo hi, vs = [v, .int lo, .int hi] ∧ Kv K H v ∧ Q (.bl (btw v lo hi)) H
def spFromV (K : PySem.W.Frag) : Sp := fun vs H Q _ => ∃ v lo, vs = [v, .int lo] ∧ Kv K H v ∧ Q (.bl (frm v lo)) H
def spCopyL (K : PySem.W.Frag) : Sp := fun vs H Q _ => ∃ v, vs = [v] ∧ Lf K H v ∧ Q v H
def spXL (K : PySem.W.Frag) (f : Str) : Sp := fun vs H Q _ => ∃ (a C : Addr) (v : V), vs = [.ref a, v] ∧ OexC K C ∧ PySem.W.findIn K (.ref C) f = some none ∧ Lf K H v ∧ H a = some (exo a C none) ∧
  ∀ dx, H dx = none → dx ≠ a → Q .non (upd (upd H dx (exd dx [(f, v)])) a (exo a C (some dx)))
def spXB (K : PySem.W.Frag) (f : Str) : Sp := fun vs H Q E => spXO K f vs H Q E ∨ spXL K f vs H Q E
/-- what a raise with a value needs -/
def BadV (K : PySem.W.Frag) (H : Hp) (v : V) (C : Addr) (f : Str) (R : XK) : Prop := (∃ dd, Odd H v dd ∧ ∀ d H', RsO H H' d f dd → R (.ref C) (some d) H') ∨ (Lf K H v ∧ ∀ d H', Same H H' → R (.ref C) (some d) H')
theorem BadV.back {K : PySem.W.Frag} {H H1 : Hp} {v : V} {C : Addr} {f : Str} {R : XK} (h : BadV K H v C f R) (e : Same H H1) : BadV K H1 v C f R := h.imp (fun ⟨dd, o, r⟩ => ⟨dd, o.same e, fun d H' z => r d H' (z.back e)⟩) fun ⟨l, r⟩ => ⟨l.same e, fun d H' z => r d H' (e.trans z)⟩
theorem raiseB {H : Hp} {C : Addr} {f : Str} {v : V} {R : XK} {K : PySem.W.Frag} (T : OexC K C) (no : PySem.W.findIn K (.ref C) f = some none) (b : BadV K H v C f R) :
    ([v] : List V).length ≤ 1000 ∧ ∀ a, H a = none → spXB K f (.ref a :: ([v] ++ [])) (upd H a (exo a C none)) (fun u H2 => u = .non ∧ ∃ (d : Addr) (fs : List (Str × V)), H2 a = some (exo a C (some d)) ∧ H2 d = some (exd d fs) ∧ H d = none ∧ R (.ref C) (some d) (upd (del H2 a) d (.xd fs))) (fun _ _ _ => False) := by
  rcases b with ⟨dd, od, r⟩ | ⟨lf, r⟩
  · have h := raiseO T no od r
    exact ⟨h.1, fun a na => .inl (h.2 a na)⟩
  · refine ⟨by show 1 ≤ 1000; decide, fun a na => .inr ⟨a, C, v, rfl, T, no, lf.same (same_new na), upd_same, fun dx nd ne => ⟨rfl, dx, [(f, v)], upd_same, by rw [upd_ne ne]; exact upd_same, ?_, r _ _ fun b o e => ?_⟩⟩⟩
    · rw [upd_ne ne] at nd
      exact nd
    · have ba := ne_of_none e na
      have bd : b ≠ dx := fun z => by
        rw [z, show H dx = none from (upd_ne ne).symm.trans nd] at e
        cases e
      rw [upd_ne bd, del_ne ba, upd_ne ba, upd_ne bd, upd_ne ba]
      exact e
section
variable {P : Program} {w : World} {K : PySem.W.Frag} {mg : Str → Option Value} {base : Heap}
theorem ok_wholeV {f : Addr} {fd : FuncData} (F : Fun K "is_whole" "is_whole" sWhole f fd) (B : Bi mg) : FnOk P w K mg base CX0 1 f fd ["value"] (spWholeV K) := by
  refine F.ok scWhole (fun vs H Q E h => ?_) (fun cdv A outer s H vs Q E hr h => ?_)
  · obtain ⟨v, rfl, _⟩ := h
    rfl
  · obtain ⟨v, rfl, k, q⟩ := h
    refine ⟨_, pss_one (ps_ret (pe_and (pe_isi B.isi (pa_cons (pv 0) (pa_cons (pe_ty "int" B.int) pa_nil))) (pe_one (pe_not (pe_isi B.isi (pa_cons (pv 0) (pa_cons (pe_ty "bool" B.bool) pa_nil))))))), ?_⟩
    obtain ⟨t, ty, k1, k2, _⟩ := k.kinds
    refine ⟨v, rfl, v, _, _, _, _, rfl, .ty "int", ty, k1, _, rfl, ?_⟩
    cases v with
    | bl b => exact ⟨_, rfl, _, _, _, _, _, rfl, .ty "bool", ty, k2, _, rfl, q⟩
    | int i => exact ⟨_, rfl, _, _, _, _, _, rfl, .ty "bool", ty, k2, _, rfl, q⟩
    | _ => exact q
theorem ok_betweenV {f : Addr} {fd : FuncData} (F : Fun K "is_between" "is_between" sBetween f fd) (cW : Cal CX0 P w K mg base 1 "is_whole" (spWholeV K)) : FnOk P w K mg base CX0 2 f fd ["value", "low", "high"] (spBetweenV K) := by
  refine F.ok scBetween (fun vs H Q E h => ?_) (fun cdv A outer s H vs Q E hr h => ?_)
  · obtain ⟨v, lo, hi, rfl, _⟩ := h
    rfl
  · obtain ⟨v, lo, hi, rfl, k, q⟩ := h
    refine ⟨_, pss_one (ps_ret (pe_and (pe_c cW hr pass0 (pa_cons (pv 0) pa_nil)) (pe_one (pe_chain op_le op_le (pv 1) (pv 0) (pv 2))))), ?_⟩
    refine ⟨v, rfl, v, rfl, k, _, rfl, ?_⟩
    cases v with
    | int i =>
      refine ⟨_, rfl, _, rfl, _, _, rfl, rfl, _, rfl, ?_⟩
      by_cases c : lo ≤ i
      · rw [decide_eq_true c]
        refine ⟨_, rfl, _, _, rfl, rfl, ?_⟩
        have e : decide (i ≤ hi) = btw (.int i) lo hi := by
          show decide (i ≤ hi) = decide (lo ≤ i ∧ i ≤ hi)
          exact decide_eq_decide.mpr ⟨fun h => ⟨c, h⟩, fun h => h.2⟩
        show Q (.bl (decide (i ≤ hi))) H
        rw [e]
        exact q
      · rw [decide_eq_false c]
        have e : false = btw (.int i) lo hi := (decide_eq_false fun h => c h.1).symm
        show Q (.bl false) H
        rw [e]
        exact q
    | _ => exact q
theorem ok_fromV {f : Addr} {fd : FuncData} (F : Fun K "is_from" "is_from" sFrom f fd) (cW : Cal CX0 P w K mg base 1 "is_whole" (spWholeV K)) : FnOk P w K mg base CX0 2 f fd ["value", "low"] (spFromV K) := by
  refine F.ok scFrom (fun vs H Q E h => ?_) (fun cdv A outer s H vs Q E hr h => ?_)
  · obtain ⟨v, lo, rfl, _⟩ := h
    rfl
  · obtain ⟨v, lo, rfl, k, q⟩ := h
    refine ⟨_, pss_one (ps_ret (pe_and (pe_c cW hr pass0 (pa_cons (pv 0) pa_nil)) (pe_one (pe_cmpR op_le (pv 1) (pv 0) (nomark _))))), ?_⟩
    refine ⟨v, rfl, v, rfl, k, _, rfl, ?_⟩
    cases v with
    | int i => exact ⟨_, rfl, _, rfl, _, _, rfl, rfl, q⟩
    | _ => exact q
theorem ok_copyL {f : Addr} {fd : FuncData} (F : Fun K "copied" "copied" sCopied f fd) (B : Bi mg) : FnOk P w K mg base CX0 1 f fd ["value"] (spCopyL K) := by
  refine F.ok scCopied (fun vs H Q E h => ?_) (fun cdv A outer s H vs Q E hr h => ?_)
  · obtain ⟨v, rfl, _⟩ := h
    rfl
  · obtain ⟨v, rfl, lf, q⟩ := h
    refine ⟨_, pss_cons (ps_if (pt_val (pe_isi B.isi (pa_cons (pv 0) (pa_cons (pe_ty "list" B.list) pa_nil)))) pss_never pss_nil) (pss_cons (ps_if (pt_val (pe_isi B.isi (pa_cons (pv 0) (pa_cons (pe_ty "tuple" B.tuple) pa_nil)))) pss_never pss_nil)
      (pss_cons (ps_if (pt_val (pe_isi B.isi (pa_cons (pv 0) (pa_cons (pe_ty "dict" B.dict) pa_nil)))) pss_never pss_nil) (pss_one (ps_ret (pv 0))))), ?_⟩
    obtain ⟨k, l0⟩ := lf
    obtain ⟨t, ty, _, _, k3, k4, k5⟩ := k.kinds
    unfold isLT at l0
    rw [Bool.or_eq_false_iff] at l0
    rw [l0.2] at k3
    rw [l0.1] at k4
    exact ⟨v, rfl, v, _, _, _, _, rfl, .ty "list", ty, k4, _, rfl, iteF ⟨v, rfl, v, _, _, _, _, rfl, .ty "tuple", ty, k3, _, rfl, iteF ⟨v, rfl, v, _, _, _, _, rfl, .ty "dict", ty, k5, _, rfl, iteF ⟨v, rfl, q⟩⟩⟩⟩
theorem ok_BRankL {f : Addr} {fd : FuncData} (F : Fun K "__init__" "BadRank.__init__" sBRank f fd) (cC : Cal CX0 P w K mg base 1 "copied" (spCopyL K)) : FnOk P w K mg base CX0 2 f fd ["self", "rank"] (spXL K "rank") := by
  refine F.ok scBRank (fun vs H Q E h => ?_) (fun cdv A outer s H vs Q E hr h => ?_)
  · obtain ⟨a, C, v, rfl, _⟩ := h
    rfl
  · obtain ⟨a, C, v, rfl, T, no, lf, ha, q⟩ := h
    refine ⟨_, pss_one (ps_ost (pv 0) (pe_c cC hr pass0 (pa_cons (pv 1) pa_nil))), ?_⟩
    exact ⟨_, rfl, v, rfl, lf, ⟨_, rfl, a, C, rfl, T, no, .inl ⟨ha, fun dx nd ne => q dx nd ne⟩⟩⟩
theorem scBCount : FnScope ["self", "count"] ["self", "count"] (defScope sBCount) := ⟨rfl, rfl, rfl, by decide +kernel, rfl, by decide +kernel, by decide +kernel⟩
theorem ok_BCount {f : Addr} {fd : FuncData} (F : Fun K "__init__" "BadCount.__init__" sBCount f fd) (cC : Cal CX0 P w K mg base 2 "copied" spCopy2) : FnOk P w K mg base CX0 3 f fd ["self", "count"] (spXO K "count") := by
  refine F.ok scBCount (fun vs H Q E h => ?_) (fun cdv A outer s H vs Q E hr h => ?_)
  · obtain ⟨a, C, v, d, rfl, _⟩ := h
    rfl
  · obtain ⟨a, C, v, d, rfl, T, no, od, ha, q⟩ := h
    refine ⟨_, pss_one (ps_ost (pv 0) (pe_c cC hr pass0 (pa_cons (pv 1) pa_nil))), ?_⟩
    exact ⟨_, rfl, v, d, rfl, od, fun v' H1 e1 o1 => ⟨_, rfl, a, C, rfl, T, no, .inl ⟨e1 _ _ ha, fun dx nd ne => q v' H1 dx e1 o1 nd ne⟩⟩⟩
theorem ok_BCountL {f : Addr} {fd : FuncData} (F : Fun K "__init__" "BadCount.__init__" sBCount f fd) (cC : Cal CX0 P w K mg base 1 "copied" (spCopyL K)) : FnOk P w K mg base CX0 2 f fd ["self", "count"] (spXL K "count") := by
  refine F.ok scBCount (fun vs H Q E h => ?_) (fun cdv A outer s H vs Q E hr h => ?_)
  · obtain ⟨a, C, v, rfl, _⟩ := h
    rfl
  · obtain ⟨a, C, v, rfl, T, no, lf, ha, q⟩ := h
    refine ⟨_, pss_one (ps_ost (pv 0) (pe_c cC hr pass0 (pa_cons (pv 1) pa_nil))), ?_⟩
    exact ⟨_, rfl, v, rfl, lf, ⟨_, rfl, a, C, rfl, T, no, .inl ⟨ha, fun dx nd ne => q dx nd ne⟩⟩⟩
end
end K38
set_option Elab.async false
set_option linter.all false
set_option maxRecDepth 100001
set_option maxHeartbeats 3999999
namespace K38
open PySem L2
open Huff (hf dot)
abbrev sCk : Stmt := topS 45
abbrev sWC : Stmt := topS 46
abbrev sLP : Stmt := topS 47
theorem lens_len (ws : List W) : (lens ws).length = ws.length := List.length_map _
theorem IsCo.same {C : Addr} {H H' : Hp} {q : Addr} {L : Nat} {ls : List Nat} {ws : List W} (h : IsCo C H q L ls ws) (e : Same H H') : IsCo C H' q L ls ws := by
  obtain ⟨dx, lt, wt, tr, g1, g2, g3⟩ := h
  exact ⟨dx, lt, wt, tr, e _ _ g1, e _ _ g2, e _ _ g3⟩
def spCRk (K : PySem.W.Frag) (C CT CA CO CR : Addr) : Sp := fun vs H Q E => ∃ (q cp : Addr) (rv : V) (L : Nat) (ws : List W) (ts : List V), vs = [.ref q, .ref cp, rv] ∧ IsCo C H q L (lens ws) ws ∧ LT H cp ts ∧ (∀ v ∈ ts, Kn H v) ∧ ts.length ≤ 5000 ∧
  (Rfs CT CA CO ws.length ts H E ∨
   (2 ≤ ts.length ∧ ts.length ≤ 2000 ∧ (∀ v ∈ ts, frm v 0 = true) ∧ ts.length = ws.length ∧ Kv K H rv ∧
     ((btw rv 0 ((ws.length : Nat) : Int) = false ∧ BadV K H rv CR "rank" E) ∨ (btw rv 0 ((ws.length : Nat) : Int) = true ∧ ∀ H', Same H H' → Q .non H'))))
def spCM (C : Addr) : Sp := fun vs H Q _ => ∃ (q : Addr) (L : Nat) (ws : List W), vs = [.ref q] ∧ IsCo C H q L (lens ws) ws ∧ ws.length < 2000 ∧ ∀ H', Same H H' → Q .non H'
def spCk (K : PySem.W.Frag) (C CT CA CO CR CC : Addr) : Sp := fun vs H Q E => ∃ (q cp : Addr) (rv nv : V) (L : Nat) (ws : List W) (ts : List V), vs = [.ref q, .ref cp, rv, nv] ∧ IsCo C H q L (lens ws) ws ∧ LT H cp ts ∧ (∀ v ∈ ts, Kn H v) ∧ ts.length ≤ 5000 ∧
  (Rfs CT CA CO ws.length ts H E ∨
   (2 ≤ ts.length ∧ ts.length < 2000 ∧ (∀ v ∈ ts, frm v 0 = true) ∧ ts.length = ws.length ∧ Kv K H rv ∧
     ((btw rv 0 ((ws.length : Nat) : Int) = false ∧ BadV K H rv CR "rank" E) ∨ (btw rv 0 ((ws.length : Nat) : Int) = true ∧ Kv K H nv ∧
       ((frm nv 0 = false ∧ BadV K H nv CC "count" E) ∨ (frm nv 0 = true ∧ ∀ H', Same H H' → Q .non H'))))))
def grw (cs : List Nat) (r c : Nat) : List Nat := cs.take r ++ [c] ++ cs.drop r
theorem grw_len {cs : List Nat} {r c : Nat} (h : r ≤ cs.length) : (grw cs r c).length = cs.length + 1 := by
  unfold grw
  simp
  omega
def spWC : Sp := fun vs H Q _ => ∃ (cp : Addr) (cs : List Nat) (r c : Nat), vs = [.ref cp, .int ((r : Nat) : Int), .int ((c : Nat) : Int)] ∧ LT H cp (nV cs) ∧ r ≤ cs.length ∧ cs.length ≤ 2000 ∧
  ∀ D H', Same H H' → H D = none → H' D = some (.lst (nV (grw cs r c))) → Q (.ref D) H'
def sgp (ws : List W) (cs : List Nat) (r c i : Nat) : Bool := decide (lAt cs i + c * (lAt (lens ws) i + 1) + dot (lens ws) cs = hf (grw cs r c))
def sgn (ws : List W) (cs : List Nat) (r c : Nat) : List Nat := (List.range ws.length).filter (sgp ws cs r c)
def spLP (C : Addr) : Sp := fun vs H Q _ => ∃ (q cp : Addr) (L : Nat) (ws : List W) (cs : List Nat) (r c : Nat), vs = [.ref q, .ref cp, .int ((r : Nat) : Int), .int ((c : Nat) : Int)] ∧ IsCo C H q L (lens ws) ws ∧ LT H cp (nV cs) ∧ cs.length = ws.length ∧ 1 ≤ ws.length ∧ ws.length ≤ 60 ∧ r ≤ ws.length ∧ Sm (lens ws) ∧
  ∀ D H', Same H H' → H D = none → H' D = some (.lst (nV (sgn ws cs r c))) → Q (.ref D) H'
section
variable {P : Program} {w : World} {K : PySem.W.Frag} {mg : Str → Option Value} {base : Heap}
theorem scCR : FnScope ["code", "counts", "rank"] ["code", "counts", "rank"] (defScope sCR) := ⟨rfl, rfl, rfl, by decide +kernel, rfl, by decide +kernel, by decide +kernel⟩
theorem ok_cr {f C CT CA CO CR : Addr} {fd : FuncData} (F : Fun K "check_rank" "check_rank" sCR f fd) (T : TxC K C) (cC : Cal (L2.CX P w) P w K mg base 5 "check_code_counts" (spCCC C CT CA CO)) (cB : Cal CX0 P w K mg base 2 "is_between" (spBetweenV K))
    (xR : Xc P w K mg base 3 "BadRank" CR (spXB K "rank")) (nR : PySem.W.findIn K (.ref CR) "rank" = some none) : FnOk P w K mg base (L2.CX P w) 6 f fd ["code", "counts", "rank"] (spCRk K C CT CA CO CR) := by
  refine F.okX scCR (fun vs H Q E h => ?_) (fun cdv A outer s H vs Q E hr h => ?_)
  · obtain ⟨q, cp, rv, L, ws, ts, rfl, _⟩ := h
    rfl
  · obtain ⟨q, cp, rv, L, ws, ts, rfl, M, hl, kn, l5, out⟩ := h
    refine ⟨_, pss_cons (ps_expr (pe_c cC hr (passes_call (takes_of rfl rfl rfl rfl) fun _ _ _ _ h => h) (pa_cons (pv 0) (pa_cons (pv 1) pa_nil))))
      (pss_one (ps_if (pt_not (pt_val (pe_c cB hr pass0 (pa_cons (pv 2) (pa_cons pe_int (pa_cons (pe_fld (pv 0) rfl) pa_nil)))))) (pss_one (ps_raise rfl (takes_of rfl rfl rfl rfl) (pmk_x xR hr (pa_cons (pv 2) pa_nil)))) pss_nil)), ?_⟩
    refine ⟨_, rfl, _, rfl, q, cp, L, lens ws, ws, ts, rfl, M, hl, kn, l5, ?_⟩
    rw [lens_len]
    rcases out with (out | out | out) | ⟨g1, g2, good, e0, kr, out⟩
    · exact .inl out
    · exact .inr (.inl out)
    · exact .inr (.inr (.inl out))
    refine .inr (.inr (.inr ⟨g1, g2, good, e0, fun H1 e1 => ?_⟩))
    obtain ⟨dx, lt, wt, tr, m1, m2, m3⟩ := M.same e1
    refine ⟨_, rfl, _, rfl, q, C, dx, _, _, rfl, m1, T.cl, T.s, co_size _ _ _ _ _, rv, 0, ((ws.length : Nat) : Int), by rw [lens_len]; rfl, kr.same e1, _, rfl, ?_⟩
    rcases out with ⟨bad, out⟩ | ⟨good, out⟩
    · rw [bad]
      exact iteT ⟨_, rfl, raiseB xR.T nR (out.back e1)⟩
    · rw [good]
      exact iteF (out H1 e1)
theorem scCM : FnScope ["code"] ["code"] (defScope sCM) := ⟨rfl, rfl, rfl, by decide +kernel, rfl, by decide +kernel, by decide +kernel⟩
theorem ok_cm {f C : Addr} {fd : FuncData} (F : Fun K "check_more" "check_more" sCM f fd) (M0 : Cm mg) (T : TxC K C) : FnOk P w K mg base CX0 1 f fd ["code"] (spCM C) := by
  refine F.ok scCM (fun vs H Q E h => ?_) (fun cdv A outer s H vs Q E hr h => ?_)
  · obtain ⟨q, L, ws, rfl, _⟩ := h
    rfl
  · obtain ⟨q, L, ws, rfl, M, l, qq⟩ := h
    refine ⟨_, pss_one (ps_if (pt_cmpR op_eq (pe_fld (pv 0) rfl) (C8.pe_gc rfl M0.signs) (nomark _)) pss_never pss_nil), ?_⟩
    obtain ⟨dx, lt, wt, tr, m1, m2, m3⟩ := M
    refine ⟨_, rfl, q, C, dx, _, _, rfl, m1, T.cl, T.s, co_size _ _ _ _ _, rfl, _, rfl, ?_⟩
    rw [dec_int, show ((((lens ws).length : Nat) : Int) == 2000) = false by rw [beq_eq_false_iff_ne, lens_len]; omega]
    exact iteF (qq H (Same.refl H))
theorem scCk : FnScope ["code", "counts", "rank", "count"] ["code", "counts", "rank", "count"] (defScope sCk) := ⟨rfl, rfl, rfl, by decide +kernel, rfl, by decide +kernel, by decide +kernel⟩
theorem ok_ck {f C CT CA CO CR CC : Addr} {fd : FuncData} (F : Fun K "check_counted" "check_counted" sCk f fd) (cR : Cal (L2.CX P w) P w K mg base 6 "check_rank" (spCRk K C CT CA CO CR)) (cF : Cal CX0 P w K mg base 2 "is_from" (spFromV K)) (cM : Cal CX0 P w K mg base 1 "check_more" (spCM C))
    (xC : Xc P w K mg base 3 "BadCount" CC (spXB K "count")) (nC : PySem.W.findIn K (.ref CC) "count" = some none) : FnOk P w K mg base (L2.CX P w) 7 f fd ["code", "counts", "rank", "count"] (spCk K C CT CA CO CR CC) := by
  refine F.okX scCk (fun vs H Q E h => ?_) (fun cdv A outer s H vs Q E hr h => ?_)
  · obtain ⟨q, cp, rv, nv, L, ws, ts, rfl, _⟩ := h
    rfl
  · obtain ⟨q, cp, rv, nv, L, ws, ts, rfl, M, hl, kn, l5, out⟩ := h
    refine ⟨_, pss_cons (ps_expr (pe_c cR hr (passes_call (takes_of rfl rfl rfl rfl) fun _ _ _ _ h => h) (pa_cons (pv 0) (pa_cons (pv 1) (pa_cons (pv 2) pa_nil)))))
      (pss_cons (ps_if (pt_not (pt_val (pe_c cF hr pass0 (pa_cons (pv 3) (pa_cons pe_int pa_nil))))) (pss_one (ps_raise rfl (takes_of rfl rfl rfl rfl) (pmk_x xC hr (pa_cons (pv 3) pa_nil)))) pss_nil)
      (pss_one (ps_expr (pe_c cM hr pass0 (pa_cons (pv 0) pa_nil))))), ?_⟩
    refine ⟨_, rfl, _, rfl, _, rfl, q, cp, rv, L, ws, ts, rfl, M, hl, kn, l5, ?_⟩
    rcases out with out | ⟨g1, g2, good, e0, kr, out⟩
    · exact .inl out
    refine .inr ⟨g1, by omega, good, e0, kr, ?_⟩
    rcases out with out | ⟨b, kn', out⟩
    · exact .inl out
    refine .inr ⟨b, fun H1 e1 => ?_⟩
    refine ⟨_, rfl, nv, 0, rfl, kn'.same e1, _, rfl, ?_⟩
    rcases out with ⟨bad, out⟩ | ⟨ok, out⟩
    · rw [bad]
      exact iteT ⟨_, rfl, raiseB xC.T nC (out.back e1)⟩
    · rw [ok]
      exact iteF ⟨_, rfl, q, L, ws, rfl, M.same e1, by omega, fun H2 e2 => out H2 (e1.trans e2)⟩
theorem scWC : FnScope ["counts", "rank", "count", "told"] ["counts", "rank", "count"] (defScope sWC) := ⟨rfl, rfl, rfl, by decide +kernel, rfl, by decide +kernel, by decide +kernel⟩
theorem ok_wc {f : Addr} {fd : FuncData} (F : Fun K "with_count" "with_count" sWC f fd) (B : Bi mg) : FnOk P w K mg base CX0 1 f fd ["counts", "rank", "count"] spWC := by
  refine F.ok scWC (fun vs H Q E h => ?_) (fun cdv A outer s H vs Q E hr h => ?_)
  · obtain ⟨cp, cs, r, c, rfl, _⟩ := h
    rfl
  · obtain ⟨cp, cs, r, c, rfl, hc, hrr, l20, q⟩ := h
    refine ⟨_, pss_cons (ps_set (i := 3) scWC.nd rfl (Or.inl rfl) (pe_callTy call_list_of rfl B.list (by decide +kernel) (pa_cons (pv 0) pa_nil)))
      (pss_cons (ps_expr (pe_bm PySem.F.plainAttrs_list PySem.F.slot_list_insert PySem.F.type_list_insert mt_insert (pv 3) (pa_cons (pv 1) (pa_cons (pv 2) pa_nil))))
      (pss_one (ps_ret (pv 3)))), ?_⟩
    refine ⟨_, rfl, cp, _, rfl, hc.sq, fun t nt => ?_⟩
    have e1 := same_new (o := .lst (nV cs)) nt
    have ht : upd H t (.lst (nV cs)) t = some (.lst (nV cs)) := upd_same
    generalize upd H t (.lst (nV cs)) = H1 at e1 ht ⊢
    refine ⟨_, rfl, .inl ⟨rfl, _, SqL.of ht⟩, _, rfl, _, rfl, t, _, _, _, rfl, rfl, ht, by rw [nV_len]; exact small10 (by omega), by omega, by omega, ?_⟩
    have ep : (nV cs).take ((r : Nat) : Int).toNat ++ [V.int ((c : Nat) : Int)] ++ (nV cs).drop ((r : Nat) : Int).toNat = nV (grw cs r c) := by
      rw [Int.toNat_natCast]
      unfold nV grw
      rw [List.map_append, List.map_append, List.map_take, List.map_drop]
      rfl
    rw [ep]
    exact ⟨_, rfl, q t _ (fun b o z => (upd_ne (ne_of_none z nt)).trans (e1 _ _ z)) nt upd_same⟩
end
end K38
set_option Elab.async false
set_option linter.all false
set_option maxRecDepth 100001
set_option maxHeartbeats 3999999
namespace K38
open PySem L2
open Huff (hf dot)
section
variable {P : Program} {w : World} {K : PySem.W.Frag} {mg : Str → Option Value} {base : Heap}
abbrev NLP : List Str := ["code", "counts", "rank", "count", "wished", "sign", "length"]
theorem scLP : FnScope NLP ["code", "counts", "rank", "count"] (defScope sLP) := ⟨rfl, rfl, rfl, by decide +kernel, rfl, by decide +kernel, by decide +kernel⟩
theorem ok_lp {f C : Addr} {fd : FuncData} (F : Fun K "least_parted" "least_parted" sLP f fd) (B : Bi mg) (T : TxC K C) (cW : Cal CX0 P w K mg base 1 "with_count" spWC) (cL : Cal CX0 P w K mg base 2 "least_of" spLO) (cO : Cal CX0 P w K mg base 1 "cost_of" spCOfA) : FnOk P w K mg base CX0 3 f fd ["code", "counts", "rank", "count"] (spLP C) := by
  refine F.ok scLP (fun vs H Q E h => ?_) (fun cdv A outer s H vs Q E hr h => ?_)
  · obtain ⟨q, cp, L, ws, cs, r, c, rfl, _⟩ := h
    rfl
  · obtain ⟨q, cp, L, ws, cs, r, c, rfl, M, hc, ec, w1, w6, hrr, sm, qq⟩ := h
    refine ⟨_, pss_cons (ps_set (i := 4) scLP.nd rfl (Or.inr rfl) (pe_op op_sub (pe_c cL hr pass0 (pa_cons (pe_c cW hr pass0 (pa_cons (pv 1) (pa_cons (pv 2) (pa_cons (pv 3) pa_nil)))) pa_nil)) (pe_c cO hr pass0 (pa_cons (pe_fld (pv 0) rfl) (pa_cons (pv 1) pa_nil)))))
      (pss_one (ps_ret (pe_lc (own := [("sign", 5), ("length", 6)]) rfl scLP.nd (pi_en B.enum (pa_cons (pe_fld (pv 0) rfl) pa_nil)) (blkOk_by (N := NLP) (sc := defScope sLP) (by decide +kernel))
          (fun _ _ _ _ _ => pg_pairK K rfl rfl (pg_name (i := 5) scLP.nd rfl (Or.inl rfl) (.inr rfl)) (pg_name (i := 6) scLP.nd rfl (Or.inl rfl) (.inr rfl)))
          (fun _ _ _ _ _ => pts_one (pt_cmpR op_eq (pe_op op_add (pe_ix (ix_seqK K rfl) (pv 1) (pv 5) (fun _ _ => rfl)) (pe_op op_mul (pv 3) (pe_op op_add (pv 6) pe_int))) (pv 4) (nomark _))) (fun _ _ _ _ _ => pv 5)))), ?_⟩
    have ll := lens_len ws
    refine ⟨_, rfl, _, rfl, _, rfl, cp, cs, r, c, rfl, hc, by omega, by omega, fun D1 H1 e1 nD1 hD1 => ?_⟩
    have gl := grw_len (c := c) (show r ≤ cs.length by omega)
    refine ⟨D1, _, rfl, .inl hD1, by omega, by omega, fun H2 e2 => ?_⟩
    have e12 := e1.trans e2
    obtain ⟨dx, lt, wt, tr, m1, m2, m3⟩ := M.same e12
    refine ⟨_, rfl, q, C, dx, _, _, rfl, m1, T.cl, T.l, co_lengths _ _ _ _ _, _, rfl, lt, cp, lens ws, cs, rfl, m2, hc.same e12, by omega, by omega, sm, fun H3 e3 => ?_⟩
    refine ⟨_, _, rfl, rfl, ?_⟩
    refine gN ?_
    dsimp only
    have e13 := e12.trans e3
    have m13 := e3 _ _ m1
    have m23 := e3 _ _ m2
    have hc3 := hc.same e13
    refine ⟨_, rfl, q, C, dx, _, _, rfl, m13, T.cl, T.l, co_lengths _ _ _ _ _, lt, _, rfl, .inr (SqT.of m23), fun J G wk hG D nD => lc_it wk (fun i H' => Same H3 H' ∧ ∃ us : List Nat, H' D = some (.lst (nV us)) ∧ us = (List.range i).filter (sgp ws cs r c)) ⟨same_new nD, [], upd_same, rfl⟩ (fun i H' _ z => hG H' fun o w => z.1 _ _ w) ?_ ?_⟩
    · rintro i x H4 H5 hi ⟨e4, us, hD, eu⟩ ⟨T0, y, v', rfl, nT0, rfl, ey, hv⟩
      have ey : y = .int (i : Nat) := (Option.some.inj ey).symm
      subst ey
      obtain ⟨i1, rfl⟩ := nV_get hv
      have e5 := same_new (o := .tup [.int ((i : Nat) : Int), .int ((lAt (lens ws) i : Nat) : Int)]) nT0
      have li := sm _ (List.getElem_mem i1)
      rw [← lAt_get i1] at li
      refine ⟨T0, _, rfl, SqT.of upd_same, rfl, _, _, rfl, _, _, rfl, rfl, rfl, ?_⟩
      have i2 : i < ws.length := by rw [← ll]; exact i1
      have e45 := e4.trans e5
      refine ⟨_, rfl, _, rfl, (hc3.same e45).ix (atI_nat (nV_at (by omega))) ?_⟩
      refine ⟨_, rfl, _, rfl, _, _, rfl, rfl, _, _, rfl, rfl, .inr ⟨by omega, by omega⟩, _, _, rfl, rfl, _, rfl, rfl, _, rfl, ?_⟩
      have ev : decide (V.int (((lAt cs i : Nat) : Int) + ((c : Nat) : Int) * (((lAt (lens ws) i : Nat) : Int) + 1)) = V.int (((hf (grw cs r c) : Nat) : Int) - ((dot (lens ws) cs : Nat) : Int))) = sgp ws cs r c i := by
        unfold sgp
        rw [dec_int, Bool.eq_iff_iff, beq_iff_eq, decide_eq_true_iff]
        have m1 : ((c : Nat) : Int) * (((lAt (lens ws) i : Nat) : Int) + 1) = ((c * (lAt (lens ws) i + 1) : Nat) : Int) := by
          rw [Int.natCast_mul, Int.natCast_add]
          rfl
        rw [m1]
        omega
      rw [ev]
      have tk : (List.range (i + 1)).filter (sgp ws cs r c) = us ++ [i].filter (sgp ws cs r c) := by rw [List.range_succ, List.filter_append, ← eu]
      have lu : us.length ≤ 60 := by
        rw [eu]
        exact Nat.le_trans (List.length_filter_le _ _) (by rw [List.length_range]; omega)
      have hD5 := e5 _ _ hD
      by_cases g : sgp ws cs r c i = true
      · rw [g]
        refine iteT ⟨_, rfl, nV us, hD5, by rw [nV_len]; exact small10 (by omega), fun b o z => ?_, us ++ [i], ?_, ?_⟩
        · rw [upd_ne (ne_of_none z nD)]
          exact e45 _ _ z
        · rw [upd_same, nV_app]
          rfl
        · rw [tk, List.filter_cons, if_pos g]
          rfl
      · have g' : sgp ws cs r c i = false := by simpa using g
        rw [g']
        refine iteF ⟨e45, us, hD5, ?_⟩
        rw [tk, List.filter_cons, if_neg g, List.filter_nil, List.append_nil]
    · rintro H4 ⟨e4, us, hD, eu⟩
      subst eu
      rw [List.length_map, ll] at hD
      exact qq D H4 (e13.trans e4) (Same.none' e13 nD) hD
end
end K38
set_option Elab.async false
set_option linter.all false
set_option maxRecDepth 100001
set_option maxHeartbeats 3999999
namespace K38
open PySem L2
open Huff (hf dot)
def dN (cs : List Nat) : Fd := .nd (cs.map fun c : Nat => .lf (.int (c : Nat)))
theorem lf_kn {K : PySem.W.Frag} {H : Hp} {v : V} (k : Kn H v) (h : isLT H v = false) : Lf K H v := ⟨.kn k, h⟩
theorem fin_n {K : PySem.W.Frag} {H : Hp} {r : Addr} {cs : List Nat} (n : Nat) (h : LT H r (nV cs)) (l : cs.length ≤ 20000) : FIn K (n + 1) H (.ref r) (dN cs) := by
  refine .inr ⟨r, _, _, rfl, rfl, h, by rw [nV_len]; exact l, paired_of (by rw [nV_len, List.length_map]) fun i t p h1 h2 => ?_⟩
  obtain ⟨i1, rfl⟩ := nV_get h1
  rw [List.getElem?_map, List.getElem?_eq_getElem i1] at h2
  have h2 := Option.some.inj h2
  subst h2
  have e : lAt cs i = cs[i] := lAt_get i1
  have g : ∀ {v : V} {d : Fd}, (d = .lf v ∧ Lf K H v) → FIn K n H v d := fun {v d} z => by
    cases n with
    | zero => exact z
    | succ n => exact .inl z
  rw [e]
  exact g ⟨rfl, .kn (.int _), rfl⟩
theorem fout_n {H : Hp} {v : V} {cs : List Nat} (n : Nat) (h : FOut (n + 1) H v (dN cs)) : ∃ r, v = .ref r ∧ H r = some (.tup (nV cs)) := by
  rcases h with h | ⟨a, xs, ds, rfl, e, ha, p⟩
  · cases h
  · injection e with e
    subst e
    refine ⟨a, rfl, ?_⟩
    rw [ha]
    congr 2
    have hl := Paired.length p
    rw [List.length_map] at hl
    refine List.ext_getElem (by rw [hl, nV_len]) fun i h1 h2 => ?_
    obtain ⟨d, hd, o⟩ := paired_get p (List.getElem?_eq_getElem h1)
    have hi : i < cs.length := by omega
    rw [List.getElem?_map, List.getElem?_eq_getElem hi] at hd
    have hd := Option.some.inj hd
    subst hd
    have o : xs[i] = V.int ((cs[i] : Nat) : Int) := by
      cases n with
      | zero => injection o with o; exact o.symm
      | succ n =>
        rcases o with o | ⟨_, _, _, _, e, _⟩
        · injection o with o; exact o.symm
        · cases e
    rw [o]
    simp [nV]
theorem tt_ins {H : Hp} {p C dx : Addr} {fs gs : List (Str × V)} (h : H p = some (.ins C dx fs)) : TT H (upd H p (.ins C dx gs)) := fun a xs z => (upd_ne (ne_of z h fun y => nomatch y)).trans z
theorem sm_ins {H0 H : Hp} {p : Addr} {o : HO} (n : H0 p = none) (e : Same H0 H) : Same H0 (upd H p o) := fun b o' z => (upd_ne (ne_of_none z n)).trans (e _ _ z)
theorem fin_lf {K : PySem.W.Frag} {H : Hp} {v : V} (h : Lf K H v) : FIn K 1 H v (.lf v) := .inl ⟨rfl, h⟩
theorem fout_lf {H : Hp} {r v : V} (o : FOut 1 H r (.lf v)) : r = v := by
  rcases o with o | ⟨_, _, _, _, e, _⟩
  · injection o with o; exact o.symm
  · cases e
theorem lf_co {K : PySem.W.Frag} {C : Addr} {H : Hp} {q : Addr} {L : Nat} {ls : List Nat} {ws : List W} (O : ObC K C) (U : ObK K) (co : IsCo C H q L ls ws) : Lf K H (.ref q) := by
  obtain ⟨dx, lt, wt, tr, h1, _⟩ := co
  exact ⟨.ob h1 O U, by unfold isLT; rw [isL_ins h1, isT_ins h1]; rfl⟩
abbrev sKpI : Stmt := inClass (topS 42) 0
abbrev sRcI : Stmt := inClass (topS 43) 0
/-- the fields of a paper whose last one is called so -/
def k5F (l : Str) (c t r n s : V) : List (Str × V) := putF l s (putF "count" n (putF "rank" r (putF "counts" t (putF "code" c []))))
structure TxK (K : PySem.W.Frag) (C : Addr) (l : Str) : Prop where
  cl : Cls K C
  c : NoAttr K C "code"
  t : NoAttr K C "counts"
  r : NoAttr K C "rank"
  n : NoAttr K C "count"
  s : NoAttr K C l
section
variable (l : Str) (c t r n s : V)
theorem k5_last : (k5F l c t r n s).lookup l = some s := by
  unfold k5F
  rw [lookup_putF, if_pos rfl]
variable (h1 : ("code" : Str) ≠ l) (h2 : ("counts" : Str) ≠ l) (h3 : ("rank" : Str) ≠ l) (h4 : ("count" : Str) ≠ l)
include h1 in
theorem k5_code : (k5F l c t r n s).lookup ("code" : Str) = some c := by
  unfold k5F
  rw [lookup_putF, if_neg h1, lookup_putF, if_neg (by decide +kernel), lookup_putF, if_neg (by decide +kernel), lookup_putF, if_neg (by decide +kernel), lookup_putF, if_pos rfl]
include h2 in
theorem k5_counts : (k5F l c t r n s).lookup ("counts" : Str) = some t := by
  unfold k5F
  rw [lookup_putF, if_neg h2, lookup_putF, if_neg (by decide +kernel), lookup_putF, if_neg (by decide +kernel), lookup_putF, if_pos rfl]
include h3 in
theorem k5_rank : (k5F l c t r n s).lookup ("rank" : Str) = some r := by
  unfold k5F
  rw [lookup_putF, if_neg h3, lookup_putF, if_neg (by decide +kernel), lookup_putF, if_pos rfl]
include h4 in
theorem k5_count : (k5F l c t r n s).lookup ("count" : Str) = some n := by
  unfold k5F
  rw [lookup_putF, if_neg h4, lookup_putF, if_pos rfl]
end
def spK5 (K : PySem.W.Frag) (C : Addr) (l : Str) : Sp := fun vs H Q _ => ∃ (p dx : Addr) (cv tv rv nv sv : V) (H0 : Hp) (d1 d2 d3 d4 d5 : Fd), vs = [.ref p, cv, tv, rv, nv, sv] ∧ H p = some (.ins C dx []) ∧ H0 p = none ∧ Same H0 H ∧ FIn K 1 H0 cv d1 ∧ FIn K 1 H0 tv d2 ∧ FIn K 1 H0 rv d3 ∧ FIn K 1 H0 nv d4 ∧ FIn K 1 H0 sv d5 ∧
  ∀ c t r n s H', Same H0 H' → H' p = some (.ins C dx (k5F l c t r n s)) → FOut 1 H' c d1 → FOut 1 H' t d2 → FOut 1 H' r d3 → FOut 1 H' n d4 → FOut 1 H' s d5 → Q .non H'
section
variable {P : Program} {w : World} {K : PySem.W.Frag} {mg : Str → Option Value} {base : Heap}
theorem sckpI : FnScope ["self", "code", "counts", "rank", "count", "sign"] ["self", "code", "counts", "rank", "count", "sign"] (defScope sKpI) := ⟨rfl, rfl, rfl, by decide +kernel, rfl, by decide +kernel, by decide +kernel⟩
theorem ok_kpI {f C : Addr} {fd : FuncData} (F : Fun K "__init__" "Kept.__init__" sKpI f fd) (T : TxK K C "sign") (cF : Cal CX0 P w K mg base 2 "frozen" (spFz K 1)) : FnOk P w K mg base CX0 3 f fd ["self", "code", "counts", "rank", "count", "sign"] (spK5 K C "sign") := by
  refine F.ok sckpI (fun vs H Q E h => ?_) (fun cdv A outer s H vs Q E hr h => ?_)
  · obtain ⟨p, dx, cv, tv, rv, nv, sv, H0, d1, d2, d3, d4, d5, rfl, _⟩ := h
    rfl
  · obtain ⟨p, dx, cv, tv, rv, nv, sv, H0, d1, d2, d3, d4, d5, rfl, hp, n0, s0, f1, f2, f3, f4, f5, q⟩ := h
    refine ⟨_, pss_cons (ps_fld (pv 0) (pe_c cF hr pass0 (pa_cons (pv 1) pa_nil)) rfl) (pss_cons (ps_fld (pv 0) (pe_c cF hr pass0 (pa_cons (pv 2) pa_nil)) rfl) (pss_cons (ps_fld (pv 0) (pe_c cF hr pass0 (pa_cons (pv 3) pa_nil)) rfl) (pss_cons (ps_fld (pv 0) (pe_c cF hr pass0 (pa_cons (pv 4) pa_nil)) rfl) (pss_one (ps_fld (pv 0) (pe_c cF hr pass0 (pa_cons (pv 5) pa_nil)) rfl))))), ?_⟩
    refine ⟨_, rfl, _, d1, rfl, FIn.same s0 _ _ _ f1, fun a1 G1 e1 o1 => ?_⟩
    refine ⟨_, rfl, p, C, dx, _, rfl, e1 _ _ hp, T.cl, T.c, by show 0 < 1000; decide, ?_⟩
    have g1 := e1 _ _ hp
    have o1 := FOut.tt (tt_ins (gs := (putF "code" a1 [])) g1) _ _ _ o1
    have s1' := sm_ins (o := .ins C dx (putF "code" a1 [])) n0 ((s0).trans e1)
    have hp1 : upd G1 p (.ins C dx (putF "code" a1 [])) p = some (.ins C dx (putF "code" a1 [])) := upd_same
    generalize upd G1 p (.ins C dx (putF "code" a1 [])) = G1' at s1' hp1 o1 ⊢
    refine ⟨_, rfl, _, d2, rfl, FIn.same s1' _ _ _ f2, fun a2 G2 e2 o2 => ?_⟩
    refine ⟨_, rfl, p, C, dx, _, rfl, e2 _ _ hp1, T.cl, T.t, by show 1 < 1000; decide, ?_⟩
    have g2 := e2 _ _ hp1
    have o1 := FOut.tt ((TT.same e2).trans (tt_ins (gs := (putF "counts" a2 (putF "code" a1 []))) g2)) _ _ _ o1
    have o2 := FOut.tt (tt_ins (gs := (putF "counts" a2 (putF "code" a1 []))) g2) _ _ _ o2
    have s2' := sm_ins (o := .ins C dx (putF "counts" a2 (putF "code" a1 []))) n0 ((s1').trans e2)
    have hp2 : upd G2 p (.ins C dx (putF "counts" a2 (putF "code" a1 []))) p = some (.ins C dx (putF "counts" a2 (putF "code" a1 []))) := upd_same
    generalize upd G2 p (.ins C dx (putF "counts" a2 (putF "code" a1 []))) = G2' at s2' hp2 o1 o2 ⊢
    refine ⟨_, rfl, _, d3, rfl, FIn.same s2' _ _ _ f3, fun a3 G3 e3 o3 => ?_⟩
    refine ⟨_, rfl, p, C, dx, _, rfl, e3 _ _ hp2, T.cl, T.r, by show 2 < 1000; decide, ?_⟩
    have g3 := e3 _ _ hp2
    have o1 := FOut.tt ((TT.same e3).trans (tt_ins (gs := (putF "rank" a3 (putF "counts" a2 (putF "code" a1 [])))) g3)) _ _ _ o1
    have o2 := FOut.tt ((TT.same e3).trans (tt_ins (gs := (putF "rank" a3 (putF "counts" a2 (putF "code" a1 [])))) g3)) _ _ _ o2
    have o3 := FOut.tt (tt_ins (gs := (putF "rank" a3 (putF "counts" a2 (putF "code" a1 [])))) g3) _ _ _ o3
    have s3' := sm_ins (o := .ins C dx (putF "rank" a3 (putF "counts" a2 (putF "code" a1 [])))) n0 ((s2').trans e3)
    have hp3 : upd G3 p (.ins C dx (putF "rank" a3 (putF "counts" a2 (putF "code" a1 [])))) p = some (.ins C dx (putF "rank" a3 (putF "counts" a2 (putF "code" a1 [])))) := upd_same
    generalize upd G3 p (.ins C dx (putF "rank" a3 (putF "counts" a2 (putF "code" a1 [])))) = G3' at s3' hp3 o1 o2 o3 ⊢
    refine ⟨_, rfl, _, d4, rfl, FIn.same s3' _ _ _ f4, fun a4 G4 e4 o4 => ?_⟩
    refine ⟨_, rfl, p, C, dx, _, rfl, e4 _ _ hp3, T.cl, T.n, by show 3 < 1000; decide, ?_⟩
    have g4 := e4 _ _ hp3
    have o1 := FOut.tt ((TT.same e4).trans (tt_ins (gs := (putF "count" a4 (putF "rank" a3 (putF "counts" a2 (putF "code" a1 []))))) g4)) _ _ _ o1
    have o2 := FOut.tt ((TT.same e4).trans (tt_ins (gs := (putF "count" a4 (putF "rank" a3 (putF "counts" a2 (putF "code" a1 []))))) g4)) _ _ _ o2
    have o3 := FOut.tt ((TT.same e4).trans (tt_ins (gs := (putF "count" a4 (putF "rank" a3 (putF "counts" a2 (putF "code" a1 []))))) g4)) _ _ _ o3
    have o4 := FOut.tt (tt_ins (gs := (putF "count" a4 (putF "rank" a3 (putF "counts" a2 (putF "code" a1 []))))) g4) _ _ _ o4
    have s4' := sm_ins (o := .ins C dx (putF "count" a4 (putF "rank" a3 (putF "counts" a2 (putF "code" a1 []))))) n0 ((s3').trans e4)
    have hp4 : upd G4 p (.ins C dx (putF "count" a4 (putF "rank" a3 (putF "counts" a2 (putF "code" a1 []))))) p = some (.ins C dx (putF "count" a4 (putF "rank" a3 (putF "counts" a2 (putF "code" a1 []))))) := upd_same
    generalize upd G4 p (.ins C dx (putF "count" a4 (putF "rank" a3 (putF "counts" a2 (putF "code" a1 []))))) = G4' at s4' hp4 o1 o2 o3 o4 ⊢
    refine ⟨_, rfl, _, d5, rfl, FIn.same s4' _ _ _ f5, fun a5 G5 e5 o5 => ?_⟩
    refine ⟨_, rfl, p, C, dx, _, rfl, e5 _ _ hp4, T.cl, T.s, by show 4 < 1000; decide, ?_⟩
    have g5 := e5 _ _ hp4
    have o1 := FOut.tt ((TT.same e5).trans (tt_ins (gs := (putF "sign" a5 (putF "count" a4 (putF "rank" a3 (putF "counts" a2 (putF "code" a1 [])))))) g5)) _ _ _ o1
    have o2 := FOut.tt ((TT.same e5).trans (tt_ins (gs := (putF "sign" a5 (putF "count" a4 (putF "rank" a3 (putF "counts" a2 (putF "code" a1 [])))))) g5)) _ _ _ o2
    have o3 := FOut.tt ((TT.same e5).trans (tt_ins (gs := (putF "sign" a5 (putF "count" a4 (putF "rank" a3 (putF "counts" a2 (putF "code" a1 [])))))) g5)) _ _ _ o3
    have o4 := FOut.tt ((TT.same e5).trans (tt_ins (gs := (putF "sign" a5 (putF "count" a4 (putF "rank" a3 (putF "counts" a2 (putF "code" a1 [])))))) g5)) _ _ _ o4
    have o5 := FOut.tt (tt_ins (gs := (putF "sign" a5 (putF "count" a4 (putF "rank" a3 (putF "counts" a2 (putF "code" a1 [])))))) g5) _ _ _ o5
    have s5' := sm_ins (o := .ins C dx (putF "sign" a5 (putF "count" a4 (putF "rank" a3 (putF "counts" a2 (putF "code" a1 [])))))) n0 ((s4').trans e5)
    have hp5 : upd G5 p (.ins C dx (putF "sign" a5 (putF "count" a4 (putF "rank" a3 (putF "counts" a2 (putF "code" a1 [])))))) p = some (.ins C dx (putF "sign" a5 (putF "count" a4 (putF "rank" a3 (putF "counts" a2 (putF "code" a1 [])))))) := upd_same
    exact q a1 a2 a3 a4 a5 _ s5' hp5 o1 o2 o3 o4 o5
theorem scrcI : FnScope ["self", "code", "counts", "rank", "count", "other"] ["self", "code", "counts", "rank", "count", "other"] (defScope sRcI) := ⟨rfl, rfl, rfl, by decide +kernel, rfl, by decide +kernel, by decide +kernel⟩
theorem ok_rcI {f C : Addr} {fd : FuncData} (F : Fun K "__init__" "Recoded.__init__" sRcI f fd) (T : TxK K C "other") (cF : Cal CX0 P w K mg base 2 "frozen" (spFz K 1)) : FnOk P w K mg base CX0 3 f fd ["self", "code", "counts", "rank", "count", "other"] (spK5 K C "other") := by
  refine F.ok scrcI (fun vs H Q E h => ?_) (fun cdv A outer s H vs Q E hr h => ?_)
  · obtain ⟨p, dx, cv, tv, rv, nv, sv, H0, d1, d2, d3, d4, d5, rfl, _⟩ := h
    rfl
  · obtain ⟨p, dx, cv, tv, rv, nv, sv, H0, d1, d2, d3, d4, d5, rfl, hp, n0, s0, f1, f2, f3, f4, f5, q⟩ := h
    refine ⟨_, pss_cons (ps_fld (pv 0) (pe_c cF hr pass0 (pa_cons (pv 1) pa_nil)) rfl) (pss_cons (ps_fld (pv 0) (pe_c cF hr pass0 (pa_cons (pv 2) pa_nil)) rfl) (pss_cons (ps_fld (pv 0) (pe_c cF hr pass0 (pa_cons (pv 3) pa_nil)) rfl) (pss_cons (ps_fld (pv 0) (pe_c cF hr pass0 (pa_cons (pv 4) pa_nil)) rfl) (pss_one (ps_fld (pv 0) (pe_c cF hr pass0 (pa_cons (pv 5) pa_nil)) rfl))))), ?_⟩
    refine ⟨_, rfl, _, d1, rfl, FIn.same s0 _ _ _ f1, fun a1 G1 e1 o1 => ?_⟩
    refine ⟨_, rfl, p, C, dx, _, rfl, e1 _ _ hp, T.cl, T.c, by show 0 < 1000; decide, ?_⟩
    have g1 := e1 _ _ hp
    have o1 := FOut.tt (tt_ins (gs := (putF "code" a1 [])) g1) _ _ _ o1
    have s1' := sm_ins (o := .ins C dx (putF "code" a1 [])) n0 ((s0).trans e1)
    have hp1 : upd G1 p (.ins C dx (putF "code" a1 [])) p = some (.ins C dx (putF "code" a1 [])) := upd_same
    generalize upd G1 p (.ins C dx (putF "code" a1 [])) = G1' at s1' hp1 o1 ⊢
    refine ⟨_, rfl, _, d2, rfl, FIn.same s1' _ _ _ f2, fun a2 G2 e2 o2 => ?_⟩
    refine ⟨_, rfl, p, C, dx, _, rfl, e2 _ _ hp1, T.cl, T.t, by show 1 < 1000; decide, ?_⟩
    have g2 := e2 _ _ hp1
    have o1 := FOut.tt ((TT.same e2).trans (tt_ins (gs := (putF "counts" a2 (putF "code" a1 []))) g2)) _ _ _ o1
    have o2 := FOut.tt (tt_ins (gs := (putF "counts" a2 (putF "code" a1 []))) g2) _ _ _ o2
    have s2' := sm_ins (o := .ins C dx (putF "counts" a2 (putF "code" a1 []))) n0 ((s1').trans e2)
    have hp2 : upd G2 p (.ins C dx (putF "counts" a2 (putF "code" a1 []))) p = some (.ins C dx (putF "counts" a2 (putF "code" a1 []))) := upd_same
    generalize upd G2 p (.ins C dx (putF "counts" a2 (putF "code" a1 []))) = G2' at s2' hp2 o1 o2 ⊢
    refine ⟨_, rfl, _, d3, rfl, FIn.same s2' _ _ _ f3, fun a3 G3 e3 o3 => ?_⟩
    refine ⟨_, rfl, p, C, dx, _, rfl, e3 _ _ hp2, T.cl, T.r, by show 2 < 1000; decide, ?_⟩
    have g3 := e3 _ _ hp2
    have o1 := FOut.tt ((TT.same e3).trans (tt_ins (gs := (putF "rank" a3 (putF "counts" a2 (putF "code" a1 [])))) g3)) _ _ _ o1
    have o2 := FOut.tt ((TT.same e3).trans (tt_ins (gs := (putF "rank" a3 (putF "counts" a2 (putF "code" a1 [])))) g3)) _ _ _ o2
    have o3 := FOut.tt (tt_ins (gs := (putF "rank" a3 (putF "counts" a2 (putF "code" a1 [])))) g3) _ _ _ o3
    have s3' := sm_ins (o := .ins C dx (putF "rank" a3 (putF "counts" a2 (putF "code" a1 [])))) n0 ((s2').trans e3)
    have hp3 : upd G3 p (.ins C dx (putF "rank" a3 (putF "counts" a2 (putF "code" a1 [])))) p = some (.ins C dx (putF "rank" a3 (putF "counts" a2 (putF "code" a1 [])))) := upd_same
    generalize upd G3 p (.ins C dx (putF "rank" a3 (putF "counts" a2 (putF "code" a1 [])))) = G3' at s3' hp3 o1 o2 o3 ⊢
    refine ⟨_, rfl, _, d4, rfl, FIn.same s3' _ _ _ f4, fun a4 G4 e4 o4 => ?_⟩
    refine ⟨_, rfl, p, C, dx, _, rfl, e4 _ _ hp3, T.cl, T.n, by show 3 < 1000; decide, ?_⟩
    have g4 := e4 _ _ hp3
    have o1 := FOut.tt ((TT.same e4).trans (tt_ins (gs := (putF "count" a4 (putF "rank" a3 (putF "counts" a2 (putF "code" a1 []))))) g4)) _ _ _ o1
    have o2 := FOut.tt ((TT.same e4).trans (tt_ins (gs := (putF "count" a4 (putF "rank" a3 (putF "counts" a2 (putF "code" a1 []))))) g4)) _ _ _ o2
    have o3 := FOut.tt ((TT.same e4).trans (tt_ins (gs := (putF "count" a4 (putF "rank" a3 (putF "counts" a2 (putF "code" a1 []))))) g4)) _ _ _ o3
    have o4 := FOut.tt (tt_ins (gs := (putF "count" a4 (putF "rank" a3 (putF "counts" a2 (putF "code" a1 []))))) g4) _ _ _ o4
    have s4' := sm_ins (o := .ins C dx (putF "count" a4 (putF "rank" a3 (putF "counts" a2 (putF "code" a1 []))))) n0 ((s3').trans e4)
    have hp4 : upd G4 p (.ins C dx (putF "count" a4 (putF "rank" a3 (putF "counts" a2 (putF "code" a1 []))))) p = some (.ins C dx (putF "count" a4 (putF "rank" a3 (putF "counts" a2 (putF "code" a1 []))))) := upd_same
    generalize upd G4 p (.ins C dx (putF "count" a4 (putF "rank" a3 (putF "counts" a2 (putF "code" a1 []))))) = G4' at s4' hp4 o1 o2 o3 o4 ⊢
    refine ⟨_, rfl, _, d5, rfl, FIn.same s4' _ _ _ f5, fun a5 G5 e5 o5 => ?_⟩
    refine ⟨_, rfl, p, C, dx, _, rfl, e5 _ _ hp4, T.cl, T.s, by show 4 < 1000; decide, ?_⟩
    have g5 := e5 _ _ hp4
    have o1 := FOut.tt ((TT.same e5).trans (tt_ins (gs := (putF "other" a5 (putF "count" a4 (putF "rank" a3 (putF "counts" a2 (putF "code" a1 [])))))) g5)) _ _ _ o1
    have o2 := FOut.tt ((TT.same e5).trans (tt_ins (gs := (putF "other" a5 (putF "count" a4 (putF "rank" a3 (putF "counts" a2 (putF "code" a1 [])))))) g5)) _ _ _ o2
    have o3 := FOut.tt ((TT.same e5).trans (tt_ins (gs := (putF "other" a5 (putF "count" a4 (putF "rank" a3 (putF "counts" a2 (putF "code" a1 [])))))) g5)) _ _ _ o3
    have o4 := FOut.tt ((TT.same e5).trans (tt_ins (gs := (putF "other" a5 (putF "count" a4 (putF "rank" a3 (putF "counts" a2 (putF "code" a1 [])))))) g5)) _ _ _ o4
    have o5 := FOut.tt (tt_ins (gs := (putF "other" a5 (putF "count" a4 (putF "rank" a3 (putF "counts" a2 (putF "code" a1 [])))))) g5) _ _ _ o5
    have s5' := sm_ins (o := .ins C dx (putF "other" a5 (putF "count" a4 (putF "rank" a3 (putF "counts" a2 (putF "code" a1 [])))))) n0 ((s4').trans e5)
    have hp5 : upd G5 p (.ins C dx (putF "other" a5 (putF "count" a4 (putF "rank" a3 (putF "counts" a2 (putF "code" a1 [])))))) p = some (.ins C dx (putF "other" a5 (putF "count" a4 (putF "rank" a3 (putF "counts" a2 (putF "code" a1 [])))))) := upd_same
    exact q a1 a2 a3 a4 a5 _ s5' hp5 o1 o2 o3 o4 o5
end
end K38
set_option Elab.async false
set_option linter.all false
set_option maxRecDepth 100001
set_option maxHeartbeats 3999999
namespace K38
open PySem L2
open Huff (hf dot Best)
abbrev sPC : Stmt := topS 44
abbrev sKC : Stmt := topS 48
def spPC (K : PySem.W.Frag) (C P1 P2 CT CA CO CR CC : Addr) (Tb : List (Addr × Str)) : Sp := fun vs H Q E => ∃ (q cp : Addr) (rv nv : V) (L : Nat) (ws : List W) (ts : List V), vs = [.ref q, .ref cp, rv, nv] ∧ IsCo C H q L (lens ws) ws ∧ H cp = some (.lst ts) ∧ (∀ v ∈ ts, Kn H v) ∧ ts.length ≤ 5000 ∧
  (Rfs CT CA CO ws.length ts H E ∨
   (2 ≤ ts.length ∧ ts.length < 2000 ∧ (∀ v ∈ ts, frm v 0 = true) ∧ ts.length = ws.length ∧ Kv K H rv ∧
     ((btw rv 0 ((ws.length : Nat) : Int) = false ∧ BadV K H rv CR "rank" E) ∨ (btw rv 0 ((ws.length : Nat) : Int) = true ∧ Kv K H nv ∧ frm nv 0 = false ∧ BadV K H nv CC "count" E))) ∨
   (∃ (cs : List Nat) (r c : Nat), ts = nV cs ∧ rv = .int ((r : Nat) : Int) ∧ nv = .int ((c : Nat) : Int) ∧ cs.length = ws.length ∧ 2 ≤ ws.length ∧ ws.length ≤ 59 ∧ r ≤ ws.length ∧ Sm (lens ws) ∧ LamX.Tabs Tb H ∧
     ((∃ i us, sgn ws cs r c = i :: us ∧ ∀ p dx t H', H' p = some (.ins P1 dx (k5F "sign" (.ref q) (.ref t) (.int ((r : Nat) : Int)) (.int ((c : Nat) : Int)) (.int ((i : Nat) : Int)))) → H' t = some (.tup (nV cs)) → LamX.ExtN H H' → LamX.Tabs Tb H' → Q (.ref p) H') ∨
      (sgn ws cs r c = [] ∧ ∀ p dx t qc L' ls ws' H', H' p = some (.ins P2 dx (k5F "other" (.ref q) (.ref t) (.int ((r : Nat) : Int)) (.int ((c : Nat) : Int)) (.ref qc))) → H' t = some (.tup (nV cs)) → IsCo C H' qc L' ls ws' → Best ls (grw cs r c) → (∀ l ∈ ls, 1 ≤ l ∧ l + 1 ≤ ws.length + 1) → LamX.ExtN H H' → LamX.Tabs Tb H' → Q (.ref p) H'))))
theorem mk_k5 {K : PySem.W.Frag} {C p dx : Addr} {l : Str} {H : Hp} {cv tv rv nv sv : V} {d1 d2 d3 d4 d5 : Fd} {R : Hp → Prop} {E : XK} (f1 : FIn K 1 H cv d1) (f2 : FIn K 1 H tv d2) (f3 : FIn K 1 H rv d3) (f4 : FIn K 1 H nv d4) (f5 : FIn K 1 H sv d5) (np : H p = none) (ndx : H dx = none)
    (k : ∀ c t r n s H', Same H H' → H' p = some (.ins C dx (k5F l c t r n s)) → FOut 1 H' c d1 → FOut 1 H' t d2 → FOut 1 H' r d3 → FOut 1 H' n d4 → FOut 1 H' s d5 → R H') : spK5 K C l [.ref p, cv, tv, rv, nv, sv] (upd (upd H dx (.own p)) p (.ins C dx [])) (fun v H2 => v = .non ∧ R H2) E :=
  ⟨p, dx, cv, tv, rv, nv, sv, H, d1, d2, d3, d4, d5, rfl, upd_same, np, same_ins np ndx, f1, f2, f3, f4, f5, fun c t r n s H' e h g1 g2 g3 g4 g5 => ⟨rfl, k c t r n s H' e h g1 g2 g3 g4 g5⟩⟩
theorem lf_int {K : PySem.W.Frag} {H : Hp} (i : Int) : Lf K H (.int i) := ⟨.kn (.int i), rfl⟩
section
variable {P : Program} {w : World} {K : PySem.W.Frag} {mg : Str → Option Value} {base : Heap}
theorem scPC : FnScope ["code", "counts", "rank", "count", "signs"] ["code", "counts", "rank", "count"] (defScope sPC) := ⟨rfl, rfl, rfl, by decide +kernel, rfl, by decide +kernel, by decide +kernel⟩
theorem ok_pc {f C P1 P2 CT CA CO CR CC : Addr} {fd : FuncData} {Tb : List (Addr × Str)} (F : Fun K "put_counted" "put_counted" sPC f fd) (O : ObC K C) (U : ObK K) (cK : Cal (L2.CX P w) P w K mg base 7 "check_counted" (spCk K C CT CA CO CR CC)) (cP : Cal CX0 P w K mg base 3 "least_parted" (spLP C)) (cW : Cal CX0 P w K mg base 1 "with_count" spWC)
    (cL : Cal (L2.CX P w) P w K mg base 10 "least_code" (spLC C CT CA Tb)) (mK : Mak CX0 P w K mg base 3 "Kept" P1 (spK5 K P1 "sign")) (mR : Mak CX0 P w K mg base 3 "Recoded" P2 (spK5 K P2 "other")) : FnOk P w K mg base (L2.CX P w) 11 f fd ["code", "counts", "rank", "count"] (spPC K C P1 P2 CT CA CO CR CC Tb) := by
  refine F.okX scPC (fun vs H Q E h => ?_) (fun cdv A outer s H vs Q E hr h => ?_)
  · obtain ⟨q, cp, rv, nv, L, ws, ts, rfl, _⟩ := h
    rfl
  · obtain ⟨q, cp, rv, nv, L, ws, ts, rfl, M, hl, kn, l5, out⟩ := h
    refine ⟨_, (pss_cons (ps_expr (pe_c cK hr (passes_call (takes_of rfl rfl rfl rfl) fun _ _ _ _ h => h) (pa_cons (pv 0) (pa_cons (pv 1) (pa_cons (pv 2) (pa_cons (pv 3) pa_nil))))))
      (pss_cons (ps_set (i := 4) scPC.nd rfl (Or.inl rfl) (pe_c cP hr pass0 (pa_cons (pv 0) (pa_cons (pv 1) (pa_cons (pv 2) (pa_cons (pv 3) pa_nil))))))
      (pss_cons (ps_if (pt_truth (pv 4) (fun _ => rfl)) (pss_one (ps_ret (pe_mk mK hr pass0 (pa_cons (pv 0) (pa_cons (pv 1) (pa_cons (pv 2) (pa_cons (pv 3) (pa_cons (pe_ix ix_list (pv 4) pe_int (fun _ _ => rfl)) pa_nil)))))))) pss_nil)
      (pss_one (ps_ret (pe_mk mR hr pass0 (pa_cons (pv 0) (pa_cons (pv 1) (pa_cons (pv 2) (pa_cons (pv 3) (pa_cons (pe_c cL hr (passes_call (takes_of rfl rfl rfl rfl) fun _ _ _ _ h => h) (pa_cons (pe_c cW hr pass0 (pa_cons (pv 1) (pa_cons (pv 2) (pa_cons (pv 3) pa_nil)))) pa_nil)) pa_nil))))))))))), ?_⟩
    refine ⟨_, rfl, _, rfl, _, rfl, _, rfl, q, cp, rv, nv, L, ws, ts, rfl, M, .inl hl, kn, l5, ?_⟩
    rcases out with out | ⟨g1, g2, good, e0, kr, out⟩ | ⟨cs, r, c, rfl, rfl, rfl, ec, n2, n59, hrr, sm, tabs, out⟩
    · exact .inl out
    · refine .inr ⟨g1, g2, good, e0, kr, ?_⟩
      rcases out with out | ⟨b, kn', f0, bd⟩
      · exact .inl out
      · exact .inr ⟨b, kn', .inl ⟨f0, bd⟩⟩
    refine .inr ⟨by rw [nV_len]; omega, by rw [nV_len]; omega, nV_frm cs, by rw [nV_len]; exact ec, .kn (.int _), .inr ⟨decide_eq_true ⟨by omega, by omega⟩, .kn (.int _), .inr ⟨show decide ((0 : Int) ≤ ((c : Nat) : Int)) = true from decide_eq_true (by omega), fun H1 e1 => ?_⟩⟩⟩
    have M1 := M.same e1
    have hl1 := e1 _ _ hl
    refine ⟨_, rfl, _, rfl, _, rfl, _, rfl, q, cp, L, ws, cs, r, c, rfl, M1, .inl hl1, ec, by omega, by omega, hrr, sm, fun D H2 e2 nD hD => ?_⟩
    have e12 := e1.trans e2
    have M2 := M.same e12
    have hl2 := e12 _ _ hl
    refine gN ?_
    dsimp only
    refine ⟨_, rfl, _, .inl ⟨_, SqL.of hD, rfl⟩, ?_⟩
    rcases out with ⟨i, us, es, qk⟩ | ⟨es, qk⟩
    · rw [es]
      refine iteT ?_
      rw [es] at hD
      refine ⟨_, rfl, _, rfl, _, rfl, _, rfl, _, rfl, D, _, 0, _, rfl, rfl, SqL.of hD, atI_nat (j := 0) (v := .int ((i : Nat) : Int)) rfl, fun p dx np ndx ne => mk_k5 (fin_lf (lf_co O U M2)) (fin_n 0 (.inl hl2) (by omega)) (fin_lf (lf_int _)) (fin_lf (lf_int _)) (fin_lf (lf_int _)) np ndx fun a1 a2 a3 a4 a5 H3 e3 hp o1 o2 o3 o4 o5 => ?_⟩
      have z1 := fout_lf o1
      obtain ⟨t, rfl, ht⟩ := fout_n 0 o2
      have z3 := fout_lf o3
      have z4 := fout_lf o4
      have z5 := fout_lf o5
      subst z1 z3 z4 z5
      exact qk p dx t H3 hp ht (LamX.ExtN.of (e12.trans e3)) (tabs.ext (e12.trans e3))
    · rw [es]
      refine iteF ?_
      dsimp only
      refine ⟨_, rfl, _, rfl, _, rfl, _, rfl, _, rfl, _, rfl, _, rfl, cp, cs, r, c, rfl, .inl hl2, by omega, by omega, fun D2 H3 e3 nD2 hD2 => ?_⟩
      have gl := grw_len (c := c) (show r ≤ cs.length by omega)
      have e13 := e12.trans e3
      refine ⟨D2, _, rfl, hD2, nV_kn _, by rw [nV_len]; omega, tabs.ext e13, .inr (.inr ⟨_, rfl, by omega, by omega, fun qc L' ls ws' H4 co cano nq best lk f4 tab4 => ?_⟩)⟩
      have k4 := (Ks.of e13).trans (Ks.ext f4)
      have M4 : IsCo C H4 q L (lens ws) ws := by
        obtain ⟨dx, lt, wt, tr, g1, g2, g3⟩ := M
        exact ⟨dx, lt, wt, tr, k4.ins g1, k4.tl.t _ _ g2, k4.tl.t _ _ g3⟩
      refine fun p dx np ndx ne => mk_k5 (fin_lf (lf_co O U M4)) (fin_n 0 (.inl (k4.tl.l _ _ hl)) (by omega)) (fin_lf (lf_int _)) (fin_lf (lf_int _)) (fin_lf (lf_co O U co)) np ndx fun a1 a2 a3 a4 a5 H5 e5 hp o1 o2 o3 o4 o5 => ?_
      have z1 := fout_lf o1
      obtain ⟨t, rfl, ht⟩ := fout_n 0 o2
      have z3 := fout_lf o3
      have z4 := fout_lf o4
      have z5 := fout_lf o5
      subst z1 z3 z4 z5
      exact qk p dx t qc L' ls ws' H5 hp ht (co.same e5) best (by rw [gl, ec] at lk; exact lk) ((LamX.ExtN.of e13).trans (f4.trans (LamX.ExtN.of e5))) (tab4.ext e5)
end
end K38
set_option Elab.async false
set_option linter.all false
set_option maxRecDepth 100001
set_option maxHeartbeats 3999999
namespace K38
open PySem L2
open Huff (hf dot Best)
abbrev sIC : Stmt := topS 51
abbrev sIK : Stmt := topS 49
theorem FW.cw1 {ws : List W} (h : FW ws) (l2 : 2 ≤ ws.length) (l11 : ws.length ≤ 11) : CW ws := ⟨h.pf, l2, by omega, fun l hl => by
  obtain ⟨w, hw, rfl⟩ := List.mem_map.mp hl
  have := h.hi w hw
  omega, by rw [krH_kl]; exact h.kr⟩
def spKC (C P1 : Addr) (Tb : List (Addr × Str)) : Sp := fun vs H Q _ => ∃ (p dx q : Addr) (tv nv : V) (r i L : Nat) (ws : List W), vs = [.ref p] ∧ H p = some (.ins P1 dx (k5F "sign" (.ref q) tv (.int ((r : Nat) : Int)) nv (.int ((i : Nat) : Int)))) ∧ IsCo C H q L (lens ws) ws ∧ FW ws ∧ 2 ≤ ws.length ∧ ws.length ≤ 10 ∧ i < ws.length ∧ r ≤ ws.length ∧ LamX.Tabs Tb H ∧
  ∀ q2 L2 H', IsCo C H' q2 L2 (lens (putW ws i r)) (putW ws i r) → LamX.ExtN H H' → LamX.Tabs Tb H' → Q (.ref q2) H'
def NoCt (K : PySem.W.Frag) (C : Addr) (H : Hp) (cv tv rv nv : V) : Prop := Kv K H tv ∧ ((cv = .non ∨ ∃ x, cv = .str x) ∨ ∃ q L ws, cv = .ref q ∧ IsCo C H q L (lens ws) ws ∧ (isT H tv = false ∨ ∃ t cs, tv = .ref t ∧ H t = some (.tup (nV cs)) ∧ 2 ≤ cs.length ∧ cs.length < 2000 ∧
  (cs.length ≠ ws.length ∨ (cs.length = ws.length ∧ ((btw rv 0 ((ws.length : Nat) : Int) = false ∧ Lf K H rv) ∨ (btw rv 0 ((ws.length : Nat) : Int) = true ∧ Kv K H rv ∧ frm nv 0 = false ∧ Lf K H nv))))))
structure YesCt (C : Addr) (H : Hp) (cv tv rv nv : V) (q t : Addr) (L : Nat) (ws : List W) (cs : List Nat) (r c : Nat) : Prop where
  hq : cv = .ref q
  M : IsCo C H q L (lens ws) ws
  ht : tv = .ref t
  tu : H t = some (.tup (nV cs))
  ec : cs.length = ws.length
  n2 : 2 ≤ ws.length
  n59 : ws.length ≤ 59
  hr : rv = .int ((r : Nat) : Int)
  hrr : r ≤ ws.length
  hn : nv = .int ((c : Nat) : Int)
  sm : Sm (lens ws)
def CtB (K : PySem.W.Frag) (C : Addr) (H : Hp) (cv tv rv nv : V) (Q : VK) : Prop := (NoCt K C H cv tv rv nv ∧ ∀ H', Same H H' → Q (.bl false) H') ∨ ((∃ q t L ws cs r c, YesCt C H cv tv rv nv q t L ws cs r c) ∧ ∀ H', Same H H' → Q (.bl true) H')
structure Lb (l : Str) : Prop where
  h1 : ("code" : Str) ≠ l
  h2 : ("counts" : Str) ≠ l
  h3 : ("rank" : Str) ≠ l
  h4 : ("count" : Str) ≠ l
def spIC (K : PySem.W.Frag) (C : Addr) : Sp := fun vs H Q _ => ∃ (p dx D : Addr) (l : Str) (cv tv rv nv sv : V), vs = [.ref p] ∧ H p = some (.ins D dx (k5F l cv tv rv nv sv)) ∧ TxK K D l ∧ Lb l ∧ CtB K C H cv tv rv nv Q
structure KtC (K : PySem.W.Frag) (C : Addr) : Prop where
  l : PySem.W.kitOne K (.type "list") (.ref C) = some false
  n : PySem.W.kitOne K (.type "NoneType") (.ref C) = some false
  s : PySem.W.kitOne K (.type "str") (.ref C) = some false
structure CvC (K : PySem.W.Frag) (mg : Str → Option Value) (CV CO CR CC : Addr) : Prop where
  g : mg "VaultError" = some (.ref CV)
  eO : PySem.W.exmOne K (.ref CO) (.ref CV) = some true
  eR : PySem.W.exmOne K (.ref CR) (.ref CV) = some true
  eC : PySem.W.exmOne K (.ref CC) (.ref CV) = some true
theorem pe_cS {X : Cx} {CX : CXT} {k j : Nat} {x : Str} {sp : Sp} {E : L2.St → XK} {p pos : Pos} {e : Expr} {es : List Expr} {t : TA} (c : Cal CX X.prog X.w X.K X.mg X.base k x sp) (hr : Room j X.A) (hx : ∀ σ, PassesAt CX X σ (E σ)) (ha : PA X (e :: es) t) (hk : k ≤ j := by decide) (hg : Gl X x := by rfl) (hdb : (x == ("__debug__" : Str)) = false := by decide)
    (he : starEach (e :: es) X.env = (false, eval e X.env) :: starEach es X.env := by rfl) (hpl : (backTo pos (starEach es X.env)).any (·.1) = false := by rfl) : PE X (.Call (.Name x p) (e :: es) [] pos) (tCallS sp E t) := by
  obtain ⟨f, fd, ps, F, hm, kp, b⟩ := c.ex
  exact pe_callS F (hr.mono hk) hg hm kp b hx ha hdb he hpl
section
variable {P : Program} {w : World} {K : PySem.W.Frag} {mg : Str → Option Value} {base : Heap}
theorem scKC : FnScope ["kept"] ["kept"] (defScope sKC) := ⟨rfl, rfl, rfl, by decide +kernel, rfl, by decide +kernel, by decide +kernel⟩
theorem ok_kc {f C P1 : Addr} {fd : FuncData} {Tb : List (Addr × Str)} (F : Fun K "kept_code" "kept_code" sKC f fd) (T : TxC K C) (TK : TxK K P1 "sign") (cP : Cal CX0 P w K mg base 1 "parted" spPt) (cF : Cal CX0 P w K mg base 10 "code_of" (spCf C Tb)) : FnOk P w K mg base CX0 11 f fd ["kept"] (spKC C P1 Tb) := by
  refine F.ok scKC (fun vs H Q E h => ?_) (fun cdv A outer s H vs Q E hr h => ?_)
  · obtain ⟨p, dx, q, tv, nv, r, i, L, ws, rfl, _⟩ := h
    rfl
  · obtain ⟨p, dx, q, tv, nv, r, i, L, ws, rfl, hp, M, fw, n2, n10, hi, hrr, tabs, qq⟩ := h
    refine ⟨_, (pss_one (ps_ret (pe_c cF hr pass0 (pa_cons (pe_c cP hr pass0 (pa_cons (pe_fld (pe_fld (pv 0) rfl) rfl) (pa_cons (pe_fld (pv 0) rfl) (pa_cons (pe_fld (pv 0) rfl) pa_nil)))) pa_nil)))), ?_⟩
    obtain ⟨dxc, lt, wt, tr, m1, m2, m3⟩ := id M
    refine ⟨_, rfl, p, P1, dx, _, _, rfl, hp, TK.cl, TK.c, k5_code _ _ _ _ _ _ (by decide +kernel), q, C, dxc, _, _, rfl, m1, T.cl, T.w, co_words _ _ _ _ _, _, rfl, p, P1, dx, _, _, rfl, hp, TK.cl, TK.s, k5_last _ _ _ _ _ _, _, rfl, p, P1, dx, _, _, rfl, hp, TK.cl, TK.r, k5_rank _ _ _ _ _ _ (by decide +kernel), ?_⟩
    refine ⟨wt, ws, i, r, rfl, .inr m3, hi, hrr, by omega, fun w hw => by have := fw.hi w hw; omega, fun D H1 e1 nD hD => ?_⟩
    refine ⟨D, putW ws i r, rfl, hD, FW.cw1 (fw.put hi n10) (by rw [putW_len hi]; omega) (by rw [putW_len hi]; omega), tabs.ext e1, fun q2 L2 H2 co nq f2 tab2 => qq q2 L2 H2 co ((LamX.ExtN.of e1).trans f2) tab2⟩
theorem scIC : FnScope ["told"] ["told"] (defScope sIC) := ⟨rfl, rfl, rfl, by decide +kernel, rfl, by decide +kernel, by decide +kernel⟩
theorem ok_ic {f C CV CT CA CO CR CC : Addr} {fd : FuncData} (F : Fun K "is_counted" "is_counted" sIC f fd) (B : Bi mg) (T : TxC K C) (TE : TxE K C) (KC : KtC K C) (VC : CvC K mg CV CO CR CC) (gC : mg "Code" = some (.ref C)) (cK : Cal (L2.CX P w) P w K mg base 7 "check_counted" (spCk K C CT CA CO CR CC)) : FnOk P w K mg base CX0 8 f fd ["told"] (spIC K C) := by
  refine F.ok scIC (fun vs H Q E h => ?_) (fun cdv A outer s H vs Q E hr h => ?_)
  · obtain ⟨p, dx, D, l, cv, tv, rv, nv, sv, rfl, _⟩ := h
    rfl
  · obtain ⟨p, dx, D, l, cv, tv, rv, nv, sv, rfl, hp, TK, lb, out⟩ := h
    refine ⟨_, (pss_cons (ps_if (PW.pt (pw_or (pt_not (pt_val (pe_isi B.isi (pa_cons (pe_fld (pv 0) rfl) (pa_cons (pe_glob (v := .ref C) rfl gC rfl) pa_nil))))) (pw_or1 (pt_not (pt_val (pe_isi B.isi (pa_cons (pe_fld (pv 0) rfl) (pa_cons (pe_ty "tuple" B.tuple) pa_nil)))))))) (pss_one (ps_ret pe_bl)) pss_nil)
      (pss_cons (ps_try_clauses (Wout := fun _ _ _ _ => False) (l := [(.ref CV, none, fun _ _ _ => tRet (tC (.bl false)))]) rfl rfl scIC.nd LamX.takes0 (fun W pn xe tk _ => pss_one (ps_expr (pe_cS cK hr (fun σ => passAt tk σ) (pa_cons (pe_fldK K rfl (pv 0) rfl) (pa_cons (pe_fldK K rfl (pv 0) rfl) (pa_cons (pe_fldK K rfl (pv 0) rfl) (pa_cons (pe_fldK K rfl (pv 0) rfl) pa_nil))))))) (.plain ⟨rfl, by decide, .inl VC.g⟩ (fun a oe cls d pn hz hf => pss_one (ps_ret pe_bl)) .nil))
      (pss_one (ps_ret pe_bl)))), ?_⟩
    have lc := k5_code l cv tv rv nv sv lb.h1
    have lt := k5_counts l cv tv rv nv sv lb.h2
    have lr := k5_rank l cv tv rv nv sv lb.h3
    have lnn := k5_count l cv tv rv nv sv lb.h4
    refine ⟨_, rfl, p, D, dx, _, _, rfl, hp, TK.cl, TK.c, lc, ?_⟩
    rcases out with ⟨⟨kt, nc | ⟨q, L, ws, rfl, M, out⟩⟩, qf⟩ | ⟨⟨q, t, L, ws, cs, r, c, Y⟩, qt⟩
    · obtain ⟨t, ty, kt⟩ : ∃ t : String, TyX K H cv (.type t) ∧ PySem.W.kitOne K (.type t) (.ref C) = some false := by
        rcases nc with rfl | ⟨x, rfl⟩
        · exact ⟨_, .base .non, KC.n⟩
        · exact ⟨_, .base (.str x), KC.s⟩
      exact ⟨_, _, _, _, _, rfl, .own C, ty, kt, _, rfl, iteT (qf H (Same.refl _))⟩
    · refine ⟨_, _, _, _, _, rfl, .own C, M.ty T TE, kit_self, _, rfl, iteF ?_⟩
      obtain ⟨t0, ty0, _, _, k3, _, _⟩ := kt.kinds
      refine ⟨_, rfl, p, D, dx, _, _, rfl, hp, TK.cl, TK.t, lt, _, _, _, _, _, rfl, .ty "tuple", ty0, k3, _, rfl, ?_⟩
      rcases out with nt | ⟨t, cs, rfl, tu, c2, c20, out⟩
      · rw [nt]
        exact iteT (qf H (Same.refl _))
      rw [isT_tup tu]
      refine iteF ?_
      unfold tNext
      dsimp only
      refine ⟨_, rfl, p, D, dx, _, _, rfl, hp, TK.cl, TK.c, lc, _, rfl, p, D, dx, _, _, rfl, hp, TK.cl, TK.t, lt, _, rfl, p, D, dx, _, _, rfl, hp, TK.cl, TK.r, lr, _, rfl, p, D, dx, _, _, rfl, hp, TK.cl, TK.n, lnn, ?_⟩
      refine ⟨q, t, rv, nv, L, ws, nV cs, rfl, M, .inr tu, nV_kn _, by rw [nV_len]; omega, ?_⟩
      rcases out with ne | ⟨ec, ⟨b, lf⟩ | ⟨b, kr, f0, lf⟩⟩
      · exact .inl (.inr (.inr ⟨by rw [nV_len]; omega, by rw [nV_len]; omega, nV_frm cs, by rw [nV_len]; exact ne, fun d H' r => ⟨true, VC.eO, fun _ _ _ => qf _ r.same, fun z => nomatch z⟩⟩))
      · exact .inr ⟨by rw [nV_len]; omega, by rw [nV_len]; omega, nV_frm cs, by rw [nV_len]; exact ec, lf.1, .inl ⟨b, .inr ⟨lf, fun d H' e => ⟨true, VC.eR, fun _ _ _ => qf _ e, fun z => nomatch z⟩⟩⟩⟩
      · exact .inr ⟨by rw [nV_len]; omega, by rw [nV_len]; omega, nV_frm cs, by rw [nV_len]; exact ec, kr, .inr ⟨b, lf.1, .inl ⟨f0, .inr ⟨lf, fun d H' e => ⟨true, VC.eC, fun _ _ _ => qf _ e, fun z => nomatch z⟩⟩⟩⟩⟩
    · obtain ⟨hq, M, ht, tu, ec, n2, n59, hr', hrr, hn, sm⟩ := Y
      subst hq ht hr' hn
      refine ⟨_, _, _, _, _, rfl, .own C, M.ty T TE, kit_self, _, rfl, iteF ?_⟩
      refine ⟨_, rfl, p, D, dx, _, _, rfl, hp, TK.cl, TK.t, lt, _, _, _, _, _, rfl, .ty "tuple", .base (.tup tu), kt_tup.2.2.1, _, rfl, iteF ?_⟩
      unfold tNext
      dsimp only
      refine ⟨_, rfl, p, D, dx, _, _, rfl, hp, TK.cl, TK.c, lc, _, rfl, p, D, dx, _, _, rfl, hp, TK.cl, TK.t, lt, _, rfl, p, D, dx, _, _, rfl, hp, TK.cl, TK.r, lr, _, rfl, p, D, dx, _, _, rfl, hp, TK.cl, TK.n, lnn, ?_⟩
      refine ⟨q, t, _, _, L, ws, nV cs, rfl, M, .inr tu, nV_kn _, by rw [nV_len]; omega, .inr ⟨by rw [nV_len]; omega, by rw [nV_len]; omega, nV_frm cs, by rw [nV_len]; exact ec, .kn (.int _), .inr ⟨decide_eq_true ⟨by omega, by omega⟩, .kn (.int _), .inr ⟨show decide ((0 : Int) ≤ ((c : Nat) : Int)) = true from decide_eq_true (by omega), fun H1 e1 => qt H1 e1⟩⟩⟩⟩
end
end K38
set_option Elab.async false
set_option linter.all false
set_option maxRecDepth 100001
set_option maxHeartbeats 3999999
namespace K38
open PySem L2
open Huff (hf dot Best)
abbrev sIR : Stmt := topS 50
theorem inV_nV (i : Nat) (us : List Nat) : inV (.int ((i : Nat) : Int)) (nV us) = decide (i ∈ us) := by
  unfold inV nV
  rw [Bool.eq_iff_iff, decide_eq_true_iff, List.any_eq_true]
  constructor
  · rintro ⟨x, hx, e⟩
    obtain ⟨u, hu, rfl⟩ := List.mem_map.mp hx
    have e : (((u : Nat) : Int) == ((i : Nat) : Int)) = true := e
    rw [beq_iff_eq] at e
    rw [← Int.ofNat_inj.mp e]
    exact hu
  · intro h
    exact ⟨_, List.mem_map.mpr ⟨i, h, rfl⟩, by show (((i : Nat) : Int) == ((i : Nat) : Int)) = true; rw [beq_iff_eq]⟩
theorem flat_nV' (us : List Nat) : (nV us).all flatV = true := by
  rw [List.all_eq_true]
  intro v hv
  obtain ⟨u, _, rfl⟩ := List.mem_map.mp hv
  rfl
def spIK (K : PySem.W.Frag) (C P1 : Addr) : Sp := fun vs H Q _ => ∃ (p dx : Addr) (cv tv rv nv sv : V), vs = [.ref p] ∧ H p = some (.ins P1 dx (k5F "sign" cv tv rv nv sv)) ∧
  ((NoCt K C H cv tv rv nv ∧ ∀ H', Same H H' → Q (.bl false) H') ∨
   (∃ q t L ws cs r c, YesCt C H cv tv rv nv q t L ws cs r c ∧ Kv K H sv ∧
     ((btw sv 0 (((ws.length : Nat) : Int) - 1) = false ∧ ∀ H', Same H H' → Q (.bl false) H') ∨
      (∃ i : Nat, sv = .int ((i : Nat) : Int) ∧ i < ws.length ∧ ∀ H', Same H H' → Q (.bl (decide (i ∈ sgn ws cs r c))) H'))))
def spIR (K : PySem.W.Frag) (C P2 : Addr) : Sp := fun vs H Q _ => ∃ (p dx : Addr) (cv tv rv nv sv : V), vs = [.ref p] ∧ H p = some (.ins P2 dx (k5F "other" cv tv rv nv sv)) ∧
  ((NoCt K C H cv tv rv nv ∧ ∀ H', Same H H' → Q (.bl false) H') ∨
   (∃ q t L ws cs r c, YesCt C H cv tv rv nv q t L ws cs r c ∧
     (((sv = .non ∨ ∃ a xs, sv = .ref a ∧ H a = some (.tup xs)) ∧ ∀ H', Same H H' → Q (.bl false) H') ∨
      (∃ qc L' ls ws', sv = .ref qc ∧ IsCo C H qc L' ls ws' ∧ Sm ls ∧ ((ls.length ≠ ws.length + 1 ∧ ∀ H', Same H H' → Q (.bl false) H') ∨
        (ls.length = ws.length + 1 ∧ ∀ H', Same H H' → Q (.bl ((sgn ws cs r c).isEmpty && decide (dot ls (grw cs r c) = hf (grw cs r c)))) H'))))))
section
variable {P : Program} {w : World} {K : PySem.W.Frag} {mg : Str → Option Value} {base : Heap}
theorem lbS : Lb "sign" := ⟨by decide +kernel, by decide +kernel, by decide +kernel, by decide +kernel⟩
theorem lbO : Lb "other" := ⟨by decide +kernel, by decide +kernel, by decide +kernel, by decide +kernel⟩
theorem scIK : FnScope ["kept"] ["kept"] (defScope sIK) := ⟨rfl, rfl, rfl, by decide +kernel, rfl, by decide +kernel, by decide +kernel⟩
theorem ok_ik {f C P1 : Addr} {fd : FuncData} (F : Fun K "is_kept" "is_kept" sIK f fd) (T : TxC K C) (TK : TxK K P1 "sign") (cI : Cal CX0 P w K mg base 8 "is_counted" (spIC K C)) (cB : Cal CX0 P w K mg base 2 "is_between" (spBetweenV K)) (cP : Cal CX0 P w K mg base 3 "least_parted" (spLP C)) : FnOk P w K mg base CX0 9 f fd ["kept"] (spIK K C P1) := by
  refine F.ok scIK (fun vs H Q E h => ?_) (fun cdv A outer s H vs Q E hr h => ?_)
  · obtain ⟨p, dx, cv, tv, rv, nv, sv, rfl, _⟩ := h
    rfl
  · obtain ⟨p, dx, cv, tv, rv, nv, sv, rfl, hp, out⟩ := h
    refine ⟨_, (pss_cons (ps_if (PW.pt (pw_or (pt_not (pt_val (pe_c cI hr pass0 (pa_cons (pv 0) pa_nil)))) (pw_or1 (pt_not (pt_val (pe_c cB hr pass0 (pa_cons (pe_fld (pv 0) rfl) (pa_cons pe_int (pa_cons (pe_op op_sub (pe_fld (pe_fld (pv 0) rfl) rfl) pe_int) pa_nil))))))))) (pss_one (ps_ret pe_bl)) pss_nil)
      (pss_one (ps_ret (pe_cmpR op_in_seq (pe_fld (pv 0) rfl) (pe_c cP hr pass0 (pa_cons (pe_fld (pv 0) rfl) (pa_cons (pe_fld (pv 0) rfl) (pa_cons (pe_fld (pv 0) rfl) (pa_cons (pe_fld (pv 0) rfl) pa_nil))))) rfl)))), ?_⟩
    have lc := k5_code "sign" cv tv rv nv sv lbS.h1
    have lt := k5_counts "sign" cv tv rv nv sv lbS.h2
    have lr := k5_rank "sign" cv tv rv nv sv lbS.h3
    have lnn := k5_count "sign" cv tv rv nv sv lbS.h4
    have ls := k5_last "sign" cv tv rv nv sv
    refine ⟨_, rfl, p, dx, P1, "sign", cv, tv, rv, nv, sv, rfl, hp, TK, lbS, ?_⟩
    rcases out with ⟨nc, qf⟩ | ⟨q, t, L, ws, cs, r, c, Y, ks, out⟩
    · exact .inl ⟨nc, fun H1 e1 => ⟨_, rfl, iteT (qf H1 e1)⟩⟩
    refine .inr ⟨⟨q, t, L, ws, cs, r, c, Y⟩, fun H1 e1 => ⟨_, rfl, iteF ?_⟩⟩
    obtain ⟨hq, M, ht, tu, ec, n2, n59, hr', hrr, hn, sm⟩ := Y
    subst hq ht hr' hn
    have hp1 := e1 _ _ hp
    obtain ⟨dxc, lt', wt', tr', m1, m2, m3⟩ := M.same e1
    refine ⟨_, rfl, p, P1, dx, _, _, rfl, hp1, TK.cl, TK.s, ls, _, rfl, p, P1, dx, _, _, rfl, hp1, TK.cl, TK.c, lc, q, C, dxc, _, _, rfl, m1, T.cl, T.s, co_size _ _ _ _ _, _, _, rfl, rfl, sv, 0, ((ws.length : Nat) : Int) - 1, by rw [lens_len]; rfl, ks.same e1, _, rfl, ?_⟩
    rcases out with ⟨b, qf⟩ | ⟨i, rfl, hi, qi⟩
    · rw [b]
      exact iteT (qf H1 e1)
    rw [show btw (.int ((i : Nat) : Int)) 0 (((ws.length : Nat) : Int) - 1) = true from decide_eq_true ⟨by omega, by omega⟩]
    refine iteF ?_
    dsimp only
    refine ⟨_, rfl, p, P1, dx, _, _, rfl, hp1, TK.cl, TK.s, ls, _, rfl, p, P1, dx, _, _, rfl, hp1, TK.cl, TK.c, lc, _, rfl, p, P1, dx, _, _, rfl, hp1, TK.cl, TK.t, lt, _, rfl, p, P1, dx, _, _, rfl, hp1, TK.cl, TK.r, lr, _, rfl, p, P1, dx, _, _, rfl, hp1, TK.cl, TK.n, lnn, ?_⟩
    refine ⟨q, t, L, ws, cs, r, c, rfl, M.same e1, .inr (e1 _ _ tu), ec, by omega, by omega, hrr, sm, fun D H2 e2 nD hD => ?_⟩
    refine ⟨D, _, rfl, .inl (SqL.of hD), rfl, flat_nV' _, ?_⟩
    rw [inV_nV]
    exact qi H2 (e1.trans e2)
theorem scIR : FnScope ["recoded"] ["recoded"] (defScope sIR) := ⟨rfl, rfl, rfl, by decide +kernel, rfl, by decide +kernel, by decide +kernel⟩
theorem ok_ir {f C P2 CT CA CO : Addr} {fd : FuncData} (F : Fun K "is_recoded" "is_recoded" sIR f fd) (B : Bi mg) (T : TxC K C) (TE : TxE K C) (KC : KtC K C) (TK : TxK K P2 "other") (gC : mg "Code" = some (.ref C)) (cI : Cal CX0 P w K mg base 8 "is_counted" (spIC K C)) (cP : Cal CX0 P w K mg base 3 "least_parted" (spLP C)) (cW : Cal CX0 P w K mg base 1 "with_count" spWC)
    (cL : Cal (L2.CX P w) P w K mg base 7 "is_least" (spIL C CT CA CO)) : FnOk P w K mg base CX0 9 f fd ["recoded"] (spIR K C P2) := by
  refine F.ok scIR (fun vs H Q E h => ?_) (fun cdv A outer s H vs Q E hr h => ?_)
  · obtain ⟨p, dx, cv, tv, rv, nv, sv, rfl, _⟩ := h
    rfl
  · obtain ⟨p, dx, cv, tv, rv, nv, sv, rfl, hp, out⟩ := h
    refine ⟨_, (pss_cons (ps_if (PW.pt (pw_or (pt_not (pt_val (pe_c cI hr pass0 (pa_cons (pv 0) pa_nil)))) (pw_or1 (pt_not (pt_val (pe_isi B.isi (pa_cons (pe_fld (pv 0) rfl) (pa_cons (pe_glob (v := .ref C) rfl gC rfl) pa_nil)))))))) (pss_one (ps_ret pe_bl)) pss_nil)
      (pss_cons (ps_if (pt_cmpR op_ne (pe_fld (pe_fld (pv 0) rfl) rfl) (pe_op op_add (pe_fld (pe_fld (pv 0) rfl) rfl) pe_int) (nomark _)) (pss_one (ps_ret pe_bl)) pss_nil)
      (pss_cons (ps_if (pt_truth (pe_c cP hr pass0 (pa_cons (pe_fld (pv 0) rfl) (pa_cons (pe_fld (pv 0) rfl) (pa_cons (pe_fld (pv 0) rfl) (pa_cons (pe_fld (pv 0) rfl) pa_nil))))) (fun _ => rfl)) (pss_one (ps_ret pe_bl)) pss_nil)
      (pss_one (ps_ret (pe_c cL hr passL (pa_cons (pe_fld (pv 0) rfl) (pa_cons (pe_c cW hr pass0 (pa_cons (pe_fld (pv 0) rfl) (pa_cons (pe_fld (pv 0) rfl) (pa_cons (pe_fld (pv 0) rfl) pa_nil)))) pa_nil)))))))), ?_⟩
    have lc := k5_code "other" cv tv rv nv sv lbO.h1
    have lt := k5_counts "other" cv tv rv nv sv lbO.h2
    have lr := k5_rank "other" cv tv rv nv sv lbO.h3
    have lnn := k5_count "other" cv tv rv nv sv lbO.h4
    have ls' := k5_last "other" cv tv rv nv sv
    refine ⟨_, rfl, p, dx, P2, "other", cv, tv, rv, nv, sv, rfl, hp, TK, lbO, ?_⟩
    rcases out with ⟨nc, qf⟩ | ⟨q, t, L, ws, cs, r, c, Y, out⟩
    · exact .inl ⟨nc, fun H1 e1 => ⟨_, rfl, iteT (qf H1 e1)⟩⟩
    refine .inr ⟨⟨q, t, L, ws, cs, r, c, Y⟩, fun H1 e1 => ⟨_, rfl, iteF ?_⟩⟩
    obtain ⟨hq, M, ht, tu, ec, n2, n59, hr', hrr, hn, sm⟩ := Y
    subst hq ht hr' hn
    have hp1 := e1 _ _ hp
    have M1 := M.same e1
    obtain ⟨dxc, lt', wt', tr', m1, m2, m3⟩ := id M1
    refine ⟨_, rfl, p, P2, dx, _, _, rfl, hp1, TK.cl, TK.s, ls', ?_⟩
    rcases out with ⟨nc, qf⟩ | ⟨qc, L', ls, ws', rfl, co, sml, out⟩
    · rcases nc with rfl | ⟨a, xs, rfl, ha⟩
      · exact ⟨_, _, _, _, _, rfl, .own C, .base .non, KC.n, _, rfl, iteT (qf H1 e1)⟩
      · exact ⟨_, _, _, _, _, rfl, .own C, .base (.tup (e1 _ _ ha)), TE.kT, _, rfl, iteT (qf H1 e1)⟩
    have co1 := co.same e1
    refine ⟨_, _, _, _, _, rfl, .own C, co1.ty T TE, kit_self, _, rfl, iteF ?_⟩
    unfold tNext
    dsimp only
    obtain ⟨dxd, lt2, wt2, tr2, g1, g2, g3⟩ := id co1
    refine ⟨_, rfl, p, P2, dx, _, _, rfl, hp1, TK.cl, TK.s, ls', qc, C, dxd, _, _, rfl, g1, T.cl, T.s, co_size _ _ _ _ _, _, rfl, p, P2, dx, _, _, rfl, hp1, TK.cl, TK.c, lc, q, C, dxc, _, _, rfl, m1, T.cl, T.s, co_size _ _ _ _ _, _, _, rfl, rfl, rfl, _, rfl, ?_⟩
    rw [lens_len]
    rcases out with ⟨ne, qf⟩ | ⟨eq, qi⟩
    · rw [decide_eq_false (show ¬ V.int ((ls.length : Nat) : Int) = V.int (((ws.length : Nat) : Int) + 1) from fun z => by
        injection z with z
        omega)]
      exact iteT (qf H1 e1)
    rw [decide_eq_true (show V.int ((ls.length : Nat) : Int) = V.int (((ws.length : Nat) : Int) + 1) by rw [eq]; rfl)]
    refine iteF ?_
    dsimp only
    refine ⟨_, rfl, p, P2, dx, _, _, rfl, hp1, TK.cl, TK.c, lc, _, rfl, p, P2, dx, _, _, rfl, hp1, TK.cl, TK.t, lt, _, rfl, p, P2, dx, _, _, rfl, hp1, TK.cl, TK.r, lr, _, rfl, p, P2, dx, _, _, rfl, hp1, TK.cl, TK.n, lnn, ?_⟩
    refine ⟨q, t, L, ws, cs, r, c, rfl, M1, .inr (e1 _ _ tu), ec, by omega, by omega, hrr, sm, fun D H2 e2 nD hD => ?_⟩
    refine ⟨_, .inl ⟨_, SqL.of hD, rfl⟩, ?_⟩
    have e12 := e1.trans e2
    have hp2 := e12 _ _ hp
    by_cases em : sgn ws cs r c = []
    · rw [em] at qi ⊢
      refine iteF ?_
      dsimp only
      refine ⟨_, rfl, p, P2, dx, _, _, rfl, hp2, TK.cl, TK.s, ls', _, rfl, p, P2, dx, _, _, rfl, hp2, TK.cl, TK.t, lt, _, rfl, p, P2, dx, _, _, rfl, hp2, TK.cl, TK.r, lr, _, rfl, p, P2, dx, _, _, rfl, hp2, TK.cl, TK.n, lnn, ?_⟩
      refine ⟨t, cs, r, c, rfl, .inr (e12 _ _ tu), by omega, by omega, fun D2 H3 e3 nD2 hD2 => ?_⟩
      have gl := grw_len (c := c) (show r ≤ cs.length by omega)
      refine ⟨qc, D2, L', ls, ws', _, rfl, (co.same e12).same e3, .inl hD2, nV_kn _, by rw [nV_len]; omega, .inr ⟨by rw [nV_len]; omega, by rw [nV_len]; omega, by rw [nV_len]; omega, sml, _, rfl, fun H4 e4 => ?_⟩⟩
      exact qi H4 (e12.trans (e3.trans e4))
    · have ne : (sgn ws cs r c).isEmpty = false := by
        rw [List.isEmpty_eq_false_iff]
        exact em
      have ne2 : (nV (sgn ws cs r c)).isEmpty = false := by
        rw [List.isEmpty_eq_false_iff]
        intro z
        exact em (by simpa [nV] using z)
      rw [ne2]
      rw [ne] at qi
      exact iteT (qi H2 e12)
end
end K38
set_option Elab.async false
set_option linter.all false
set_option maxRecDepth 100001
set_option maxHeartbeats 3999999
namespace K38
open PySem L2
open Huff (hf dot Best)
abbrev sLPt : Stmt := topS 65
abbrev sRS : Stmt := topS 66
abbrev sSCt : Stmt := topS 67
theorem dot_put {ws : List W} {cs : List Nat} {i r c : Nat} (e : cs.length = ws.length) (hi : i < ws.length) : dot (lens (putW ws i r)) (grw cs r c) = lAt cs i + c * (lAt (lens ws) i + 1) + dot (lens ws) cs := by
  have hl : i < (lens ws).length := by rw [lens_len]; exact hi
  have el : lens (putW ws i r) = ((lens ws).set i ((lens ws)[i] + 1)).take r ++ [ws[i].length + 1] ++ ((lens ws).set i ((lens ws)[i] + 1)).drop r := by
    unfold putW lens
    rw [getD_at hi]
    simp [List.map_append, List.map_take, List.map_drop, List.map_set]
  have sl : ((lens ws).set i ((lens ws)[i] + 1)).length = cs.length := by rw [List.length_set, lens_len, e]
  have ds := dot_set (ls := lens ws) (cs := cs) (by rw [lens_len, e]) hl
  rw [el]
  unfold grw
  have li : lAt (lens ws) i = ws[i].length := by rw [lAt_get hl, List.getElem_map]
  rw [li, show lAt cs i = cs.getD i 0 from rfl]
  generalize (lens ws).set i ((lens ws)[i] + 1) = L at sl ds ⊢
  rw [List.append_assoc, List.append_assoc, dot_app _ _ (by rw [List.length_take, List.length_take, sl]), List.singleton_append, List.singleton_append, Huff.dot_cons]
  rw [dot_split L cs r sl] at ds
  omega
theorem sgp_put {ws : List W} {cs : List Nat} {i r c : Nat} (e : cs.length = ws.length) (hi : i < ws.length) : decide (dot (lens (putW ws i r)) (grw cs r c) = hf (grw cs r c)) = sgp ws cs r c i := by
  unfold sgp
  rw [dot_put e hi]
def spLPt : Sp := fun vs H Q _ => ∃ (wp : Addr) (ws : List W) (i r : Nat), vs = [.ref wp, .int ((i : Nat) : Int), .int ((r : Nat) : Int)] ∧ H wp = some (.lst (ws.map wV)) ∧ i < ws.length ∧ r ≤ ws.length ∧ ws.length ≤ 60 ∧ (∀ w ∈ ws, w.length ≤ 60) ∧
  ∀ D H', Same H H' → H D = none → H' D = some (.lst ((putW ws i r).map wV)) → Q (.ref D) H'
def spRS : Sp := fun vs H Q _ => ∃ (wp gp : Addr) (ws : List W) (cs : List Nat) (r c : Nat), vs = [.ref wp, .ref gp, .int ((r : Nat) : Int)] ∧ H wp = some (.lst (ws.map wV)) ∧ H gp = some (.lst (nV (grw cs r c))) ∧ cs.length = ws.length ∧ r ≤ ws.length ∧ 1 ≤ ws.length ∧ ws.length ≤ 50 ∧ (∀ w ∈ ws, w.length ≤ 50) ∧
  ∀ D H', Same H H' → H D = none → H' D = some (.lst (nV (sgn ws cs r c))) → Q (.ref D) H'
def spSCt : Sp := fun vs H Q _ => ∃ (pn cl cp : Addr) (cs : List Nat) (b : Nat), vs = [.ref pn, .ref cp] ∧ Pen H pn cl b ∧ H cp = some (.lst (nV cs)) ∧ 1 ≤ cs.length ∧ cs.length ≤ 100 ∧ b ≤ 90000 ∧
  ∀ (c : Nat) H', But pn H H' → Pen H' pn cl (b + 5) → Q (.int ((c : Nat) : Int)) H'
section
variable {P : Program} {w : World} {K : PySem.W.Frag} {mg : Str → Option Value} {base : Heap}
theorem scLPt : FnScope ["_law_words_here", "_law_sign", "_law_rank", "_law_found"] ["_law_words_here", "_law_sign", "_law_rank"] (defScope sLPt) := ⟨rfl, rfl, rfl, by decide +kernel, rfl, by decide +kernel, by decide +kernel⟩
theorem ok_lpt {f : Addr} {fd : FuncData} (F : Fun K "_law_parted" "_law_parted" sLPt f fd) (B : Bi mg) : FnOk P w K mg base CX0 1 f fd ["_law_words_here", "_law_sign", "_law_rank"] spLPt := by
  refine F.ok scLPt (fun vs H Q E h => ?_) (fun cdv A outer s H vs Q E hr h => ?_)
  · obtain ⟨wp, ws, i, r, rfl, _⟩ := h
    rfl
  · obtain ⟨wp, ws, i, r, rfl, hw, hi, hrr, l60, lw60, q⟩ := h
    refine ⟨_, (pss_cons (ps_set (i := 3) scLPt.nd rfl (Or.inl rfl) (pe_callTy call_list_of rfl B.list (by decide +kernel) (pa_cons (pv 0) pa_nil)))
      (pss_cons (ps_asg (pe_op op_add_str (pe_ix ix_list (pv 0) (pv 1) (fun _ _ => rfl)) pe_str) (pg_sub (pv 3) (pv 1) set_list))
      (pss_one (ps_ret (pe_op op_cat (pe_op op_cat (pe_slice sl_list (pv 3) po_none (po_some (pv 2))) (pe_lst (pa_cons (pe_op op_add_str (pe_ix ix_list (pv 0) (pv 1) (fun _ _ => rfl)) pe_str) pa_nil))) (pe_slice sl_list (pv 3) (po_some (pv 2)) po_none)))))), ?_⟩
    refine ⟨_, rfl, wp, _, rfl, .inl (SqL.of hw), fun t nt => ?_⟩
    have e1 := same_new (o := .lst (ws.map wV)) nt
    have ht : upd H t (.lst (ws.map wV)) t = some (.lst (ws.map wV)) := upd_same
    have nwt : wp ≠ t := ne_of_none hw nt
    generalize upd H t (.lst (ws.map wV)) = H1 at e1 ht ⊢
    have hw1 := e1 _ _ hw
    have lw := lw60 _ (List.getElem_mem hi)
    have sz : ∀ z : Str, z.length = 1 → (bS ws[i]).length + z.length ≤ sizeLine := fun z hz => by
      rw [bS_len, hz]
      exact Nat.le_of_lt (small10 (by omega))
    refine ⟨_, rfl, _, rfl, wp, _, _, _, rfl, rfl, SqL.of hw1, atI_nat (wV_at hi), bS ws[i], "0", rfl, rfl, sz _ rfl, ?_⟩
    rw [show V.str (bS ws[i] ++ ("0" : Str)) = wV (ws[i] ++ [false]) from wV_snoc ws[i] false]
    refine ⟨_, rfl, _, rfl, t, _, _, i, rfl, rfl, ht, ixn (by rw [List.length_map]; exact hi), ?_⟩
    rw [← List.map_set]
    have e2 : ButI t H1 (upd H1 t (.lst ((ws.set i (ws[i] ++ [false])).map wV))) := fun b o n z => (upd_ne n).trans z
    have ht2 : upd H1 t (.lst ((ws.set i (ws[i] ++ [false])).map wV)) t = some (.lst ((ws.set i (ws[i] ++ [false])).map wV)) := upd_same
    have e02 : Same H (upd H1 t (.lst ((ws.set i (ws[i] ++ [false])).map wV))) := fun b o z => e2 _ _ (ne_of_none z nt) (e1 _ _ z)
    generalize upd H1 t (.lst ((ws.set i (ws[i] ++ [false])).map wV)) = H2 at e2 ht2 e02 ⊢
    have hw2 := e2 _ _ nwt hw1
    have lset : ((ws.set i (ws[i] ++ [false])).map wV).length = ws.length := by rw [List.length_map, List.length_set]
    refine ⟨_, rfl, ?_⟩
    delta tNoPart
    refine ⟨_, rfl, _, rfl, t, _, rfl, SqL.of ht2, fun a1 n1 => ?_⟩
    rw [show cutV ((ws.set i (ws[i] ++ [false])).map wV) none (some ((r : Nat) : Int)) = ((ws.set i (ws[i] ++ [false])).map wV).take r from cut_to (by rw [lset]; exact hrr)]
    have e3 := same_new (o := .lst (((ws.set i (ws[i] ++ [false])).map wV).take r)) n1
    have g3 : upd H2 a1 (.lst (((ws.set i (ws[i] ++ [false])).map wV).take r)) a1 = some (.lst (((ws.set i (ws[i] ++ [false])).map wV).take r)) := upd_same
    have hw3 := e3 _ _ hw2
    have ht3 := e3 _ _ ht2
    generalize upd H2 a1 (.lst (((ws.set i (ws[i] ++ [false])).map wV).take r)) = H3 at e3 g3 hw3 ht3 ⊢
    refine ⟨_, rfl, _, rfl, wp, _, _, _, rfl, rfl, SqL.of hw3, atI_nat (wV_at hi), bS ws[i], "1", rfl, rfl, sz _ rfl, ?_⟩
    rw [show V.str (bS ws[i] ++ ("1" : Str)) = wV (ws[i] ++ [true]) from wV_snoc ws[i] true]
    refine ⟨by show 1 ≤ sizeLine; decide, fun a2 n2 => ?_⟩
    have e4 := same_new (o := .lst [wV (ws[i] ++ [true])]) n2
    have g4 : upd H3 a2 (.lst [wV (ws[i] ++ [true])]) a2 = some (.lst [wV (ws[i] ++ [true])]) := upd_same
    have g34 := e4 _ _ g3
    have ht4 := e4 _ _ ht3
    generalize upd H3 a2 (.lst [wV (ws[i] ++ [true])]) = H4 at e4 g4 g34 ht4 ⊢
    refine ⟨a1, a2, _, _, rfl, rfl, g34, g4, ?_, fun a3 n3 => ?_⟩
    · rw [List.length_take, lset]
      exact Nat.le_of_lt (small10 (by show min r ws.length + 1 ≤ 10000; omega))
    have e5 := same_new (o := .lst (((ws.set i (ws[i] ++ [false])).map wV).take r ++ [wV (ws[i] ++ [true])])) n3
    have g5 : upd H4 a3 (.lst (((ws.set i (ws[i] ++ [false])).map wV).take r ++ [wV (ws[i] ++ [true])])) a3 = some (.lst (((ws.set i (ws[i] ++ [false])).map wV).take r ++ [wV (ws[i] ++ [true])])) := upd_same
    have ht5 := e5 _ _ ht4
    generalize upd H4 a3 (.lst (((ws.set i (ws[i] ++ [false])).map wV).take r ++ [wV (ws[i] ++ [true])])) = H5 at e5 g5 ht5 ⊢
    refine ⟨_, rfl, _, rfl, _, rfl, t, _, rfl, SqL.of ht5, fun a4 n4 => ?_⟩
    rw [show cutV ((ws.set i (ws[i] ++ [false])).map wV) (some ((r : Nat) : Int)) none = ((ws.set i (ws[i] ++ [false])).map wV).drop r from cut_from (by rw [lset]; exact hrr)]
    have e6 := same_new (o := .lst (((ws.set i (ws[i] ++ [false])).map wV).drop r)) n4
    have g6 : upd H5 a4 (.lst (((ws.set i (ws[i] ++ [false])).map wV).drop r)) a4 = some (.lst (((ws.set i (ws[i] ++ [false])).map wV).drop r)) := upd_same
    have g56 := e6 _ _ g5
    generalize upd H5 a4 (.lst (((ws.set i (ws[i] ++ [false])).map wV).drop r)) = H6 at e6 g6 g56 ⊢
    have ep : ((ws.set i (ws[i] ++ [false])).map wV).take r ++ [wV (ws[i] ++ [true])] ++ ((ws.set i (ws[i] ++ [false])).map wV).drop r = (putW ws i r).map wV := by
      rw [← List.map_take, ← List.map_drop]
      unfold putW
      rw [getD_at hi, List.map_append, List.map_append]
      rfl
    refine ⟨a3, a4, _, _, rfl, rfl, g56, g6, ?_, fun D nD => ?_⟩
    · rw [List.length_append, List.length_take, List.length_drop, lset]
      exact Nat.le_of_lt (small10 (by show min r ws.length + 1 + (ws.length - r) ≤ 10000; omega))
    rw [ep]
    have e36 := (e3.trans e4).trans (e5.trans e6)
    exact q D _ (e02.trans (e36.trans (same_new nD))) (Same.none' (e02.trans e36) nD) upd_same
end
end K38
set_option Elab.async false
set_option linter.all false
set_option maxRecDepth 100001
set_option maxHeartbeats 3999999
namespace K38
open PySem L2
open Huff (hf dot Best)
section
variable {P : Program} {w : World} {K : PySem.W.Frag} {mg : Str → Option Value} {base : Heap}
abbrev NRS : List Str := ["_law_words_here", "_law_grown", "_law_rank", "_law_found", "_law_least_here", "_law_sign", "_law_lengths", "_law_word"]
theorem scRS : FnScope NRS ["_law_words_here", "_law_grown", "_law_rank"] (defScope sRS) := ⟨rfl, rfl, rfl, by decide +kernel, rfl, by decide +kernel, by decide +kernel⟩
theorem ok_rs {f : Addr} {fd : FuncData} (F : Fun K "_law_right_signs" "_law_right_signs" sRS f fd) (B : Bi mg) (cL : Cal CX0 P w K mg base 1 "_law_least" spLLe) (cP : Cal CX0 P w K mg base 1 "_law_parted" spLPt) (cC : Cal CX0 P w K mg base 1 "_law_cost" spLCo) : FnOk P w K mg base CX0 2 f fd ["_law_words_here", "_law_grown", "_law_rank"] spRS := by
  refine F.ok scRS (fun vs H Q E h => ?_) (fun cdv A outer s H vs Q E hr h => ?_)
  · obtain ⟨wp, gp, ws, cs, r, c, rfl, _⟩ := h
    rfl
  · obtain ⟨wp, gp, ws, cs, r, c, rfl, hw, hg, ec, hrr, w1, w50, lw, q⟩ := h
    refine ⟨_, (pss_cons (ps_par (i := 3) (j := 4) rfl scRS.nd rfl rfl (by decide) rfl rfl (pa_cons (pe_lst pa_nil) (pa_cons (pe_c cL hr pass0 (pa_cons (pv 1) pa_nil)) pa_nil)) rfl)
      (pss_cons (ps_for PassesOwn.never rfl (pi_range1 rfl B.range (pa_cons (pe_len B.len (pa_cons (pv 0) pa_nil)) pa_nil)) (pg_name (i := 5) scRS.nd rfl (.inl rfl)) (pss_cons (ps_setLc (i := 6) (own := [("_law_word", 7)]) rfl scRS.nd rfl rfl (sw_true rfl rfl rfl (by decide +kernel)) (pi_sqA (pe_c cP hr pass0 (pa_cons (pv 0) (pa_cons (pv 5) (pa_cons (pv 2) pa_nil))))) (blkOk_by (N := NRS) (sc := defScope sRS) (by decide +kernel)) (fun _ _ _ _ _ => pg_name (i := 7) scRS.nd rfl (Or.inl rfl)) (fun _ _ _ _ _ => pts_nil) (fun _ _ _ _ _ => pe_lenS B.len (pa_cons (pv 7) pa_nil))) (pss_one (ps_if (pt_cmpR op_eq (pe_c cC hr pass0 (pa_cons (pv 6) (pa_cons (pv 1) pa_nil))) (pv 4) (nomark _)) (pss_one (ps_expr (pe_bm PySem.F.plainAttrs_list PySem.F.slot_list_append PySem.F.type_list_append mt_append (pv 3) (pa_cons (pv 5) pa_nil)))) pss_nil))))
      (pss_one (ps_ret (pv 3))))), ?_⟩
    have gl := grw_len (c := c) (show r ≤ cs.length by omega)
    refine ⟨by show 0 ≤ sizeLine; decide, fun D nD => ?_⟩
    have e1 := same_new (o := .lst []) nD
    have hD1 : upd H D (.lst []) D = some (.lst (nV [])) := upd_same
    have hg1 := e1 _ _ hg
    generalize upd H D (.lst []) = H1 at e1 hD1 hg1 ⊢
    refine ⟨_, rfl, gp, _, rfl, hg1, by omega, fun H2 e2 => ?_⟩
    have hD2 := e2 _ _ hD1
    have e12 := e1.trans e2
    have hw2 := e12 _ _ hw
    refine ⟨_, _, rfl, ?_⟩
    dsimp only
    refine ⟨_, rfl, wp, _, rfl, .inl (SqL.of hw2), ?_⟩
    rw [List.length_map]
    refine ⟨_, rfl, by omega, by omega, ?_⟩
    rw [Int.toNat_natCast]
    refine for_range (D := { nx := _, rt := Q, bk := fun _ _ => False, ct := fun _ _ => False }) (fun i σ H' => ∃ (o5 o6 : Option V), σ = [some (.ref wp), some (.ref gp), some (.int ((r : Nat) : Int)), some (.ref D), some (.int ((hf (grw cs r c) : Nat) : Int)), o5, o6, none] ∧ Same H H' ∧ H' D = some (.lst (nV ((List.range i).filter (sgp ws cs r c))))) ⟨_, _, rfl, e12, hD2⟩ ?_ ?_
    · rintro i σ H3 hi ⟨o5, o6, rfl, e3, hD3⟩
      refine gN ?_
      have hw3 := e3 _ _ hw
      refine ⟨_, rfl, _, rfl, _, rfl, wp, ws, 0 + i, r, ?_, hw3, by omega, hrr, by omega, fun w' hw' => by have := lw w' hw'; omega, fun D4 H4 e4 nD4 hD4 => ?_⟩
      · rfl
      rw [Nat.zero_add] at hD4
      have pl := putW_len (r := r) hi
      refine ⟨D4, _, rfl, .inl (SqL.of hD4), fun J G wk hG D5 nD5 => lcM wk (fun k => .int ((lAt (lens (putW ws i r)) k : Nat) : Int)) (by rw [List.length_map]; omega) nD5 (fun H' e => hG H' fun o z => e _ _ z) ?_ ?_⟩
      · rintro k x H5 H6 N hk e5 ⟨rfl, hx⟩ fin
        rw [List.length_map] at hk
        have hx' : x = wV (putW ws i r)[k] := by
          rw [wV_at hk] at hx
          exact (Option.some.inj hx).symm
        subst hx'
        have lp : (putW ws i r)[k].length ≤ 100 := by
          have hm := (putW_perm (r := r) hi).subset (List.getElem_mem hk)
          rcases List.mem_append.mp hm with z | z
          · have := lw _ (List.mem_of_mem_eraseIdx z)
            omega
          · have := lw _ (List.getElem_mem hi)
            simp only [List.mem_cons, List.not_mem_nil, or_false] at z
            rcases z with z | z <;> rw [z, List.length_append] <;> show _ + 1 ≤ 100 <;> omega
        refine ⟨rfl, _, rfl, bS (putW ws i r)[k], rfl, bS_le (by omega), ?_⟩
        have f := fin _ (Same.refl _)
        have li : k < (lens (putW ws i r)).length := by rw [lens_len]; exact hk
        rw [lAt_get li, List.getElem_map] at f
        rw [bS_len]
        exact f
      intro H5 e5 hD5
      rw [nV_range, List.length_map] at hD5
      have el : (List.range (putW ws i r).length).map (lAt (lens (putW ws i r))) = lens (putW ws i r) := by
        refine List.ext_getElem (by simp) fun k h1 h2 => ?_
        rw [List.getElem_map, List.getElem_range, lAt_get h2]
      rw [el] at hD5
      refine gN ?_
      dsimp only
      have e35 := e4.trans e5
      have hg5 := e35 _ _ (e3 _ _ hg)
      have sm : Sm (lens (putW ws i r)) := fun l hl => by
        obtain ⟨w', hw', rfl⟩ := List.mem_map.mp hl
        have hm := (putW_perm (r := r) hi).subset hw'
        show w'.length ≤ 100
        rcases List.mem_append.mp hm with z | z
        · have := lw _ (List.mem_of_mem_eraseIdx z)
          omega
        · have := lw _ (List.getElem_mem hi)
          simp only [List.mem_cons, List.not_mem_nil, or_false] at z
          rcases z with z | z <;> rw [z, List.length_append] <;> show _ + 1 ≤ 100 <;> omega
      refine ⟨_, rfl, _, rfl, D5, gp, _, _, rfl, .inl hD5, hg5, by rw [lens_len]; omega, by rw [lens_len]; omega, sm, fun H6 e6 => ?_⟩
      refine ⟨_, rfl, rfl, _, rfl, ?_⟩
      have e36 := e35.trans e6
      have ev : decide (V.int ((dot (lens (putW ws i r)) (grw cs r c) : Nat) : Int) = V.int ((hf (grw cs r c) : Nat) : Int)) = sgp ws cs r c i := by
        rw [← sgp_put ec hi, dec_int, Bool.eq_iff_iff, beq_iff_eq, decide_eq_true_iff]
        exact Int.ofNat_inj
      rw [ev]
      have hD6 := e36 _ _ hD3
      have tk : (List.range (i + 1)).filter (sgp ws cs r c) = (List.range i).filter (sgp ws cs r c) ++ [i].filter (sgp ws cs r c) := by rw [List.range_succ, List.filter_append]
      have lu : ((List.range i).filter (sgp ws cs r c)).length ≤ 60 := Nat.le_trans (List.length_filter_le _ _) (by rw [List.length_range]; omega)
      rw [tk]
      by_cases g : sgp ws cs r c i = true
      · rw [g]
        refine iteT ⟨_, rfl, .inl ⟨rfl, _, SqL.of hD6⟩, _, rfl, D, _, _, rfl, rfl, hD6, by rw [nV_len]; exact small10 (by omega), ?_⟩
        refine ⟨_, _, rfl, fun b o z => (upd_ne (ne_of_none z nD)).trans ((e3.trans e36) _ _ z), ?_⟩
        rw [upd_same, List.filter_cons, if_pos g, List.filter_nil, nV_app]
        show some (HO.lst (_ ++ [V.int (0 + ((i : Nat) : Int))])) = _
        rw [Int.zero_add]
        rfl
      · have g' : sgp ws cs r c i = false := by simpa using g
        rw [g']
        refine iteF ⟨_, _, rfl, e3.trans e36, ?_⟩
        rw [List.filter_cons, if_neg g, List.filter_nil, List.append_nil]
        exact hD6
    · rintro σ H3 ⟨o5, o6, rfl, e3, hD3⟩
      exact ⟨_, rfl, q D H3 e3 nD hD3⟩
end
end K38
set_option Elab.async false
set_option linter.all false
set_option maxRecDepth 100001
set_option maxHeartbeats 3999999
namespace K38
open PySem L2
open Huff (hf dot Best)
theorem sum_int (l : List Nat) : (l.map fun c : Nat => (c : Int)).sum = ((l.sum : Nat) : Int) := by
  induction l with
  | nil => rfl
  | cons a r ih => rw [List.map_cons, List.sum_cons, List.sum_cons, ih, Int.natCast_add]
section
variable {P : Program} {w : World} {K : PySem.W.Frag} {mg : Str → Option Value} {base : Heap}
theorem scSCt : FnScope ["_law_pen", "_law_counts", "_law_near"] ["_law_pen", "_law_counts"] (defScope sSCt) := ⟨rfl, rfl, rfl, by decide +kernel, rfl, by decide +kernel, by decide +kernel⟩
theorem ok_sct {f : Addr} {fd : FuncData} (F : Fun K "_law_some_count" "_law_some_count" sSCt f fd) (B : Bi mg) (Z : Bs mg) (cD : Cal CX0 P w K mg base 1 "_law_draw" spDraw) (cK : Cal CX0 P w K mg base 2 "_law_pick" spPick) : FnOk P w K mg base CX0 3 f fd ["_law_pen", "_law_counts"] spSCt := by
  refine F.ok scSCt (fun vs H Q E h => ?_) (fun cdv A outer s H vs Q E hr h => ?_)
  · obtain ⟨pn, cl, cp, cs, b, rfl, _⟩ := h
    rfl
  · obtain ⟨pn, cl, cp, cs, b, rfl, pen, hc, c1, c100, hb, q⟩ := h
    refine ⟨_, (pss_cons (ps_set (i := 2) scSCt.nd rfl (Or.inl rfl) (pe_op op_add (pe_c cK hr pass0 (pa_cons (pv 0) (pa_cons (pv 1) pa_nil))) (pe_c cK hr pass0 (pa_cons (pv 0) (pa_cons (pe_lst (pa_cons pe_int (pa_cons pe_int (pa_cons pe_int pa_nil)))) pa_nil)))))
      (pss_one (ps_ret (pe_c cK hr pass0 (pa_cons (pv 0) (pa_cons (pe_lst (pa_cons (pe_c cD hr pass0 (pa_cons (pv 0) (pa_cons pe_int pa_nil))) (pa_cons (pv 2) (pa_cons (pv 2) (pa_cons (pe_op op_add (pe_sum rfl Z.sum (pa_cons (pv 1) pa_nil)) (pe_c cD hr pass0 (pa_cons (pv 0) (pa_cons pe_int pa_nil)))) (pa_cons (pe_op op_pow pe_int pe_int) pa_nil)))))) pa_nil)))))), ?_⟩
    have nat_of : ∀ x ∈ nV cs, ∃ c : Nat, x = .int ((c : Nat) : Int) := fun x hx => by
      obtain ⟨c, _, rfl⟩ := List.mem_map.mp hx
      exact ⟨c, rfl⟩
    refine ⟨_, rfl, _, rfl, pn, cl, cp, _, b, rfl, pen, by omega, hc, by rw [nV_len]; omega, by rw [nV_len]; omega, fun x H1 mx b1 pen1 => ?_⟩
    obtain ⟨c1', rfl⟩ := nat_of x mx
    have hc1 := b1 _ _ (pen.ne hc fun _ z => nomatch z) hc
    refine ⟨_, rfl, by show 3 ≤ sizeLine; decide, fun l nl => ?_⟩
    have e2 := same_new (o := .lst [.int 0, .int 1, .int 2]) nl
    refine ⟨pn, cl, l, _, _, rfl, pen1.same e2, by omega, upd_same, by show 0 < 3; decide, by show 3 ≤ 1000; decide, fun x H3 mx b3 pen3 => ?_⟩
    have : ∃ d : Nat, x = .int ((d : Nat) : Int) := by
      simp only [List.mem_cons, List.not_mem_nil, or_false] at mx
      rcases mx with rfl | rfl | rfl
      · exact ⟨0, rfl⟩
      · exact ⟨1, rfl⟩
      · exact ⟨2, rfl⟩
    obtain ⟨d, rfl⟩ := this
    have hc3 := b3 _ _ ((pen1.same e2).ne (e2 _ _ hc1) fun _ z => nomatch z) (e2 _ _ hc1)
    refine ⟨_, _, rfl, rfl, ?_⟩
    refine gN ?_
    refine ⟨_, rfl, _, rfl, pn, cl, 5, _, rfl, pen3, by omega, by decide, by decide, fun r H4 r1 r2 b4 pen4 => ?_⟩
    obtain ⟨r, rfl⟩ := Int.eq_ofNat_of_zero_le r1
    have hc4 := b4 _ _ (pen3.ne hc3 fun _ z => nomatch z) hc3
    refine ⟨_, rfl, _, rfl, _, rfl, cp, cs.map fun c : Nat => (c : Int), rfl, SqL.of (by rw [← nV_I]; exact hc4), _, rfl, pn, cl, 3, _, rfl, pen4, by omega, by decide, by decide, fun r' H5 r3 r4 b5 pen5 => ?_⟩
    obtain ⟨r', rfl⟩ := Int.eq_ofNat_of_zero_le r3
    refine ⟨_, _, rfl, rfl, _, _, rfl, rfl, ⟨by decide, by decide, by decide⟩, by show 5 ≤ sizeLine; decide, fun l2 nl2 => ?_⟩
    have e6 := same_new (o := .lst [.int ((r : Nat) : Int), .int (((c1' : Nat) : Int) + ((d : Nat) : Int)), .int (((c1' : Nat) : Int) + ((d : Nat) : Int)), .int ((cs.map fun c : Nat => (c : Int)).sum + ((r' : Nat) : Int)), .int ((10 : Int) ^ (39 : Int).toNat)]) nl2
    refine ⟨pn, cl, l2, _, _, rfl, pen5.same e6, by omega, upd_same, by show 0 < 5; decide, by show 5 ≤ 1000; decide, fun x H7 mx b7 pen7 => ?_⟩
    have : ∃ c : Nat, x = .int ((c : Nat) : Int) := by
      simp only [List.mem_cons, List.not_mem_nil, or_false] at mx
      rcases mx with rfl | rfl | rfl | rfl | rfl
      · exact ⟨r, rfl⟩
      · exact ⟨c1' + d, rfl⟩
      · exact ⟨c1' + d, rfl⟩
      · exact ⟨cs.sum + r', by show V.int ((cs.map fun c : Nat => (c : Int)).sum + ((r' : Nat) : Int)) = _; rw [sum_int]; rfl⟩
      · exact ⟨10 ^ 39, congrArg V.int (by decide)⟩
    obtain ⟨cc, rfl⟩ := this
    refine q cc H7 ?_ (pen7.mono (by omega))
    intro z o n hz
    exact b7 _ _ n (e6 _ _ (b5 _ _ n (b4 _ _ n (b3 _ _ n (e2 _ _ (b1 _ _ n hz))))))
end
end K38
set_option Elab.async false
set_option linter.all false
set_option maxRecDepth 100001
set_option maxHeartbeats 3999999
namespace K38
open PySem L2
abbrev sMet : Stmt := topS 64
def tMR (C : Addr) : Addr → Value → Option Addr → TS := fun a cls d => tRet (tTup (tCons (tC (.str "rank")) (tCons (tXf a cls d C "rank" (tVar 1)) tNil)))
def tMT (C : Addr) : Addr → Value → Option Addr → TS := fun a cls d => tRet (tTup (tCons (tXf a cls d C "what" (tVar 1)) (tCons (tXf a cls d C "many" (tVar 1)) (tCons (tXf a cls d C "most" (tVar 1)) tNil))))
def tMN (C : Addr) : Addr → Value → Option Addr → TS := fun a cls d => tRet (tTup (tCons (tC (.str "count")) (tCons (tXf a cls d C "count" (tVar 1)) tNil)))
def tMO (C : Addr) : Addr → Value → Option Addr → TS := fun a cls d => tRet (tTup (tCons (tC (.str "size")) (tCons (tXf a cls d C "many" (tVar 1)) (tCons (tXf a cls d C "wanted" (tVar 1)) tNil))))
theorem takes_len {X : Cx} {W : WX} {n : Nat} (e : X.N.length = n) (tk : Takes X W) : Takes X (fun cls d σ H => σ.length = n → W cls d σ H) := fun u s' ⟨a, B, sI, pins, σ, H, cls, d, e1, I, nb, up, sky, na, os, ag, w⟩ =>
  tk u s' ⟨a, B, sI, pins, σ, H, cls, d, e1, I, nb, up, sky, na, os, ag, w (I.len.trans e)⟩
theorem pe_mono {X : Cx} {e : Expr} {te : TE} (h : PE X e te) : PE X e fun σ H Q => ∃ Q' : VK, (∀ x H1, Q' x H1 → Q x H1) ∧ te σ H Q' :=
  ⟨fun pins s σ H Q I ⟨Q', m, k⟩ => wpAny_mono (h.run pins s σ H Q' I k) (fun u s1 ⟨v, H1, I1, r, q⟩ => ⟨v, H1, I1, r, m _ _ q⟩) fun _ _ z => z⟩
/-- what comes of a call that is refused -/
def rM (CR CT CN CO : Addr) (Q : VK) : XK := fun cls d H' =>
  (cls = .ref CR ∧ ∃ dd vrank, d = some dd ∧ H' dd = some (.xd [("rank", vrank)]) ∧ ∀ t, H' t = none → Q (.ref t) (upd H' t (.tup [.str "rank", vrank]))) ∨
  (cls = .ref CT ∧ ∃ dd vwhat vmany vmost, d = some dd ∧ H' dd = some (.xd [("most", vmost), ("many", vmany), ("what", vwhat)]) ∧ ∀ t, H' t = none → Q (.ref t) (upd H' t (.tup [vwhat, vmany, vmost]))) ∨
  (cls = .ref CN ∧ ∃ dd vcount, d = some dd ∧ H' dd = some (.xd [("count", vcount)]) ∧ ∀ t, H' t = none → Q (.ref t) (upd H' t (.tup [.str "count", vcount]))) ∨
  (cls = .ref CO ∧ ∃ dd vmany vwanted, d = some dd ∧ H' dd = some (.xd [("wanted", vwanted), ("many", vmany)]) ∧ ∀ t, H' t = none → Q (.ref t) (upd H' t (.tup [.str "size", vmany, vwanted])))
def TTm (CR CT CN CO : Addr) : (XK → Hp → VK → Prop) → Hp → VK → Prop := fun tl H Q => tl (rM CR CT CN CO Q) H fun _ H' => ∀ t, H' t = none → Q (.ref t) (upd H' t (.tup []))
structure Cts (K : PySem.W.Frag) (mg : Str → Option Value) (CR CT CN CO : Addr) : Prop where
  xR : Ct K mg "BadRank" CR
  xT : Ct K mg "TooMany" CT
  xN : Ct K mg "BadCount" CN
  xO : Ct K mg "OtherSize" CO
  nR_rank : PySem.W.findIn K (.ref CR) "rank" = some none
  nT_what : PySem.W.findIn K (.ref CT) "what" = some none
  nT_many : PySem.W.findIn K (.ref CT) "many" = some none
  nT_most : PySem.W.findIn K (.ref CT) "most" = some none
  nN_count : PySem.W.findIn K (.ref CN) "count" = some none
  nO_many : PySem.W.findIn K (.ref CO) "many" = some none
  nO_wanted : PySem.W.findIn K (.ref CO) "wanted" = some none
  e10 : PySem.W.exmOne K (.ref CT) (.ref CR) = some false
  e20 : PySem.W.exmOne K (.ref CN) (.ref CR) = some false
  e21 : PySem.W.exmOne K (.ref CN) (.ref CT) = some false
  e30 : PySem.W.exmOne K (.ref CO) (.ref CR) = some false
  e31 : PySem.W.exmOne K (.ref CO) (.ref CT) = some false
  e32 : PySem.W.exmOne K (.ref CO) (.ref CN) = some false
theorem scMet : FnScope ["_law_call", "e"] ["_law_call"] (defScope sMet) := ⟨rfl, rfl, rfl, by decide +kernel, rfl, by decide +kernel, by decide +kernel⟩
theorem met_gives {X : Cx} {g CR CT CN CO : Addr} {cdg : Value} {q : Str} (T : Cts X.K X.mg CR CT CN CO) : LamX.GivesTo X ["_law_call", "e"] "_law_met" (defScope sMet) g cdg (defBody sMet) "_law_call" q (TTm CR CT CN CO) := by
  intro f c' s H Q tl act hc h
  refine ⟨_, pss_cons (ps_try_clauses
      (tb := fun W D σ H => ∃ Ech : XK, (∀ cls d σ' H', Ech cls d H' → σ'.length = 2 → W cls d σ' H') ∧ σ[0]? = some (some (.ref f)) ∧ H c' = some (LamX.CodeO c' q) ∧ ∃ Q' : VK, (∀ x H1, Q' x H1 → D.nx σ H1) ∧ tl Ech H Q') (Wout := fun _ _ _ _ => False)
        (l := [(.ref CR, some 1, tMR CR), (.ref CT, some 1, tMT CT), (.ref CN, some 1, tMN CN), (.ref CO, some 1, tMO CO)]) rfl rfl scMet.nd LamX.takes0
        (fun W pn xe tk _ => ?_)
        (.named ⟨rfl, by decide, .inl T.xR.g⟩ rfl rfl (fun a oe cls d pn hz hf => pss_one (ps_ret (pe_tup (pa_cons pe_str (pa_cons (pe_xf T.xR.T T.nR_rank hz hf (pv 1)) pa_nil)))))
        (.named ⟨rfl, by decide, .inl T.xT.g⟩ rfl rfl (fun a oe cls d pn hz hf => pss_one (ps_ret (pe_tup (pa_cons (pe_xf T.xT.T T.nT_what hz hf (pv 1)) (pa_cons (pe_xf T.xT.T T.nT_many hz hf (pv 1)) (pa_cons (pe_xf T.xT.T T.nT_most hz hf (pv 1)) pa_nil))))))
        (.named ⟨rfl, by decide, .inl T.xN.g⟩ rfl rfl (fun a oe cls d pn hz hf => pss_one (ps_ret (pe_tup (pa_cons pe_str (pa_cons (pe_xf T.xN.T T.nN_count hz hf (pv 1)) pa_nil)))))
        (.named ⟨rfl, by decide, .inl T.xO.g⟩ rfl rfl (fun a oe cls d pn hz hf => pss_one (ps_ret (pe_tup (pa_cons pe_str (pa_cons (pe_xf T.xO.T T.nO_many hz hf (pv 1)) (pa_cons (pe_xf T.xO.T T.nO_wanted hz hf (pv 1)) pa_nil))))))
        .nil)))))
      (pss_one (ps_ret (pe_tup pa_nil))), ?_⟩
  · refine ⟨fun pins s' σ H' D I h' => ?_⟩
    obtain ⟨Eq, hW, h1, h2, Q', h4, h3⟩ := h'
    have hp := fun p1 p2 => pe_mono (act _ pn xe Eq p1 p2 (takes_len (n := 2) rfl tk) fun cls d σ' H' e => hW cls d σ' H' e)
    refine (pss_one (ps_expr (hp _ _))).run pins s' σ H' D I ?_
    exact ⟨Q', h4, h1, h2, h3⟩
  · refine ⟨rM CR CT CN CO Q, fun cls d σ' H' e hl => ?_, rfl, hc, _, ?_, h⟩
    · match σ', hl with
      | [u0, u1], _ =>
        rcases e with ⟨rfl, dd, vrank, rfl, hd, k⟩ | ⟨rfl, dd, vwhat, vmany, vmost, rfl, hd, k⟩ | ⟨rfl, dd, vcount, rfl, hd, k⟩ | ⟨rfl, dd, vmany, vwanted, rfl, hd, k⟩
        · refine ⟨true, T.xR.me, fun _ a na => ?_, fun z => nomatch z⟩
          exact ⟨_, rfl, rfl, rfl, dd, _, _, rfl, hd, rfl, by show 2 ≤ sizeLine; decide, fun t nt => k t nt⟩
        · refine ⟨false, T.e10, (fun z => nomatch z), fun _ => ⟨true, T.xT.me, fun _ a na => ?_, fun z => nomatch z⟩⟩
          exact ⟨_, rfl, rfl, rfl, dd, _, _, rfl, hd, rfl, _, rfl, rfl, rfl, dd, _, _, rfl, hd, rfl, _, rfl, rfl, rfl, dd, _, _, rfl, hd, rfl, by show 3 ≤ sizeLine; decide, fun t nt => k t nt⟩
        · refine ⟨false, T.e20, (fun z => nomatch z), fun _ => ⟨false, T.e21, (fun z => nomatch z), fun _ => ⟨true, T.xN.me, fun _ a na => ?_, fun z => nomatch z⟩⟩⟩
          exact ⟨_, rfl, rfl, rfl, dd, _, _, rfl, hd, rfl, by show 2 ≤ sizeLine; decide, fun t nt => k t nt⟩
        · refine ⟨false, T.e30, (fun z => nomatch z), fun _ => ⟨false, T.e31, (fun z => nomatch z), fun _ => ⟨false, T.e32, (fun z => nomatch z), fun _ => ⟨true, T.xO.me, fun _ a na => ?_, fun z => nomatch z⟩⟩⟩⟩
          exact ⟨_, rfl, rfl, rfl, dd, _, _, rfl, hd, rfl, _, rfl, rfl, rfl, dd, _, _, rfl, hd, rfl, by show 3 ≤ sizeLine; decide, fun t nt => k t nt⟩
    · intro x H1 k
      exact ⟨by show 0 ≤ sizeLine; decide, fun t nt => k t nt⟩
section
variable {X : Cx}
/-- _law_met(lambda: ..) -/
theorem pe_met {Tb : List (Addr × Str)} {g c T CR CT CN CO : Addr} {fd : FuncData} {k j : Nat} {params : Arguments} {body : Expr} {scope : Scope} {t : XK → TE} {p lpos pos : Pos} (FA : Fun X.K "_law_met" "_law_met" sMet g fd) (bA : Binds X.K fd ["_law_call"] [])
    (gA : X.mg "_law_met" = some (.ref g)) (C : Cts X.K X.mg CR CT CN CO) (TB : LamX.TabB X.base X.mg c T) (hmT : (T, X.env.qual ++ "<lambda>") ∈ Tb) (hu : ∀ p ∈ Tb, p.1 = T → p.2 = X.env.qual ++ "<lambda>") (hr : Room j X.A) (hk : k + 2 ≤ j) (L : LamX.LamS X.env.scope scope)
    (hbody : ∀ (A : Around) (outer : List Env) (s : Shared) (H : Hp) (E : XK) (f c' : Addr), Room k (A.deeper (LamX.lamEnv X scope s.heap.objs.size f c')) → PE (LamX.lamCx X A outer s H E scope f c') body (t E))
    (hg : Gl X "_law_met" := by rfl) (hcode : X.env.code = .ref c := by rfl) (hdef : defaultsOf params X.env = ([], []) := by rfl)
    (hbind : ∀ (q : Str) (cl : List (Str × Addr)) (pm cv ctv : Value), bindArgs (PySem.W.kla_fn "<lambda>" q params body scope cl pm cv ctv) ⟨[], []⟩ = pure [] := by intros; rfl) :
    PE X (.Call (.Name "_law_met" p) [.Lambda params body scope lpos] [] pos) (LamX.tLam Tb (TTm CR CT CN CO) t) := by
  obtain ⟨oc, od, kV, doc, pm, an, cdv, ct, osl, rfl, lk, hcd⟩ := FA.ex
  exact LamX.pe_lamcall (k := k) hg gA FA.kp lk hcd bA scMet rfl (.inl rfl) (met_gives C) TB hcode hmT hu (hr.mono hk) L hdef hbind hbody
end
end K38
set_option Elab.async false
set_option linter.all false
set_option maxRecDepth 100001
set_option maxHeartbeats 3999999
namespace K38
open PySem L2
open Huff (hf dot Best)
abbrev sAR : Stmt := topS 69
theorem fl_si {x : Str} (h : PyData.strOk x = true) (i : Int) : ∀ v ∈ [V.str x, V.int i], Flat v := fun v m => by
  rcases List.mem_cons.mp m with rfl | m
  · exact h
  · rw [List.mem_singleton.mp m]
    exact True.intro
theorem fl_sii {x : Str} (h : PyData.strOk x = true) (i j : Int) : ∀ v ∈ [V.str x, V.int i, V.int j], Flat v := fun v m => by
  rcases List.mem_cons.mp m with rfl | m
  · exact h
  · rcases List.mem_cons.mp m with rfl | m
    · exact True.intro
    · rw [List.mem_singleton.mp m]
      exact True.intro
theorem cutIf {t : L2.TT} {a b : TS} {D : Ends} {σ : St} {H : Hp} (R : Bool → Hp → Prop) (h1 : ∀ Q : Bool → Hp → Prop, (∀ b H', R b H' → Q b H') → t σ H Q) (h2 : ∀ c H', R c H' → if c = true then a D σ H' else b D σ H') : tIfS t a b D σ H := h1 _ h2
theorem Odd.ks {H H' : Hp} {v : V} {d : PyData} (o : Odd H v d) (e : Ks H H') : Odd H' v d := by
  cases o with
  | flat h => exact .flat h
  | tup z f => exact .tup (e.tl.t _ _ z) f
  | lst z f l => exact .lst (e.tl.l _ _ z) f l
/-- a rank that is none, a count that is none -/
structure Wr (H : Hp) (n : Int) (v : V) (d : PyData) : Prop where
  od : Odd H v d
  no : btw v 0 n = false
  sr : SeqAt.shaped (.tuple [.str "rank", d]) = true
structure Wc (H : Hp) (v : V) (d : PyData) : Prop where
  od : Odd H v d
  no : frm v 0 = false
  sc : SeqAt.shaped (.tuple [.str "count", d]) = true
theorem IsCo.ks {C : Addr} {H H' : Hp} {q : Addr} {L : Nat} {ls : List Nat} {ws : List W} (M : IsCo C H q L ls ws) (e : Ks H H') : IsCo C H' q L ls ws := let ⟨dx, lt, wt, tr, h1, h2, h3⟩ := M; ⟨dx, lt, wt, tr, e.ins h1, e.tl.t _ _ h2, e.tl.t _ _ h3⟩
/-- where the law stands with its code -/
structure CS (C : Addr) (Tb : List (Addr × Str)) (H : Hp) (pn cl : Addr) (b : Nat) (q wp cp : Addr) (L : Nat) (ws : List W) (cs : List Nat) : Prop where
  pt : PT Tb H pn cl b
  co : IsCo C H q L (lens ws) ws
  hw : H wp = some (.lst (ws.map wV))
  hc : H cp = some (.lst (nV cs))
structure CNt (ws : List W) (cs : List Nat) : Prop where
  fw : FW ws
  l2 : 2 ≤ ws.length
  l9 : ws.length ≤ 10
  ec : cs.length = ws.length
section
variable {C : Addr} {Tb : List (Addr × Str)} {H H' : Hp} {pn cl : Addr} {b c : Nat} {q wp cp : Addr} {L : Nat} {ws : List W} {cs : List Nat}
theorem CS.more (S : CS C Tb H pn cl b q wp cp L ws cs) (e : Ks H H') (p : PT Tb H' pn cl c) : CS C Tb H' pn cl c q wp cp L ws cs := ⟨p, S.co.ks e, e.tl.l _ _ S.hw, e.tl.l _ _ S.hc⟩
theorem CS.same (S : CS C Tb H pn cl b q wp cp L ws cs) (e : Same H H') : CS C Tb H' pn cl b q wp cp L ws cs := S.more (Ks.of e) (S.pt.same e)
theorem CS.but (S : CS C Tb H pn cl b q wp cp L ws cs) (e : But pn H H') (p : Pen H' pn cl c) : CS C Tb H' pn cl c q wp cp L ws cs := S.more (Ks.pen S.pt.pen e) (S.pt.but e p)
theorem CS.ext (S : CS C Tb H pn cl b q wp cp L ws cs) (e : LamX.ExtN H H') (t : LamX.Tabs Tb H') : CS C Tb H' pn cl b q wp cp L ws cs := S.more (Ks.ext e) (S.pt.ext e t)
end
abbrev NAR : List Str := ["_law_pen", "_law_words_here", "_law_counts", "_law_code_here", "_law_many", "_law_odd", "_law_wrong"]
theorem scAR : FnScope NAR ["_law_pen", "_law_words_here", "_law_counts"] (defScope sAR) := ⟨rfl, rfl, rfl, by decide +kernel, rfl, by decide +kernel, by decide +kernel⟩
def spAR (Tb : List (Addr × Str)) : Sp := fun vs H Q _ => ∃ (pn cl wp cp : Addr) (b : Nat) (ws : List W) (cs : List Nat), vs = [.ref pn, .ref wp, .ref cp] ∧ PT Tb H pn cl b ∧ H wp = some (.lst (ws.map wV)) ∧ H cp = some (.lst (nV cs)) ∧ CNt ws cs ∧ b ≤ 50000 ∧ ∀ H', PT Tb H' pn cl (b + 2) → TL H H' → Q (.bl true) H'
structure ArC (P : Program) (w : World) (K : PySem.W.Frag) (mg : Str → Option Value) (base : Heap) (f c T g C P1 P2 CT CA CO CR CC : Addr) (fd fdA : FuncData) (Tb : List (Addr × Str)) : Prop where
  F : FunL K base mg "_law_are_refused" "_law_are_refused" sAR f c T fd
  B : Bi mg
  cK : Cal CX0 P w K mg base 2 "_law_pick" spPick
  cLC : Cal CX0 P w K mg base 10 "_law_code" (spCf C Tb)
  cPC : Cal (L2.CX P w) P w K mg base 11 "put_counted" (spPC K C P1 P2 CT CA CO CR CC Tb)
  FA : Fun K "_law_met" "_law_met" sMet g fdA
  bA : Binds K fdA ["_law_call"] []
  gA : mg "_law_met" = some (.ref g)
  Ts : Cts K mg CR CT CC CO
  hmT : (T, (("_law_are_refused.<locals>.<lambda>" : String) : Str)) ∈ Tb
  hu : ∀ p ∈ Tb, p.1 = T → p.2 = (("_law_are_refused.<locals>.<lambda>" : String) : Str)
section
variable {P : Program} {w : World} {K : PySem.W.Frag} {mg : Str → Option Value} {base : Heap}
theorem ok_ar {f c T g C P1 P2 CT CA CO CR CC : Addr} {fd fdA : FuncData} {Tb : List (Addr × Str)} (R : ArC P w K mg base f c T g C P1 P2 CT CA CO CR CC fd fdA Tb) : FnOk P w K mg base CX0 14 f fd ["_law_pen", "_law_words_here", "_law_counts"] (spAR Tb) := by
  refine R.F.okX scAR (fun vs H Q E h => ?_) (fun A outer s H vs Q E hr h => ?_)
  · obtain ⟨pn, cl, wp, cp, b, ws, cs, rfl, _⟩ := h
    rfl
  · obtain ⟨pn, cl, wp, cp, b, ws, cs, rfl, pt, hw, hc, N, hb, qq⟩ := h
    obtain ⟨F, B, cK, cLC, cPC, FA, bA, gA, Ts, hmT, hu⟩ := id R
    refine ⟨_, (pss_cons (ps_asg (pe_tup (pa_cons (pe_c cLC hr pass0 (pa_cons (pv 1) pa_nil)) (pa_cons (pe_len B.len (pa_cons (pv 1) pa_nil)) pa_nil))) (pg_tup rfl (pgs_cons (pg_name (i := 3) scAR.nd rfl (.inr rfl)) (pgs_cons (pg_name (i := 4) scAR.nd rfl (.inr rfl)) pgs_nil))))
      (pss_cons (ps_set (i := 5) scAR.nd rfl (Or.inr rfl) (pe_c cK hr pass0 (pa_cons (pv 0) (pa_cons (pe_lst (pa_cons (pe_un un_neg pe_int) (pa_cons (pe_op op_add (pv 4) pe_int) (pa_cons pe_non (pa_cons pe_bl (pa_cons pe_str (pa_cons (pe_lst (pa_cons pe_int pa_nil)) pa_nil))))))) pa_nil))))
      (pss_cons (ps_if (pt_cmpR (op_neSmD (hu64 hr)) (by exact pe_met (k := 11) (Tb := Tb) FA bA gA Ts F.tab hmT hu hr (by decide) (LamX.lamS_by (sc := defScope sAR) (by decide +kernel)) (fun A outer s H E f c' hr' => pe_c cPC hr' (passes_call (takes_of rfl rfl rfl rfl) fun _ _ _ _ h => h) (pa_cons (pv 3) (pa_cons (pv 2) (pa_cons (pv 5) (pa_cons (pv 5) pa_nil)))))) (pe_tup (pa_cons pe_str (pa_cons (pv 5) pa_nil))) (nomark _)) (pss_one (ps_ret pe_bl)) pss_nil)
      (pss_cons (ps_set (i := 6) scAR.nd rfl (Or.inr rfl) (pe_c cK hr pass0 (pa_cons (pv 0) (pa_cons (pe_lst (pa_cons (pe_un un_neg pe_int) (pa_cons pe_non (pa_cons pe_bl (pa_cons pe_str (pa_cons (pe_lst (pa_cons pe_int pa_nil)) pa_nil)))))) pa_nil))))
      (pss_cons (ps_if (pt_cmpR (op_neSmD (hu64 hr)) (by exact pe_met (k := 11) (Tb := Tb) FA bA gA Ts F.tab hmT hu hr (by decide) (LamX.lamS_by (sc := defScope sAR) (by decide +kernel)) (fun A outer s H E f c' hr' => pe_c cPC hr' (passes_call (takes_of rfl rfl rfl rfl) fun _ _ _ _ h => h) (pa_cons (pv 3) (pa_cons (pv 2) (pa_cons (pv 4) (pa_cons (pv 6) pa_nil)))))) (pe_tup (pa_cons pe_str (pa_cons (pv 6) pa_nil))) (nomark _)) (pss_one (ps_ret pe_bl)) pss_nil)
      (pss_one (ps_ret (pe_cmpR (op_eqSmD (hu64 hr)) (by exact pe_met (k := 11) (Tb := Tb) FA bA gA Ts F.tab hmT hu hr (by decide) (LamX.lamS_by (sc := defScope sAR) (by decide +kernel)) (fun A outer s H E f c' hr' => pe_c cPC hr' (passes_call (takes_of rfl rfl rfl rfl) fun _ _ _ _ h => h) (pa_cons (pv 3) (pa_cons (pe_op op_cat (pv 2) (pe_lst (pa_cons pe_int pa_nil))) (pa_cons (pv 5) (pa_cons (pv 6) pa_nil)))))) (pe_tup (pa_cons pe_str (pa_cons (pe_op op_add (pv 4) pe_int) (pa_cons (pv 4) pa_nil)))) (nomark _))))))))), ?_⟩
    have l2 := N.l2
    have l9 := N.l9
    have ec := N.ec
    refine ⟨_, rfl, wp, ws, rfl, hw, N.fw.cw1 l2 (by omega), pt.tabs, fun q L H1 co nq f1 tab1 => ?_⟩
    have pt1 := pt.ext f1 tab1
    have S1 : CS C Tb H1 pn cl b q wp cp L ws cs := ⟨pt1, co, f1 _ _ hw (fun _ z => nomatch z), f1 _ _ hc (fun _ z => nomatch z)⟩
    refine ⟨_, rfl, wp, _, rfl, .inl (SqL.of S1.hw), by show 2 ≤ sizeLine; decide, fun t nt => ⟨t, _, rfl, SqT.of upd_same, rfl, _, _, rfl, _, _, rfl, rfl, ?_⟩⟩
    have e2 := same_new (o := .tup [.ref q, .int (((ws.map wV).length : Nat) : Int)]) nt
    have S2 := S1.same e2
    have eH2 := (Ks.ext f1).trans (Ks.of e2)
    generalize upd H1 t (.tup [.ref q, .int (((ws.map wV).length : Nat) : Int)]) = H2 at e2 S2 eH2 ⊢
    clear pt1 S1 co hw hc pt
    rw [List.length_map]
    refine ⟨_, rfl, _, rfl, _, rfl, _, _, rfl, rfl, by show 1 ≤ sizeLine; decide, fun o1 n1 => ?_⟩
    have e3 := same_new (o := .lst [.int 0]) n1
    have g3 : upd H2 o1 (.lst [.int 0]) o1 = some (.lst [.int 0]) := upd_same
    have S3 := S2.same e3
    generalize upd H2 o1 (.lst [.int 0]) = H3 at e3 g3 S3 ⊢
    refine ⟨by show 6 ≤ sizeLine; decide, fun l nl => ?_⟩
    have e4 := same_new (o := .lst [.int (-1), .int (((ws.length : Nat) : Int) + 1), .non, .bl true, .str "0", .ref o1]) nl
    have S4 := S3.same e4
    have g4 := e4 _ _ g3
    have hl4 : upd H3 l (.lst [.int (-1), .int (((ws.length : Nat) : Int) + 1), .non, .bl true, .str "0", .ref o1]) l = some (.lst [.int (-1), .int (((ws.length : Nat) : Int) + 1), .non, .bl true, .str "0", .ref o1]) := upd_same
    have all6 : ∀ v ∈ [V.int (-1), .int (((ws.length : Nat) : Int) + 1), .non, .bl true, .str "0", .ref o1], ∃ d, Wr (upd H3 l (.lst [.int (-1), .int (((ws.length : Nat) : Int) + 1), .non, .bl true, .str "0", .ref o1])) ((ws.length : Nat) : Int) v d := by
      intro v h
      simp only [List.mem_cons, List.not_mem_nil, or_false] at h
      rcases h with rfl | rfl | rfl | rfl | rfl | rfl
      · exact ⟨_, .flat True.intro, show decide (0 ≤ (-1 : Int) ∧ (-1 : Int) ≤ ((ws.length : Nat) : Int)) = false from decide_eq_false (by omega), by decide +kernel⟩
      · exact ⟨_, .flat True.intro, show decide (0 ≤ (((ws.length : Nat) : Int) + 1) ∧ (((ws.length : Nat) : Int) + 1) ≤ ((ws.length : Nat) : Int)) = false from decide_eq_false (by omega), shT_flat (fl_si (by decide +kernel) _)⟩
      · exact ⟨_, .flat True.intro, rfl, by decide +kernel⟩
      · exact ⟨_, .flat True.intro, rfl, by decide +kernel⟩
      · exact ⟨_, .flat (by show PyData.strOk _ = true; decide +kernel), rfl, by decide +kernel⟩
      · exact ⟨_, .lst g4 (fun v hv => by rw [List.mem_singleton.mp hv]; exact True.intro) (by decide), rfl, by decide +kernel⟩
    have eH4 := eH2.trans (Ks.of (e3.trans e4))
    generalize upd H3 l (.lst [.int (-1), .int (((ws.length : Nat) : Int) + 1), .non, .bl true, .str "0", .ref o1]) = H4 at e4 hl4 all6 S4 g4 eH4 ⊢
    refine ⟨pn, cl, l, _, b, rfl, S4.pt.pen, by omega, hl4, by show 0 < 6; decide, by show 6 ≤ 1000; decide, fun odd H5 mx b5 pen5 => ?_⟩
    obtain ⟨d1, w1⟩ := all6 odd mx
    have k5 := Ks.pen S4.pt.pen b5
    have w1 : Wr H5 ((ws.length : Nat) : Int) odd d1 := ⟨w1.od.ks k5, w1.no, w1.sr⟩
    have S5 := S4.but b5 pen5
    have eH5 := eH4.trans k5
    clear all6 mx hl4 e4 g4 e3 g3 S2 S3 S4 eH2 eH4
    refine gN ?_
    dsimp only
    refine cutIf (fun r H' => r = false ∧ LamX.ExtN H5 H' ∧ LamX.Tabs Tb H') (fun Qb fin => ?_) ?_
    · refine ⟨S5.pt.tabs, fun H6 e6 tab6 => ?_⟩
      have S6 := S5.ext e6 tab6
      have od6 := w1.od.ks (Ks.ext e6)
      refine ⟨_, rfl, _, rfl, _, rfl, _, rfl, q, cp, odd, odd, L, ws, nV cs, rfl, S6.co, S6.hc, nV_kn _, by rw [nV_len]; omega, .inr (.inl ⟨by rw [nV_len]; omega, by rw [nV_len]; omega, nV_frm cs, by rw [nV_len]; exact ec, .kn od6.kn, .inl ⟨w1.no, .inl ⟨d1, od6, fun dd H7 r => ?_⟩⟩⟩)⟩
      obtain ⟨v', hv, od7⟩ := r.at_
      refine .inl ⟨rfl, dd, v', rfl, hv, fun t nt => ?_⟩
      have e8 := same_new (o := .tup [.str "rank", v']) nt
      refine ⟨_, rfl, by show 2 ≤ sizeLine; decide, fun t2 nt2 => ?_⟩
      have e9 := same_new (o := .tup [.str "rank", odd]) nt2
      have e79 := e8.trans e9
      exact ⟨.tuple [.str "rank", d1], .tup (SqT.of (e9 _ _ upd_same)) (.cons (.str _) (.cons (od7.same e79).dp .nil)), .tup (SqT.of upd_same) (.cons (.str _) (.cons ((od6.same r.same).same e79).dp .nil)), w1.sr, _, rfl, fin _ _ ⟨rfl, e6.trans (LamX.ExtN.of (r.same.trans e79)), tab6.ext (r.same.trans e79)⟩⟩
    rintro r H6 ⟨rfl, e6, tab6⟩
    refine iteF ?_
    unfold tNext
    dsimp only
    have S6 := S5.ext e6 tab6
    have w16 : Odd H6 odd d1 := w1.od.ks (Ks.ext e6)
    have eH6 := eH5.trans (Ks.ext e6)
    refine ⟨_, rfl, _, rfl, by show 1 ≤ sizeLine; decide, fun o2 n2 => ?_⟩
    have e7 := same_new (o := .lst [.int 0]) n2
    have g7 : upd H6 o2 (.lst [.int 0]) o2 = some (.lst [.int 0]) := upd_same
    have S7 := S6.same e7
    have w17 := w16.same e7
    generalize upd H6 o2 (.lst [.int 0]) = H7 at e7 g7 S7 w17 ⊢
    refine ⟨by show 5 ≤ sizeLine; decide, fun l nl => ?_⟩
    have e8 := same_new (o := .lst [.int (-1), .non, .bl true, .str "0", .ref o2]) nl
    have S8 := S7.same e8
    have g8 := e8 _ _ g7
    have hl8 : upd H7 l (.lst [.int (-1), .non, .bl true, .str "0", .ref o2]) l = some (.lst [.int (-1), .non, .bl true, .str "0", .ref o2]) := upd_same
    have all5 : ∀ v ∈ [V.int (-1), .non, .bl true, .str "0", .ref o2], ∃ d, Wc (upd H7 l (.lst [.int (-1), .non, .bl true, .str "0", .ref o2])) v d := by
      intro v h
      simp only [List.mem_cons, List.not_mem_nil, or_false] at h
      rcases h with rfl | rfl | rfl | rfl | rfl
      · exact ⟨_, .flat True.intro, by decide, by decide +kernel⟩
      · exact ⟨_, .flat True.intro, rfl, by decide +kernel⟩
      · exact ⟨_, .flat True.intro, rfl, by decide +kernel⟩
      · exact ⟨_, .flat (by show PyData.strOk _ = true; decide +kernel), rfl, by decide +kernel⟩
      · exact ⟨_, .lst g8 (fun v hv => by rw [List.mem_singleton.mp hv]; exact True.intro) (by decide), rfl, by decide +kernel⟩
    have eH8 := eH6.trans (Ks.of (e7.trans e8))
    have w18 := w17.same e8
    generalize upd H7 l (.lst [.int (-1), .non, .bl true, .str "0", .ref o2]) = H8 at e8 hl8 all5 S8 g8 eH8 w18 ⊢
    refine ⟨pn, cl, l, _, _, rfl, S8.pt.pen, by omega, hl8, by show 0 < 5; decide, by show 5 ≤ 1000; decide, fun wrong H9 mx b9 pen9 => ?_⟩
    obtain ⟨d2, w2⟩ := all5 wrong mx
    have k9 := Ks.pen S8.pt.pen b9
    have w2 : Wc H9 wrong d2 := ⟨w2.od.ks k9, w2.no, w2.sc⟩
    have w19 := w18.ks k9
    have S9 := S8.but b9 pen9
    have eH9 := eH8.trans k9
    clear all5 mx hl8 e8 g8 e7 g7 S7 S8 S6 S5 eH8 eH6 eH5 w18 w17 w16
    refine gN ?_
    dsimp only
    refine cutIf (fun r H' => r = false ∧ LamX.ExtN H9 H' ∧ LamX.Tabs Tb H') (fun Qb fin => ?_) ?_
    · refine ⟨S9.pt.tabs, fun H10 e10 tab10 => ?_⟩
      have S10 := S9.ext e10 tab10
      have od10 := w2.od.ks (Ks.ext e10)
      refine ⟨_, rfl, _, rfl, _, rfl, _, rfl, q, cp, _, wrong, L, ws, nV cs, rfl, S10.co, S10.hc, nV_kn _, by rw [nV_len]; omega, .inr (.inl ⟨by rw [nV_len]; omega, by rw [nV_len]; omega, nV_frm cs, by rw [nV_len]; exact ec, .kn (.int _), .inr ⟨decide_eq_true ⟨by omega, by omega⟩, .kn od10.kn, w2.no, .inl ⟨d2, od10, fun dd H11 r => ?_⟩⟩⟩)⟩
      obtain ⟨v', hv, od11⟩ := r.at_
      refine .inr (.inr (.inl ⟨rfl, dd, v', rfl, hv, fun t nt => ?_⟩))
      have e12 := same_new (o := .tup [.str "count", v']) nt
      refine ⟨_, rfl, by show 2 ≤ sizeLine; decide, fun t2 nt2 => ?_⟩
      have e13 := same_new (o := .tup [.str "count", wrong]) nt2
      have e14 := e12.trans e13
      exact ⟨.tuple [.str "count", d2], .tup (SqT.of (e13 _ _ upd_same)) (.cons (.str _) (.cons (od11.same e14).dp .nil)), .tup (SqT.of upd_same) (.cons (.str _) (.cons ((od10.same r.same).same e14).dp .nil)), w2.sc, _, rfl, fin _ _ ⟨rfl, e10.trans (LamX.ExtN.of (r.same.trans e14)), tab10.ext (r.same.trans e14)⟩⟩
    rintro r H10 ⟨rfl, e10, tab10⟩
    refine iteF ?_
    dsimp only
    have S10 := S9.ext e10 tab10
    have od1 := w19.ks (Ks.ext e10)
    have od2 := w2.od.ks (Ks.ext e10)
    refine ⟨tab10, fun H11 e11 tab11 => ?_⟩
    have S11 := S10.ext e11 tab11
    have od1 := od1.ks (Ks.ext e11)
    have od2 := od2.ks (Ks.ext e11)
    refine ⟨_, rfl, _, rfl, by show 1 ≤ sizeLine; decide, fun z nz => ?_⟩
    have e12 := same_new (o := .lst [.int 0]) nz
    have g12 : upd H11 z (.lst [.int 0]) z = some (.lst [.int 0]) := upd_same
    have S12 := S11.same e12
    generalize upd H11 z (.lst [.int 0]) = H12 at e12 g12 S12 ⊢
    refine ⟨cp, z, nV cs, [.int 0], rfl, rfl, S12.hc, g12, Nat.le_of_lt (small10 (by rw [nV_len]; show cs.length + 1 ≤ 10000; omega)), fun cp2 ncp2 => ?_⟩
    rw [show nV cs ++ [V.int 0] = nV (cs ++ [0]) by rw [nV_app]; rfl]
    have e13 := same_new (o := .lst (nV (cs ++ [0]))) ncp2
    have g13 : upd H12 cp2 (.lst (nV (cs ++ [0]))) cp2 = some (.lst (nV (cs ++ [0]))) := upd_same
    have S13 := S12.same e13
    generalize upd H12 cp2 (.lst (nV (cs ++ [0]))) = H13 at e13 g13 S13 ⊢
    have lc : (nV (cs ++ [0])).length = ws.length + 1 := by rw [nV_len, List.length_append, ec]; rfl
    refine ⟨_, rfl, _, rfl, q, cp2, odd, wrong, L, ws, _, rfl, S13.co, g13, nV_kn _, by omega, .inl (.inr (.inr ⟨by omega, by omega, nV_frm _, by omega, fun d H14 r => ?_⟩))⟩
    refine .inr (.inr (.inr ⟨rfl, d, _, _, rfl, r.at_, fun t nt => ?_⟩))
    refine ⟨_, rfl, _, _, rfl, rfl, _, rfl, by show 3 ≤ sizeLine; decide, fun t2 nt2 => ?_⟩
    rw [lc] at nt2 ⊢
    refine rSmE_of nt nt2 (fl_sii (by decide +kernel) _ _) fun H15 e15 => ?_
    have e1215 := (e12.trans e13).trans (r.same.trans e15)
    have pt15 := S11.pt.same e1215
    exact qq H15 ⟨pt15.pen.mono (by omega), pt15.tabs⟩ (eH9.trans ((Ks.ext e10).trans ((Ks.ext e11).trans (Ks.of e1215)))).tl
end
end K38
set_option Elab.async false
set_option linter.all false
set_option maxRecDepth 100001
set_option maxHeartbeats 3999999
namespace K38
open PySem L2
open Huff (hf dot Best)
/-! ### repr of what is flat -/
def reprV : V → Str
  | .non => "None"
  | .bl b => if b then "True" else "False"
  | .int i => toString i
  | .str x => reprText x
  | _ => ""
/-- small enough to be told -/
def RpOk : V → Prop
  | .non | .bl _ => True
  | .int i => i.natAbs.log2 < 1920
  | .str x => (reprText x).length ≤ sizeLine
  | _ => False
section
variable {X : Cx}
theorem call_reprF : CallR X (.builtin "repr") (fun xs H Q => ∃ v, xs = [v] ∧ RpOk v ∧ Q (.str (reprV v)) H) := by
  intro pins s σ H xs us Q I r h
  obtain ⟨v, rfl, hv, q⟩ := h
  obtain ⟨u, rfl, ru⟩ := vals1 r
  cases v with
  | non =>
    cases ru
    exact PySem.P.repr_of_none ⟨.str _, H, I.tok _, ⟨_, rfl⟩, q⟩
  | bl b =>
    cases ru
    exact PySem.P.repr_of_bool ⟨.str _, H, I.tok _, ⟨_, rfl⟩, q⟩
  | int i =>
    obtain ⟨t, rfl⟩ := ru
    exact PySem.P.repr_of_int hv ⟨.str _, H, I.tok _, ⟨_, rfl⟩, q⟩
  | str x =>
    obtain ⟨t, rfl⟩ := ru
    exact PySem.P.repr_of_str ⟨.str _, H, I.tok _, ⟨_, rfl⟩, q⟩ hv
  | _ => exact hv.elim
end
theorem fc_top {ls : List Nat} (f : FC ls) (n2 : 2 ≤ ls.length) (n5 : ls.length ≤ 60) : ∃ L, L ∈ ls ∧ (∀ x ∈ ls, 1 ≤ x ∧ x ≤ L) ∧ L ≤ 60 ∧ Huff.kl L ls = 2 ^ L := by
  obtain ⟨L, Lm, LM⟩ := Huff.le_max (l := ls) (by
    rintro rfl
    simp at n2)
  have h := f.hi L Lm
  exact ⟨L, Lm, fun x hx => ⟨f.lo x hx, LM x hx⟩, by omega, Huff.kl_max (L := 60) (by omega) LM f.kl⟩
/-- a code is made of the lengths of a full code -/
theorem mk_fc {C CT CL CN CB CG p dx lp : Addr} {Tb : List (Addr × Str)} {H : Hp} {ls : List Nat} {R : Hp → Prop} {E : XK} (f : FC ls) (n2 : 2 ≤ ls.length) (n5 : ls.length ≤ 60) (hl : H lp = some (.lst (nV ls))) (tabs : LamX.Tabs Tb H) (np : H p = none) (ndx : H dx = none)
    (k : ∀ L ws H' os, (IsOrd ls os ∧ CanoOf ls os ws) → IsCo C H' p L ls ws → LamX.ExtN H H' → LamX.Tabs Tb H' → R H') : spCoI C CT CL CN CB CG Tb [.ref p, .ref lp, .non] (upd (upd H dx (.own p)) p (.ins C dx [])) (fun v H2 => v = .non ∧ R H2) E := by
  obtain ⟨L, Lm, lb, L6, kL⟩ := fc_top f n2 n5
  have e3 : Same H (upd (upd H dx (.own p)) p (.ins C dx [])) := same_ins np ndx
  have hp3 : upd (upd H dx (.own p)) p (.ins C dx []) p = some (.ins C dx []) := upd_same
  generalize upd (upd H dx (.own p)) p (.ins C dx []) = H3 at e3 hp3 ⊢
  exact ⟨p, dx, lp, .non, _, rfl, hp3, .inl (e3 _ _ hl), nV_kn _, tabs.ext e3, by rw [nV_len]; omega, .inr (.inr ⟨by rw [nV_len]; omega, by rw [nV_len]; omega, ls, L, rfl, lb, Lm, L6, .inr (.inl ⟨kL, rfl, fun os ws H8 lt wt tr O Cn bt tab8 hp8 hlt hwt => ⟨rfl,
    k L ws H8 os ⟨O, Cn⟩ ⟨dx, lt, wt, tr, hp8, hlt, hwt⟩ (fun c o z n => bt c o (ne_of_none z np) (e3 _ _ z) n) tab8⟩⟩)⟩)⟩
abbrev sPp : Stmt := topS 68
abbrev NPp : List Str := ["_law_pen", "_law_words_here", "_law_counts", "_law_rank", "_law_count", "_law_right", "_law_code_here", "_law_grown", "_law_some", "_law_sign", "_law_due", "_law_strange", "_law_one", "_law_tally", "_law_spot", "_law_many", "_law_others", "_law_other"]
abbrev PPp : List Str := ["_law_pen", "_law_words_here", "_law_counts", "_law_rank", "_law_count", "_law_right"]
theorem scPp : FnScope NPp PPp (defScope sPp) := ⟨rfl, rfl, rfl, by decide +kernel, rfl, by decide +kernel, by decide +kernel⟩
structure PpC (P : Program) (w : World) (K : PySem.W.Frag) (mg : Str → Option Value) (base : Heap) (f C P1 P2 CT CL CN CB CG : Addr) (fd : FuncData) (Tb : List (Addr × Str)) : Prop where
  F : Fun K "_law_are_papers" "_law_are_papers" sPp f fd
  B : Bi mg
  Z : Bs mg
  mr : mg "repr" = none
  T : TxC K C
  TE : TxE K C
  O : ObC K C
  U : ObK K
  KC : KtC K C
  gC : mg "Code" = some (.ref C)
  cK : Cal CX0 P w K mg base 2 "_law_pick" spPick
  cSh : Cal CX0 P w K mg base 3 "_law_shuffled" spShufF
  cSC : Cal CX0 P w K mg base 4 "_law_some_code" spSC
  cLC : Cal CX0 P w K mg base 10 "_law_code" (spCf C Tb)
  cCo : Cal CX0 P w K mg base 1 "_law_cost" spLCo
  cLe : Cal CX0 P w K mg base 1 "_law_least" spLLe
  cIK : Cal CX0 P w K mg base 9 "is_kept" (spIK K C P1)
  cIR : Cal CX0 P w K mg base 9 "is_recoded" (spIR K C P2)
  mC : MakN (L2.CX P w) P w K mg base 8 "Code" C (spCoI C CT CL CN CB CG Tb)
  mK : Mak CX0 P w K mg base 3 "Kept" P1 (spK5 K P1 "sign")
  mR : Mak CX0 P w K mg base 3 "Recoded" P2 (spK5 K P2 "other")
structure PZ (C : Addr) (Tb : List (Addr × Str)) (H : Hp) (pn cl : Addr) (b : Nat) (q wp cp rp gp : Addr) (L : Nat) (ws : List W) (cs : List Nat) (r c : Nat) : Prop where
  S : CS C Tb H pn cl b q wp cp L ws cs
  hr : H rp = some (.lst (nV (sgn ws cs r c)))
  hg : H gp = some (.lst (nV (grw cs r c)))
theorem PZ.ks {C : Addr} {Tb : List (Addr × Str)} {H H' : Hp} {pn cl : Addr} {b b' : Nat} {q wp cp rp gp : Addr} {L : Nat} {ws : List W} {cs : List Nat} {r c : Nat} (S : PZ C Tb H pn cl b q wp cp rp gp L ws cs r c) (e : Ks H H') (p : PT Tb H' pn cl b') : PZ C Tb H' pn cl b' q wp cp rp gp L ws cs r c := ⟨S.S.more e p, e.tl.l _ _ S.hr, e.tl.l _ _ S.hg⟩
theorem PZ.same {C : Addr} {Tb : List (Addr × Str)} {H H' : Hp} {pn cl : Addr} {b : Nat} {q wp cp rp gp : Addr} {L : Nat} {ws : List W} {cs : List Nat} {r c : Nat} (S : PZ C Tb H pn cl b q wp cp rp gp L ws cs r c) (e : Same H H') : PZ C Tb H' pn cl b q wp cp rp gp L ws cs r c := S.ks (.of e) (S.S.pt.same e)
theorem PZ.ext {C : Addr} {Tb : List (Addr × Str)} {H H' : Hp} {pn cl : Addr} {b : Nat} {q wp cp rp gp : Addr} {L : Nat} {ws : List W} {cs : List Nat} {r c : Nat} (S : PZ C Tb H pn cl b q wp cp rp gp L ws cs r c) (e : LamX.ExtN H H') (t : LamX.Tabs Tb H') : PZ C Tb H' pn cl b q wp cp rp gp L ws cs r c := S.ks (.ext e) (S.S.pt.ext e t)
theorem PZ.but {C : Addr} {Tb : List (Addr × Str)} {H H' : Hp} {pn cl : Addr} {b b' : Nat} {q wp cp rp gp : Addr} {L : Nat} {ws : List W} {cs : List Nat} {r c : Nat} (S : PZ C Tb H pn cl b q wp cp rp gp L ws cs r c) (e : But pn H H') (p : Pen H' pn cl b') : PZ C Tb H' pn cl b' q wp cp rp gp L ws cs r c := S.ks (.pen S.S.pt.pen e) (S.S.pt.but e p)
theorem FW.sm {ws : List W} (h : FW ws) (l : ws.length ≤ 60) : Sm (lens ws) := fun x hx => by
  obtain ⟨w, hw, rfl⟩ := List.mem_map.mp hx
  have := h.hi w hw
  show w.length ≤ 100
  omega
/-- what may stand for the other code -/
def OtV (C : Addr) (H : Hp) (m : Nat) (gp : Addr) (v : V) : Prop := v = .non ∨ v = .ref gp ∨ ∃ q L ls ws, v = .ref q ∧ IsCo C H q L ls ws ∧ Sm ls ∧ (ls.length = m ∨ ls.length = m + 1)
theorem OtV.same {C : Addr} {H H' : Hp} {m : Nat} {gp : Addr} {v : V} (h : OtV C H m gp v) (e : Same H H') : OtV C H' m gp v := by
  rcases h with h | h | ⟨q, L, ls, ws, h1, h2, h3⟩
  · exact .inl h
  · exact .inr (.inl h)
  · exact .inr (.inr ⟨q, L, ls, ws, h1, h2.same e, h3⟩)
section
variable {P : Program} {w : World} {K : PySem.W.Frag} {mg : Str → Option Value} {base : Heap}
abbrev σP (pn wp cp rp q gp : Addr) (r c : Nat) (o8 o9 o10 o11 o12 o13 o14 o15 o16 o17 : Option V) : St := [some (.ref pn), some (.ref wp), some (.ref cp), some (.int ((r : Nat) : Int)), some (.int ((c : Nat) : Int)), some (.ref rp), some (.ref q), some (.ref gp), o8, o9, o10, o11, o12, o13, o14, o15, o16, o17]
theorem zp11 {f C P1 P2 CT CL CN CB CG : Addr} {fd : FuncData} {Tb : List (Addr × Str)} (R : PpC P w K mg base f C P1 P2 CT CL CN CB CG fd Tb) (cdv : Value) (A : Around) (outer : List Env) (s : Shared) (H0 : Hp) (E : XK) (hr : Room 10 (A.deeper (PyProof.Rows.envOfC "_law_are_papers" (defScope sPp) s.heap.objs.size f cdv))) :
    ∃ t, PSs (cxOf CX0 P w K mg base NPp "_law_are_papers" (defScope sPp) f cdv A outer s H0 E).nox ((defBody sPp).drop 11) t ∧
      ∀ (D : Ends) (H : Hp) (pn cl : Addr) (b : Nat) (q wp cp rp gp : Addr) (L : Nat) (ws : List W) (cs : List Nat) (r c : Nat) (o8 o9 o10 o11 o12 o13 o14 o15 o16 o17 : Option V), PZ C Tb H pn cl b q wp cp rp gp L ws cs r c → CNt ws cs → r ≤ ws.length → b ≤ 60000 →
        (∀ H', PT Tb H' pn cl (b + 250) → TL H H' → D.rt (.bl true) H') →
        t D (σP pn wp cp rp q gp r c o8 o9 o10 o11 o12 o13 o14 o15 o16 o17) H := by
  obtain ⟨F, B, Z, mr, T, TE, O, U, KC, gC, cK, cSh, cSC, cLC, cCo, cLe, cIK, cIR, mC, mK, mR⟩ := id R
  refine ⟨_, (pss_cons (ps_set (i := 16) scPp.nd rfl (Or.inl rfl) (pe_lst (pa_cons (pe_mkN mC hr passL (pa_cons (pe_c cSC hr pass0 (pa_cons (pv 0) (pa_cons (pe_len B.len (pa_cons (pv 7) pa_nil)) pa_nil))) pa_nil)) (pa_cons (pe_mkN mC hr passL (pa_cons (pe_c cSC hr pass0 (pa_cons (pv 0) (pa_cons (pe_op op_add (pe_len B.len (pa_cons (pv 7) pa_nil)) pe_int) pa_nil))) pa_nil)) (pa_cons pe_non (pa_cons (pv 7) pa_nil))))))
      (pss_cons (ps_for PassesOwn.never rfl (pi_sqA (pv 16)) (pg_name (i := 17) scPp.nd rfl (.inl rfl)) (pss_cons (ps_set (i := 10) scPp.nd rfl (Or.inl rfl) (pe_and (pe_isi B.isi (pa_cons (pv 17) (pa_cons (pe_glob (v := .ref C) rfl gC rfl) pa_nil))) (pe_and (pe_cmpR op_eq (pe_fld (pv 17) rfl) (pe_len B.len (pa_cons (pv 7) pa_nil)) (nomark _)) (pe_one (pe_cmpR (op_eqN (hu64 hr)) (pv 5) (pe_lst pa_nil) (nomark _)))))) (pss_cons (ps_set (i := 10) scPp.nd rfl (Or.inl rfl) (pe_and (pv 10) (pe_one (pe_cmpR op_eq (pe_c cCo hr pass0 (pa_cons (pe_fld (pv 17) rfl) (pa_cons (pv 7) pa_nil))) (pe_c cLe hr pass0 (pa_cons (pv 7) pa_nil)) (nomark _))))) (pss_one (ps_if (pt_cmpR op_ne (pe_callB call_reprF rfl mr (by decide +kernel) (pa_cons (pe_c cIR hr pass0 (pa_cons (pe_mk mR hr pass0 (pa_cons (pv 6) (pa_cons (pv 2) (pa_cons (pv 3) (pa_cons (pv 4) (pa_cons (pv 17) pa_nil)))))) pa_nil)) pa_nil)) (pe_callB call_reprF rfl mr (by decide +kernel) (pa_cons (pv 10) pa_nil)) (nomark _)) (pss_one (ps_ret pe_bl)) pss_nil)))))
      (pss_one (ps_ret pe_bl)))), ?_⟩
  intro D H pn cl b q wp cp rp gp L ws cs r c o8 o9 o10 o11 o12 o13 o14 o15 o16 o17 S N hrr hb qq
  have l2 := N.l2
  have l9 := N.l9
  have ec := N.ec
  have sm := N.fw.sm (by omega)
  have gl := grw_len (c := c) (show r ≤ cs.length by omega)
  have gnv : (nV (grw cs r c)).length = ws.length + 1 := by rw [nV_len]; omega
  refine ⟨_, rfl, _, rfl, gp, _, rfl, .inl (SqL.of S.hg), ?_⟩
  rw [gnv]
  refine ⟨pn, cl, ws.length + 1, b, rfl, S.S.pt.pen, by omega, by omega, by omega, fun ls1 lp1 H1 fc1 ll1 b1 pen1 nlp1 hl1 => ?_⟩
  have S1 := S.but b1 pen1
  have eH1 := Ks.pen S.S.pt.pen b1
  refine fun q1 dx1 np1 ndx1 ne1 => mk_fc fc1 (by omega) (by omega) hl1 S1.S.pt.tabs np1 ndx1 fun L1 ws1 H2 os1 O1 co1 f2 tab2 => ?_
  have S2 := S1.ext f2 tab2
  have eH2 := eH1.trans (Ks.ext f2)
  refine ⟨_, rfl, _, rfl, gp, _, rfl, .inl (SqL.of S2.hg), ?_⟩
  rw [gnv]
  refine ⟨_, _, rfl, rfl, pn, cl, ws.length + 2, _, rfl, S2.S.pt.pen, by omega, by omega, by omega, fun ls2 lp2 H3 fc2 ll2 b3 pen3 nlp2 hl2 => ?_⟩
  have S3 := S2.but b3 pen3
  have k3 := Ks.pen S2.S.pt.pen b3
  refine fun q2 dx2 np2 ndx2 ne2 => mk_fc fc2 (by omega) (by omega) hl2 S3.S.pt.tabs np2 ndx2 fun L2 ws2 H4 os2 O2 co2 f4 tab4 => ?_
  have S4 := S3.ext f4 tab4
  have k4 := k3.trans (Ks.ext f4)
  have co14 := co1.ks k4
  have eH4 := eH2.trans k4
  refine ⟨_, rfl, by show 4 ≤ sizeLine; decide, fun sl nsl => ?_⟩
  have e5 := same_new (o := .lst [.ref q1, .ref q2, .non, .ref gp]) nsl
  have g5 : upd H4 sl (.lst [.ref q1, .ref q2, .non, .ref gp]) sl = some (.lst [.ref q1, .ref q2, .non, .ref gp]) := upd_same
  have S5 := S4.same e5
  have sm1 : Sm ls1 := fun l hl => by have := fc1.hi l hl; show l ≤ 100; omega
  have sm2 : Sm ls2 := fun l hl => by have := fc2.hi l hl; show l ≤ 100; omega
  have all4 : ∀ v ∈ [V.ref q1, .ref q2, .non, .ref gp], OtV C (upd H4 sl (.lst [.ref q1, .ref q2, .non, .ref gp])) (ws.length + 1) gp v := by
    intro v hv
    simp only [List.mem_cons, List.not_mem_nil, or_false] at hv
    rcases hv with rfl | rfl | rfl | rfl
    · exact .inr (.inr ⟨q1, L1, ls1, ws1, rfl, co14.same e5, sm1, .inl ll1⟩)
    · exact .inr (.inr ⟨q2, L2, ls2, ws2, rfl, co2.same e5, sm2, .inr (by omega)⟩)
    · exact .inl rfl
    · exact .inr (.inl rfl)
  have eH5 := eH4.trans (Ks.of e5)
  generalize upd H4 sl (.lst [.ref q1, .ref q2, .non, .ref gp]) = H5 at e5 g5 S5 all4 eH5 ⊢
  clear S1 S2 S3 S4 hl1 hl2 co14 co1 co2 eH4 eH2 eH1
  refine gN ?_
  dsimp only
  refine ⟨_, rfl, sl, _, rfl, .inl (SqL.of g5), fun J G wk hG => for_it (D := { nx := _, rt := D.rt, bk := fun _ _ => False, ct := fun _ _ => False }) wk (fun i σ H' => ∃ (o10 o17 : Option V), σ = σP pn wp cp rp q gp r c o8 o9 o10 o11 o12 o13 o14 o15 (some (.ref sl)) o17 ∧ Same H5 H') ⟨_, _, rfl, Same.refl _⟩ (fun i σ H' _ ⟨_, _, _, e⟩ => hG H' fun o z => e _ _ z) ?_ ?_⟩
  · rintro i x σ H6 H7 hi ⟨p10, p17, rfl, e6⟩ ⟨rfl, hx⟩
    have ot := (all4 x (List.mem_of_getElem? hx)).same e6
    have S6 := S5.same e6
    clear wk hG
    refine gN ?_
    dsimp only
    have yes : ∀ {H9 : Hp} {t : Addr}, Same H7 H9 → H9 t = some (.tup (nV cs)) → YesCt C H9 (.ref q) (.ref t) (.int ((r : Nat) : Int)) (.int ((c : Nat) : Int)) q t L ws cs r c := fun e ht => ⟨rfl, S6.S.co.same e, rfl, ht, ec, l2, by omega, rfl, hrr, rfl, sm⟩
    have fk : ∀ {H9 : Hp}, Same H7 H9 → FIn K 1 H9 (.ref q) (.lf (.ref q)) ∧ FIn K 1 H9 (.ref cp) (dN cs) := fun e => ⟨fin_lf (lf_co O U (S6.S.co.same e)), fin_n 0 (.inl (e _ _ S6.S.hc)) (by omega)⟩
    rcases ot with rfl | rfl | ⟨qo, Lo, lo, wo, rfl, coo, smo, lco⟩
    · refine ⟨_, rfl, _, _, _, _, _, rfl, .own C, .base .non, KC.n, _, rfl, ?_⟩
      rw [if_neg (by decide)]
      refine gN ?_
      dsimp only
      refine ⟨_, rfl, _, rfl, ?_⟩
      rw [if_neg (by decide)]
      refine gN ?_
      dsimp only
      refine ⟨_, rfl, _, rfl, _, rfl, _, rfl, _, rfl, fun p dx np ndx ne => mk_k5 (fk (Same.refl _)).1 (fk (Same.refl _)).2 (fin_lf (lf_int _)) (fin_lf (lf_int _)) (fin_lf (v := .non) ⟨.kn .non, rfl⟩) np ndx fun a1 a2 a3 a4 a5 H9 e9 hp o1 o2 o3 o4 o5 => ?_⟩
      have z1 := fout_lf o1
      obtain ⟨t, rfl, ht⟩ := fout_n 0 o2
      have z3 := fout_lf o3
      have z4 := fout_lf o4
      have z5 := fout_lf o5
      subst z1 z3 z4 z5
      refine ⟨p, dx, _, _, _, _, _, rfl, hp, .inr ⟨q, t, L, ws, cs, r, c, yes e9 ht, .inl ⟨.inl rfl, fun H10 e10 => ?_⟩⟩⟩
      refine ⟨_, rfl, True.intro, _, rfl, _, rfl, True.intro, rfl, _, rfl, ?_⟩
      rw [decide_eq_true rfl]
      exact iteF ⟨_, _, rfl, e6.trans (e9.trans e10)⟩
    · refine ⟨_, rfl, _, _, _, _, _, rfl, .own C, .base (.lst S6.hg), KC.l, _, rfl, ?_⟩
      rw [if_neg (by decide)]
      refine gN ?_
      dsimp only
      refine ⟨_, rfl, _, rfl, ?_⟩
      rw [if_neg (by decide)]
      refine gN ?_
      dsimp only
      refine ⟨_, rfl, _, rfl, _, rfl, _, rfl, _, rfl, fun p dx np ndx ne => mk_k5 (fk (Same.refl _)).1 (fk (Same.refl _)).2 (fin_lf (lf_int _)) (fin_lf (lf_int _)) (fin_n 0 (.inl S6.hg) (by omega)) np ndx fun a1 a2 a3 a4 a5 H9 e9 hp o1 o2 o3 o4 o5 => ?_⟩
      have z1 := fout_lf o1
      obtain ⟨t, rfl, ht⟩ := fout_n 0 o2
      have z3 := fout_lf o3
      have z4 := fout_lf o4
      obtain ⟨t5, rfl, ht5⟩ := fout_n 0 o5
      subst z1 z3 z4
      refine ⟨p, dx, _, _, _, _, _, rfl, hp, .inr ⟨q, t, L, ws, cs, r, c, yes e9 ht, .inl ⟨.inr ⟨t5, _, rfl, ht5⟩, fun H10 e10 => ?_⟩⟩⟩
      refine ⟨_, rfl, True.intro, _, rfl, _, rfl, True.intro, rfl, _, rfl, ?_⟩
      rw [decide_eq_true rfl]
      exact iteF ⟨_, _, rfl, e6.trans (e9.trans e10)⟩
    · refine ⟨_, rfl, _, _, _, _, _, rfl, .own C, coo.ty T TE, kit_self, _, rfl, ?_⟩
      rw [if_pos rfl]
      obtain ⟨dxc, lt, wt, tr, g1, g2, g3⟩ := id coo
      refine ⟨_, rfl, qo, C, dxc, _, _, rfl, g1, T.cl, T.s, co_size _ _ _ _ _, _, rfl, gp, _, rfl, .inl (SqL.of S6.hg), rfl, ?_⟩
      rw [gnv]
      have lf := lf_co O U coo
      have making : ∀ {G : Hp}, Same H7 G → FIn K 1 G (.ref qo) (.lf (.ref qo)) := fun e => fin_lf (lf.same e)
      rcases lco with l3 | l3
      · rw [decide_eq_true (show V.int ((lo.length : Nat) : Int) = V.int (((ws.length + 1 : Nat)) : Int) by rw [l3])]
        refine ⟨_, rfl, ?_⟩
        rw [if_pos rfl]
        have num : ∀ (ns : List Nat), ∀ v ∈ nV ns, Num v := fun ns v hv => by
          obtain ⟨c, _, rfl⟩ := List.mem_map.mp hv
          exact .inr ⟨_, rfl⟩
        refine ⟨_, rfl, by show 0 ≤ sizeLine; decide, fun z nz => ?_⟩
        have e8 := same_new (o := .lst []) nz
        have g8 : upd H7 z (.lst []) z = some (.lst []) := upd_same
        generalize upd H7 z (.lst []) = H8 at e8 g8 ⊢
        refine ⟨rp, z, _, _, rfl, rfl, .inl ⟨SqL.of (e8 _ _ S6.hr), SqL.of g8⟩, num _, (fun _ h => nomatch h), ?_⟩
        refine gN ?_
        dsimp only
        have ev : decide (nV (sgn ws cs r c) = []) = (sgn ws cs r c).isEmpty := by
          cases sgn ws cs r c with
          | nil => rfl
          | cons a l => exact decide_eq_false fun z => nomatch z
        rw [show (if false = true then !decide (nV (sgn ws cs r c) = []) else decide (nV (sgn ws cs r c) = [])) = (sgn ws cs r c).isEmpty from ev]
        have S8 := S6.same e8
        have g18 := e8 _ _ g1
        have g28 := e8 _ _ g2
        -- the second due
        refine cutSeq (fun σ' H' => σ' = σP pn wp cp rp q gp r c o8 o9 (some (.bl ((sgn ws cs r c).isEmpty && decide (dot lo (grw cs r c) = hf (grw cs r c))))) o11 o12 o13 o14 o15 (some (.ref sl)) (some (.ref qo)) ∧ Same H7 H') (fun nx' k => ?_) ?_
        · refine ⟨_, rfl, _, rfl, ?_⟩
          by_cases em : sgn ws cs r c = []
          · have ye : (sgn ws cs r c).isEmpty = true := by rw [em]; rfl
            rw [ye] at k ⊢
            rw [Bool.true_and] at k
            rw [if_pos rfl]
            refine ⟨_, rfl, qo, C, dxc, _, _, rfl, g18, T.cl, T.l, co_lengths _ _ _ _ _, _, rfl, lt, gp, _, _, rfl, .inr g28, S8.hg, by omega, by omega, smo, fun H9 e9 => ?_⟩
            have S9 := S8.same e9
            refine ⟨_, rfl, gp, _, rfl, S9.hg, by omega, fun H10 e10 => ?_⟩
            refine ⟨rfl, ?_⟩
            refine gN ?_
            rw [dec_int, show (((dot lo (grw cs r c) : Nat) : Int) == ((hf (grw cs r c) : Nat) : Int)) = decide (dot lo (grw cs r c) = hf (grw cs r c)) by
              rw [Bool.eq_iff_iff, beq_iff_eq, decide_eq_true_iff]
              exact Int.ofNat_inj]
            exact k _ _ ⟨rfl, e8.trans (e9.trans e10)⟩
          · have ne : (sgn ws cs r c).isEmpty = false := by
              rw [List.isEmpty_eq_false_iff]
              exact em
            rw [ne] at k ⊢
            rw [Bool.false_and] at k
            rw [if_neg (by decide)]
            refine gN ?_
            exact k _ _ ⟨rfl, e8⟩
        rintro σ' H9 ⟨rfl, e9⟩
        refine ⟨_, rfl, _, rfl, _, rfl, _, rfl, _, rfl, fun p dx np ndx ne => mk_k5 (fk e9).1 (fk e9).2 (fin_lf (lf_int _)) (fin_lf (lf_int _)) (making e9) np ndx fun a1 a2 a3 a4 a5 H10 e10 hp o1 o2 o3 o4 o5 => ?_⟩
        have z1 := fout_lf o1
        obtain ⟨t, rfl, ht⟩ := fout_n 0 o2
        have z3 := fout_lf o3
        have z4 := fout_lf o4
        have z5 := fout_lf o5
        subst z1 z3 z4 z5
        have e910 := e9.trans e10
        refine ⟨p, dx, _, _, _, _, _, rfl, hp, .inr ⟨q, t, L, ws, cs, r, c, yes e910 ht, .inr ⟨qo, Lo, lo, wo, rfl, coo.same e910, smo, .inr ⟨l3, fun H11 e11 => ?_⟩⟩⟩⟩
        refine ⟨_, rfl, True.intro, _, rfl, _, rfl, True.intro, rfl, _, rfl, ?_⟩
        rw [decide_eq_true rfl]
        exact iteF ⟨_, _, rfl, e6.trans (e910.trans e11)⟩
      · rw [decide_eq_false (show ¬ V.int ((lo.length : Nat) : Int) = V.int (((ws.length + 1 : Nat)) : Int) from fun z => by
          injection z with z
          omega)]
        refine ⟨_, rfl, ?_⟩
        rw [if_neg (by decide)]
        refine gN ?_
        dsimp only
        refine ⟨_, rfl, _, rfl, ?_⟩
        rw [if_neg (by decide)]
        refine gN ?_
        dsimp only
        refine ⟨_, rfl, _, rfl, _, rfl, _, rfl, _, rfl, fun p dx np ndx ne => mk_k5 (fk (Same.refl _)).1 (fk (Same.refl _)).2 (fin_lf (lf_int _)) (fin_lf (lf_int _)) (making (Same.refl _)) np ndx fun a1 a2 a3 a4 a5 H9 e9 hp o1 o2 o3 o4 o5 => ?_⟩
        have z1 := fout_lf o1
        obtain ⟨t, rfl, ht⟩ := fout_n 0 o2
        have z3 := fout_lf o3
        have z4 := fout_lf o4
        have z5 := fout_lf o5
        subst z1 z3 z4 z5
        refine ⟨p, dx, _, _, _, _, _, rfl, hp, .inr ⟨q, t, L, ws, cs, r, c, yes e9 ht, .inr ⟨qo, Lo, lo, wo, rfl, coo.same e9, smo, .inl ⟨by omega, fun H10 e10 => ?_⟩⟩⟩⟩
        refine ⟨_, rfl, True.intro, _, rfl, _, rfl, True.intro, rfl, _, rfl, ?_⟩
        rw [decide_eq_true rfl]
        exact iteF ⟨_, _, rfl, e6.trans (e9.trans e10)⟩
  · rintro σ H6 ⟨p10, p17, rfl, e6⟩
    exact qq H6 ⟨((S5.same e6).S.pt.pen).mono (by omega), (S5.same e6).S.pt.tabs⟩ (eH5.trans (Ks.of e6)).tl
end
end K38
set_option Elab.async false
set_option linter.all false
set_option maxRecDepth 100001
set_option maxHeartbeats 3999999
namespace K38
open PySem L2
open Huff (hf dot Best)
theorem Kv.ks {K : PySem.W.Frag} {H H' : Hp} {v : V} (k : Kv K H v) (e : Ks H H') : Kv K H' v ∧ isLT H' v = isLT H v := by
  unfold isLT
  cases k with
  | kn k => cases k with
    | non => exact ⟨.kn .non, rfl⟩
    | bl b => exact ⟨.kn (.bl b), rfl⟩
    | int i => exact ⟨.kn (.int i), rfl⟩
    | str x => exact ⟨.kn (.str x), rfl⟩
    | lst h =>
      have h' := e.tl.l _ _ h
      exact ⟨.kn (.lst h'), by rw [isL_lst h, isL_lst h', isT_lst h, isT_lst h']⟩
    | tup h =>
      have h' := e.tl.t _ _ h
      exact ⟨.kn (.tup h'), by rw [isL_tup h, isL_tup h', isT_tup h, isT_tup h']⟩
  | ob h O U =>
    have h' := e.ins h
    exact ⟨.ob h' O U, by rw [isL_ins h, isL_ins h', isT_ins h, isT_ins h']⟩
theorem Lf.ks {K : PySem.W.Frag} {H H' : Hp} {v : V} (h : Lf K H v) (e : Ks H H') : Lf K H' v := ⟨(h.1.ks e).1, (h.1.ks e).2.trans h.2⟩
theorem FIn.ks {K : PySem.W.Frag} {H H' : Hp} (e : Ks H H') : ∀ (n : Nat) (v : V) (d : Fd), FIn K n H v d → FIn K n H' v d
  | 0, _, _, ⟨h1, h2⟩ => ⟨h1, h2.ks e⟩
  | _ + 1, _, _, .inl ⟨h1, h2⟩ => .inl ⟨h1, h2.ks e⟩
  | n + 1, _, _, .inr ⟨a, xs, ds, h1, h2, h3, h4, h5⟩ => .inr ⟨a, xs, ds, h1, h2, h3.imp (fun z => e.tl.l _ _ z) (fun z => e.tl.t _ _ z), h4, Paired.mapP h5 fun v d h => FIn.ks e n v d h⟩
def St4 (K : PySem.W.Frag) (C : Addr) (H : Hp) (a b c d : V) : Prop := ∃ e1 e2 e3 e4, FIn K 1 H a e1 ∧ FIn K 1 H b e2 ∧ FIn K 1 H c e3 ∧ FIn K 1 H d e4 ∧ ∀ H' a' b' c' d', Ks H H' → FOut 1 H' a' e1 → FOut 1 H' b' e2 → FOut 1 H' c' e3 → FOut 1 H' d' e4 → NoCt K C H' a' b' c' d'
def Stg (K : PySem.W.Frag) (C : Addr) (H : Hp) (x : V) : Prop := ∃ t a b c d, x = .ref t ∧ H t = some (.tup [a, b, c, d]) ∧ St4 K C H a b c d
theorem St4.ks {K : PySem.W.Frag} {C : Addr} {H H' : Hp} {a b c d : V} (h : St4 K C H a b c d) (e : Ks H H') : St4 K C H' a b c d := let ⟨e1, e2, e3, e4, f1, f2, f3, f4, k⟩ := h
  ⟨e1, e2, e3, e4, FIn.ks e _ _ _ f1, FIn.ks e _ _ _ f2, FIn.ks e _ _ _ f3, FIn.ks e _ _ _ f4, fun H2 a' b' c' d' z => k H2 a' b' c' d' (e.trans z)⟩
theorem Stg.ks {K : PySem.W.Frag} {C : Addr} {H H' : Hp} {x : V} (h : Stg K C H x) (e : Ks H H') : Stg K C H' x := let ⟨t, a, b, c, d, h1, h2, h3⟩ := h
  ⟨t, a, b, c, d, h1, e.tl.t _ _ h2, h3.ks e⟩
section
variable {K : PySem.W.Frag} {C : Addr} {H : Hp} {q cp : Addr} {L : Nat} {ws : List W} {cs : List Nat} {a b c d : V}
theorem fin_cs (h : H cp = some (.lst (nV cs))) (l : cs.length ≤ 100) : FIn K 1 H (.ref cp) (dN cs) := fin_n 0 (.inl h) (by omega)
theorem st_code (ha : a = .non ∨ ∃ x, a = .str x) (hc : H cp = some (.lst (nV cs))) (l : cs.length ≤ 100) (f3 : Lf K H c) (f4 : Lf K H d) : St4 K C H a (.ref cp) c d := by
  have lfa : Lf K H a := by
    rcases ha with rfl | ⟨x, rfl⟩
    · exact ⟨.kn .non, rfl⟩
    · exact ⟨.kn (.str x), rfl⟩
  refine ⟨_, _, _, _, fin_lf lfa, fin_cs hc l, fin_lf f3, fin_lf f4, fun H' a' b' c' d' e o1 o2 o3 o4 => ?_⟩
  have z1 := fout_lf o1
  obtain ⟨t, rfl, ht⟩ := fout_n 0 o2
  subst z1
  exact ⟨.kn (.tup ht), .inl ha⟩
theorem st_tally (O : ObC K C) (U : ObK K) (M : IsCo C H q L (lens ws) ws) (lb : Lf K H b) (nt : ∀ H', isT H' b = true → isLT H' b = true) (f3 : Lf K H c) (f4 : Lf K H d) : St4 K C H (.ref q) b c d := by
  refine ⟨_, _, _, _, fin_lf (lf_co O U M), fin_lf lb, fin_lf f3, fin_lf f4, fun H' a' b' c' d' e o1 o2 o3 o4 => ?_⟩
  have z1 := fout_lf o1
  have z2 := fout_lf o2
  subst z1 z2
  have lb' := lb.ks e
  refine ⟨lb'.1, .inr ⟨q, L, ws, rfl, M.ks e, .inl ?_⟩⟩
  cases z : isT H' b' with
  | false => rfl
  | true =>
    have := nt H' z
    rw [lb'.2] at this
    cases this
theorem st_size (O : ObC K C) (U : ObK K) (M : IsCo C H q L (lens ws) ws) (hc : H cp = some (.lst (nV cs))) (l2 : 2 ≤ cs.length) (l : cs.length ≤ 100) (ne : cs.length ≠ ws.length) (f3 : Lf K H c) (f4 : Lf K H d) : St4 K C H (.ref q) (.ref cp) c d := by
  refine ⟨_, _, _, _, fin_lf (lf_co O U M), fin_cs hc l, fin_lf f3, fin_lf f4, fun H' a' b' c' d' e o1 o2 o3 o4 => ?_⟩
  have z1 := fout_lf o1
  obtain ⟨t, rfl, ht⟩ := fout_n 0 o2
  subst z1
  exact ⟨.kn (.tup ht), .inr ⟨q, L, ws, rfl, M.ks e, .inr ⟨t, cs, rfl, ht, l2, by omega, .inl ne⟩⟩⟩
theorem st_rank (O : ObC K C) (U : ObK K) (M : IsCo C H q L (lens ws) ws) (hc : H cp = some (.lst (nV cs))) (l2 : 2 ≤ cs.length) (l : cs.length ≤ 100) (ec : cs.length = ws.length) (f3 : Lf K H c) (no : btw c 0 ((ws.length : Nat) : Int) = false) (f4 : Lf K H d) : St4 K C H (.ref q) (.ref cp) c d := by
  refine ⟨_, _, _, _, fin_lf (lf_co O U M), fin_cs hc l, fin_lf f3, fin_lf f4, fun H' a' b' c' d' e o1 o2 o3 o4 => ?_⟩
  have z1 := fout_lf o1
  obtain ⟨t, rfl, ht⟩ := fout_n 0 o2
  have z3 := fout_lf o3
  subst z1 z3
  exact ⟨.kn (.tup ht), .inr ⟨q, L, ws, rfl, M.ks e, .inr ⟨t, cs, rfl, ht, l2, by omega, .inr ⟨ec, .inl ⟨no, f3.ks e⟩⟩⟩⟩⟩
theorem st_count (O : ObC K C) (U : ObK K) (M : IsCo C H q L (lens ws) ws) (hc : H cp = some (.lst (nV cs))) (l2 : 2 ≤ cs.length) (l : cs.length ≤ 100) (ec : cs.length = ws.length) (f3 : Lf K H c) (ok : btw c 0 ((ws.length : Nat) : Int) = true) (f4 : Lf K H d) (no : frm d 0 = false) : St4 K C H (.ref q) (.ref cp) c d := by
  refine ⟨_, _, _, _, fin_lf (lf_co O U M), fin_cs hc l, fin_lf f3, fin_lf f4, fun H' a' b' c' d' e o1 o2 o3 o4 => ?_⟩
  have z1 := fout_lf o1
  obtain ⟨t, rfl, ht⟩ := fout_n 0 o2
  have z3 := fout_lf o3
  have z4 := fout_lf o4
  subst z1 z3 z4
  exact ⟨.kn (.tup ht), .inr ⟨q, L, ws, rfl, M.ks e, .inr ⟨t, cs, rfl, ht, l2, by omega, .inr ⟨ec, .inr ⟨ok, (f3.ks e).1, no, f4.ks e⟩⟩⟩⟩⟩
end
end K38
set_option Elab.async false
set_option linter.all false
set_option maxRecDepth 100001
set_option maxHeartbeats 3999999
namespace K38
open PySem L2
open Huff (hf dot Best)
section
variable {P : Program} {w : World} {K : PySem.W.Frag} {mg : Str → Option Value} {base : Heap}
theorem zp4 {f C P1 P2 CT CL CN CB CG : Addr} {fd : FuncData} {Tb : List (Addr × Str)} (R : PpC P w K mg base f C P1 P2 CT CL CN CB CG fd Tb) (cdv : Value) (A : Around) (outer : List Env) (s : Shared) (H0 : Hp) (E : XK) (hr : Room 10 (A.deeper (PyProof.Rows.envOfC "_law_are_papers" (defScope sPp) s.heap.objs.size f cdv))) :
    ∃ t, PSs (cxOf CX0 P w K mg base NPp "_law_are_papers" (defScope sPp) f cdv A outer s H0 E).nox ((defBody sPp).drop 4) t ∧
      ∀ (D : Ends) (H : Hp) (pn cl : Addr) (b : Nat) (q wp cp rp gp : Addr) (L : Nat) (ws : List W) (cs : List Nat) (r c : Nat) (o8 o9 o10 o11 o12 o13 o14 o15 o16 o17 : Option V), PZ C Tb H pn cl b q wp cp rp gp L ws cs r c → CNt ws cs → r ≤ ws.length → b ≤ 50000 →
        (∀ H', PT Tb H' pn cl (b + 400) → TL H H' → D.rt (.bl true) H') →
        t D (σP pn wp cp rp q gp r c o8 o9 o10 o11 o12 o13 o14 o15 o16 o17) H := by
  obtain ⟨F, B, Z, mr, T, TE, O, U, KC, gC, cK, cSh, cSC, cLC, cCo, cLe, cIK, cIR, mC, mK, mR⟩ := id R
  obtain ⟨tN, p11, qN⟩ := zp11 R cdv A outer s H0 E hr
  refine ⟨_, (pss_cons (ps_set (i := 11) scPp.nd rfl (Or.inl rfl) (pe_lst (pa_cons (pe_tup (pa_cons pe_non (pa_cons (pv 2) (pa_cons (pv 3) (pa_cons (pv 4) pa_nil))))) (pa_cons (pe_tup (pa_cons (pv 6) (pa_cons (pe_op op_cat (pv 2) (pe_lst (pa_cons pe_int pa_nil))) (pa_cons (pv 3) (pa_cons (pv 4) pa_nil))))) (pa_cons (pe_tup (pa_cons (pv 6) (pa_cons pe_non (pa_cons (pv 3) (pa_cons (pv 4) pa_nil))))) pa_nil)))))
      (pss_cons (ps_set (i := 11) scPp.nd rfl (Or.inl rfl) (pe_op op_cat (pv 11) (pe_lst (pa_cons (pe_tup (pa_cons (pv 6) (pa_cons (pv 2) (pa_cons (pe_op op_add (pe_len B.len (pa_cons (pv 1) pa_nil)) pe_int) (pa_cons (pv 4) pa_nil))))) (pa_cons (pe_tup (pa_cons (pv 6) (pa_cons (pv 2) (pa_cons pe_bl (pa_cons (pv 4) pa_nil))))) (pa_cons (pe_tup (pa_cons (pv 6) (pa_cons (pv 2) (pa_cons (pv 3) (pa_cons (pe_un un_neg pe_int) pa_nil))))) pa_nil))))))
      (pss_cons (ps_set (i := 11) scPp.nd rfl (Or.inl rfl) (pe_op op_cat (pv 11) (pe_lst (pa_cons (pe_tup (pa_cons pe_str (pa_cons (pv 2) (pa_cons (pv 3) (pa_cons (pv 4) pa_nil))))) (pa_cons (pe_tup (pa_cons (pv 6) (pa_cons pe_str (pa_cons (pv 3) (pa_cons (pv 4) pa_nil))))) (pa_cons (pe_tup (pa_cons (pv 6) (pa_cons (pv 6) (pa_cons (pv 3) (pa_cons (pv 4) pa_nil))))) pa_nil))))))
      (pss_cons (ps_set (i := 11) scPp.nd rfl (Or.inl rfl) (pe_op op_cat (pv 11) (pe_lst (pa_cons (pe_tup (pa_cons (pv 6) (pa_cons (pv 2) (pa_cons pe_non (pa_cons (pv 4) pa_nil))))) (pa_cons (pe_tup (pa_cons (pv 6) (pa_cons (pv 2) (pa_cons (pv 6) (pa_cons (pv 4) pa_nil))))) (pa_cons (pe_tup (pa_cons (pv 6) (pa_cons (pv 2) (pa_cons (pv 3) (pa_cons pe_str pa_nil))))) pa_nil))))))
      (pss_cons (ps_asg (pe_c cK hr pass0 (pa_cons (pv 0) (pa_cons (pv 11) pa_nil))) (pg_tup rfl (pgs_cons (pg_name (i := 12) scPp.nd rfl (.inl rfl)) (pgs_cons (pg_name (i := 13) scPp.nd rfl (.inl rfl)) (pgs_cons (pg_name (i := 14) scPp.nd rfl (.inl rfl)) (pgs_cons (pg_name (i := 15) scPp.nd rfl (.inl rfl)) pgs_nil))))))
      (pss_cons (ps_if (pt_cmpR op_notBl (pe_c cIK hr pass0 (pa_cons (pe_mk mK hr pass0 (pa_cons (pv 12) (pa_cons (pv 13) (pa_cons (pv 14) (pa_cons (pv 15) (pa_cons pe_int pa_nil)))))) pa_nil)) pe_bl (nomark _)) (pss_one (ps_ret pe_bl)) pss_nil)
      (pss_cons (ps_if (pt_cmpR op_notBl (pe_c cIR hr pass0 (pa_cons (pe_mk mR hr pass0 (pa_cons (pv 12) (pa_cons (pv 13) (pa_cons (pv 14) (pa_cons (pv 15) (pa_cons (pe_mkN mC hr passL (pa_cons (pe_c cSC hr pass0 (pa_cons (pv 0) (pa_cons (pe_len B.len (pa_cons (pv 7) pa_nil)) pa_nil))) pa_nil)) pa_nil)))))) pa_nil)) pe_bl (nomark _)) (pss_one (ps_ret pe_bl)) pss_nil)
      p11))))))), ?_⟩
  intro D H pn cl b q wp cp rp gp L ws cs r c o8 o9 o10 o11 o12 o13 o14 o15 o16 o17 S N hrr hb qq
  have l2 := N.l2
  have l9 := N.l9
  have ec := N.ec
  have sm := N.fw.sm (by omega)
  have gl := grw_len (c := c) (show r ≤ cs.length by omega)
  have gnv : (nV (grw cs r c)).length = ws.length + 1 := by rw [nV_len]; omega
  have rok : btw (.int ((r : Nat) : Int)) 0 ((ws.length : Nat) : Int) = true := decide_eq_true ⟨by omega, by omega⟩
  have tt : ∀ (b : V) (H' : Hp), isT H' b = true → isLT H' b = true := fun b H' z => by unfold isLT; rw [z, Bool.or_true]
  have eH := Ks.refl H
  refine ⟨_, rfl, _, rfl, _, rfl, by show 4 ≤ sizeLine; decide, fun t00 nt00 => ?_⟩
  have e := same_new (o := .tup [.non, .ref cp, .int ((r : Nat) : Int), .int ((c : Nat) : Int)]) nt00
  have gt00 : upd H t00 (.tup [.non, .ref cp, .int ((r : Nat) : Int), .int ((c : Nat) : Int)]) t00 = some (.tup [.non, .ref cp, .int ((r : Nat) : Int), .int ((c : Nat) : Int)]) := upd_same
  have S := S.same e
  have eH := eH.trans (.of e)
  generalize upd H t00 (.tup [.non, .ref cp, .int ((r : Nat) : Int), .int ((c : Nat) : Int)]) = G1 at e gt00 S eH ⊢
  have xt00 : Stg K C G1 (.ref t00) := ⟨t00, _, _, _, _, rfl, gt00, st_code (.inl rfl) S.S.hc (by omega) (lf_int _) (lf_int _)⟩
  refine ⟨_, rfl, _, rfl, by show 1 ≤ sizeLine; decide, fun z nz => ?_⟩
  have e := same_new (o := .lst [.int 0]) nz
  have gz : upd G1 z (.lst [.int 0]) z = some (.lst [.int 0]) := upd_same
  have S := S.same e
  have eH := eH.trans (.of e)
  have xt00 := xt00.ks (.of e)
  generalize upd G1 z (.lst [.int 0]) = G2 at e gz S eH xt00 ⊢
  refine ⟨cp, z, nV cs, [.int 0], rfl, rfl, S.S.hc, gz, Nat.le_of_lt (small10 (by rw [nV_len]; show cs.length + 1 ≤ 10000; omega)), fun q2 nq2 => ?_⟩
  rw [show nV cs ++ [V.int 0] = nV (cs ++ [0]) by rw [nV_app]; rfl]
  have e := same_new (o := .lst (nV (cs ++ [0]))) nq2
  have gq2 : upd G2 q2 (.lst (nV (cs ++ [0]))) q2 = some (.lst (nV (cs ++ [0]))) := upd_same
  have S := S.same e
  have eH := eH.trans (.of e)
  have xt00 := xt00.ks (.of e)
  generalize upd G2 q2 (.lst (nV (cs ++ [0]))) = G3 at e gq2 S eH xt00 ⊢
  have gq := gq2
  refine ⟨_, rfl, _, rfl, by show 4 ≤ sizeLine; decide, fun t01 nt01 => ?_⟩
  have e := same_new (o := .tup [.ref q, .ref q2, .int ((r : Nat) : Int), .int ((c : Nat) : Int)]) nt01
  have gt01 : upd G3 t01 (.tup [.ref q, .ref q2, .int ((r : Nat) : Int), .int ((c : Nat) : Int)]) t01 = some (.tup [.ref q, .ref q2, .int ((r : Nat) : Int), .int ((c : Nat) : Int)]) := upd_same
  have S := S.same e
  have eH := eH.trans (.of e)
  have xt00 := xt00.ks (.of e)
  have gq := e _ _ gq
  generalize upd G3 t01 (.tup [.ref q, .ref q2, .int ((r : Nat) : Int), .int ((c : Nat) : Int)]) = G4 at e gt01 S eH xt00 gq ⊢
  have xt01 : Stg K C G4 (.ref t01) := ⟨t01, _, _, _, _, rfl, gt01, st_size O U S.S.co gq (by rw [List.length_append]; show 2 ≤ cs.length + 1; omega) (by rw [List.length_append]; show cs.length + 1 ≤ 100; omega) (by rw [List.length_append]; show cs.length + 1 ≠ _; omega) (lf_int _) (lf_int _)⟩
  refine ⟨_, rfl, _, rfl, _, rfl, by show 4 ≤ sizeLine; decide, fun t02 nt02 => ?_⟩
  have e := same_new (o := .tup [.ref q, .non, .int ((r : Nat) : Int), .int ((c : Nat) : Int)]) nt02
  have gt02 : upd G4 t02 (.tup [.ref q, .non, .int ((r : Nat) : Int), .int ((c : Nat) : Int)]) t02 = some (.tup [.ref q, .non, .int ((r : Nat) : Int), .int ((c : Nat) : Int)]) := upd_same
  have S := S.same e
  have eH := eH.trans (.of e)
  have xt00 := xt00.ks (.of e)
  have xt01 := xt01.ks (.of e)
  generalize upd G4 t02 (.tup [.ref q, .non, .int ((r : Nat) : Int), .int ((c : Nat) : Int)]) = G5 at e gt02 S eH xt00 xt01 ⊢
  have xt02 : Stg K C G5 (.ref t02) := ⟨t02, _, _, _, _, rfl, gt02, st_tally O U S.S.co ⟨.kn .non, rfl⟩ (tt _) (lf_int _) (lf_int _)⟩
  refine ⟨by show 3 ≤ sizeLine; decide, fun l0 nl0 => ?_⟩
  have e := same_new (o := .lst [.ref t00, .ref t01, .ref t02]) nl0
  have gl0 : upd G5 l0 (.lst [.ref t00, .ref t01, .ref t02]) l0 = some (.lst [.ref t00, .ref t01, .ref t02]) := upd_same
  have S := S.same e
  have eH := eH.trans (.of e)
  have xt00 := xt00.ks (.of e)
  have xt01 := xt01.ks (.of e)
  have xt02 := xt02.ks (.of e)
  generalize upd G5 l0 (.lst [.ref t00, .ref t01, .ref t02]) = G6 at e gl0 S eH xt00 xt01 xt02 ⊢
  have all0 : ∀ v ∈ [V.ref t00, .ref t01, .ref t02], Stg K C G6 v := fun v hv => by
    simp only [List.mem_cons, List.not_mem_nil, or_false] at hv
    rcases hv with rfl | rfl | rfl
    · exact xt00
    · exact xt01
    · exact xt02
  clear xt00 xt01 xt02
  obtain ⟨sl, sL, hs, acc, lsl⟩ : ∃ (sl : Addr) (sL : List V), G6 sl = some (.lst sL) ∧ (∀ v ∈ sL, Stg K C G6 v) ∧ sl = l0 ∧ sL.length = 3 := ⟨l0, _, gl0, all0, rfl, rfl⟩
  obtain ⟨rfl, lsl⟩ := lsl
  refine gN ?_
  dsimp only
  refine ⟨_, rfl, _, rfl, _, rfl, _, rfl, wp, _, rfl, .inl (SqL.of S.S.hw), _, _, rfl, rfl, _, rfl, by show 4 ≤ sizeLine; decide, fun t10 nt10 => ?_⟩
  have lw : (ws.map wV).length = ws.length := List.length_map _
  have e := same_new (o := .tup [.ref q, .ref cp, .int (((ws.map wV).length : Nat) + 1), .int ((c : Nat) : Int)]) nt10
  have gt10 : upd G6 t10 (.tup [.ref q, .ref cp, .int (((ws.map wV).length : Nat) + 1), .int ((c : Nat) : Int)]) t10 = some (.tup [.ref q, .ref cp, .int (((ws.map wV).length : Nat) + 1), .int ((c : Nat) : Int)]) := upd_same
  have S := S.same e
  have eH := eH.trans (.of e)
  have acc := fun v hv => (acc v hv).ks (.of e)
  have hs := e _ _ hs
  generalize upd G6 t10 (.tup [.ref q, .ref cp, .int (((ws.map wV).length : Nat) + 1), .int ((c : Nat) : Int)]) = G7 at e gt10 S eH acc hs ⊢
  have xt10 : Stg K C G7 (.ref t10) := ⟨t10, _, _, _, _, rfl, gt10, st_rank O U S.S.co S.S.hc (by omega) (by omega) ec (lf_int _) (decide_eq_false (by rw [lw]; omega)) (lf_int _)⟩
  refine ⟨_, rfl, _, rfl, _, rfl, by show 4 ≤ sizeLine; decide, fun t11 nt11 => ?_⟩
  have e := same_new (o := .tup [.ref q, .ref cp, .bl true, .int ((c : Nat) : Int)]) nt11
  have gt11 : upd G7 t11 (.tup [.ref q, .ref cp, .bl true, .int ((c : Nat) : Int)]) t11 = some (.tup [.ref q, .ref cp, .bl true, .int ((c : Nat) : Int)]) := upd_same
  have S := S.same e
  have eH := eH.trans (.of e)
  have xt10 := xt10.ks (.of e)
  have acc := fun v hv => (acc v hv).ks (.of e)
  have hs := e _ _ hs
  generalize upd G7 t11 (.tup [.ref q, .ref cp, .bl true, .int ((c : Nat) : Int)]) = G8 at e gt11 S eH xt10 acc hs ⊢
  have xt11 : Stg K C G8 (.ref t11) := ⟨t11, _, _, _, _, rfl, gt11, st_rank O U S.S.co S.S.hc (by omega) (by omega) ec ⟨.kn (.bl _), rfl⟩ rfl (lf_int _)⟩
  refine ⟨_, rfl, _, rfl, _, rfl, _, rfl, by show 4 ≤ sizeLine; decide, fun t12 nt12 => ?_⟩
  have e := same_new (o := .tup [.ref q, .ref cp, .int ((r : Nat) : Int), .int (-1)]) nt12
  have gt12 : upd G8 t12 (.tup [.ref q, .ref cp, .int ((r : Nat) : Int), .int (-1)]) t12 = some (.tup [.ref q, .ref cp, .int ((r : Nat) : Int), .int (-1)]) := upd_same
  have S := S.same e
  have eH := eH.trans (.of e)
  have xt10 := xt10.ks (.of e)
  have xt11 := xt11.ks (.of e)
  have acc := fun v hv => (acc v hv).ks (.of e)
  have hs := e _ _ hs
  generalize upd G8 t12 (.tup [.ref q, .ref cp, .int ((r : Nat) : Int), .int (-1)]) = G9 at e gt12 S eH xt10 xt11 acc hs ⊢
  have xt12 : Stg K C G9 (.ref t12) := ⟨t12, _, _, _, _, rfl, gt12, st_count O U S.S.co S.S.hc (by omega) (by omega) ec (lf_int _) rok (lf_int _) (by decide)⟩
  refine ⟨by show 3 ≤ sizeLine; decide, fun l1 nl1 => ?_⟩
  have e := same_new (o := .lst [.ref t10, .ref t11, .ref t12]) nl1
  have gl1 : upd G9 l1 (.lst [.ref t10, .ref t11, .ref t12]) l1 = some (.lst [.ref t10, .ref t11, .ref t12]) := upd_same
  have S := S.same e
  have eH := eH.trans (.of e)
  have xt10 := xt10.ks (.of e)
  have xt11 := xt11.ks (.of e)
  have xt12 := xt12.ks (.of e)
  have acc := fun v hv => (acc v hv).ks (.of e)
  have hs := e _ _ hs
  generalize upd G9 l1 (.lst [.ref t10, .ref t11, .ref t12]) = G10 at e gl1 S eH xt10 xt11 xt12 acc hs ⊢
  have all1 : ∀ v ∈ [V.ref t10, .ref t11, .ref t12], Stg K C G10 v := fun v hv => by
    simp only [List.mem_cons, List.not_mem_nil, or_false] at hv
    rcases hv with rfl | rfl | rfl
    · exact xt10
    · exact xt11
    · exact xt12
  have acc2 : ∀ v ∈ sL ++ [V.ref t10, .ref t11, .ref t12], Stg K C G10 v := fun v hv => (List.mem_append.mp hv).elim (acc v) (all1 v)
  clear xt10 xt11 xt12 all1 acc
  refine ⟨sl, l1, sL, _, rfl, rfl, hs, gl1, Nat.le_of_lt (small10 (by rw [lsl]; show 3 + 3 ≤ 10000; decide)), fun sl2 nsl2 => ?_⟩
  have e := same_new (o := .lst (sL ++ [V.ref t10, .ref t11, .ref t12])) nsl2
  have S := S.same e
  have eH := eH.trans (.of e)
  have acc := fun v hv => (acc2 v hv).ks (.of e)
  have hs : upd G10 sl2 (.lst (sL ++ [V.ref t10, .ref t11, .ref t12])) sl2 = some (.lst (sL ++ [V.ref t10, .ref t11, .ref t12])) := upd_same
  have lsl : (sL ++ [V.ref t10, .ref t11, .ref t12]).length = 6 := by rw [List.length_append, lsl]; rfl
  generalize upd G10 sl2 (.lst (sL ++ [V.ref t10, .ref t11, .ref t12])) = G11 at S eH acc hs e ⊢
  generalize sL ++ [V.ref t10, .ref t11, .ref t12] = sL at acc hs lsl ⊢
  clear acc2
  generalize hsl : sl2 = sl at hs ⊢
  refine gN ?_
  dsimp only
  refine ⟨_, rfl, _, rfl, _, rfl, _, rfl, by show 4 ≤ sizeLine; decide, fun t20 nt20 => ?_⟩
  have e := same_new (o := .tup [.str "code", .ref cp, .int ((r : Nat) : Int), .int ((c : Nat) : Int)]) nt20
  have gt20 : upd G11 t20 (.tup [.str "code", .ref cp, .int ((r : Nat) : Int), .int ((c : Nat) : Int)]) t20 = some (.tup [.str "code", .ref cp, .int ((r : Nat) : Int), .int ((c : Nat) : Int)]) := upd_same
  have S := S.same e
  have eH := eH.trans (.of e)
  have acc := fun v hv => (acc v hv).ks (.of e)
  have hs := e _ _ hs
  generalize upd G11 t20 (.tup [.str "code", .ref cp, .int ((r : Nat) : Int), .int ((c : Nat) : Int)]) = G12 at e gt20 S eH acc hs ⊢
  have xt20 : Stg K C G12 (.ref t20) := ⟨t20, _, _, _, _, rfl, gt20, st_code (.inr ⟨_, rfl⟩) S.S.hc (by omega) (lf_int _) (lf_int _)⟩
  refine ⟨_, rfl, _, rfl, _, rfl, by show 4 ≤ sizeLine; decide, fun t21 nt21 => ?_⟩
  have e := same_new (o := .tup [.ref q, .str "counts", .int ((r : Nat) : Int), .int ((c : Nat) : Int)]) nt21
  have gt21 : upd G12 t21 (.tup [.ref q, .str "counts", .int ((r : Nat) : Int), .int ((c : Nat) : Int)]) t21 = some (.tup [.ref q, .str "counts", .int ((r : Nat) : Int), .int ((c : Nat) : Int)]) := upd_same
  have S := S.same e
  have eH := eH.trans (.of e)
  have xt20 := xt20.ks (.of e)
  have acc := fun v hv => (acc v hv).ks (.of e)
  have hs := e _ _ hs
  generalize upd G12 t21 (.tup [.ref q, .str "counts", .int ((r : Nat) : Int), .int ((c : Nat) : Int)]) = G13 at e gt21 S eH xt20 acc hs ⊢
  have xt21 : Stg K C G13 (.ref t21) := ⟨t21, _, _, _, _, rfl, gt21, st_tally O U S.S.co ⟨.kn (.str _), rfl⟩ (tt _) (lf_int _) (lf_int _)⟩
  refine ⟨_, rfl, _, rfl, _, rfl, _, rfl, by show 4 ≤ sizeLine; decide, fun t22 nt22 => ?_⟩
  have e := same_new (o := .tup [.ref q, .ref q, .int ((r : Nat) : Int), .int ((c : Nat) : Int)]) nt22
  have gt22 : upd G13 t22 (.tup [.ref q, .ref q, .int ((r : Nat) : Int), .int ((c : Nat) : Int)]) t22 = some (.tup [.ref q, .ref q, .int ((r : Nat) : Int), .int ((c : Nat) : Int)]) := upd_same
  have S := S.same e
  have eH := eH.trans (.of e)
  have xt20 := xt20.ks (.of e)
  have xt21 := xt21.ks (.of e)
  have acc := fun v hv => (acc v hv).ks (.of e)
  have hs := e _ _ hs
  generalize upd G13 t22 (.tup [.ref q, .ref q, .int ((r : Nat) : Int), .int ((c : Nat) : Int)]) = G14 at e gt22 S eH xt20 xt21 acc hs ⊢
  have xt22 : Stg K C G14 (.ref t22) := ⟨t22, _, _, _, _, rfl, gt22, st_tally O U S.S.co (lf_co O U S.S.co) (tt _) (lf_int _) (lf_int _)⟩
  refine ⟨by show 3 ≤ sizeLine; decide, fun l2 nl2 => ?_⟩
  have e := same_new (o := .lst [.ref t20, .ref t21, .ref t22]) nl2
  have gl2 : upd G14 l2 (.lst [.ref t20, .ref t21, .ref t22]) l2 = some (.lst [.ref t20, .ref t21, .ref t22]) := upd_same
  have S := S.same e
  have eH := eH.trans (.of e)
  have xt20 := xt20.ks (.of e)
  have xt21 := xt21.ks (.of e)
  have xt22 := xt22.ks (.of e)
  have acc := fun v hv => (acc v hv).ks (.of e)
  have hs := e _ _ hs
  generalize upd G14 l2 (.lst [.ref t20, .ref t21, .ref t22]) = G15 at e gl2 S eH xt20 xt21 xt22 acc hs ⊢
  have all2 : ∀ v ∈ [V.ref t20, .ref t21, .ref t22], Stg K C G15 v := fun v hv => by
    simp only [List.mem_cons, List.not_mem_nil, or_false] at hv
    rcases hv with rfl | rfl | rfl
    · exact xt20
    · exact xt21
    · exact xt22
  have acc2 : ∀ v ∈ sL ++ [V.ref t20, .ref t21, .ref t22], Stg K C G15 v := fun v hv => (List.mem_append.mp hv).elim (acc v) (all2 v)
  clear xt20 xt21 xt22 all2 acc
  refine ⟨sl, l2, sL, _, rfl, rfl, hs, gl2, Nat.le_of_lt (small10 (by rw [lsl]; show 6 + 3 ≤ 10000; decide)), fun sl2 nsl2 => ?_⟩
  have e := same_new (o := .lst (sL ++ [V.ref t20, .ref t21, .ref t22])) nsl2
  have S := S.same e
  have eH := eH.trans (.of e)
  have acc := fun v hv => (acc2 v hv).ks (.of e)
  have hs : upd G15 sl2 (.lst (sL ++ [V.ref t20, .ref t21, .ref t22])) sl2 = some (.lst (sL ++ [V.ref t20, .ref t21, .ref t22])) := upd_same
  have lsl : (sL ++ [V.ref t20, .ref t21, .ref t22]).length = 9 := by rw [List.length_append, lsl]; rfl
  generalize upd G15 sl2 (.lst (sL ++ [V.ref t20, .ref t21, .ref t22])) = G16 at S eH acc hs e ⊢
  generalize sL ++ [V.ref t20, .ref t21, .ref t22] = sL at acc hs lsl ⊢
  clear acc2
  generalize hsl : sl2 = sl at hs ⊢
  refine gN ?_
  dsimp only
  refine ⟨_, rfl, _, rfl, _, rfl, _, rfl, by show 4 ≤ sizeLine; decide, fun t30 nt30 => ?_⟩
  have e := same_new (o := .tup [.ref q, .ref cp, .non, .int ((c : Nat) : Int)]) nt30
  have gt30 : upd G16 t30 (.tup [.ref q, .ref cp, .non, .int ((c : Nat) : Int)]) t30 = some (.tup [.ref q, .ref cp, .non, .int ((c : Nat) : Int)]) := upd_same
  have S := S.same e
  have eH := eH.trans (.of e)
  have acc := fun v hv => (acc v hv).ks (.of e)
  have hs := e _ _ hs
  generalize upd G16 t30 (.tup [.ref q, .ref cp, .non, .int ((c : Nat) : Int)]) = G17 at e gt30 S eH acc hs ⊢
  have xt30 : Stg K C G17 (.ref t30) := ⟨t30, _, _, _, _, rfl, gt30, st_rank O U S.S.co S.S.hc (by omega) (by omega) ec ⟨.kn .non, rfl⟩ rfl (lf_int _)⟩
  refine ⟨_, rfl, _, rfl, _, rfl, _, rfl, by show 4 ≤ sizeLine; decide, fun t31 nt31 => ?_⟩
  have e := same_new (o := .tup [.ref q, .ref cp, .ref q, .int ((c : Nat) : Int)]) nt31
  have gt31 : upd G17 t31 (.tup [.ref q, .ref cp, .ref q, .int ((c : Nat) : Int)]) t31 = some (.tup [.ref q, .ref cp, .ref q, .int ((c : Nat) : Int)]) := upd_same
  have S := S.same e
  have eH := eH.trans (.of e)
  have xt30 := xt30.ks (.of e)
  have acc := fun v hv => (acc v hv).ks (.of e)
  have hs := e _ _ hs
  generalize upd G17 t31 (.tup [.ref q, .ref cp, .ref q, .int ((c : Nat) : Int)]) = G18 at e gt31 S eH xt30 acc hs ⊢
  have xt31 : Stg K C G18 (.ref t31) := ⟨t31, _, _, _, _, rfl, gt31, st_rank O U S.S.co S.S.hc (by omega) (by omega) ec (lf_co O U S.S.co) rfl (lf_int _)⟩
  refine ⟨_, rfl, _, rfl, _, rfl, by show 4 ≤ sizeLine; decide, fun t32 nt32 => ?_⟩
  have e := same_new (o := .tup [.ref q, .ref cp, .int ((r : Nat) : Int), .str "1"]) nt32
  have gt32 : upd G18 t32 (.tup [.ref q, .ref cp, .int ((r : Nat) : Int), .str "1"]) t32 = some (.tup [.ref q, .ref cp, .int ((r : Nat) : Int), .str "1"]) := upd_same
  have S := S.same e
  have eH := eH.trans (.of e)
  have xt30 := xt30.ks (.of e)
  have xt31 := xt31.ks (.of e)
  have acc := fun v hv => (acc v hv).ks (.of e)
  have hs := e _ _ hs
  generalize upd G18 t32 (.tup [.ref q, .ref cp, .int ((r : Nat) : Int), .str "1"]) = G19 at e gt32 S eH xt30 xt31 acc hs ⊢
  have xt32 : Stg K C G19 (.ref t32) := ⟨t32, _, _, _, _, rfl, gt32, st_count O U S.S.co S.S.hc (by omega) (by omega) ec (lf_int _) rok ⟨.kn (.str _), rfl⟩ rfl⟩
  refine ⟨by show 3 ≤ sizeLine; decide, fun l3 nl3 => ?_⟩
  have e := same_new (o := .lst [.ref t30, .ref t31, .ref t32]) nl3
  have gl3 : upd G19 l3 (.lst [.ref t30, .ref t31, .ref t32]) l3 = some (.lst [.ref t30, .ref t31, .ref t32]) := upd_same
  have S := S.same e
  have eH := eH.trans (.of e)
  have xt30 := xt30.ks (.of e)
  have xt31 := xt31.ks (.of e)
  have xt32 := xt32.ks (.of e)
  have acc := fun v hv => (acc v hv).ks (.of e)
  have hs := e _ _ hs
  generalize upd G19 l3 (.lst [.ref t30, .ref t31, .ref t32]) = G20 at e gl3 S eH xt30 xt31 xt32 acc hs ⊢
  have all3 : ∀ v ∈ [V.ref t30, .ref t31, .ref t32], Stg K C G20 v := fun v hv => by
    simp only [List.mem_cons, List.not_mem_nil, or_false] at hv
    rcases hv with rfl | rfl | rfl
    · exact xt30
    · exact xt31
    · exact xt32
  have acc2 : ∀ v ∈ sL ++ [V.ref t30, .ref t31, .ref t32], Stg K C G20 v := fun v hv => (List.mem_append.mp hv).elim (acc v) (all3 v)
  clear xt30 xt31 xt32 all3 acc
  refine ⟨sl, l3, sL, _, rfl, rfl, hs, gl3, Nat.le_of_lt (small10 (by rw [lsl]; show 9 + 3 ≤ 10000; decide)), fun sl2 nsl2 => ?_⟩
  have e := same_new (o := .lst (sL ++ [V.ref t30, .ref t31, .ref t32])) nsl2
  have S := S.same e
  have eH := eH.trans (.of e)
  have acc := fun v hv => (acc2 v hv).ks (.of e)
  have hs : upd G20 sl2 (.lst (sL ++ [V.ref t30, .ref t31, .ref t32])) sl2 = some (.lst (sL ++ [V.ref t30, .ref t31, .ref t32])) := upd_same
  have lsl : (sL ++ [V.ref t30, .ref t31, .ref t32]).length = 12 := by rw [List.length_append, lsl]; rfl
  generalize upd G20 sl2 (.lst (sL ++ [V.ref t30, .ref t31, .ref t32])) = G21 at S eH acc hs e ⊢
  generalize sL ++ [V.ref t30, .ref t31, .ref t32] = sL at acc hs lsl ⊢
  clear acc2
  generalize hsl : sl2 = sl at hs ⊢
  refine gN ?_
  dsimp only
  refine ⟨_, rfl, _, rfl, pn, cl, sl, sL, b, rfl, S.S.pt.pen, by omega, hs, by rw [lsl]; decide, by rw [lsl]; decide, fun x J1 mx bj penj => ?_⟩
  have kj := Ks.pen S.S.pt.pen bj
  obtain ⟨t, v1, v2, v3, v4, rfl, ht, s4⟩ := (acc x mx).ks kj
  have S := S.but bj penj
  have eH := eH.trans kj
  clear acc hs mx
  refine ⟨t, _, rfl, SqT.of ht, rfl, _, _, rfl, _, _, rfl, _, _, rfl, _, _, rfl, rfl, ?_⟩
  dsimp only
  obtain ⟨d1, d2, d3, d4, f1, f2, f3, f4, nc⟩ := s4
  refine cutIf (fun x H' => x = false ∧ Same J1 H') (fun Qb fin => ?_) ?_
  · refine ⟨_, rfl, _, rfl, _, rfl, _, rfl, fun p dx np ndx ne => mk_k5 f1 f2 f3 f4 (fin_lf (lf_int 0)) np ndx fun a1 a2 a3 a4 a5 J2 e2 hp o1 o2 o3 o4 o5 => ?_⟩
    refine ⟨p, dx, _, _, _, _, _, rfl, hp, .inl ⟨nc J2 a1 a2 a3 a4 (.of e2) o1 o2 o3 o4, fun J3 e3 => ?_⟩⟩
    exact ⟨_, _, rfl, rfl, _, rfl, fin _ _ ⟨rfl, e2.trans e3⟩⟩
  rintro x J2 ⟨rfl, e2⟩
  have S := S.same e2
  have eH := eH.trans (.of e2)
  have k2 : Ks J1 J2 := .of e2
  refine iteF ?_
  unfold tNext
  dsimp only
  refine cutIf (fun x H' => x = false ∧ Ks J2 H' ∧ PT Tb H' pn cl (b + 130)) (fun Qb fin => ?_) ?_
  · refine ⟨_, rfl, _, rfl, _, rfl, _, rfl, _, rfl, _, rfl, gp, _, rfl, .inl (SqL.of S.hg), ?_⟩
    rw [gnv]
    refine ⟨pn, cl, ws.length + 1, _, rfl, S.S.pt.pen, by omega, by omega, by omega, fun ls1 lp1 J3 fc1 ll1 b3 pen3 nlp1 hl1 => ?_⟩
    have k3 := Ks.pen S.S.pt.pen b3
    have S := S.but b3 pen3
    refine fun q1 dx1 np1 ndx1 ne1 => mk_fc fc1 (by omega) (by omega) hl1 S.S.pt.tabs np1 ndx1 fun L1 ws1 J4 os1 O1 co1 f4' tab4 => ?_
    have S := S.ext f4' tab4
    have k14 := k2.trans (k3.trans (Ks.ext f4'))
    refine fun p dx np ndx ne => mk_k5 (FIn.ks k14 _ _ _ f1) (FIn.ks k14 _ _ _ f2) (FIn.ks k14 _ _ _ f3) (FIn.ks k14 _ _ _ f4) (fin_lf (lf_co O U co1)) np ndx fun a1 a2 a3 a4 a5 J5 e5 hp o1 o2 o3 o4 o5 => ?_
    refine ⟨p, dx, _, _, _, _, _, rfl, hp, .inl ⟨nc J5 a1 a2 a3 a4 (k14.trans (.of e5)) o1 o2 o3 o4, fun J6 e6 => ?_⟩⟩
    have S := S.same (e5.trans e6)
    exact ⟨_, _, rfl, rfl, _, rfl, fin _ _ ⟨rfl, (k3.trans (Ks.ext f4')).trans (.of (e5.trans e6)), ⟨S.S.pt.pen.mono (by omega), S.S.pt.tabs⟩⟩⟩
  rintro x J3 ⟨rfl, k3, pt3⟩
  refine iteF ?_
  exact qN D J3 pn cl (b + 130) q wp cp rp gp L ws cs r c o8 o9 o10 _ _ _ _ _ o16 o17 (S.ks k3 pt3) N hrr (by omega) fun H' p e => qq H' ⟨p.pen.mono (by omega), p.tabs⟩ ((eH.trans k3).tl.trans e)
end
end K38
set_option Elab.async false
set_option linter.all false
set_option maxRecDepth 100001
set_option maxHeartbeats 3999999
namespace K38
open PySem L2
open Huff (hf dot Best)
def spPp (C : Addr) (Tb : List (Addr × Str)) : Sp := fun vs H Q _ => ∃ (pn cl wp cp rp : Addr) (b : Nat) (ws : List W) (cs : List Nat) (r c : Nat), vs = [.ref pn, .ref wp, .ref cp, .int ((r : Nat) : Int), .int ((c : Nat) : Int), .ref rp] ∧ PT Tb H pn cl b ∧ H wp = some (.lst (ws.map wV)) ∧ H cp = some (.lst (nV cs)) ∧ H rp = some (.lst (nV (sgn ws cs r c))) ∧ CNt ws cs ∧ r ≤ ws.length ∧ b ≤ 40000 ∧
  ∀ H', PT Tb H' pn cl (b + 450) → TL H H' → Q (.bl true) H'
/-- signs that are asked -/
def SgV (n : Nat) (x : V) : Prop := (∃ j : Int, x = .int j ∧ -1 ≤ j ∧ j ≤ ((n : Nat) : Int)) ∨ x = .non ∨ (∃ s, x = .str s ∧ PyData.strOk s = true) ∨ x = .bl true
theorem SgV.flat {n : Nat} {x : V} (h : SgV n x) : Flat x := by
  rcases h with ⟨j, rfl, _⟩ | rfl | ⟨s, rfl, h⟩ | rfl
  · exact True.intro
  · exact True.intro
  · exact h
  · exact True.intro
theorem sgn_lt {ws : List W} {cs : List Nat} {r c i : Nat} (h : i ∈ sgn ws cs r c) : i < ws.length := List.mem_range.mp (List.mem_filter.mp h).1
theorem inV_neg {j : Int} {us : List Nat} (h : ∀ u ∈ us, ((u : Nat) : Int) ≠ j) : inV (.int j) (nV us) = false := by
  unfold inV nV
  rw [List.any_eq_false]
  intro x hx
  obtain ⟨u, hu, rfl⟩ := List.mem_map.mp hx
  show ¬ (((u : Nat) : Int) == j) = true
  rw [beq_iff_eq]
  exact h u hu
section
variable {P : Program} {w : World} {K : PySem.W.Frag} {mg : Str → Option Value} {base : Heap}
theorem ok_pp {f C P1 P2 CT CL CN CB CG : Addr} {fd : FuncData} {Tb : List (Addr × Str)} (R : PpC P w K mg base f C P1 P2 CT CL CN CB CG fd Tb) : FnOk P w K mg base CX0 11 f fd PPp (spPp C Tb) := by
  refine R.F.ok scPp (fun vs H Q E h => ?_) (fun cdv A outer s H vs Q E hr h => ?_)
  · obtain ⟨pn, cl, wp, cp, rp, b, ws, cs, r, c, rfl, _⟩ := h
    rfl
  · obtain ⟨pn, cl, wp, cp, rp, b, ws, cs, r, c, rfl, pt, hw, hc, hr0, N, hrr, hb, qq⟩ := h
    obtain ⟨tN, p4, qN⟩ := zp4 R cdv A outer s H E hr
    obtain ⟨F, B, Z, mr, T, TE, O, U, KC, gC, cK, cSh, cSC, cLC, cCo, cLe, cIK, cIR, mC, mK, mR⟩ := id R
    refine ⟨_, (pss_cons (ps_set (i := 6) scPp.nd rfl (Or.inl rfl) (pe_c cLC hr pass0 (pa_cons (pv 1) pa_nil)))
      (pss_cons (ps_set (i := 7) scPp.nd rfl (Or.inl rfl) (pe_op op_cat (pe_op op_cat (pe_slice sl_list (pv 2) po_none (po_some (pv 3))) (pe_lst (pa_cons (pv 4) pa_nil))) (pe_slice sl_list (pv 2) (po_some (pv 3)) po_none)))
      (pss_cons (ps_set (i := 8) scPp.nd rfl (Or.inl rfl) (pe_op op_cat (pe_listRg rfl rfl B.list (prg_1 rfl B.range (pe_len B.len (pa_cons (pv 1) pa_nil)))) (pe_lst (pa_cons (pe_len B.len (pa_cons (pv 1) pa_nil)) (pa_cons (pe_un un_neg pe_int) (pa_cons pe_non (pa_cons pe_str (pa_cons pe_bl pa_nil))))))))
      (pss_cons (ps_for PassesOwn.never rfl (pi_sqA (pe_slice sl_list (pe_c cSh hr pass0 (pa_cons (pv 0) (pa_cons (pv 8) pa_nil))) po_none (po_some pe_int))) (pg_name (i := 9) scPp.nd rfl (.inl rfl)) (pss_cons (ps_set (i := 10) scPp.nd rfl (Or.inl rfl) (pe_and (pe_isi B.isi (pa_cons (pv 9) (pa_cons (pe_ty "int" B.int) pa_nil))) (pe_and (pe_not (pe_isi B.isi (pa_cons (pv 9) (pa_cons (pe_ty "bool" B.bool) pa_nil)))) (pe_one (pe_cmpR op_in_seq (pv 9) (pv 5) rfl))))) (pss_one (ps_if (pt_cmpR op_ne (pe_callB call_reprF rfl mr (by decide +kernel) (pa_cons (pe_c cIK hr pass0 (pa_cons (pe_mk mK hr pass0 (pa_cons (pv 6) (pa_cons (pv 2) (pa_cons (pv 3) (pa_cons (pv 4) (pa_cons (pv 9) pa_nil)))))) pa_nil)) pa_nil)) (pe_callB call_reprF rfl mr (by decide +kernel) (pa_cons (pv 10) pa_nil)) (nomark _)) (pss_one (ps_ret pe_bl)) pss_nil))))
      p4)))), ?_⟩
    have l2 := N.l2
    have l9 := N.l9
    have ec := N.ec
    have sm := N.fw.sm (by omega)
    have gl := grw_len (c := c) (show r ≤ cs.length by omega)
    refine ⟨_, rfl, wp, ws, rfl, hw, N.fw.cw1 l2 (by omega), pt.tabs, fun q L H1 co nq f1 tab1 => ?_⟩
    have S1 : CS C Tb H1 pn cl b q wp cp L ws cs := ⟨pt.ext f1 tab1, co, f1 _ _ hw (fun _ z => nomatch z), f1 _ _ hc (fun _ z => nomatch z)⟩
    have hr1 := f1 _ _ hr0 fun _ z => nomatch z
    have eH := Ks.ext f1
    clear co hw hc hr0 pt
    refine gN ?_
    dsimp only
    refine ⟨_, rfl, ?_⟩
    delta tNoPart
    refine ⟨_, rfl, _, rfl, cp, _, rfl, SqL.of S1.hc, fun a1 n1 => ?_⟩
    rw [show cutV (nV cs) none (some ((r : Nat) : Int)) = nV (cs.take r) by
      rw [show cutV (nV cs) none (some ((r : Nat) : Int)) = (nV cs).take r from cut_to (by rw [nV_len]; omega)]
      unfold nV
      rw [List.map_take]]
    have e2 := same_new (o := .lst (nV (cs.take r))) n1
    have g2 : upd H1 a1 (.lst (nV (cs.take r))) a1 = some (.lst (nV (cs.take r))) := upd_same
    have S2 := S1.same e2
    generalize upd H1 a1 (.lst (nV (cs.take r))) = H2 at e2 g2 S2 ⊢
    refine ⟨_, rfl, by show 1 ≤ sizeLine; decide, fun a2 n2 => ?_⟩
    have e3 := same_new (o := .lst [.int ((c : Nat) : Int)]) n2
    have g3 : upd H2 a2 (.lst [.int ((c : Nat) : Int)]) a2 = some (.lst [.int ((c : Nat) : Int)]) := upd_same
    have S3 := S2.same e3
    have g23 := e3 _ _ g2
    generalize upd H2 a2 (.lst [.int ((c : Nat) : Int)]) = H3 at e3 g3 S3 g23 ⊢
    refine ⟨a1, a2, _, _, rfl, rfl, g23, g3, Nat.le_of_lt (small10 (by rw [nV_len, List.length_take]; show min r cs.length + 1 ≤ 10000; omega)), fun a3 n3 => ?_⟩
    rw [show nV (cs.take r) ++ [V.int ((c : Nat) : Int)] = nV (cs.take r ++ [c]) by rw [nV_app]; rfl]
    have e4 := same_new (o := .lst (nV (cs.take r ++ [c]))) n3
    have g4 : upd H3 a3 (.lst (nV (cs.take r ++ [c]))) a3 = some (.lst (nV (cs.take r ++ [c]))) := upd_same
    have S4 := S3.same e4
    generalize upd H3 a3 (.lst (nV (cs.take r ++ [c]))) = H4 at e4 g4 S4 ⊢
    refine ⟨_, rfl, _, rfl, _, rfl, cp, _, rfl, SqL.of S4.hc, fun a4 n4 => ?_⟩
    rw [show cutV (nV cs) (some ((r : Nat) : Int)) none = nV (cs.drop r) by
      rw [show cutV (nV cs) (some ((r : Nat) : Int)) none = (nV cs).drop r from cut_from (by rw [nV_len]; omega)]
      unfold nV
      rw [List.map_drop]]
    have e5 := same_new (o := .lst (nV (cs.drop r))) n4
    have g5 : upd H4 a4 (.lst (nV (cs.drop r))) a4 = some (.lst (nV (cs.drop r))) := upd_same
    have S5 := S4.same e5
    have g45 := e5 _ _ g4
    generalize upd H4 a4 (.lst (nV (cs.drop r))) = H5 at e5 g5 S5 g45 ⊢
    refine ⟨a3, a4, _, _, rfl, rfl, g45, g5, Nat.le_of_lt (small10 (by rw [nV_len, nV_len, List.length_append, List.length_take, List.length_drop]; show min r cs.length + 1 + (cs.length - r) ≤ 10000; omega)), fun gp ngp => ?_⟩
    rw [show nV (cs.take r ++ [c]) ++ nV (cs.drop r) = nV (grw cs r c) by rw [← nV_app]; rfl]
    have e6 := same_new (o := .lst (nV (grw cs r c))) ngp
    have g6 : upd H5 gp (.lst (nV (grw cs r c))) gp = some (.lst (nV (grw cs r c))) := upd_same
    have S6 := S5.same e6
    have e16 := (e2.trans (e3.trans e4)).trans (e5.trans e6)
    have hr6 := e16 _ _ hr1
    have eH6 := eH.trans (.of e16)
    generalize upd H5 gp (.lst (nV (grw cs r c))) = H6 at e6 g6 S6 hr6 eH6 ⊢
    have Z6 : PZ C Tb H6 pn cl b q wp cp rp gp L ws cs r c := ⟨S6, hr6, g6⟩
    clear S1 S2 S3 S4 S5 S6 g2 g3 g23 g4 g5 g45 g6 hr1 hr6 e2 e3 e4 e5 e16 eH n1 n2 n3 n4 e6 ngp
    refine gN ?_
    dsimp only
    refine ⟨_, rfl, wp, _, rfl, .inl (SqL.of Z6.S.hw), ?_⟩
    rw [List.length_map]
    refine ⟨_, rfl, RgOk.of_le (by omega) (by omega) (by omega) (by omega), fun l1 n1 => ?_⟩
    have er : rgV 0 ((ws.length : Nat) : Int) = nV (List.range ws.length) := by
      unfold rgV nV
      simp
    rw [er]
    have e2 := same_new (o := .lst (nV (List.range ws.length))) n1
    have g2 : upd H6 l1 (.lst (nV (List.range ws.length))) l1 = some (.lst (nV (List.range ws.length))) := upd_same
    have Z7 := Z6.same e2
    have eH7 := eH6.trans (.of e2)
    generalize upd H6 l1 (.lst (nV (List.range ws.length))) = H7 at e2 g2 Z7 eH7 ⊢
    refine ⟨_, rfl, wp, _, rfl, .inl (SqL.of Z7.S.hw), ?_⟩
    rw [List.length_map]
    refine ⟨_, rfl, by show 5 ≤ sizeLine; decide, fun l2 n2 => ?_⟩
    have e3 := same_new (o := .lst [.int ((ws.length : Nat) : Int), .int (-1), .non, .str (Str.ofString "0"), .bl true]) n2
    have g3 : upd H7 l2 (.lst [.int ((ws.length : Nat) : Int), .int (-1), .non, .str (Str.ofString "0"), .bl true]) l2 = some (.lst [.int ((ws.length : Nat) : Int), .int (-1), .non, .str (Str.ofString "0"), .bl true]) := upd_same
    have Z8 := Z7.same e3
    have eH8 := eH7.trans (.of e3)
    have g23 := e3 _ _ g2
    generalize upd H7 l2 (.lst [.int ((ws.length : Nat) : Int), .int (-1), .non, .str (Str.ofString "0"), .bl true]) = H8 at e3 g3 Z8 eH8 g23 ⊢
    refine ⟨l1, l2, _, _, rfl, rfl, g23, g3, Nat.le_of_lt (small10 (by rw [nV_len, List.length_range]; show ws.length + 5 ≤ 10000; omega)), fun l3 n3 => ?_⟩
    have e4 := same_new (o := .lst (nV (List.range ws.length) ++ [.int ((ws.length : Nat) : Int), .int (-1), .non, .str (Str.ofString "0"), .bl true])) n3
    have g4 : upd H8 l3 (.lst (nV (List.range ws.length) ++ [.int ((ws.length : Nat) : Int), .int (-1), .non, .str (Str.ofString "0"), .bl true])) l3 = some (.lst (nV (List.range ws.length) ++ [.int ((ws.length : Nat) : Int), .int (-1), .non, .str (Str.ofString "0"), .bl true])) := upd_same
    have Z9 := Z8.same e4
    have eH9 := eH8.trans (.of e4)
    have sg : ∀ v ∈ nV (List.range ws.length) ++ [V.int ((ws.length : Nat) : Int), .int (-1), .non, .str (Str.ofString "0"), .bl true], SgV ws.length v := by
      intro v hv
      rcases List.mem_append.mp hv with hv | hv
      · obtain ⟨u, hu, rfl⟩ := List.mem_map.mp hv
        have hu := List.mem_range.mp hu
        exact .inl ⟨_, rfl, by omega, by omega⟩
      · simp only [List.mem_cons, List.not_mem_nil, or_false] at hv
        rcases hv with rfl | rfl | rfl | rfl | rfl
        · exact .inl ⟨_, rfl, by omega, by omega⟩
        · exact .inl ⟨_, rfl, by omega, by omega⟩
        · exact .inr (.inl rfl)
        · exact .inr (.inr (.inl ⟨_, rfl, by decide +kernel⟩))
        · exact .inr (.inr (.inr rfl))
    have len : (nV (List.range ws.length) ++ [V.int ((ws.length : Nat) : Int), .int (-1), .non, .str (Str.ofString "0"), .bl true]).length = ws.length + 5 := by
      rw [List.length_append, nV_len, List.length_range]
      rfl
    generalize nV (List.range ws.length) ++ [V.int ((ws.length : Nat) : Int), .int (-1), .non, .str (Str.ofString "0"), .bl true] = vs at e4 g4 Z9 eH9 sg len ⊢
    generalize upd H8 l3 (.lst vs) = HA at e4 g4 Z9 eH9 ⊢
    clear g2 g3 g23 e2 e3 e4 n1 n2 n3 Z6 Z7 Z8 eH6 eH7 eH8
    refine gN ?_
    dsimp only
    refine ⟨_, rfl, _, rfl, pn, cl, l3, vs, b, rfl, Z9.S.pt.pen, g4, fun v hv => (sg v hv).flat, by omega, by omega, fun us Dv HB pm bt penB nD hD => ?_⟩
    have ZB := Z9.but bt penB
    have eHB := eH9.trans (.pen Z9.S.pt.pen bt)
    refine ⟨_, rfl, Dv, _, rfl, SqL.of hD, fun lp nlp => ?_⟩
    have e5 := same_new (o := .lst (cutV us none (some 5))) nlp
    have hl : upd HB lp (.lst (cutV us none (some 5))) lp = some (.lst (cutV us none (some 5))) := upd_same
    have ZC := ZB.same e5
    have eHC := eHB.trans (.of e5)
    have sub : ∀ x ∈ cutV us none (some 5), SgV ws.length x := fun x hx => sg x (pm.mem_iff.mp (List.mem_of_mem_drop (List.mem_of_mem_take hx)))
    generalize cutV us none (some 5) = xs at e5 hl ZC eHC sub ⊢
    generalize upd HB lp (.lst xs) = HC at e5 hl ZC eHC ⊢
    refine ⟨lp, _, rfl, .inl (SqL.of hl), fun J G wk hG => for_it (D := { nx := _, rt := Q, bk := fun _ _ => False, ct := fun _ _ => False }) wk (fun i σ H' => ∃ (o9 o10 : Option V), σ = σP pn wp cp rp q gp r c (some (.ref l3)) o9 o10 none none none none none none none ∧ Same HC H') ⟨_, _, rfl, Same.refl _⟩ (fun i σ H' _ ⟨_, _, _, e⟩ => hG H' fun o z => e _ _ z) ?_ ?_⟩
    · rintro i x σ H6 H7 hi ⟨p9, p10, rfl, e6⟩ ⟨rfl, hx⟩
      have sx := sub x (List.mem_of_getElem? hx)
      have Z6 := ZC.same e6
      clear wk hG
      refine gN ?_
      dsimp only
      have kx : Kn H7 x := by
        rcases sx with ⟨j, rfl, _⟩ | rfl | ⟨s, rfl, _⟩ | rfl
        · exact .int j
        · exact .non
        · exact .str s
        · exact .bl true
      obtain ⟨tx, ty, kt⟩ := kx.kinds K
      refine cutSeq (fun σ' H' => σ' = σP pn wp cp rp q gp r c (some (.ref l3)) (some x) (some (.bl (isI x && inV x (nV (sgn ws cs r c))))) none none none none none none none ∧ H' = H7) (fun nx' k => ?_) ?_
      · refine ⟨_, rfl, _, _, _, _, _, rfl, .ty _, ty, kt.1, _, rfl, ?_⟩
        rcases sx with ⟨j, rfl, _⟩ | rfl | ⟨s, rfl, _⟩ | rfl
        · refine iteT ?_
          refine ⟨_, rfl, _, _, _, _, _, rfl, .ty _, ty, kt.2.1, _, rfl, _, rfl, ?_⟩
          refine iteT ?_
          refine ⟨_, rfl, _, rfl, rp, _, rfl, .inl (SqL.of Z6.hr), rfl, flat_nV' _, ?_⟩
          refine gN ?_
          exact k _ _ ⟨rfl, rfl⟩
        · refine iteF ?_
          refine gN ?_
          exact k _ _ ⟨rfl, rfl⟩
        · refine iteF ?_
          refine gN ?_
          exact k _ _ ⟨rfl, rfl⟩
        · refine iteT ?_
          refine ⟨_, rfl, _, _, _, _, _, rfl, .ty _, ty, kt.2.1, _, rfl, _, rfl, ?_⟩
          refine iteF ?_
          refine gN ?_
          exact k _ _ ⟨rfl, rfl⟩
      · rintro _ _ ⟨rfl, rfl⟩
        refine ⟨_, rfl, _, rfl, _, rfl, _, rfl, _, rfl, fun p dx np ndx ne => mk_k5 (fin_lf (lf_co O U Z6.S.co)) (fin_n 0 (.inl Z6.S.hc) (by omega)) (fin_lf (lf_int _)) (fin_lf (lf_int _)) (fin_lf (v := x) ?_) np ndx fun a1 a2 a3 a4 a5 H9 e9 hp o1 o2 o3 o4 o5 => ?_⟩
        · exact lf_kn kx (by rcases sx with ⟨j, rfl, _⟩ | rfl | ⟨s, rfl, _⟩ | rfl <;> rfl)
        have z1 := fout_lf o1
        obtain ⟨t, rfl, ht⟩ := fout_n 0 o2
        have z3 := fout_lf o3
        have z4 := fout_lf o4
        have z5 := fout_lf o5
        subst z1 z3 z4 z5
        have yes : YesCt C H9 (.ref q) (.ref t) (.int ((r : Nat) : Int)) (.int ((c : Nat) : Int)) q t L ws cs r c := ⟨rfl, Z6.S.co.same e9, rfl, ht, ec, N.l2, by omega, rfl, hrr, rfl, sm⟩
        have kx9 : Kv K H9 a5 := .kn (kx.same e9)
        refine ⟨p, dx, _, _, _, _, _, rfl, hp, .inr ⟨q, t, L, ws, cs, r, c, yes, kx9, ?_⟩⟩
        rcases sx with ⟨j, rfl, hj1, hj2⟩ | rfl | ⟨s, rfl, _⟩ | rfl
        · by_cases hj : 0 ≤ j ∧ j < ((ws.length : Nat) : Int)
          · obtain ⟨i', rfl⟩ := Int.eq_ofNat_of_zero_le hj.1
            refine .inr ⟨i', rfl, by omega, fun H10 e10 => ⟨_, rfl, True.intro, _, rfl, _, rfl, True.intro, rfl, _, rfl, by
            rw [show (isI (V.int ((i' : Nat) : Int)) && inV (V.int ((i' : Nat) : Int)) (nV (sgn ws cs r c))) = decide (i' ∈ sgn ws cs r c) from inV_nV i' _, decide_eq_true rfl]
            exact iteF ⟨_, _, rfl, e6.trans (e9.trans e10)⟩⟩⟩
          · refine .inl ⟨decide_eq_false (by omega), fun H10 e10 => ⟨_, rfl, True.intro, _, rfl, _, rfl, True.intro, rfl, _, rfl, by
            rw [show (isI (V.int j) && inV (V.int j) (nV (sgn ws cs r c))) = false from inV_neg fun u hu e => hj ⟨by omega, by have := sgn_lt hu; omega⟩, decide_eq_true rfl]
            exact iteF ⟨_, _, rfl, e6.trans (e9.trans e10)⟩⟩⟩
        · exact .inl ⟨rfl, fun H10 e10 => ⟨_, rfl, True.intro, _, rfl, _, rfl, True.intro, rfl, _, rfl, by
            rw [show (isI V.non && inV V.non (nV (sgn ws cs r c))) = false from rfl, decide_eq_true rfl]
            exact iteF ⟨_, _, rfl, e6.trans (e9.trans e10)⟩⟩⟩
        · exact .inl ⟨rfl, fun H10 e10 => ⟨_, rfl, True.intro, _, rfl, _, rfl, True.intro, rfl, _, rfl, by
            rw [show (isI (V.str s) && inV (V.str s) (nV (sgn ws cs r c))) = false from rfl, decide_eq_true rfl]
            exact iteF ⟨_, _, rfl, e6.trans (e9.trans e10)⟩⟩⟩
        · exact .inl ⟨rfl, fun H10 e10 => ⟨_, rfl, True.intro, _, rfl, _, rfl, True.intro, rfl, _, rfl, by
            rw [show (isI (V.bl true) && inV (V.bl true) (nV (sgn ws cs r c))) = false from rfl, decide_eq_true rfl]
            exact iteF ⟨_, _, rfl, e6.trans (e9.trans e10)⟩⟩⟩
    · rintro σ H6 ⟨o9, o10, rfl, e6⟩
      have Z6 := ZC.same e6
      exact qN _ H6 pn cl _ q wp cp rp gp L ws cs r c _ _ _ _ _ _ _ _ _ _ Z6 N hrr (by omega) fun H9 p9 t9 => qq H9 ⟨p9.pen.mono (by omega), p9.tabs⟩ ((eHC.trans (.of e6)).tl.trans t9)
end
end K38
set_option Elab.async false
set_option linter.all false
set_option maxRecDepth 100001
set_option maxHeartbeats 3999999
namespace K38
open PySem L2
section
variable {prog : Program} {w : World} {A : Around} {E : Value → Shared → Prop} {s : Shared} {K : PySem.W.Frag} {x C : Addr} {ox : Obj} {od : Option Obj}
/-- a special method of the class at C that is a slot of object: it is called -/
theorem ifBoundB_K {M : Model} {B : String} {id : String} {name : Str} {args : List Value} {Q : Option Value → Shared → Prop} (X : K.In s.heap) (I : PySem.W.InstAt s.heap x ox C od) (hs : PySem.W.findIn K (.ref C) name = some (some (.builtin id)))
    (S : Slot B name id) (h : wpAny M A (call (.builtin id) (.ref x :: args)) (fun v => Q (some v)) E s) : wpAny M A (callSpecialIfBound? (.ref x) name args) Q E s := by
  simp only [callSpecialIfBound?, bindSpecialIfBound?]
  refine wpAny_holding (wpAny_bind (wpAny_bind (wpAny_bind (I.type.here ((PySem.W.looks_findIn X hs).here ?_)))))
  simp only [S.bind]
  refine wpAny_bind (wpAny_askSetting (wpAny_ite ?_))
  have fin : wpAny M A (call (.builtin id) ([.ref x] ++ args) >>= fun v => pure (some v)) Q E s :=
    wpAny_bind (wpAny_mono h (fun v s' h' => wpAny_pure h') fun _ _ h' => h')
  split
  · exact wpAny_bind (wpAny_pure (wpAny_pure fin))
  · exact wpAny_tryCatch (wpAny_bind (wpAny_pure (wpAny_pure fin)))
end
section
variable {X : Cx}
def rOwnNe (K : PySem.W.Frag) (C : Addr) (sp : Sp) : R2 := fun x y H Q => ∃ a dx fs tb, x = .ref a ∧ H a = some (.ins C dx fs) ∧ TyX K H y tb ∧ PySem.W.notFirst K C tb = true ∧ sp [x, y] H (fun v H' => (∃ b, v = .bl b ∧ Q (.bl (!b)) H')) E0
theorem op_ownNe {CX : CXT} {n j : Nat} {C f : Addr} {fd : FuncData} {ps : List Str} {sp : Sp} (F : FnOk X.prog X.w X.K X.mg X.base CX n f fd ps sp) (hs : PySem.W.findIn X.K (.ref C) "__eq__" = some (some (.ref f))) (hf : PySem.W.isFn X.K (.ref f) = true) (hb : Binds X.K fd ps [])
    (hN : PySem.W.findIn X.K (.ref C) "__ne__" = some (some (.builtin "object.__ne__"))) (hM : PySem.W.mroIn X.K C (.type "object") = some true)
    (hx : Passes CX X E0) (hr : Room j X.A) (hj : n + 1 ≤ j) : OpR X (compareOp .NotEq) (rOwnNe X.K C sp) := by
  intro pins s σ H x y v u Q I rx ry h
  obtain ⟨a, dx, fs, tb, rfl, ha, ty, nf, h⟩ := h
  have hr := (hr.mono hj).in1
  cases (show v = Value.ref a from rx)
  obtain ⟨mA, J, _⟩ := ins_get I.hok ha
  obtain ⟨od, J, _⟩ := J.look
  obtain ⟨Pz, Z, p, _⟩ := kit_of I ry ty
  obtain ⟨m, hF⟩ := I.fr
  have XK := (I.ok.mod.kin).keeps hF.keep
  show wpAny (model X.prog X.w) X.A (richCompare .NotEq (.ref a) u) (EP X pins σ Q) X.xe s
  have hu : X.A.units + 1 < cLine := by have := hr.un; show X.A.units + 1 < cLine; have e : X.A.in1.units = X.A.units + 1 := rfl; omega
  have hl := F.len _ _ _ _ h
  have r2 : Vals [V.ref a, y] [Value.ref a, u] := .cons rfl (.cons ry .nil)
  have own : wpAny (model X.prog X.w) X.A.in1 (call (.ref f) [.ref a, u]) (fun v s' => ∃ b, v = .bool b ∧ EP X pins σ Q (.bool (!b)) s') X.xe s := by
    refine wpAny_call (codeAny_mono (F.run X.A.in1 X.stack s H ⟨[.ref a, u], []⟩ [.ref a, u] [.ref a, y] _ E0 hr I.env0.in1 (by
      have := hb s [.ref a, u] I.kIn (by simpa using hl)
      simpa using this) r2 h) fun r s' hq => ?_)
    cases r with
    | error e => exact hx pins σ H s e s' I hq
    | ok fl =>
      cases fl with
      | ret w =>
        obtain ⟨z, H', I', rz, ⟨b, ez, q⟩⟩ := I.after hq
        subst ez
        cases rz
        exact ⟨b, rfl, .bl (!b), H', I', rfl, q⟩
      | next => exact False.elim hq
      | brk => exact False.elim hq
      | cont => exact False.elim hq
  have one : wpAny (model X.prog X.w) X.A (tryCompare (.ref a) "__ne__" u) (fun r s' => ∃ v, r = some v ∧ EP X pins σ Q v s') X.xe s := by
    unfold tryCompare
    refine wpAny_bind (ifBoundB_K XK J hN PySem.F.cmp_object.ne (wpAny_call (codeAny_call_builtin PySem.F.cmp_object.ne.plain PySem.F.cmpEntry_ne
      (PySem.W.check_slot PySem.F.cmpKind_ne PySem.F.cmpSplit_ne (J.type.andThen (PySem.W.looks_mroIn XK hM)) (PySem.F.cmpArgs_ne _ _) ?_))))
    unfold Builtin.«object.__ne__»
    repeat (first
      | with_reducible refine wpAny_cRoomFor hu ?_
      | (refine wpAny_bind (m := callSpecialIfBound? (.ref a) (Str.ofString "__eq__") [u])
          (PySem.W.ifBound_K XK J hs hf (wpAny_mono own (fun r s' hr => by
            obtain ⟨b, rfl, hq⟩ := hr
            repeat (first | exact ⟨_, rfl, hq⟩ | exact wpAny_truthy_bool ⟨_, rfl, hq⟩ | (refine wpAny_bind (m := truthy (.bool _)) (wpAny_truthy_bool ?_)) | wp_step)) fun _ _ e => e)))
      | wp_step)
  unfold richCompare
  simp only [oneThing_ref]
  refine wpAny_holding (wpAny_bind (wpAny_cRoomFor (Nat.lt_of_succ_lt hu) ?_))
  rw [cmpInfo_NotEq]
  dsimp only
  refine wpAny_bind (J.type.here (wpAny_bind ((Z.ty _ _ I.kIn p).here ?_)))
  split
  · rename_i q
    have e : PySem.W.subIn X.K tb (.ref C) = some false := by
      rcases Bool.or_eq_true_iff.mp nf with e | e
      · rw [beq_iff_eq.mp e] at q; simp at q
      · exact beq_iff_eq.mp e
    refine wpAny_bind ((PySem.W.looks_subIn XK e).here ?_)
    simp only [Bool.false_eq_true, if_false]
    refine wpAny_bind (wpAny_mono one (fun r s' z => ?_) fun _ _ e => e)
    obtain ⟨v, rfl, hq⟩ := z
    exact wpAny_pure hq
  · refine wpAny_bind (wpAny_pure ?_)
    simp only [Bool.false_eq_true, if_false]
    refine wpAny_bind (wpAny_mono one (fun r s' z => ?_) fun _ _ e => e)
    obtain ⟨v, rfl, hq⟩ := z
    exact wpAny_pure hq
end
/-! ### first of all -/
end K38
set_option Elab.async false
set_option linter.all false
set_option maxRecDepth 100001
set_option maxHeartbeats 3999999
namespace K38
open PySem L2
open Huff (hf dot Best)
abbrev sLaw : Stmt := topS 70
abbrev NLaw : List Str := ["_law_script", "_law_pen", "_law_turn", "_law_words_here", "_law_counts", "_law_rank", "_law_count", "_law_code_here", "_law_grown", "_law_told", "_law_right", "_law_due", "_law_word"]
theorem scLaw : FnScope NLaw ["_law_script"] (defScope sLaw) := ⟨rfl, rfl, rfl, by decide +kernel, rfl, by decide +kernel, by decide +kernel⟩
def forB : Stmt → List Stmt
  | .For _ _ b _ _ => b
  | _ => []
abbrev lawB : List Stmt := forB ((defBody sLaw).getD 1 (.Pass ⟨0, 0, 0, 0⟩))
def spLaw (K : PySem.W.Frag) (Tb : List (Addr × Str)) : Sp := fun vs H Q _ => ∃ (a : Addr) (is : List Int), vs = [.ref a] ∧ SqL K H a (is.map V.int) ∧ LamX.Tabs Tb H ∧ ∀ H', Q (.bl true) H'
structure LwC (P : Program) (w : World) (K : PySem.W.Frag) (mg : Str → Option Value) (base : Heap) (f fe C P1 P2 CT CA CO CR CC : Addr) (fd fdE : FuncData) (Tb : List (Addr × Str)) : Prop where
  F : Fun K "law" "law" sLaw f fd
  B : Bi mg
  T : TxC K C
  TE : TxE K C
  TK : TxK K P1 "sign"
  TR : TxK K P2 "other"
  O : ObC K C
  OK : ObC K P1
  OR : ObC K P2
  U : ObK K
  kR : PySem.W.kitOne K (.ref P2) (.ref P1) = some false
  gK : mg "Kept" = some (.ref P1)
  cPn : Cal CX0 P w K mg base 1 "_law_pen_of" (spPen K)
  cD : Cal CX0 P w K mg base 1 "_law_draw" spDraw
  cW : Cal CX0 P w K mg base 4 "_law_words" spLWo
  cN : Cal CX0 P w K mg base 4 "_law_near_counts" spNC
  cSt : Cal CX0 P w K mg base 3 "_law_some_count" spSCt
  cLC : Cal CX0 P w K mg base 10 "_law_code" (spCf C Tb)
  cPC : Cal (L2.CX P w) P w K mg base 11 "put_counted" (spPC K C P1 P2 CT CA CO CR CC Tb)
  cRS : Cal CX0 P w K mg base 2 "_law_right_signs" spRS
  cLP : Cal CX0 P w K mg base 1 "_law_parted" spLPt
  cKC : Cal CX0 P w K mg base 11 "kept_code" (spKC C P1 Tb)
  cIK : Cal CX0 P w K mg base 9 "is_kept" (spIK K C P1)
  cIR : Cal CX0 P w K mg base 9 "is_recoded" (spIR K C P2)
  cCo : Cal CX0 P w K mg base 1 "_law_cost" spLCo
  cLe : Cal CX0 P w K mg base 1 "_law_least" spLLe
  cPp : Cal CX0 P w K mg base 11 "_law_are_papers" (spPp C Tb)
  cAR : Cal CX0 P w K mg base 14 "_law_are_refused" (spAR Tb)
  FE : FnOk P w K mg base CX0 1 fe fdE ["self", "other"] (spEqC C)
  eE : PySem.W.findIn K (.ref C) "__eq__" = some (some (.ref fe))
  iE : PySem.W.isFn K (.ref fe) = true
  bE : Binds K fdE ["self", "other"] []
  eN : PySem.W.findIn K (.ref C) "__ne__" = some (some (.builtin "object.__ne__"))
  nf : PySem.W.notFirst K C (.ref C) = true
/-- what was told -/
def TdC (C P1 P2 : Addr) (H : Hp) (p q : Addr) (ws : List W) (cs : List Nat) (r c : Nat) : Prop :=
  (∃ dx t i us, sgn ws cs r c = i :: us ∧ H p = some (.ins P1 dx (k5F "sign" (.ref q) (.ref t) (.int ((r : Nat) : Int)) (.int ((c : Nat) : Int)) (.int ((i : Nat) : Int)))) ∧ H t = some (.tup (nV cs))) ∨
  (sgn ws cs r c = [] ∧ ∃ dx t qc L' ls ws', H p = some (.ins P2 dx (k5F "other" (.ref q) (.ref t) (.int ((r : Nat) : Int)) (.int ((c : Nat) : Int)) (.ref qc))) ∧ H t = some (.tup (nV cs)) ∧ IsCo C H qc L' ls ws' ∧ Best ls (grw cs r c) ∧ ∀ l ∈ ls, 1 ≤ l ∧ l + 1 ≤ ws.length + 1)
theorem TdC.ks {C P1 P2 : Addr} {H H' : Hp} {p q : Addr} {ws : List W} {cs : List Nat} {r c : Nat} (h : TdC C P1 P2 H p q ws cs r c) (e : Ks H H') : TdC C P1 P2 H' p q ws cs r c := by
  rcases h with ⟨dx, t, i, us, h1, h2, h3⟩ | ⟨h1, dx, t, qc, L', ls, ws', h2, h3, h4, h5, h6⟩
  · exact .inl ⟨dx, t, i, us, h1, e.ins h2, e.tl.t _ _ h3⟩
  · exact .inr ⟨h1, dx, t, qc, L', ls, ws', e.ins h2, e.tl.t _ _ h3, h4.ks e, h5, h6⟩
abbrev σL (a pn : Addr) (o2 : Option V) (wp cp : Addr) (r c : Nat) (q gp p rp : Addr) (o11 : Option V) : St := [some (.ref a), some (.ref pn), o2, some (.ref wp), some (.ref cp), some (.int ((r : Nat) : Int)), some (.int ((c : Nat) : Int)), some (.ref q), some (.ref gp), some (.ref p), some (.ref rp), o11, none]
section
variable {P : Program} {w : World} {K : PySem.W.Frag} {mg : Str → Option Value} {base : Heap}
theorem lq6 {f fe C P1 P2 CT CA CO CR CC : Addr} {fd fdE : FuncData} {Tb : List (Addr × Str)} (R : LwC P w K mg base f fe C P1 P2 CT CA CO CR CC fd fdE Tb) (cdv : Value) (A : Around) (outer : List Env) (s : Shared) (H0 : Hp) (E : XK) (hr : Room 14 (A.deeper (PyProof.Rows.envOfC "law" (defScope sLaw) s.heap.objs.size f cdv))) :
    ∃ t, PSs (cxOf CX0 P w K mg base NLaw "law" (defScope sLaw) f cdv A outer s H0 E).nox (lawB.drop 6) t ∧
      ∀ (D : Ends) (H : Hp) (a pn cl wp cp q gp p rp : Addr) (b L : Nat) (ws : List W) (cs : List Nat) (r c : Nat) (o2 o11 : Option V), PZ C Tb H pn cl b q wp cp rp gp L ws cs r c → TdC C P1 P2 H p q ws cs r c → CNt ws cs → r ≤ ws.length → b ≤ 30000 →
        (∀ H' o11, PT Tb H' pn cl (b + 452) → D.nx (σL a pn o2 wp cp r c q gp p rp o11) H') →
        t D (σL a pn o2 wp cp r c q gp p rp o11) H := by
  obtain ⟨F, B, T, TE, TK, TR, O, OK, OR, U, kR, gK, cPn, cD, cW, cN, cSt, cLC, cPC, cRS, cLP, cKC, cIK, cIR, cCo, cLe, cPp, cAR, FE, eE, iE, bE, eN, nf⟩ := id R
  refine ⟨_, pss_cons (ps_if (PW.pt (pw_or (pt_cmpR op_ne (pe_isi B.isi (pa_cons (pv 9) (pa_cons (pe_glob (v := .ref P1) rfl gK rfl) pa_nil))) (pe_cmpR (op_neN (hu64 hr)) (pv 10) (pe_lst pa_nil) (nomark _)) (nomark _)) (pw_or1 (pt_cmpR (op_neN (hu64 hr)) (pe_tup (pa_cons (pe_fld (pv 9) rfl) (pa_cons (pe_fld (pv 9) rfl) pa_nil))) (pe_tup (pa_cons (pv 5) (pa_cons (pv 6) pa_nil))) (nomark _))))) (pss_one (ps_ret pe_bl)) pss_nil)
    (pss_cons (ps_if (PW.pt (pw_or (pt_cmpR (op_ownNe FE eE iE bE eN TE.mr pass0 hr (by decide)) (pe_fld (pv 9) rfl) (pv 7) (nomark _)) (pw_or1 (pt_cmpR (op_neN (hu64 hr)) (pe_fld (pv 9) rfl) (pe_tupleOf rfl B.tuple (pv 4)) (nomark _))))) (pss_one (ps_ret pe_bl)) pss_nil)
    (pss_cons (ps_if (pt_val (pe_isi B.isi (pa_cons (pv 9) (pa_cons (pe_glob (v := .ref P1) rfl gK rfl) pa_nil))))
      (pss_cons (ps_set (i := 11) scLaw.nd rfl (Or.inl rfl) (pe_tupleOf rfl B.tuple (pe_c cLP hr pass0 (pa_cons (pv 3) (pa_cons (pe_ix ix_list (pv 10) pe_int (fun _ _ => rfl)) (pa_cons (pv 5) pa_nil))))))
        (pss_one (ps_if (PW.pt (pw_or (pt_cmpR op_ne (pe_fld (pv 9) rfl) (pe_ix ix_list (pv 10) pe_int (fun _ _ => rfl)) (nomark _)) (pw_or (pt_cmpR (op_neW (hu64 hr)) (pe_fld (pe_c cKC hr pass0 (pa_cons (pv 9) pa_nil)) rfl) (pv 11) (nomark _)) (pw_or1 (pt_cmpR op_notBl (pe_c cIK hr pass0 (pa_cons (pv 9) pa_nil)) pe_bl (nomark _)))))) (pss_one (ps_ret pe_bl)) pss_nil)))
      (pss_one (ps_if (PW.pt (pw_or (pt_cmpR op_ne (pe_c cCo hr pass0 (pa_cons (pe_fld (pe_fld (pv 9) rfl) rfl) (pa_cons (pv 8) pa_nil))) (pe_c cLe hr pass0 (pa_cons (pv 8) pa_nil)) (nomark _)) (pw_or1 (pt_cmpR op_notBl (pe_c cIR hr pass0 (pa_cons (pv 9) pa_nil)) pe_bl (nomark _))))) (pss_one (ps_ret pe_bl)) pss_nil)))
    (pss_one (ps_if (PW.pt (pw_or (pt_not (pt_val (pe_c cPp hr pass0 (pa_cons (pv 1) (pa_cons (pv 3) (pa_cons (pv 4) (pa_cons (pv 5) (pa_cons (pv 6) (pa_cons (pv 10) pa_nil))))))))) (pw_or1 (pt_not (pt_val (pe_c cAR hr pass0 (pa_cons (pv 1) (pa_cons (pv 3) (pa_cons (pv 4) pa_nil))))))))) (pss_one (ps_ret pe_bl)) pss_nil)))), ?_⟩
  intro D H a pn cl wp cp q gp p rp b L ws cs r c o2 o11 S Td N hrr hb nx
  have l2 := N.l2
  have l9 := N.l9
  have ec := N.ec
  have sm := N.fw.sm (by omega)
  refine cutIf (fun x H' => x = false ∧ Same H H') (fun Qb fin => ?_) ?_
  · have num : ∀ (ns : List Nat), ∀ v ∈ nV ns, Num v := fun ns v hv => by
      obtain ⟨c, _, rfl⟩ := List.mem_map.mp hv
      exact .inr ⟨_, rfl⟩
    have numI : ∀ v ∈ [V.int ((r : Nat) : Int), .int ((c : Nat) : Int)], Num v := num [r, c]
    rcases Td with ⟨dx, t, i, us, h1, h2, h3⟩ | ⟨h1, dx, t, qc, L', ls, ws', h2, h3, h4, h5, h6⟩
    · refine ⟨_, rfl, _, _, _, _, _, rfl, .own P1, .base (.ins h2 OK.cl OK.cc U.gg U.tk OK.mr), kit_self, _, rfl, by show 0 ≤ sizeLine; decide, fun z nz => ?_⟩
      have e := same_new (o := .lst []) nz
      refine ⟨rp, z, _, _, rfl, rfl, .inl ⟨SqL.of (e _ _ S.hr), SqL.of upd_same⟩, num _, (fun _ h => nomatch h), ?_⟩
      rw [h1, show decide (nV (i :: us) = []) = false from decide_eq_false fun z => nomatch z]
      have h2e := e _ _ h2
      have lr := k5_rank "sign" (.ref q) (.ref t) (.int ((r : Nat) : Int)) (.int ((c : Nat) : Int)) (.int ((i : Nat) : Int)) lbS.h3
      have lc := k5_count "sign" (.ref q) (.ref t) (.int ((r : Nat) : Int)) (.int ((c : Nat) : Int)) (.int ((i : Nat) : Int)) lbS.h4
      refine ⟨rfl, _, rfl, iteF ?_⟩
      refine ⟨_, rfl, p, P1, dx, _, _, rfl, h2e, TK.cl, TK.r, lr, _, rfl, p, P1, dx, _, _, rfl, h2e, TK.cl, TK.n, lc, ?_⟩
      refine ⟨by show 2 ≤ sizeLine; decide, fun t1 nt1 => ?_⟩
      have e1 := same_new (o := .tup [.int ((r : Nat) : Int), .int ((c : Nat) : Int)]) nt1
      refine ⟨_, rfl, _, rfl, by show 2 ≤ sizeLine; decide, fun t2 nt2 => ?_⟩
      have e2 := same_new (o := .tup [.int ((r : Nat) : Int), .int ((c : Nat) : Int)]) nt2
      refine ⟨t1, t2, _, _, rfl, rfl, .inr ⟨SqT.of (e2 _ _ upd_same), SqT.of upd_same⟩, numI, numI, _, rfl, ?_⟩
      rw [decide_eq_true rfl]
      exact fin _ _ ⟨rfl, e.trans (e1.trans e2)⟩
    · refine ⟨_, rfl, _, _, _, _, _, rfl, .own P1, .base (.ins h2 OR.cl OR.cc U.gg U.tk OR.mr), kR, _, rfl, by show 0 ≤ sizeLine; decide, fun z nz => ?_⟩
      have e := same_new (o := .lst []) nz
      refine ⟨rp, z, _, _, rfl, rfl, .inl ⟨SqL.of (e _ _ S.hr), SqL.of upd_same⟩, num _, (fun _ h => nomatch h), ?_⟩
      rw [h1, show decide (nV [] = []) = true from decide_eq_true rfl]
      have h2e := e _ _ h2
      have lr := k5_rank "other" (.ref q) (.ref t) (.int ((r : Nat) : Int)) (.int ((c : Nat) : Int)) (.ref qc) lbO.h3
      have lc := k5_count "other" (.ref q) (.ref t) (.int ((r : Nat) : Int)) (.int ((c : Nat) : Int)) (.ref qc) lbO.h4
      refine ⟨rfl, _, rfl, iteF ?_⟩
      refine ⟨_, rfl, p, P2, dx, _, _, rfl, h2e, TR.cl, TR.r, lr, _, rfl, p, P2, dx, _, _, rfl, h2e, TR.cl, TR.n, lc, ?_⟩
      refine ⟨by show 2 ≤ sizeLine; decide, fun t1 nt1 => ?_⟩
      have e1 := same_new (o := .tup [.int ((r : Nat) : Int), .int ((c : Nat) : Int)]) nt1
      refine ⟨_, rfl, _, rfl, by show 2 ≤ sizeLine; decide, fun t2 nt2 => ?_⟩
      have e2 := same_new (o := .tup [.int ((r : Nat) : Int), .int ((c : Nat) : Int)]) nt2
      refine ⟨t1, t2, _, _, rfl, rfl, .inr ⟨SqT.of (e2 _ _ upd_same), SqT.of upd_same⟩, numI, numI, _, rfl, ?_⟩
      rw [decide_eq_true rfl]
      exact fin _ _ ⟨rfl, e.trans (e1.trans e2)⟩
  rintro x H1 ⟨rfl, e1⟩
  have S1 := S.same e1
  have Td1 := Td.ks (.of e1)
  refine iteF ?_
  unfold tNext
  dsimp only
  clear S Td
  refine cutIf (fun x H' => x = false ∧ Same H1 H') (fun Qb fin => ?_) ?_
  · have num : ∀ (ns : List Nat), ∀ v ∈ nV ns, Num v := fun ns v hv => by
      obtain ⟨c, _, rfl⟩ := List.mem_map.mp hv
      exact .inr ⟨_, rfl⟩
    obtain ⟨PP, lab, la, dx, t, TX, lb, hp, ht⟩ : ∃ (PP : Addr) (lab : Str) (la : V) (dx t : Addr), TxK K PP lab ∧ Lb lab ∧ H1 p = some (.ins PP dx (k5F lab (.ref q) (.ref t) (.int ((r : Nat) : Int)) (.int ((c : Nat) : Int)) la)) ∧ H1 t = some (.tup (nV cs)) := by
      rcases Td1 with ⟨dx, t, i, us, h1, h2, h3⟩ | ⟨h1, dx, t, qc, L', ls, ws', h2, h3, h4, h5, h6⟩
      · exact ⟨P1, _, _, dx, t, TK, lbS, h2, h3⟩
      · exact ⟨P2, _, _, dx, t, TR, lbO, h2, h3⟩
    have l1 := k5_code lab (.ref q) (.ref t) (.int ((r : Nat) : Int)) (.int ((c : Nat) : Int)) la lb.h1
    have l2' := k5_counts lab (.ref q) (.ref t) (.int ((r : Nat) : Int)) (.int ((c : Nat) : Int)) la lb.h2
    have co := S1.S.co
    obtain ⟨dxc, lt, wt, tr, g1, g2, g3⟩ := id co
    refine ⟨_, rfl, p, PP, dx, _, _, rfl, hp, TX.cl, TX.c, l1, _, rfl, q, dxc, _, .ref C, rfl, g1, co.ty T TE, nf, q, _, L, lens ws, ws, rfl, co, .inl ⟨q, L, lens ws, ws, rfl, co, ?_⟩⟩
    rw [decide_eq_true rfl]
    refine ⟨_, rfl, _, rfl, iteF ?_⟩
    refine ⟨_, rfl, p, PP, dx, _, _, rfl, hp, TX.cl, TX.t, l2', _, rfl, .inl ⟨cp, _, rfl, SqL.of S1.S.hc, fun t2 nt2 => ?_⟩⟩
    have e2 := same_new (o := .tup (nV cs)) nt2
    refine ⟨t, t2, _, _, rfl, rfl, .inr ⟨SqT.of (e2 _ _ ht), SqT.of upd_same⟩, num _, num _, _, rfl, ?_⟩
    rw [decide_eq_true rfl]
    exact fin _ _ ⟨rfl, e2⟩
  rintro x H2 ⟨rfl, e2⟩
  have S2 := S1.same e2
  have Td2 := Td1.ks (.of e2)
  refine iteF ?_
  dsimp only
  clear S1 Td1
  refine cutSeq (fun σ' H' => ∃ o11, σ' = σL a pn o2 wp cp r c q gp p rp o11 ∧ LamX.ExtN H2 H' ∧ LamX.Tabs Tb H') (fun nx' k => ?_) ?_
  · have tabs := S2.S.pt.tabs
    rcases Td2 with ⟨dx, t, i, us, h1, h2, h3⟩ | ⟨h1, dx, t, qc, L', ls, ws', h2, h3, h4, h5, h6⟩
    · refine ⟨_, rfl, _, _, _, _, _, rfl, .own P1, .base (.ins h2 OK.cl OK.cc U.gg U.tk OK.mr), kit_self, _, rfl, iteT ?_⟩
      have hi : i < ws.length := sgn_lt (show i ∈ sgn ws cs r c by rw [h1]; exact List.mem_cons_self)
      have hr2 := S2.hr
      rw [h1] at hr2
      refine ⟨_, rfl, _, rfl, rp, _, 0, _, rfl, rfl, SqL.of hr2, atI_nat (j := 0) (v := .int ((i : Nat) : Int)) rfl, _, rfl, wp, ws, i, r, rfl, S2.S.hw, hi, hrr, by omega, fun w hw => by have := N.fw.hi w hw; omega, fun D1 H3 e3 nD1 hD1 => ?_⟩
      refine .inl ⟨D1, _, rfl, SqL.of hD1, fun t1 nt1 => ?_⟩
      have e4 := same_new (o := .tup ((putW ws i r).map wV)) nt1
      have hd4 : upd H3 t1 (.tup ((putW ws i r).map wV)) t1 = some (.tup ((putW ws i r).map wV)) := upd_same
      generalize upd H3 t1 (.tup ((putW ws i r).map wV)) = H4 at e4 hd4 ⊢
      have e24 := e3.trans e4
      have h24 := e24 _ _ h2
      refine gN ?_
      dsimp only
      refine cutIf (fun x H' => x = false ∧ LamX.ExtN H2 H' ∧ LamX.Tabs Tb H') (fun Qb fin => ?_) ?_
      · refine ⟨_, rfl, p, P1, dx, _, _, rfl, h24, TK.cl, TK.s, k5_last _ _ _ _ _ _, _, rfl, rp, _, 0, _, rfl, rfl, SqL.of (e24 _ _ hr2), atI_nat (j := 0) (v := .int ((i : Nat) : Int)) rfl, ?_⟩
        refine ⟨rfl, _, rfl, ?_⟩
        rw [decide_eq_true rfl]
        refine iteF ?_
        refine ⟨_, rfl, p, dx, q, _, _, r, i, L, ws, rfl, h24, S2.S.co.same e24, N.fw, l2, l9, hi, hrr, tabs.ext e24, fun q2 L2 H5 co5 f5 tab5 => ?_⟩
        obtain ⟨dx5, lt5, wt5, tr5, m1, m2, m3⟩ := id co5
        refine ⟨q2, C, dx5, _, _, rfl, m1, T.cl, T.w, co_words _ _ _ _ _, _, rfl, wt5, t1, _, _, rfl, rfl, SqT.of m3, SqT.of (f5 _ _ hd4 fun _ z => nomatch z), _, rfl, ?_⟩
        rw [decide_eq_true rfl]
        refine iteF ?_
        have S5 := (S2.same e24).ext f5 tab5
        have h5 := f5 _ _ h24 fun _ z => nomatch z
        have t5 := f5 _ _ (e24 _ _ h3) fun _ z => nomatch z
        refine ⟨_, rfl, p, dx, _, _, _, _, _, rfl, h5, .inr ⟨q, t, L, ws, cs, r, c, ⟨rfl, S5.S.co, rfl, t5, ec, l2, by omega, rfl, hrr, rfl, sm⟩, .kn (.int _), .inr ⟨i, rfl, hi, fun H6 e6 => ?_⟩⟩⟩
        rw [h1, decide_eq_true (show i ∈ i :: us from List.mem_cons_self)]
        refine ⟨_, _, rfl, rfl, _, rfl, ?_⟩
        exact fin _ _ ⟨rfl, ((LamX.ExtN.of e24).trans f5).trans (LamX.ExtN.of e6), tab5.ext e6⟩
      · rintro x H5 ⟨rfl, f5, tab5⟩
        exact iteF (k _ _ ⟨_, rfl, f5, tab5⟩)
    · refine ⟨_, rfl, _, _, _, _, _, rfl, .own P1, .base (.ins h2 OR.cl OR.cc U.gg U.tk OR.mr), kR, _, rfl, iteF ?_⟩
      have gl := grw_len (c := c) (show r ≤ cs.length by omega)
      have ll : ls.length = (grw cs r c).length := h5.len
      have sm2 : Sm ls := fun l hl => by have := (h6 l hl).2; show l ≤ 100; omega
      have dh : dot ls (grw cs r c) = hf (grw cs r c) := h5.eq
      obtain ⟨dxc, lt, wt, tr, g1, g2, g3⟩ := id h4
      refine cutIf (fun x H' => x = false ∧ Same H2 H') (fun Qb fin => ?_) ?_
      · refine ⟨_, rfl, p, P2, dx, _, _, rfl, h2, TR.cl, TR.s, k5_last _ _ _ _ _ _, qc, C, dxc, _, _, rfl, g1, T.cl, T.l, co_lengths _ _ _ _ _, _, rfl, lt, gp, _, _, rfl, .inr g2, S2.hg, by omega, by omega, sm2, fun H3 e3 => ?_⟩
        refine ⟨_, rfl, gp, _, rfl, e3 _ _ S2.hg, by omega, fun H4 e4 => ?_⟩
        rw [dh]
        refine ⟨rfl, _, rfl, ?_⟩
        rw [decide_eq_true rfl]
        refine iteF ?_
        have e24 := e3.trans e4
        refine ⟨_, rfl, p, dx, _, _, _, _, _, rfl, e24 _ _ h2, .inr ⟨q, t, L, ws, cs, r, c, ⟨rfl, S2.S.co.same e24, rfl, e24 _ _ h3, ec, l2, by omega, rfl, hrr, rfl, sm⟩, .inr ⟨qc, L', ls, ws', rfl, h4.same e24, sm2, .inr ⟨by omega, fun H5 e5 => ?_⟩⟩⟩⟩
        rw [h1, dh, decide_eq_true rfl]
        refine ⟨_, _, rfl, rfl, _, rfl, ?_⟩
        exact fin _ _ ⟨rfl, e24.trans e5⟩
      · rintro x H5 ⟨rfl, e5⟩
        exact iteF (k _ _ ⟨_, rfl, LamX.ExtN.of e5, tabs.ext e5⟩)
  rintro σ' H3 ⟨o11, rfl, f3, tab3⟩
  have S3 := S2.ext f3 tab3
  refine cutIf (fun x H' => x = false ∧ PT Tb H' pn cl (b + 452)) (fun Qb fin => ?_) ?_
  · refine ⟨_, rfl, _, rfl, _, rfl, _, rfl, _, rfl, _, rfl, pn, cl, wp, cp, rp, b, ws, cs, r, c, rfl, S3.S.pt, S3.S.hw, S3.S.hc, S3.hr, N, hrr, by omega, fun H4 pt4 e4 => ?_⟩
    refine ⟨_, rfl, iteF ?_⟩
    refine ⟨_, rfl, _, rfl, _, rfl, pn, cl, wp, cp, _, ws, cs, rfl, pt4, e4.l _ _ S3.S.hw, e4.l _ _ S3.S.hc, N, by omega, fun H5 pt5 e5 => ?_⟩
    exact ⟨_, rfl, fin _ _ ⟨rfl, pt5⟩⟩
  · rintro x H5 ⟨rfl, pt5⟩
    exact iteF (nx H5 _ pt5)
end
end K38
set_option Elab.async false
set_option linter.all false
set_option maxRecDepth 100001
set_option maxHeartbeats 3999999
namespace K38
open PySem L2
open Huff (hf dot Best)
theorem FW.fc {ws : List W} (h : FW ws) (l : ws.length ≤ 11) : FC (lens ws) := by
  refine ⟨fun x hx => ?_, fun x hx => ?_, ?_⟩
  · obtain ⟨w, hw, rfl⟩ := List.mem_map.mp hx
    exact h.lo w hw
  · obtain ⟨w, hw, rfl⟩ := List.mem_map.mp hx
    rw [lens_len]
    exact h.hi w hw
  · show Huff.kl 60 (lens ws) = 2 ^ 60
    rw [Huff.kl_scale (L := 60) (M := 10) (by decide) (fun x hx => by
      obtain ⟨w, hw, rfl⟩ := List.mem_map.mp hx
      have := h.hi w hw
      show w.length ≤ 10
      omega), krH_kl, h.kr]
section
variable {P : Program} {w : World} {K : PySem.W.Frag} {mg : Str → Option Value} {base : Heap}
theorem lq0 {f fe C P1 P2 CT CA CO CR CC : Addr} {fd fdE : FuncData} {Tb : List (Addr × Str)} (R : LwC P w K mg base f fe C P1 P2 CT CA CO CR CC fd fdE Tb) (cdv : Value) (A : Around) (outer : List Env) (s : Shared) (H0 : Hp) (E : XK) (hr : Room 14 (A.deeper (PyProof.Rows.envOfC "law" (defScope sLaw) s.heap.objs.size f cdv))) :
    ∃ t, PSs (cxOf CX0 P w K mg base NLaw "law" (defScope sLaw) f cdv A outer s H0 E).nox lawB t ∧
      ∀ (D : Ends) (H : Hp) (a pn cl : Addr) (b : Nat) (o2 o3 o4 o5 o6 o7 o8 o9 o10 o11 : Option V), PT Tb H pn cl b → b ≤ 9000 →
        (∀ H' o3 o4 o5 o6 o7 o8 o9 o10 o11, PT Tb H' pn cl (b + 1000) → D.nx [some (.ref a), some (.ref pn), o2, o3, o4, o5, o6, o7, o8, o9, o10, o11, none] H') →
        t D [some (.ref a), some (.ref pn), o2, o3, o4, o5, o6, o7, o8, o9, o10, o11, none] H := by
  obtain ⟨F, B, T, TE, TK, TR, O, OK, OR, U, kR, gK, cPn, cD, cW, cN, cSt, cLC, cPC, cRS, cLP, cKC, cIK, cIR, cCo, cLe, cPp, cAR, FE, eE, iE, bE, eN, nf⟩ := id R
  obtain ⟨tN, p6, qN⟩ := lq6 R cdv A outer s H0 E hr
  refine ⟨_, pss_cons (ps_set (i := 3) scLaw.nd rfl (Or.inl rfl) (pe_c cW hr pass0 (pa_cons (pv 1) (pa_cons (pe_op op_add pe_int (pe_c cD hr pass0 (pa_cons (pv 1) (pa_cons pe_int pa_nil)))) pa_nil))))
    (pss_cons (ps_par (i := 4) (j := 5) rfl scLaw.nd rfl rfl (by decide) rfl rfl ((pa_cons (pe_c cN hr pass0 (pa_cons (pv 1) (pa_cons (pe_lc (own := [("_law_word", 12)]) rfl scLaw.nd (pi_sqA (pv 3)) (blkOk_by (N := NLaw) (sc := defScope sLaw) (by decide +kernel)) (fun _ _ _ _ _ => pg_name (i := 12) scLaw.nd rfl (Or.inl rfl)) (fun _ _ _ _ _ => pts_nil) (fun _ _ _ _ _ => pe_lenS B.len (pa_cons (pv 12) pa_nil))) pa_nil))) (pa_cons (pe_c cD hr pass0 (pa_cons (pv 1) (pa_cons (pe_op op_add (pe_len B.len (pa_cons (pv 3) pa_nil)) pe_int) pa_nil))) pa_nil))) rfl)
    (pss_cons (ps_set (i := 6) scLaw.nd rfl (Or.inl rfl) (pe_c cSt hr pass0 (pa_cons (pv 1) (pa_cons (pv 4) pa_nil))))
    (pss_cons (ps_set (i := 7) scLaw.nd rfl (Or.inl rfl) (pe_c cLC hr pass0 (pa_cons (pv 3) pa_nil)))
    (pss_cons (ps_set (i := 8) scLaw.nd rfl (Or.inl rfl) (pe_op op_cat (pe_op op_cat (pe_slice sl_list (pv 4) po_none (po_some (pv 5))) (pe_lst (pa_cons (pv 6) pa_nil))) (pe_slice sl_list (pv 4) (po_some (pv 5)) po_none)))
    (pss_cons (ps_par (i := 9) (j := 10) rfl scLaw.nd rfl rfl (by decide) rfl rfl ((pa_cons (pe_c cPC hr passL (pa_cons (pv 7) (pa_cons (pv 4) (pa_cons (pv 5) (pa_cons (pv 6) pa_nil))))) (pa_cons (pe_c cRS hr pass0 (pa_cons (pv 3) (pa_cons (pv 8) (pa_cons (pv 5) pa_nil)))) pa_nil))) rfl) p6))))), ?_⟩
  intro D H a pn cl b o2 o3 o4 o5 o6 o7 o8 o9 o10 o11 pt hb nx
  refine ⟨_, rfl, _, rfl, pn, cl, 9, b, rfl, pt.pen, by omega, by decide, by decide, fun r0 H1 r1 r2 b1 pen1 => ?_⟩
  obtain ⟨m, rfl⟩ := Int.eq_ofNat_of_zero_le r1
  have pt1 := pt.but b1 pen1
  refine ⟨_, _, rfl, rfl, pn, cl, 2 + m, _, rfl, pt1.pen, by omega, by omega, by omega, fun ws wp H2 fw lw b2 pen2 nwp hw => ?_⟩
  have pt2 := pt1.but b2 pen2
  have l2 : 2 ≤ ws.length := by omega
  have l9 : ws.length ≤ 10 := by omega
  refine gN ?_
  dsimp only
  refine ⟨_, rfl, _, rfl, wp, _, rfl, .inl (SqL.of hw), fun J G wk hG D0 nD => lcM wk (fun k => .int (((ws.getD k []).length : Nat) : Int)) (by rw [List.length_map]; omega) nD (fun H' e => hG H' fun o z => e _ _ z) ?_ ?_⟩
  · rintro k x H6 H7 N hk e ⟨rfl, hx⟩ fin
    rw [List.length_map] at hk
    rw [wV_at hk] at hx
    cases hx
    have f := fin _ (Same.refl _)
    rw [getD_at hk] at f
    have lw := fw.hi _ (List.getElem_mem hk)
    refine ⟨rfl, _, rfl, bS ws[k], rfl, bS_le (by omega), ?_⟩
    rw [bS_len]
    exact f
  intro H3 e3 hD
  rw [List.length_map, nV_range] at hD
  have el : (List.range ws.length).map (fun k => (ws.getD k []).length) = lens ws := by
    refine List.ext_getElem (by simp) fun k h1 h2 => ?_
    rw [List.length_map, List.length_range] at h1
    rw [List.getElem_map, List.getElem_range, List.getElem_map, getD_at h1]
  rw [el] at hD
  have pt3 := pt2.same e3
  have hw3 := e3 _ _ hw
  refine ⟨pn, cl, D0, lens ws, _, rfl, pt3.pen, hD, fw.fc (by omega), by rw [lens_len]; omega, by rw [lens_len]; omega, by omega, fun cs cp H4 lc c4 b4 pen4 ncp hc => ?_⟩
  rw [lens_len] at lc
  have N : CNt ws cs := ⟨fw, l2, l9, lc⟩
  have pt4 := pt3.but b4 pen4
  have k4 := Ks.pen pt3.pen b4
  have hw4 := k4.tl.l _ _ hw3
  refine ⟨_, rfl, _, rfl, wp, _, rfl, .inl (SqL.of hw4), ?_⟩
  rw [List.length_map]
  refine ⟨_, _, rfl, rfl, pn, cl, ws.length + 1, _, rfl, pt4.pen, by omega, by omega, by omega, fun r0 H5 z1 z2 b5 pen5 => ?_⟩
  obtain ⟨r, rfl⟩ := Int.eq_ofNat_of_zero_le z1
  have pt5 := pt4.but b5 pen5
  have k5 := Ks.pen pt4.pen b5
  have hw5 := k5.tl.l _ _ hw4
  have hc5 := k5.tl.l _ _ hc
  have hrr : r ≤ ws.length := by omega
  refine ⟨_, _, rfl, ?_⟩
  dsimp only
  refine ⟨_, rfl, _, rfl, pn, cl, cp, cs, _, rfl, pt5.pen, hc5, by omega, by omega, by omega, fun c H6 b6 pen6 => ?_⟩
  have pt6 := pt5.but b6 pen6
  have k6 := Ks.pen pt5.pen b6
  have hw6 := k6.tl.l _ _ hw5
  have hc6 := k6.tl.l _ _ hc5
  refine gN ?_
  dsimp only
  refine ⟨_, rfl, wp, ws, rfl, hw6, fw.cw1 l2 (by omega), pt6.tabs, fun q L H7 co nq f7 tab7 => ?_⟩
  have T1 : CS C Tb H7 pn cl _ q wp cp L ws cs := ⟨pt6.ext f7 tab7, co, f7 _ _ hw6 (fun _ z => nomatch z), f7 _ _ hc6 (fun _ z => nomatch z)⟩
  refine gN ?_
  dsimp only
  generalize H7 = G1 at f7 tab7 co T1 ⊢
  refine ⟨_, rfl, ?_⟩
  delta tNoPart
  refine ⟨_, rfl, _, rfl, cp, _, rfl, SqL.of T1.hc, fun a1 n1 => ?_⟩
  rw [show cutV (nV cs) none (some ((r : Nat) : Int)) = nV (cs.take r) by
    rw [show cutV (nV cs) none (some ((r : Nat) : Int)) = (nV cs).take r from cut_to (by rw [nV_len]; omega)]
    unfold nV
    rw [List.map_take]]
  have e2 := same_new (o := .lst (nV (cs.take r))) n1
  have g2 : upd G1 a1 (.lst (nV (cs.take r))) a1 = some (.lst (nV (cs.take r))) := upd_same
  have T2 := T1.same e2
  generalize upd G1 a1 (.lst (nV (cs.take r))) = G2 at e2 g2 T2 ⊢
  refine ⟨_, rfl, by show 1 ≤ sizeLine; decide, fun a2 n2 => ?_⟩
  have e3 := same_new (o := .lst [.int ((c : Nat) : Int)]) n2
  have g3 : upd G2 a2 (.lst [.int ((c : Nat) : Int)]) a2 = some (.lst [.int ((c : Nat) : Int)]) := upd_same
  have T3 := T2.same e3
  have g23 := e3 _ _ g2
  generalize upd G2 a2 (.lst [.int ((c : Nat) : Int)]) = G3 at e3 g3 T3 g23 ⊢
  refine ⟨a1, a2, _, _, rfl, rfl, g23, g3, Nat.le_of_lt (small10 (by rw [nV_len, List.length_take]; show min r cs.length + 1 ≤ 10000; omega)), fun a3 n3 => ?_⟩
  rw [show nV (cs.take r) ++ [V.int ((c : Nat) : Int)] = nV (cs.take r ++ [c]) by rw [nV_app]; rfl]
  have e4 := same_new (o := .lst (nV (cs.take r ++ [c]))) n3
  have g4 : upd G3 a3 (.lst (nV (cs.take r ++ [c]))) a3 = some (.lst (nV (cs.take r ++ [c]))) := upd_same
  have T4 := T3.same e4
  generalize upd G3 a3 (.lst (nV (cs.take r ++ [c]))) = G4 at e4 g4 T4 ⊢
  refine ⟨_, rfl, _, rfl, _, rfl, cp, _, rfl, SqL.of T4.hc, fun a4 n4 => ?_⟩
  rw [show cutV (nV cs) (some ((r : Nat) : Int)) none = nV (cs.drop r) by
    rw [show cutV (nV cs) (some ((r : Nat) : Int)) none = (nV cs).drop r from cut_from (by rw [nV_len]; omega)]
    unfold nV
    rw [List.map_drop]]
  have e5 := same_new (o := .lst (nV (cs.drop r))) n4
  have g5 : upd G4 a4 (.lst (nV (cs.drop r))) a4 = some (.lst (nV (cs.drop r))) := upd_same
  have T5 := T4.same e5
  have g45 := e5 _ _ g4
  generalize upd G4 a4 (.lst (nV (cs.drop r))) = G5 at e5 g5 T5 g45 ⊢
  refine ⟨a3, a4, _, _, rfl, rfl, g45, g5, Nat.le_of_lt (small10 (by rw [nV_len, nV_len, List.length_append, List.length_take, List.length_drop]; show min r cs.length + 1 + (cs.length - r) ≤ 10000; omega)), fun gp ngp => ?_⟩
  rw [show nV (cs.take r ++ [c]) ++ nV (cs.drop r) = nV (grw cs r c) by rw [← nV_app]; rfl]
  have e6 := same_new (o := .lst (nV (grw cs r c))) ngp
  have g6 : upd G5 gp (.lst (nV (grw cs r c))) gp = some (.lst (nV (grw cs r c))) := upd_same
  have T6 := T5.same e6
  have e16 := (e2.trans (e3.trans e4)).trans (e5.trans e6)
  generalize upd G5 gp (.lst (nV (grw cs r c))) = G6 at e6 g6 T6 e16 ⊢
  clear g2 g3 g23 g4 g5 g45 e2 e3 e4 e5 T1 T2 T3 T4 T5
  refine gN ?_
  dsimp only
  have gl := grw_len (c := c) (show r ≤ cs.length by omega)
  have sm := fw.sm (by omega)
  refine cutSeq (fun σ' H' => ∃ p rp, σ' = σL a pn o2 wp cp r c q gp p rp o11 ∧ PZ C Tb H' pn cl (b + 300) q wp cp rp gp L ws cs r c ∧ TdC C P1 P2 H' p q ws cs r c) (fun nx' k => ?_) ?_
  · refine ⟨_, rfl, _, rfl, _, rfl, _, rfl, q, cp, _, _, L, ws, _, rfl, T6.co, T6.hc, nV_kn _, by rw [nV_len]; omega, .inr (.inr ⟨cs, r, c, rfl, rfl, rfl, lc, l2, by omega, hrr, sm, T6.pt.tabs, ?_⟩)⟩
    rcases es : sgn ws cs r c with _ | ⟨i, us⟩
    · refine .inr ⟨rfl, fun p dx t qc L' ls ws' H8 h1 h2 h3 h4 h5 f8 tab8 => ?_⟩
      have td : TdC C P1 P2 H8 p q ws cs r c := .inr ⟨es, dx, t, qc, L', ls, ws', h1, h2, h3, h4, h5⟩
      have T8 := T6.ext f8 tab8
      have g8 := f8 _ _ g6 fun _ z => nomatch z
      refine ⟨_, rfl, _, rfl, _, rfl, wp, gp, ws, cs, r, c, rfl, T8.hw, g8, lc, hrr, by omega, by omega, fun w hw => by have := fw.hi w hw; omega, fun rp H9 e9 nrp hrp => ?_⟩
      refine ⟨_, _, rfl, ?_⟩
      have T9 := T8.same e9
      exact k _ _ ⟨p, rp, rfl, ⟨⟨⟨T9.pt.pen.mono (by omega), T9.pt.tabs⟩, T9.co, T9.hw, T9.hc⟩, hrp, e9 _ _ g8⟩, td.ks (.of e9)⟩
    · refine .inl ⟨i, us, rfl, fun p dx t H8 h1 h2 f8 tab8 => ?_⟩
      have td : TdC C P1 P2 H8 p q ws cs r c := .inl ⟨dx, t, i, us, es, h1, h2⟩
      have T8 := T6.ext f8 tab8
      have g8 := f8 _ _ g6 fun _ z => nomatch z
      refine ⟨_, rfl, _, rfl, _, rfl, wp, gp, ws, cs, r, c, rfl, T8.hw, g8, lc, hrr, by omega, by omega, fun w hw => by have := fw.hi w hw; omega, fun rp H9 e9 nrp hrp => ?_⟩
      refine ⟨_, _, rfl, ?_⟩
      have T9 := T8.same e9
      exact k _ _ ⟨p, rp, rfl, ⟨⟨⟨T9.pt.pen.mono (by omega), T9.pt.tabs⟩, T9.co, T9.hw, T9.hc⟩, hrp, e9 _ _ g8⟩, td.ks (.of e9)⟩
  · rintro σ' H8 ⟨p, rp, rfl, S8, td⟩
    exact qN D H8 a pn cl wp cp q gp p rp (b + 300) L ws cs r c _ _ S8 td N hrr (by omega) fun H9 o11 pt9 => nx H9 _ _ _ _ _ _ _ _ _ ⟨pt9.pen.mono (by omega), pt9.tabs⟩

end
end K38
set_option Elab.async false
set_option linter.all false
set_option maxRecDepth 100001
set_option maxHeartbeats 3999999
namespace K38
open PySem L2
open Huff (hf dot Best)
section
variable {P : Program} {w : World} {K : PySem.W.Frag} {mg : Str → Option Value} {base : Heap}
theorem ok_law {f fe C P1 P2 CT CA CO CR CC : Addr} {fd fdE : FuncData} {Tb : List (Addr × Str)} (R : LwC P w K mg base f fe C P1 P2 CT CA CO CR CC fd fdE Tb) : FnOk P w K mg base CX0 15 f fd ["_law_script"] (spLaw K Tb) := by
  refine R.F.ok scLaw (fun vs H Q E h => ?_) (fun cdv A outer s H vs Q E hr h => ?_)
  · obtain ⟨a, is, rfl, _⟩ := h
    rfl
  · obtain ⟨a, is, rfl, hs, tabs, qq⟩ := h
    obtain ⟨tB, pB, qB⟩ := lq0 R cdv A outer s H E hr
    have B := R.B
    have cPn := R.cPn
    refine ⟨_, pss_cons (ps_set (i := 1) scLaw.nd rfl (Or.inl rfl) (pe_c cPn hr pass0 (pa_cons (pv 0) pa_nil)))
      (pss_cons (ps_for PassesOwn.never rfl (pi_range1 rfl B.range (pa_cons pe_int pa_nil)) (pg_name (i := 2) scLaw.nd rfl (.inl rfl)) pB)
      (pss_one (ps_ret pe_bl))), ?_⟩
    refine ⟨_, rfl, a, is, rfl, hs, fun pn cl H1 _ _ e1 pen1 => ?_⟩
    have pt1 : PT Tb H1 pn cl 0 := ⟨pen1, tabs.ext e1⟩
    refine gN ?_
    dsimp only
    refine ⟨5, rfl, by decide, by decide, for_range (D := { nx := _, rt := Q, bk := fun _ _ => False, ct := fun _ _ => False }) (n := 5) (fun i σ H' => ∃ (o2 o3 o4 o5 o6 o7 o8 o9 o10 o11 : Option V), σ = [some (.ref a), some (.ref pn), o2, o3, o4, o5, o6, o7, o8, o9, o10, o11, none] ∧ PT Tb H' pn cl (i * 1000)) ⟨_, _, _, _, _, _, _, _, _, _, rfl, pt1⟩ ?_ ?_⟩
    · rintro i σ H2 hi ⟨o2, o3, o4, o5, o6, o7, o8, o9, o10, o11, rfl, pt2⟩
      refine qB _ H2 a pn cl (i * 1000) (some (.int (0 + ((i : Nat) : Int)))) o3 o4 o5 o6 o7 o8 o9 o10 o11 pt2 (by omega) fun H3 p3 p4 p5 p6 p7 p8 p9 p10 p11 pt3 => ?_
      exact ⟨_, _, _, _, _, _, _, _, _, _, rfl, ⟨pt3.pen.mono (by omega), pt3.tabs⟩⟩
    · rintro σ H2 ⟨o2, o3, o4, o5, o6, o7, o8, o9, o10, o11, rfl, pt2⟩
      exact qq H2
end
end K38
set_option Elab.async false
set_option linter.all false
set_option maxRecDepth 100001
set_option maxHeartbeats 3999999
namespace K38
open PySem L2
/-! ### what the top leaves -/
/-- an own exception class as the rules want it -/
def oexB (K : PySem.W.Frag) (C : Addr) : Bool := (match K.lookup C with
  | some ⟨.type "type", _, .cls cd, sl⟩ => (match sl.toList, cd.mro with
    | [_, _, _, _, some (.builtin nw), _], .ref D :: bm => decide (D = C) && (decide (nw = "ValueError.__new__") && (!cd.hasDel && (cd.hasDict && PySem.HandSPX.refsVE bm)))
    | _, _ => false)
  | _ => false) && (He.eqO (PySem.W.findIn K (.ref C) "__setattr__") (some (some (.builtin "object.__setattr__"))) && (decide (PySem.W.subIn K (.ref C) (.type "BaseException") = some true) && (decide (PySem.W.typeIn K (.ref C) = some (.type "type")) && PySem.W.keepIn K (.ref C))))
theorem oexB_ok {K : PySem.W.Frag} {C : Addr} (h : oexB K C = true) : OexC K C := by
  obtain ⟨h1, h⟩ := He.ba h
  obtain ⟨h2, h⟩ := He.ba h
  obtain ⟨h3, h⟩ := He.ba h
  obtain ⟨h4, h5⟩ := He.ba h
  refine ⟨?_, He.eqO_ok h2, of_decide_eq_true h3, of_decide_eq_true h4, h5⟩
  split at h1
  · rename_i dd cd sl ho
    split at h1
    · rename_i x0 x1 x2 x3 nw x5 D bm hs hm
      obtain ⟨g1, g⟩ := He.ba h1
      obtain ⟨g2, g⟩ := He.ba g
      obtain ⟨g3, g⟩ := He.ba g
      obtain ⟨g4, g5⟩ := He.ba g
      have e1 := of_decide_eq_true g1
      have e2 := of_decide_eq_true g2
      subst e1 e2
      obtain ⟨nm, bs, mro, ns, qn, hd, sn, sub, ab, col, del⟩ := cd
      dsimp only at hm g3 g4
      subst hm g4
      have e3 : del = false := by
        cases del with
        | false => rfl
        | true => cases g3
      subst e3
      have hsl : sl = #[x0, x1, x2, x3, some (.builtin "ValueError.__new__"), x5] := by
        obtain ⟨l⟩ := sl
        have h' : l = _ := hs
        rw [h']
      subst hsl
      exact ⟨nm, qn, ns, bs, bm, sn, sub, ab, col, dd, x0, x1, x2, x3, x5, ho, g5⟩
    · cases h1
  · cases h1
def fa0 : List He.Fa := [.glo "is_whole", .glo "is_between", .glo "is_from", .glo "copied", .glo "frozen", .glo "first_one", .glo "check_counts", .glo "check_words", .glo "first_wrong_bit", .glo "canonical_words", .glo "check_code_counts", .glo "cost", .glo "is_least", .glo "least_code", .glo "cost_of", .glo "least_of", .glo "joined_counts", .glo "check_rank", .glo "check_more", .glo "parted", .glo "code_of", .glo "put_counted", .glo "check_counted", .glo "with_count", .glo "least_parted", .glo "kept_code", .glo "is_kept", .glo "is_recoded", .glo "is_counted", .glo "_law_pen_of"]
def fa1 : List He.Fa := [.glo "_law_draw", .glo "_law_pick", .glo "_law_shuffled", .glo "_law_some_code", .glo "_law_cost", .glo "_law_some_counts", .glo "_law_least", .glo "_law_words", .glo "_law_code", .glo "_law_near_counts", .glo "_law_met", .glo "_law_parted", .glo "_law_right_signs", .glo "_law_some_count", .glo "_law_are_papers", .glo "_law_are_refused", .glo "law", .glo "TooMany", .glo "BadBits", .glo "BadTally", .glo "BadLength", .glo "NotFull", .glo "Begins", .glo "OtherSize", .glo "BadRank", .glo "BadCount", .glo "Tree", .glo "Code", .glo "Kept", .glo "Recoded"]
def fa2 : List He.Fa := [.free "isinstance", .free "int", .free "bool", .free "tuple", .free "list", .free "dict", .free "len", .free "enumerate", .free "range", .free "abs", .free "max", .free "min", .free "str", .free "all", .free "any", .free "sum", .free "zip", .free "sorted", .int "MOST_SIGNS" 2000, .int "MOST_LENGTH" 1999, .cls "Tree", .mkr "Tree", .cls "Code", .mkr "Code", .cls "Kept", .mkr "Kept", .cls "Recoded", .mkr "Recoded", .noat "TooMany" "what", .noat "TooMany" "many"]
def fa3 : List He.Fa := [.noat "TooMany" "most", .noat "BadBits" "index", .noat "BadTally" "index", .noat "BadLength" "index", .noat "Begins" "index", .noat "Begins" "other", .noat "OtherSize" "many", .noat "OtherSize" "wanted", .noat "BadRank" "rank", .noat "BadCount" "count", .noat "Tree" "names", .noat "Tree" "zeros", .noat "Tree" "ones", .noat "Tree" "numbers", .noat "Code" "longest", .noat "Code" "lengths", .noat "Code" "words", .noat "Code" "size", .noat "Code" "tree", .noat "Kept" "code", .noat "Kept" "counts", .noat "Kept" "rank", .noat "Kept" "count", .noat "Kept" "sign", .noat "Recoded" "code", .noat "Recoded" "counts", .noat "Recoded" "rank", .noat "Recoded" "count", .noat "Recoded" "other", .meth "TooMany" "__init__"]
def fa4 : List He.Fa := [.meth "BadBits" "__init__", .meth "BadTally" "__init__", .meth "BadLength" "__init__", .meth "NotFull" "__init__", .meth "Begins" "__init__", .meth "OtherSize" "__init__", .meth "BadRank" "__init__", .meth "BadCount" "__init__", .meth "Tree" "__init__", .meth "Code" "__init__", .meth "Code" "__eq__", .meth "Kept" "__init__", .meth "Recoded" "__init__", .exm "BadRank" "BadRank" true, .exm "TooMany" "TooMany" true, .exm "BadCount" "BadCount" true, .exm "OtherSize" "OtherSize" true, .exm "TooMany" "BadRank" false, .exm "BadCount" "BadRank" false, .exm "BadCount" "TooMany" false, .exm "OtherSize" "BadRank" false, .exm "OtherSize" "TooMany" false, .exm "OtherSize" "BadCount" false, .free "repr", .glo "VaultError", .exm "OtherSize" "VaultError" true, .exm "BadRank" "VaultError" true, .exm "BadCount" "VaultError" true]
def faA : List He.Fa := fa0 ++ fa1 ++ fa2 ++ fa3 ++ fa4
def dd0 : He.DefD := ⟨("is_whole", none), "is_whole", "is_whole", defArgs sWhole, defBody sWhole, defScope sWhole, [], []⟩
def dd1 : He.DefD := ⟨("is_between", none), "is_between", "is_between", defArgs sBetween, defBody sBetween, defScope sBetween, [], []⟩
def dd2 : He.DefD := ⟨("is_from", none), "is_from", "is_from", defArgs sFrom, defBody sFrom, defScope sFrom, [], []⟩
def dd3 : He.DefD := ⟨("copied", none), "copied", "copied", defArgs sCopied, defBody sCopied, defScope sCopied, [], []⟩
def dd4 : He.DefD := ⟨("frozen", none), "frozen", "frozen", defArgs sFrz, defBody sFrz, defScope sFrz, [], []⟩
def dd5 : He.DefD := ⟨("first_one", none), "first_one", "first_one", defArgs sFo, defBody sFo, defScope sFo, [], []⟩
def dd6 : He.DefD := ⟨("check_counts", none), "check_counts", "check_counts", defArgs sChC, defBody sChC, defScope sChC, [], []⟩
def dd7 : He.DefD := ⟨("check_words", none), "check_words", "check_words", defArgs sChW, defBody sChW, defScope sChW, [], []⟩
def dd8 : He.DefD := ⟨("first_wrong_bit", none), "first_wrong_bit", "first_wrong_bit", defArgs sFwb, defBody sFwb, defScope sFwb, [], []⟩
def dd9 : He.DefD := ⟨("canonical_words", none), "canonical_words", "canonical_words", defArgs sCan, defBody sCan, defScope sCan, [], []⟩
def dd10 : He.DefD := ⟨("check_code_counts", none), "check_code_counts", "check_code_counts", defArgs sCCC, defBody sCCC, defScope sCCC, [], []⟩
def dd11 : He.DefD := ⟨("cost", none), "cost", "cost", defArgs sCost, defBody sCost, defScope sCost, [], []⟩
def dd12 : He.DefD := ⟨("is_least", none), "is_least", "is_least", defArgs sIL, defBody sIL, defScope sIL, [], []⟩
def dd13 : He.DefD := ⟨("least_code", none), "least_code", "least_code", defArgs sLC, defBody sLC, defScope sLC, [], []⟩
def dd14 : He.DefD := ⟨("cost_of", none), "cost_of", "cost_of", defArgs sCostOf, defBody sCostOf, defScope sCostOf, [], []⟩
def dd15 : He.DefD := ⟨("least_of", none), "least_of", "least_of", defArgs sLO, defBody sLO, defScope sLO, [], []⟩
def dd16 : He.DefD := ⟨("joined_counts", none), "joined_counts", "joined_counts", defArgs sJC, defBody sJC, defScope sJC, [], []⟩
def dd17 : He.DefD := ⟨("check_rank", none), "check_rank", "check_rank", defArgs sCR, defBody sCR, defScope sCR, [], []⟩
def dd18 : He.DefD := ⟨("check_more", none), "check_more", "check_more", defArgs sCM, defBody sCM, defScope sCM, [], []⟩
def dd19 : He.DefD := ⟨("parted", none), "parted", "parted", defArgs sPt, defBody sPt, defScope sPt, [], []⟩
def dd20 : He.DefD := ⟨("code_of", none), "code_of", "code_of", defArgs sCf, defBody sCf, defScope sCf, [], []⟩
def dd21 : He.DefD := ⟨("put_counted", none), "put_counted", "put_counted", defArgs sPC, defBody sPC, defScope sPC, [], []⟩
def dd22 : He.DefD := ⟨("check_counted", none), "check_counted", "check_counted", defArgs sCk, defBody sCk, defScope sCk, [], []⟩
def dd23 : He.DefD := ⟨("with_count", none), "with_count", "with_count", defArgs sWC, defBody sWC, defScope sWC, [], []⟩
def dd24 : He.DefD := ⟨("least_parted", none), "least_parted", "least_parted", defArgs sLP, defBody sLP, defScope sLP, [], []⟩
def dd25 : He.DefD := ⟨("kept_code", none), "kept_code", "kept_code", defArgs sKC, defBody sKC, defScope sKC, [], []⟩
def dd26 : He.DefD := ⟨("is_kept", none), "is_kept", "is_kept", defArgs sIK, defBody sIK, defScope sIK, [], []⟩
def dd27 : He.DefD := ⟨("is_recoded", none), "is_recoded", "is_recoded", defArgs sIR, defBody sIR, defScope sIR, [], []⟩
def dd28 : He.DefD := ⟨("is_counted", none), "is_counted", "is_counted", defArgs sIC, defBody sIC, defScope sIC, [], []⟩
def dd29 : He.DefD := ⟨("_law_pen_of", none), "_law_pen_of", "_law_pen_of", defArgs sPen, defBody sPen, defScope sPen, [], []⟩
def dd30 : He.DefD := ⟨("_law_draw", none), "_law_draw", "_law_draw", defArgs sDraw, defBody sDraw, defScope sDraw, [], []⟩
def dd31 : He.DefD := ⟨("_law_pick", none), "_law_pick", "_law_pick", defArgs sPick, defBody sPick, defScope sPick, [], []⟩
def dd32 : He.DefD := ⟨("_law_shuffled", none), "_law_shuffled", "_law_shuffled", defArgs sShuf, defBody sShuf, defScope sShuf, [], []⟩
def dd33 : He.DefD := ⟨("_law_some_code", none), "_law_some_code", "_law_some_code", defArgs sSC, defBody sSC, defScope sSC, [], []⟩
def dd34 : He.DefD := ⟨("_law_cost", none), "_law_cost", "_law_cost", defArgs sLCost, defBody sLCost, defScope sLCost, [], []⟩
def dd35 : He.DefD := ⟨("_law_some_counts", none), "_law_some_counts", "_law_some_counts", defArgs sSCn, defBody sSCn, defScope sSCn, [], []⟩
def dd36 : He.DefD := ⟨("_law_least", none), "_law_least", "_law_least", defArgs sLLeast, defBody sLLeast, defScope sLLeast, [], []⟩
def dd37 : He.DefD := ⟨("_law_words", none), "_law_words", "_law_words", defArgs sLWords, defBody sLWords, defScope sLWords, [], []⟩
def dd38 : He.DefD := ⟨("_law_code", none), "_law_code", "_law_code", defArgs sLCd, defBody sLCd, defScope sLCd, [], []⟩
def dd39 : He.DefD := ⟨("_law_near_counts", none), "_law_near_counts", "_law_near_counts", defArgs sNC, defBody sNC, defScope sNC, [], []⟩
def dd40 : He.DefD := ⟨("_law_met", none), "_law_met", "_law_met", defArgs sMet, defBody sMet, defScope sMet, [], []⟩
def dd41 : He.DefD := ⟨("_law_parted", none), "_law_parted", "_law_parted", defArgs sLPt, defBody sLPt, defScope sLPt, [], []⟩
def dd42 : He.DefD := ⟨("_law_right_signs", none), "_law_right_signs", "_law_right_signs", defArgs sRS, defBody sRS, defScope sRS, [], []⟩
def dd43 : He.DefD := ⟨("_law_some_count", none), "_law_some_count", "_law_some_count", defArgs sSCt, defBody sSCt, defScope sSCt, [], []⟩
def dd44 : He.DefD := ⟨("_law_are_papers", none), "_law_are_papers", "_law_are_papers", defArgs sPp, defBody sPp, defScope sPp, [], []⟩
def dd45 : He.DefD := ⟨("_law_are_refused", none), "_law_are_refused", "_law_are_refused", defArgs sAR, defBody sAR, defScope sAR, [], []⟩
def dd46 : He.DefD := ⟨("law", none), "law", "law", defArgs sLaw, defBody sLaw, defScope sLaw, [], []⟩
def dd47 : He.DefD := ⟨("TooMany", some "__init__"), "__init__", "TooMany.__init__", defArgs sTMany, defBody sTMany, defScope sTMany, [], []⟩
def dd48 : He.DefD := ⟨("BadBits", some "__init__"), "__init__", "BadBits.__init__", defArgs sBBits, defBody sBBits, defScope sBBits, [], []⟩
def dd49 : He.DefD := ⟨("BadTally", some "__init__"), "__init__", "BadTally.__init__", defArgs sBTally, defBody sBTally, defScope sBTally, [], []⟩
def dd50 : He.DefD := ⟨("BadLength", some "__init__"), "__init__", "BadLength.__init__", defArgs sBLen, defBody sBLen, defScope sBLen, [], []⟩
def dd51 : He.DefD := ⟨("NotFull", some "__init__"), "__init__", "NotFull.__init__", defArgs sNFull, defBody sNFull, defScope sNFull, [], []⟩
def dd52 : He.DefD := ⟨("Begins", some "__init__"), "__init__", "Begins.__init__", defArgs sBegins, defBody sBegins, defScope sBegins, [], []⟩
def dd53 : He.DefD := ⟨("OtherSize", some "__init__"), "__init__", "OtherSize.__init__", defArgs sOSize, defBody sOSize, defScope sOSize, [], []⟩
def dd54 : He.DefD := ⟨("BadRank", some "__init__"), "__init__", "BadRank.__init__", defArgs sBRank, defBody sBRank, defScope sBRank, [], []⟩
def dd55 : He.DefD := ⟨("BadCount", some "__init__"), "__init__", "BadCount.__init__", defArgs sBCount, defBody sBCount, defScope sBCount, [], []⟩
def dd56 : He.DefD := ⟨("Tree", some "__init__"), "__init__", "Tree.__init__", defArgs sTrI, defBody sTrI, defScope sTrI, [], []⟩
def dd57 : He.DefD := ⟨("Code", some "__init__"), "__init__", "Code.__init__", defArgs sCoI, defBody sCoI, defScope sCoI, [.non], []⟩
def dd58 : He.DefD := ⟨("Code", some "__eq__"), "__eq__", "Code.__eq__", defArgs sCoE, defBody sCoE, defScope sCoE, [], []⟩
def dd59 : He.DefD := ⟨("Kept", some "__init__"), "__init__", "Kept.__init__", defArgs sKpI, defBody sKpI, defScope sKpI, [], []⟩
def dd60 : He.DefD := ⟨("Recoded", some "__init__"), "__init__", "Recoded.__init__", defArgs sRcI, defBody sRcI, defScope sRcI, [], []⟩
def fnA : List He.DefD := [dd0, dd1, dd2, dd3, dd4, dd5, dd6, dd7, dd8, dd9, dd10, dd11, dd12, dd13, dd14, dd15, dd16, dd17, dd18, dd19, dd20, dd21, dd22, dd23, dd24, dd25, dd26, dd27, dd28, dd29, dd30, dd31, dd32, dd33, dd34, dd35, dd36, dd37, dd38, dd39, dd40, dd41, dd42, dd43, dd44, dd45, dd46, dd47, dd48, dd49, dd50, dd51, dd52, dd53, dd54, dd55, dd56, dd57, dd58, dd59, dd60]
abbrev treD : Str × Option Str := ("Tree", some "__init__")
abbrev canD : Str × Option Str := ("canonical_words", none)
abbrev arD : Str × Option Str := ("_law_are_refused", none)
/-- what else is asked of K, and of the tables ts -/
def exA (K : PySem.W.Frag) (ts : List Addr) : Bool := ((oexB K (He.ga K "TooMany") && xfB K (He.ga K "TooMany")) && ((oexB K (He.ga K "BadBits") && xfB K (He.ga K "BadBits")) && ((oexB K (He.ga K "BadTally") && xfB K (He.ga K "BadTally")) && ((oexB K (He.ga K "BadLength") && xfB K (He.ga K "BadLength")) && ((oexB K (He.ga K "NotFull") && xfB K (He.ga K "NotFull")) && ((oexB K (He.ga K "Begins") && xfB K (He.ga K "Begins")) && ((oexB K (He.ga K "OtherSize") && xfB K (He.ga K "OtherSize")) && ((oexB K (He.ga K "BadRank") && xfB K (He.ga K "BadRank")) && ((oexB K (He.ga K "BadCount") && xfB K (He.ga K "BadCount")) && (He.eqO (PySem.W.specialIn K (.builtin "object.__class__") "__get__") (some (some (.builtin "getset_descriptor.__get__"))) && (decide (PySem.W.takesIn K (.builtin "object.__class__") = some true) && (decide (PySem.W.kitOne K (.type "tuple") (.ref (He.ga K "Code")) = some false) && (decide (PySem.W.kitOne K (.type "list") (.ref (He.ga K "Code")) = some false) && (decide (PySem.W.kitOne K (.type "NoneType") (.ref (He.ga K "Code")) = some false) && (decide (PySem.W.kitOne K (.type "str") (.ref (He.ga K "Code")) = some false) && (decide (PySem.W.kitOne K (.ref (He.ga K "Recoded")) (.ref (He.ga K "Kept")) = some false) && (PySem.W.notFirst K (He.ga K "Code") (.ref (He.ga K "Code")) && (He.eqO (PySem.W.findIn K (.ref (He.ga K "Code")) "__ne__") (some (some (.builtin "object.__ne__"))) && (He.eqO (PySem.W.findIn K (.ref (He.ga K "Code")) "__class__") (some (some (.builtin "object.__class__"))) && (decide (PySem.W.mroIn K (He.ga K "Code") (.type "object") = some true) && (decide (PySem.W.kitOne K (.ref (He.ga K "Code")) (.type "int") = some false) && (decide (PySem.W.kitOne K (.ref (He.ga K "Code")) (.type "bool") = some false) && (decide (PySem.W.kitOne K (.ref (He.ga K "Code")) (.type "tuple") = some false) && (decide (PySem.W.kitOne K (.ref (He.ga K "Code")) (.type "list") = some false) && (decide (PySem.W.kitOne K (.ref (He.ga K "Code")) (.type "dict") = some false) && (He.eqO (PySem.W.findIn K (.ref (He.ga K "Kept")) "__class__") (some (some (.builtin "object.__class__"))) && (decide (PySem.W.mroIn K (He.ga K "Kept") (.type "object") = some true) && (decide (PySem.W.kitOne K (.ref (He.ga K "Kept")) (.type "int") = some false) && (decide (PySem.W.kitOne K (.ref (He.ga K "Kept")) (.type "bool") = some false) && (decide (PySem.W.kitOne K (.ref (He.ga K "Kept")) (.type "tuple") = some false) && (decide (PySem.W.kitOne K (.ref (He.ga K "Kept")) (.type "list") = some false) && (decide (PySem.W.kitOne K (.ref (He.ga K "Kept")) (.type "dict") = some false) && (He.eqO (PySem.W.findIn K (.ref (He.ga K "Recoded")) "__class__") (some (some (.builtin "object.__class__"))) && (decide (PySem.W.mroIn K (He.ga K "Recoded") (.type "object") = some true) && (decide (PySem.W.kitOne K (.ref (He.ga K "Recoded")) (.type "int") = some false) && (decide (PySem.W.kitOne K (.ref (He.ga K "Recoded")) (.type "bool") = some false) && (decide (PySem.W.kitOne K (.ref (He.ga K "Recoded")) (.type "tuple") = some false) && (decide (PySem.W.kitOne K (.ref (He.ga K "Recoded")) (.type "list") = some false) && (decide (PySem.W.kitOne K (.ref (He.ga K "Recoded")) (.type "dict") = some false) && (decide ((He.cT K treD).2 ∈ ts) && (decide ((He.cT K canD).2 ∈ ts) && (decide ((He.cT K arD).2 ∈ ts) && (decide ((He.cT K treD).2 ≠ (He.cT K canD).2) && (decide ((He.cT K treD).2 ≠ (He.cT K arD).2) && (decide ((He.cT K canD).2 ≠ (He.cT K arD).2) && (PySem.W.codeHdIn K (He.cT K treD).1 (He.cT K treD).2 && (PySem.W.codeHdIn K (He.cT K canD).1 (He.cT K canD).2 && (PySem.W.codeHdIn K (He.cT K arD).1 (He.cT K arD).2 && ((K.lookup (He.cT K treD).2).isNone && ((K.lookup (He.cT K canD).2).isNone && (K.lookup (He.cT K arD).2).isNone))))))))))))))))))))))))))))))))))))))))))))))))))
theorem fun_ofD {K : PySem.W.Frag} {x qual : Str} {st : Stmt} {f : Addr} {fd : FuncData} (F : FunD K x qual (defArgs st) (defBody st) (defScope st) [] [] f fd) : Fun K x qual st f fd := by
  obtain ⟨oc, od, dV, kV, doc, pm, an, cdv, ct, osl, e, lk, hcd, dv, _⟩ := F.ex
  rcases dv with ⟨_, rfl⟩ | ⟨h, _⟩
  · exact ⟨⟨oc, od, kV, doc, pm, an, cdv, ct, osl, e, lk, hcd⟩, F.kp⟩
  · exact absurd rfl h
theorem funW_ofD {K : PySem.W.Frag} {x qual : Str} {st : Stmt} {f : Addr} {fd : FuncData} {dvs : List V} (F : FunD K x qual (defArgs st) (defBody st) (defScope st) dvs [] f fd) : FunW K x qual st f fd := by
  obtain ⟨oc, od, dV, kV, doc, pm, an, cdv, ct, osl, e, lk, hcd, _, _⟩ := F.ex
  exact ⟨⟨oc, od, dV, kV, doc, pm, an, cdv, ct, osl, e, lk, hcd⟩⟩
theorem funL_of {K : PySem.W.Frag} {base : Heap} {mg : Str → Option Value} {x q : Str} {kq : Str × Option Str} {st : Stmt} {fd : FuncData} (F : Fun K x q st (He.fAd K kq) fd) (T : LamX.TabB base mg (He.cT K kq).1 (He.cT K kq).2) :
    FunL K base mg x q st (He.fAd K kq) (He.cT K kq).1 (He.cT K kq).2 fd := by
  obtain ⟨oc, od, kV, doc, pm, an, cdv, ct, osl, e, lk, hcd⟩ := F.ex
  obtain ⟨c, rfl⟩ := He.codeIn_ref hcd
  have e2 : (He.cT K kq).1 = c := by
    refine He.codeOf_eq lk ?_
    rw [e] <;> rfl
  exact ⟨⟨oc, od, kV, doc, pm, an, ct, osl, by rw [e2]; exact e, lk, by rw [e2]; exact hcd⟩, T⟩
theorem isNone_of {α : Type} {o : Option α} (h : o.isNone = true) : o = none := by
  cases o with
  | none => rfl
  | some _ => cases h
abbrev TbK (K : PySem.W.Frag) : List (Addr × Str) := [((He.cT K treD).2, (("Tree.__init__.<locals>.<lambda>" : String) : Str)), ((He.cT K canD).2, (("canonical_words.<locals>.<lambda>" : String) : Str)), ((He.cT K arD).2, (("_law_are_refused.<locals>.<lambda>" : String) : Str))]
/-- the law's promise, of what the top leaves -/
theorem at_law {l : PySem.W.OpenLaw} {w : World} {K : PySem.W.Frag} {h : Heap} {mg : Str → Option Value} {fl : Addr} {ts : List Addr} (KX : K.In h) (G : h.Ns mainGlobals mg) (hfl : mg ("law" : Str) = some (.ref fl)) (c : He.SaysD faA fnA K) (ex : exA K ts = true) (hT : ∀ P ∈ ts, h.get? P = some { cls := .none, data := .fields #[] }) :
    LamX.LawAtS l w K CX0 15 63 "_law_script" mg fl h := by
  obtain ⟨x0, ex⟩ := He.ba ex
  obtain ⟨x1, ex⟩ := He.ba ex
  obtain ⟨x2, ex⟩ := He.ba ex
  obtain ⟨x3, ex⟩ := He.ba ex
  obtain ⟨x4, ex⟩ := He.ba ex
  obtain ⟨x5, ex⟩ := He.ba ex
  obtain ⟨x6, ex⟩ := He.ba ex
  obtain ⟨x7, ex⟩ := He.ba ex
  obtain ⟨x8, ex⟩ := He.ba ex
  obtain ⟨x9, ex⟩ := He.ba ex
  obtain ⟨x10, ex⟩ := He.ba ex
  obtain ⟨x11, ex⟩ := He.ba ex
  obtain ⟨x12, ex⟩ := He.ba ex
  obtain ⟨x13, ex⟩ := He.ba ex
  obtain ⟨x14, ex⟩ := He.ba ex
  obtain ⟨x15, ex⟩ := He.ba ex
  obtain ⟨x16, ex⟩ := He.ba ex
  obtain ⟨x17, ex⟩ := He.ba ex
  obtain ⟨x18, ex⟩ := He.ba ex
  obtain ⟨x19, ex⟩ := He.ba ex
  obtain ⟨x20, ex⟩ := He.ba ex
  obtain ⟨x21, ex⟩ := He.ba ex
  obtain ⟨x22, ex⟩ := He.ba ex
  obtain ⟨x23, ex⟩ := He.ba ex
  obtain ⟨x24, ex⟩ := He.ba ex
  obtain ⟨x25, ex⟩ := He.ba ex
  obtain ⟨x26, ex⟩ := He.ba ex
  obtain ⟨x27, ex⟩ := He.ba ex
  obtain ⟨x28, ex⟩ := He.ba ex
  obtain ⟨x29, ex⟩ := He.ba ex
  obtain ⟨x30, ex⟩ := He.ba ex
  obtain ⟨x31, ex⟩ := He.ba ex
  obtain ⟨x32, ex⟩ := He.ba ex
  obtain ⟨x33, ex⟩ := He.ba ex
  obtain ⟨x34, ex⟩ := He.ba ex
  obtain ⟨x35, ex⟩ := He.ba ex
  obtain ⟨x36, ex⟩ := He.ba ex
  obtain ⟨x37, ex⟩ := He.ba ex
  obtain ⟨x38, ex⟩ := He.ba ex
  obtain ⟨x39, ex⟩ := He.ba ex
  obtain ⟨x40, ex⟩ := He.ba ex
  obtain ⟨x41, ex⟩ := He.ba ex
  obtain ⟨x42, ex⟩ := He.ba ex
  obtain ⟨x43, ex⟩ := He.ba ex
  obtain ⟨x44, ex⟩ := He.ba ex
  obtain ⟨x45, ex⟩ := He.ba ex
  obtain ⟨x46, ex⟩ := He.ba ex
  obtain ⟨x47, ex⟩ := He.ba ex
  obtain ⟨x48, ex⟩ := He.ba ex
  obtain ⟨x49, ex⟩ := He.ba ex
  have x50 := ex
  obtain ⟨o0, f0⟩ := He.ba x0
  obtain ⟨o1, f1⟩ := He.ba x1
  obtain ⟨o2, f2⟩ := He.ba x2
  obtain ⟨o3, f3⟩ := He.ba x3
  obtain ⟨o4, f4⟩ := He.ba x4
  obtain ⟨o5, f5⟩ := He.ba x5
  obtain ⟨o6, f6⟩ := He.ba x6
  obtain ⟨o7, f7⟩ := He.ba x7
  obtain ⟨o8, f8⟩ := He.ba x8
  have B : Bi mg := ⟨He.free_ok KX G (c.fact 60 (f := .free "isinstance") rfl), He.free_ok KX G (c.fact 61 (f := .free "int") rfl), He.free_ok KX G (c.fact 62 (f := .free "bool") rfl), He.free_ok KX G (c.fact 63 (f := .free "tuple") rfl), He.free_ok KX G (c.fact 64 (f := .free "list") rfl), He.free_ok KX G (c.fact 65 (f := .free "dict") rfl), He.free_ok KX G (c.fact 66 (f := .free "len") rfl), He.free_ok KX G (c.fact 67 (f := .free "enumerate") rfl), He.free_ok KX G (c.fact 68 (f := .free "range") rfl), He.free_ok KX G (c.fact 69 (f := .free "abs") rfl), He.free_ok KX G (c.fact 70 (f := .free "max") rfl), He.free_ok KX G (c.fact 71 (f := .free "min") rfl)⟩
  have Bz : Bs mg := ⟨He.free_ok KX G (c.fact 72 (f := .free "str") rfl), He.free_ok KX G (c.fact 73 (f := .free "all") rfl), He.free_ok KX G (c.fact 74 (f := .free "any") rfl), He.free_ok KX G (c.fact 75 (f := .free "sum") rfl), He.free_ok KX G (c.fact 76 (f := .free "zip") rfl), He.free_ok KX G (c.fact 77 (f := .free "sorted") rfl)⟩
  obtain ⟨u0, g0⟩ := He.int_ok KX G (c.fact 78 (f := .int "MOST_SIGNS" 2000) rfl)
  obtain ⟨u1, g1⟩ := He.int_ok KX G (c.fact 79 (f := .int "MOST_LENGTH" 1999) rfl)
  obtain ⟨d0, D0⟩ := c.def_ 0 (d := dd0) rfl
  have F0 : Fun K "is_whole" "is_whole" sWhole (He.ga K "is_whole") d0 := fun_ofD D0
  have b0 : Binds K d0 ["value"] [] := F0.binds fun _ _ _ _ _ _ us hl => match us, hl with | [_], _ => rfl
  obtain ⟨d1, D1⟩ := c.def_ 1 (d := dd1) rfl
  have F1 : Fun K "is_between" "is_between" sBetween (He.ga K "is_between") d1 := fun_ofD D1
  have b1 : Binds K d1 ["value", "low", "high"] [] := F1.binds fun _ _ _ _ _ _ us hl => match us, hl with | [_, _, _], _ => rfl
  obtain ⟨d2, D2⟩ := c.def_ 2 (d := dd2) rfl
  have F2 : Fun K "is_from" "is_from" sFrom (He.ga K "is_from") d2 := fun_ofD D2
  have b2 : Binds K d2 ["value", "low"] [] := F2.binds fun _ _ _ _ _ _ us hl => match us, hl with | [_, _], _ => rfl
  obtain ⟨d3, D3⟩ := c.def_ 3 (d := dd3) rfl
  have F3 : Fun K "copied" "copied" sCopied (He.ga K "copied") d3 := fun_ofD D3
  have b3 : Binds K d3 ["value"] [] := F3.binds fun _ _ _ _ _ _ us hl => match us, hl with | [_], _ => rfl
  obtain ⟨d4, D4⟩ := c.def_ 4 (d := dd4) rfl
  have F4 : Fun K "frozen" "frozen" sFrz (He.ga K "frozen") d4 := fun_ofD D4
  have b4 : Binds K d4 ["value"] [] := F4.binds fun _ _ _ _ _ _ us hl => match us, hl with | [_], _ => rfl
  obtain ⟨d5, D5⟩ := c.def_ 5 (d := dd5) rfl
  have F5 : Fun K "first_one" "first_one" sFo (He.ga K "first_one") d5 := fun_ofD D5
  have b5 : Binds K d5 ["words", "order", "depth", "first", "behind"] [] := F5.binds fun _ _ _ _ _ _ us hl => match us, hl with | [_, _, _, _, _], _ => rfl
  obtain ⟨d6, D6⟩ := c.def_ 6 (d := dd6) rfl
  have F6 : Fun K "check_counts" "check_counts" sChC (He.ga K "check_counts") d6 := fun_ofD D6
  have b6 : Binds K d6 ["counts"] [] := F6.binds fun _ _ _ _ _ _ us hl => match us, hl with | [_], _ => rfl
  obtain ⟨d7, D7⟩ := c.def_ 7 (d := dd7) rfl
  have F7 : Fun K "check_words" "check_words" sChW (He.ga K "check_words") d7 := fun_ofD D7
  have b7 : Binds K d7 ["lengths", "words"] [] := F7.binds fun _ _ _ _ _ _ us hl => match us, hl with | [_, _], _ => rfl
  obtain ⟨d8, D8⟩ := c.def_ 8 (d := dd8) rfl
  have F8 : Fun K "first_wrong_bit" "first_wrong_bit" sFwb (He.ga K "first_wrong_bit") d8 := fun_ofD D8
  have b8 : Binds K d8 ["value"] [] := F8.binds fun _ _ _ _ _ _ us hl => match us, hl with | [_], _ => rfl
  obtain ⟨d9, D9⟩ := c.def_ 9 (d := dd9) rfl
  have F9 : Fun K "canonical_words" "canonical_words" sCan (He.ga K "canonical_words") d9 := fun_ofD D9
  have b9 : Binds K d9 ["lengths"] [] := F9.binds fun _ _ _ _ _ _ us hl => match us, hl with | [_], _ => rfl
  obtain ⟨d10, D10⟩ := c.def_ 10 (d := dd10) rfl
  have F10 : Fun K "check_code_counts" "check_code_counts" sCCC (He.ga K "check_code_counts") d10 := fun_ofD D10
  have b10 : Binds K d10 ["code", "counts"] [] := F10.binds fun _ _ _ _ _ _ us hl => match us, hl with | [_, _], _ => rfl
  obtain ⟨d11, D11⟩ := c.def_ 11 (d := dd11) rfl
  have F11 : Fun K "cost" "cost" sCost (He.ga K "cost") d11 := fun_ofD D11
  have b11 : Binds K d11 ["code", "counts"] [] := F11.binds fun _ _ _ _ _ _ us hl => match us, hl with | [_, _], _ => rfl
  obtain ⟨d12, D12⟩ := c.def_ 12 (d := dd12) rfl
  have F12 : Fun K "is_least" "is_least" sIL (He.ga K "is_least") d12 := fun_ofD D12
  have b12 : Binds K d12 ["code", "counts"] [] := F12.binds fun _ _ _ _ _ _ us hl => match us, hl with | [_, _], _ => rfl
  obtain ⟨d13, D13⟩ := c.def_ 13 (d := dd13) rfl
  have F13 : Fun K "least_code" "least_code" sLC (He.ga K "least_code") d13 := fun_ofD D13
  have b13 : Binds K d13 ["counts"] [] := F13.binds fun _ _ _ _ _ _ us hl => match us, hl with | [_], _ => rfl
  obtain ⟨d14, D14⟩ := c.def_ 14 (d := dd14) rfl
  have F14 : Fun K "cost_of" "cost_of" sCostOf (He.ga K "cost_of") d14 := fun_ofD D14
  have b14 : Binds K d14 ["lengths", "counts"] [] := F14.binds fun _ _ _ _ _ _ us hl => match us, hl with | [_, _], _ => rfl
  obtain ⟨d15, D15⟩ := c.def_ 15 (d := dd15) rfl
  have F15 : Fun K "least_of" "least_of" sLO (He.ga K "least_of") d15 := fun_ofD D15
  have b15 : Binds K d15 ["counts"] [] := F15.binds fun _ _ _ _ _ _ us hl => match us, hl with | [_], _ => rfl
  obtain ⟨d16, D16⟩ := c.def_ 16 (d := dd16) rfl
  have F16 : Fun K "joined_counts" "joined_counts" sJC (He.ga K "joined_counts") d16 := fun_ofD D16
  have b16 : Binds K d16 ["counts"] [] := F16.binds fun _ _ _ _ _ _ us hl => match us, hl with | [_], _ => rfl
  obtain ⟨d17, D17⟩ := c.def_ 17 (d := dd17) rfl
  have F17 : Fun K "check_rank" "check_rank" sCR (He.ga K "check_rank") d17 := fun_ofD D17
  have b17 : Binds K d17 ["code", "counts", "rank"] [] := F17.binds fun _ _ _ _ _ _ us hl => match us, hl with | [_, _, _], _ => rfl
  obtain ⟨d18, D18⟩ := c.def_ 18 (d := dd18) rfl
  have F18 : Fun K "check_more" "check_more" sCM (He.ga K "check_more") d18 := fun_ofD D18
  have b18 : Binds K d18 ["code"] [] := F18.binds fun _ _ _ _ _ _ us hl => match us, hl with | [_], _ => rfl
  obtain ⟨d19, D19⟩ := c.def_ 19 (d := dd19) rfl
  have F19 : Fun K "parted" "parted" sPt (He.ga K "parted") d19 := fun_ofD D19
  have b19 : Binds K d19 ["words", "sign", "rank"] [] := F19.binds fun _ _ _ _ _ _ us hl => match us, hl with | [_, _, _], _ => rfl
  obtain ⟨d20, D20⟩ := c.def_ 20 (d := dd20) rfl
  have F20 : Fun K "code_of" "code_of" sCf (He.ga K "code_of") d20 := fun_ofD D20
  have b20 : Binds K d20 ["words"] [] := F20.binds fun _ _ _ _ _ _ us hl => match us, hl with | [_], _ => rfl
  obtain ⟨d21, D21⟩ := c.def_ 21 (d := dd21) rfl
  have F21 : Fun K "put_counted" "put_counted" sPC (He.ga K "put_counted") d21 := fun_ofD D21
  have b21 : Binds K d21 ["code", "counts", "rank", "count"] [] := F21.binds fun _ _ _ _ _ _ us hl => match us, hl with | [_, _, _, _], _ => rfl
  obtain ⟨d22, D22⟩ := c.def_ 22 (d := dd22) rfl
  have F22 : Fun K "check_counted" "check_counted" sCk (He.ga K "check_counted") d22 := fun_ofD D22
  have b22 : Binds K d22 ["code", "counts", "rank", "count"] [] := F22.binds fun _ _ _ _ _ _ us hl => match us, hl with | [_, _, _, _], _ => rfl
  obtain ⟨d23, D23⟩ := c.def_ 23 (d := dd23) rfl
  have F23 : Fun K "with_count" "with_count" sWC (He.ga K "with_count") d23 := fun_ofD D23
  have b23 : Binds K d23 ["counts", "rank", "count"] [] := F23.binds fun _ _ _ _ _ _ us hl => match us, hl with | [_, _, _], _ => rfl
  obtain ⟨d24, D24⟩ := c.def_ 24 (d := dd24) rfl
  have F24 : Fun K "least_parted" "least_parted" sLP (He.ga K "least_parted") d24 := fun_ofD D24
  have b24 : Binds K d24 ["code", "counts", "rank", "count"] [] := F24.binds fun _ _ _ _ _ _ us hl => match us, hl with | [_, _, _, _], _ => rfl
  obtain ⟨d25, D25⟩ := c.def_ 25 (d := dd25) rfl
  have F25 : Fun K "kept_code" "kept_code" sKC (He.ga K "kept_code") d25 := fun_ofD D25
  have b25 : Binds K d25 ["kept"] [] := F25.binds fun _ _ _ _ _ _ us hl => match us, hl with | [_], _ => rfl
  obtain ⟨d26, D26⟩ := c.def_ 26 (d := dd26) rfl
  have F26 : Fun K "is_kept" "is_kept" sIK (He.ga K "is_kept") d26 := fun_ofD D26
  have b26 : Binds K d26 ["kept"] [] := F26.binds fun _ _ _ _ _ _ us hl => match us, hl with | [_], _ => rfl
  obtain ⟨d27, D27⟩ := c.def_ 27 (d := dd27) rfl
  have F27 : Fun K "is_recoded" "is_recoded" sIR (He.ga K "is_recoded") d27 := fun_ofD D27
  have b27 : Binds K d27 ["recoded"] [] := F27.binds fun _ _ _ _ _ _ us hl => match us, hl with | [_], _ => rfl
  obtain ⟨d28, D28⟩ := c.def_ 28 (d := dd28) rfl
  have F28 : Fun K "is_counted" "is_counted" sIC (He.ga K "is_counted") d28 := fun_ofD D28
  have b28 : Binds K d28 ["told"] [] := F28.binds fun _ _ _ _ _ _ us hl => match us, hl with | [_], _ => rfl
  obtain ⟨d29, D29⟩ := c.def_ 29 (d := dd29) rfl
  have F29 : Fun K "_law_pen_of" "_law_pen_of" sPen (He.ga K "_law_pen_of") d29 := fun_ofD D29
  have b29 : Binds K d29 ["_law_script"] [] := F29.binds fun _ _ _ _ _ _ us hl => match us, hl with | [_], _ => rfl
  obtain ⟨d30, D30⟩ := c.def_ 30 (d := dd30) rfl
  have F30 : Fun K "_law_draw" "_law_draw" sDraw (He.ga K "_law_draw") d30 := fun_ofD D30
  have b30 : Binds K d30 ["_law_pen", "_law_many"] [] := F30.binds fun _ _ _ _ _ _ us hl => match us, hl with | [_, _], _ => rfl
  obtain ⟨d31, D31⟩ := c.def_ 31 (d := dd31) rfl
  have F31 : Fun K "_law_pick" "_law_pick" sPick (He.ga K "_law_pick") d31 := fun_ofD D31
  have b31 : Binds K d31 ["_law_pen", "_law_items"] [] := F31.binds fun _ _ _ _ _ _ us hl => match us, hl with | [_, _], _ => rfl
  obtain ⟨d32, D32⟩ := c.def_ 32 (d := dd32) rfl
  have F32 : Fun K "_law_shuffled" "_law_shuffled" sShuf (He.ga K "_law_shuffled") d32 := fun_ofD D32
  have b32 : Binds K d32 ["_law_pen", "_law_items"] [] := F32.binds fun _ _ _ _ _ _ us hl => match us, hl with | [_, _], _ => rfl
  obtain ⟨d33, D33⟩ := c.def_ 33 (d := dd33) rfl
  have F33 : Fun K "_law_some_code" "_law_some_code" sSC (He.ga K "_law_some_code") d33 := fun_ofD D33
  have b33 : Binds K d33 ["_law_pen", "_law_many"] [] := F33.binds fun _ _ _ _ _ _ us hl => match us, hl with | [_, _], _ => rfl
  obtain ⟨d34, D34⟩ := c.def_ 34 (d := dd34) rfl
  have F34 : Fun K "_law_cost" "_law_cost" sLCost (He.ga K "_law_cost") d34 := fun_ofD D34
  have b34 : Binds K d34 ["_law_lengths", "_law_counts"] [] := F34.binds fun _ _ _ _ _ _ us hl => match us, hl with | [_, _], _ => rfl
  obtain ⟨d35, D35⟩ := c.def_ 35 (d := dd35) rfl
  have F35 : Fun K "_law_some_counts" "_law_some_counts" sSCn (He.ga K "_law_some_counts") d35 := fun_ofD D35
  have b35 : Binds K d35 ["_law_pen", "_law_many"] [] := F35.binds fun _ _ _ _ _ _ us hl => match us, hl with | [_, _], _ => rfl
  obtain ⟨d36, D36⟩ := c.def_ 36 (d := dd36) rfl
  have F36 : Fun K "_law_least" "_law_least" sLLeast (He.ga K "_law_least") d36 := fun_ofD D36
  have b36 : Binds K d36 ["_law_counts"] [] := F36.binds fun _ _ _ _ _ _ us hl => match us, hl with | [_], _ => rfl
  obtain ⟨d37, D37⟩ := c.def_ 37 (d := dd37) rfl
  have F37 : Fun K "_law_words" "_law_words" sLWords (He.ga K "_law_words") d37 := fun_ofD D37
  have b37 : Binds K d37 ["_law_pen", "_law_many"] [] := F37.binds fun _ _ _ _ _ _ us hl => match us, hl with | [_, _], _ => rfl
  obtain ⟨d38, D38⟩ := c.def_ 38 (d := dd38) rfl
  have F38 : Fun K "_law_code" "_law_code" sLCd (He.ga K "_law_code") d38 := fun_ofD D38
  have b38 : Binds K d38 ["_law_words_here"] [] := F38.binds fun _ _ _ _ _ _ us hl => match us, hl with | [_], _ => rfl
  obtain ⟨d39, D39⟩ := c.def_ 39 (d := dd39) rfl
  have F39 : Fun K "_law_near_counts" "_law_near_counts" sNC (He.ga K "_law_near_counts") d39 := fun_ofD D39
  have b39 : Binds K d39 ["_law_pen", "_law_lengths"] [] := F39.binds fun _ _ _ _ _ _ us hl => match us, hl with | [_, _], _ => rfl
  obtain ⟨d40, D40⟩ := c.def_ 40 (d := dd40) rfl
  have F40 : Fun K "_law_met" "_law_met" sMet (He.ga K "_law_met") d40 := fun_ofD D40
  have b40 : Binds K d40 ["_law_call"] [] := F40.binds fun _ _ _ _ _ _ us hl => match us, hl with | [_], _ => rfl
  obtain ⟨d41, D41⟩ := c.def_ 41 (d := dd41) rfl
  have F41 : Fun K "_law_parted" "_law_parted" sLPt (He.ga K "_law_parted") d41 := fun_ofD D41
  have b41 : Binds K d41 ["_law_words_here", "_law_sign", "_law_rank"] [] := F41.binds fun _ _ _ _ _ _ us hl => match us, hl with | [_, _, _], _ => rfl
  obtain ⟨d42, D42⟩ := c.def_ 42 (d := dd42) rfl
  have F42 : Fun K "_law_right_signs" "_law_right_signs" sRS (He.ga K "_law_right_signs") d42 := fun_ofD D42
  have b42 : Binds K d42 ["_law_words_here", "_law_grown", "_law_rank"] [] := F42.binds fun _ _ _ _ _ _ us hl => match us, hl with | [_, _, _], _ => rfl
  obtain ⟨d43, D43⟩ := c.def_ 43 (d := dd43) rfl
  have F43 : Fun K "_law_some_count" "_law_some_count" sSCt (He.ga K "_law_some_count") d43 := fun_ofD D43
  have b43 : Binds K d43 ["_law_pen", "_law_counts"] [] := F43.binds fun _ _ _ _ _ _ us hl => match us, hl with | [_, _], _ => rfl
  obtain ⟨d44, D44⟩ := c.def_ 44 (d := dd44) rfl
  have F44 : Fun K "_law_are_papers" "_law_are_papers" sPp (He.ga K "_law_are_papers") d44 := fun_ofD D44
  have b44 : Binds K d44 ["_law_pen", "_law_words_here", "_law_counts", "_law_rank", "_law_count", "_law_right"] [] := F44.binds fun _ _ _ _ _ _ us hl => match us, hl with | [_, _, _, _, _, _], _ => rfl
  obtain ⟨d45, D45⟩ := c.def_ 45 (d := dd45) rfl
  have F45 : Fun K "_law_are_refused" "_law_are_refused" sAR (He.ga K "_law_are_refused") d45 := fun_ofD D45
  have b45 : Binds K d45 ["_law_pen", "_law_words_here", "_law_counts"] [] := F45.binds fun _ _ _ _ _ _ us hl => match us, hl with | [_, _, _], _ => rfl
  obtain ⟨d46, D46⟩ := c.def_ 46 (d := dd46) rfl
  have F46 : Fun K "law" "law" sLaw (He.ga K "law") d46 := fun_ofD D46
  have b46 : Binds K d46 ["_law_script"] [] := F46.binds fun _ _ _ _ _ _ us hl => match us, hl with | [_], _ => rfl
  obtain ⟨d47, D47⟩ := c.def_ 47 (d := dd47) rfl
  have F47 : Fun K "__init__" "TooMany.__init__" sTMany (He.ma K (He.ga K "TooMany") "__init__") d47 := fun_ofD D47
  have b47 : Binds K d47 ["self", "what", "many", "most"] [] := F47.binds fun _ _ _ _ _ _ us hl => match us, hl with | [_, _, _, _], _ => rfl
  have m47 : Meth K (He.ga K "TooMany") "__init__" (He.ma K (He.ga K "TooMany") "__init__") := He.meth_ok (c.fact 119 (f := .meth "TooMany" "__init__") rfl)
  obtain ⟨d48, D48⟩ := c.def_ 48 (d := dd48) rfl
  have F48 : Fun K "__init__" "BadBits.__init__" sBBits (He.ma K (He.ga K "BadBits") "__init__") d48 := fun_ofD D48
  have b48 : Binds K d48 ["self", "index"] [] := F48.binds fun _ _ _ _ _ _ us hl => match us, hl with | [_, _], _ => rfl
  have m48 : Meth K (He.ga K "BadBits") "__init__" (He.ma K (He.ga K "BadBits") "__init__") := He.meth_ok (c.fact 120 (f := .meth "BadBits" "__init__") rfl)
  obtain ⟨d49, D49⟩ := c.def_ 49 (d := dd49) rfl
  have F49 : Fun K "__init__" "BadTally.__init__" sBTally (He.ma K (He.ga K "BadTally") "__init__") d49 := fun_ofD D49
  have b49 : Binds K d49 ["self", "index"] [] := F49.binds fun _ _ _ _ _ _ us hl => match us, hl with | [_, _], _ => rfl
  have m49 : Meth K (He.ga K "BadTally") "__init__" (He.ma K (He.ga K "BadTally") "__init__") := He.meth_ok (c.fact 121 (f := .meth "BadTally" "__init__") rfl)
  obtain ⟨d50, D50⟩ := c.def_ 50 (d := dd50) rfl
  have F50 : Fun K "__init__" "BadLength.__init__" sBLen (He.ma K (He.ga K "BadLength") "__init__") d50 := fun_ofD D50
  have b50 : Binds K d50 ["self", "index"] [] := F50.binds fun _ _ _ _ _ _ us hl => match us, hl with | [_, _], _ => rfl
  have m50 : Meth K (He.ga K "BadLength") "__init__" (He.ma K (He.ga K "BadLength") "__init__") := He.meth_ok (c.fact 122 (f := .meth "BadLength" "__init__") rfl)
  obtain ⟨d51, D51⟩ := c.def_ 51 (d := dd51) rfl
  have F51 : Fun K "__init__" "NotFull.__init__" sNFull (He.ma K (He.ga K "NotFull") "__init__") d51 := fun_ofD D51
  have b51 : Binds K d51 ["self"] [] := F51.binds fun _ _ _ _ _ _ us hl => match us, hl with | [_], _ => rfl
  have m51 : Meth K (He.ga K "NotFull") "__init__" (He.ma K (He.ga K "NotFull") "__init__") := He.meth_ok (c.fact 123 (f := .meth "NotFull" "__init__") rfl)
  obtain ⟨d52, D52⟩ := c.def_ 52 (d := dd52) rfl
  have F52 : Fun K "__init__" "Begins.__init__" sBegins (He.ma K (He.ga K "Begins") "__init__") d52 := fun_ofD D52
  have b52 : Binds K d52 ["self", "index", "other"] [] := F52.binds fun _ _ _ _ _ _ us hl => match us, hl with | [_, _, _], _ => rfl
  have m52 : Meth K (He.ga K "Begins") "__init__" (He.ma K (He.ga K "Begins") "__init__") := He.meth_ok (c.fact 124 (f := .meth "Begins" "__init__") rfl)
  obtain ⟨d53, D53⟩ := c.def_ 53 (d := dd53) rfl
  have F53 : Fun K "__init__" "OtherSize.__init__" sOSize (He.ma K (He.ga K "OtherSize") "__init__") d53 := fun_ofD D53
  have b53 : Binds K d53 ["self", "many", "wanted"] [] := F53.binds fun _ _ _ _ _ _ us hl => match us, hl with | [_, _, _], _ => rfl
  have m53 : Meth K (He.ga K "OtherSize") "__init__" (He.ma K (He.ga K "OtherSize") "__init__") := He.meth_ok (c.fact 125 (f := .meth "OtherSize" "__init__") rfl)
  obtain ⟨d54, D54⟩ := c.def_ 54 (d := dd54) rfl
  have F54 : Fun K "__init__" "BadRank.__init__" sBRank (He.ma K (He.ga K "BadRank") "__init__") d54 := fun_ofD D54
  have b54 : Binds K d54 ["self", "rank"] [] := F54.binds fun _ _ _ _ _ _ us hl => match us, hl with | [_, _], _ => rfl
  have m54 : Meth K (He.ga K "BadRank") "__init__" (He.ma K (He.ga K "BadRank") "__init__") := He.meth_ok (c.fact 126 (f := .meth "BadRank" "__init__") rfl)
  obtain ⟨d55, D55⟩ := c.def_ 55 (d := dd55) rfl
  have F55 : Fun K "__init__" "BadCount.__init__" sBCount (He.ma K (He.ga K "BadCount") "__init__") d55 := fun_ofD D55
  have b55 : Binds K d55 ["self", "count"] [] := F55.binds fun _ _ _ _ _ _ us hl => match us, hl with | [_, _], _ => rfl
  have m55 : Meth K (He.ga K "BadCount") "__init__" (He.ma K (He.ga K "BadCount") "__init__") := He.meth_ok (c.fact 127 (f := .meth "BadCount" "__init__") rfl)
  obtain ⟨d56, D56⟩ := c.def_ 56 (d := dd56) rfl
  have F56 : Fun K "__init__" "Tree.__init__" sTrI (He.ma K (He.ga K "Tree") "__init__") d56 := fun_ofD D56
  have b56 : Binds K d56 ["self", "words"] [] := F56.binds fun _ _ _ _ _ _ us hl => match us, hl with | [_, _], _ => rfl
  have m56 : Meth K (He.ga K "Tree") "__init__" (He.ma K (He.ga K "Tree") "__init__") := He.meth_ok (c.fact 128 (f := .meth "Tree" "__init__") rfl)
  obtain ⟨d57, D57⟩ := c.def_ 57 (d := dd57) rfl
  have F57 : FunW K "__init__" "Code.__init__" sCoI (He.ma K (He.ga K "Code") "__init__") d57 := funW_ofD D57
  have b57 : Binds K d57 ["self", "lengths", "words"] [] := by
    obtain ⟨ds, vd, bd⟩ := FunD.binds1 (ps := ["self", "lengths", "words"]) D57 3 1 (by show [V.non] ≠ []; simp) rfl fun T kV doc pm an cdv ct us its hu hi => match us, hu, its, hi with | [_, _, _], _, [_], _ => ⟨_, rfl, rfl⟩
    have vd : Vals [] ds := vd
    cases vd
    exact bd
  have bn57 : Binds K d57 ["self", "lengths", "words"] [.none] := by
    obtain ⟨ds, vd, bd⟩ := FunD.binds1 (ps := ["self", "lengths", "words"]) D57 2 0 (by show [V.non] ≠ []; simp) rfl fun T kV doc pm an cdv ct us its hu hi => match us, hu, its, hi with | [_, _], _, [_], _ => ⟨_, rfl, rfl⟩
    have vd : Vals [.non] ds := vd
    obtain ⟨u, rfl, ru⟩ := vals1 vd
    cases ru
    exact bd
  have m57 : Meth K (He.ga K "Code") "__init__" (He.ma K (He.ga K "Code") "__init__") := He.meth_ok (c.fact 129 (f := .meth "Code" "__init__") rfl)
  obtain ⟨d58, D58⟩ := c.def_ 58 (d := dd58) rfl
  have F58 : Fun K "__eq__" "Code.__eq__" sCoE (He.ma K (He.ga K "Code") "__eq__") d58 := fun_ofD D58
  have b58 : Binds K d58 ["self", "other"] [] := F58.binds fun _ _ _ _ _ _ us hl => match us, hl with | [_, _], _ => rfl
  have m58 : Meth K (He.ga K "Code") "__eq__" (He.ma K (He.ga K "Code") "__eq__") := He.meth_ok (c.fact 130 (f := .meth "Code" "__eq__") rfl)
  obtain ⟨d59, D59⟩ := c.def_ 59 (d := dd59) rfl
  have F59 : Fun K "__init__" "Kept.__init__" sKpI (He.ma K (He.ga K "Kept") "__init__") d59 := fun_ofD D59
  have b59 : Binds K d59 ["self", "code", "counts", "rank", "count", "sign"] [] := F59.binds fun _ _ _ _ _ _ us hl => match us, hl with | [_, _, _, _, _, _], _ => rfl
  have m59 : Meth K (He.ga K "Kept") "__init__" (He.ma K (He.ga K "Kept") "__init__") := He.meth_ok (c.fact 131 (f := .meth "Kept" "__init__") rfl)
  obtain ⟨d60, D60⟩ := c.def_ 60 (d := dd60) rfl
  have F60 : Fun K "__init__" "Recoded.__init__" sRcI (He.ma K (He.ga K "Recoded") "__init__") d60 := fun_ofD D60
  have b60 : Binds K d60 ["self", "code", "counts", "rank", "count", "other"] [] := F60.binds fun _ _ _ _ _ _ us hl => match us, hl with | [_, _, _, _, _, _], _ => rfl
  have m60 : Meth K (He.ga K "Recoded") "__init__" (He.ma K (He.ga K "Recoded") "__init__") := He.meth_ok (c.fact 132 (f := .meth "Recoded" "__init__") rfl)
  have q_TooMany_what : PySem.W.findIn K (.ref (He.ga K "TooMany")) "what" = some none := He.noat_ok (c.fact 88 (f := .noat "TooMany" "what") rfl)
  have q_TooMany_many : PySem.W.findIn K (.ref (He.ga K "TooMany")) "many" = some none := He.noat_ok (c.fact 89 (f := .noat "TooMany" "many") rfl)
  have q_TooMany_most : PySem.W.findIn K (.ref (He.ga K "TooMany")) "most" = some none := He.noat_ok (c.fact 90 (f := .noat "TooMany" "most") rfl)
  have q_BadBits_index : PySem.W.findIn K (.ref (He.ga K "BadBits")) "index" = some none := He.noat_ok (c.fact 91 (f := .noat "BadBits" "index") rfl)
  have q_BadTally_index : PySem.W.findIn K (.ref (He.ga K "BadTally")) "index" = some none := He.noat_ok (c.fact 92 (f := .noat "BadTally" "index") rfl)
  have q_BadLength_index : PySem.W.findIn K (.ref (He.ga K "BadLength")) "index" = some none := He.noat_ok (c.fact 93 (f := .noat "BadLength" "index") rfl)
  have q_Begins_index : PySem.W.findIn K (.ref (He.ga K "Begins")) "index" = some none := He.noat_ok (c.fact 94 (f := .noat "Begins" "index") rfl)
  have q_Begins_other : PySem.W.findIn K (.ref (He.ga K "Begins")) "other" = some none := He.noat_ok (c.fact 95 (f := .noat "Begins" "other") rfl)
  have q_OtherSize_many : PySem.W.findIn K (.ref (He.ga K "OtherSize")) "many" = some none := He.noat_ok (c.fact 96 (f := .noat "OtherSize" "many") rfl)
  have q_OtherSize_wanted : PySem.W.findIn K (.ref (He.ga K "OtherSize")) "wanted" = some none := He.noat_ok (c.fact 97 (f := .noat "OtherSize" "wanted") rfl)
  have q_BadRank_rank : PySem.W.findIn K (.ref (He.ga K "BadRank")) "rank" = some none := He.noat_ok (c.fact 98 (f := .noat "BadRank" "rank") rfl)
  have q_BadCount_count : PySem.W.findIn K (.ref (He.ga K "BadCount")) "count" = some none := He.noat_ok (c.fact 99 (f := .noat "BadCount" "count") rfl)
  have q_Tree_names : PySem.W.findIn K (.ref (He.ga K "Tree")) "names" = some none := He.noat_ok (c.fact 100 (f := .noat "Tree" "names") rfl)
  have q_Tree_zeros : PySem.W.findIn K (.ref (He.ga K "Tree")) "zeros" = some none := He.noat_ok (c.fact 101 (f := .noat "Tree" "zeros") rfl)
  have q_Tree_ones : PySem.W.findIn K (.ref (He.ga K "Tree")) "ones" = some none := He.noat_ok (c.fact 102 (f := .noat "Tree" "ones") rfl)
  have q_Tree_numbers : PySem.W.findIn K (.ref (He.ga K "Tree")) "numbers" = some none := He.noat_ok (c.fact 103 (f := .noat "Tree" "numbers") rfl)
  have q_Code_longest : PySem.W.findIn K (.ref (He.ga K "Code")) "longest" = some none := He.noat_ok (c.fact 104 (f := .noat "Code" "longest") rfl)
  have q_Code_lengths : PySem.W.findIn K (.ref (He.ga K "Code")) "lengths" = some none := He.noat_ok (c.fact 105 (f := .noat "Code" "lengths") rfl)
  have q_Code_words : PySem.W.findIn K (.ref (He.ga K "Code")) "words" = some none := He.noat_ok (c.fact 106 (f := .noat "Code" "words") rfl)
  have q_Code_size : PySem.W.findIn K (.ref (He.ga K "Code")) "size" = some none := He.noat_ok (c.fact 107 (f := .noat "Code" "size") rfl)
  have q_Code_tree : PySem.W.findIn K (.ref (He.ga K "Code")) "tree" = some none := He.noat_ok (c.fact 108 (f := .noat "Code" "tree") rfl)
  have q_Kept_code : PySem.W.findIn K (.ref (He.ga K "Kept")) "code" = some none := He.noat_ok (c.fact 109 (f := .noat "Kept" "code") rfl)
  have q_Kept_counts : PySem.W.findIn K (.ref (He.ga K "Kept")) "counts" = some none := He.noat_ok (c.fact 110 (f := .noat "Kept" "counts") rfl)
  have q_Kept_rank : PySem.W.findIn K (.ref (He.ga K "Kept")) "rank" = some none := He.noat_ok (c.fact 111 (f := .noat "Kept" "rank") rfl)
  have q_Kept_count : PySem.W.findIn K (.ref (He.ga K "Kept")) "count" = some none := He.noat_ok (c.fact 112 (f := .noat "Kept" "count") rfl)
  have q_Kept_sign : PySem.W.findIn K (.ref (He.ga K "Kept")) "sign" = some none := He.noat_ok (c.fact 113 (f := .noat "Kept" "sign") rfl)
  have q_Recoded_code : PySem.W.findIn K (.ref (He.ga K "Recoded")) "code" = some none := He.noat_ok (c.fact 114 (f := .noat "Recoded" "code") rfl)
  have q_Recoded_counts : PySem.W.findIn K (.ref (He.ga K "Recoded")) "counts" = some none := He.noat_ok (c.fact 115 (f := .noat "Recoded" "counts") rfl)
  have q_Recoded_rank : PySem.W.findIn K (.ref (He.ga K "Recoded")) "rank" = some none := He.noat_ok (c.fact 116 (f := .noat "Recoded" "rank") rfl)
  have q_Recoded_count : PySem.W.findIn K (.ref (He.ga K "Recoded")) "count" = some none := He.noat_ok (c.fact 117 (f := .noat "Recoded" "count") rfl)
  have q_Recoded_other : PySem.W.findIn K (.ref (He.ga K "Recoded")) "other" = some none := He.noat_ok (c.fact 118 (f := .noat "Recoded" "other") rfl)
  have MK_Tree : Mk K (He.ga K "Tree") (He.ma K (He.ga K "Tree") "__init__") := He.mkr_ok (c.fact 81 (f := .mkr "Tree") rfl)
  have MK_Code : Mk K (He.ga K "Code") (He.ma K (He.ga K "Code") "__init__") := He.mkr_ok (c.fact 83 (f := .mkr "Code") rfl)
  have MK_Kept : Mk K (He.ga K "Kept") (He.ma K (He.ga K "Kept") "__init__") := He.mkr_ok (c.fact 85 (f := .mkr "Kept") rfl)
  have MK_Recoded : Mk K (He.ga K "Recoded") (He.ma K (He.ga K "Recoded") "__init__") := He.mkr_ok (c.fact 87 (f := .mkr "Recoded") rfl)
  have ct_BadRank : Ct K mg "BadRank" (He.ga K "BadRank") := ⟨(He.glo_ok KX G (c.fact 54 (f := .glo "BadRank") rfl)), xfB_ok f7, He.exm_ok (c.fact 133 (f := .exm "BadRank" "BadRank" true) rfl)⟩
  have ct_TooMany : Ct K mg "TooMany" (He.ga K "TooMany") := ⟨(He.glo_ok KX G (c.fact 47 (f := .glo "TooMany") rfl)), xfB_ok f0, He.exm_ok (c.fact 134 (f := .exm "TooMany" "TooMany" true) rfl)⟩
  have ct_BadCount : Ct K mg "BadCount" (He.ga K "BadCount") := ⟨(He.glo_ok KX G (c.fact 55 (f := .glo "BadCount") rfl)), xfB_ok f8, He.exm_ok (c.fact 135 (f := .exm "BadCount" "BadCount" true) rfl)⟩
  have ct_OtherSize : Ct K mg "OtherSize" (He.ga K "OtherSize") := ⟨(He.glo_ok KX G (c.fact 53 (f := .glo "OtherSize") rfl)), xfB_ok f6, He.exm_ok (c.fact 136 (f := .exm "OtherSize" "OtherSize" true) rfl)⟩
  have Ts : Cts K mg (He.ga K "BadRank") (He.ga K "TooMany") (He.ga K "BadCount") (He.ga K "OtherSize") := ⟨ct_BadRank, ct_TooMany, ct_BadCount, ct_OtherSize, q_BadRank_rank, q_TooMany_what, q_TooMany_many, q_TooMany_most, q_BadCount_count, q_OtherSize_many, q_OtherSize_wanted, He.exm_ok (c.fact 137 (f := .exm "TooMany" "BadRank" false) rfl), He.exm_ok (c.fact 138 (f := .exm "BadCount" "BadRank" false) rfl), He.exm_ok (c.fact 139 (f := .exm "BadCount" "TooMany" false) rfl), He.exm_ok (c.fact 140 (f := .exm "OtherSize" "BadRank" false) rfl), He.exm_ok (c.fact 141 (f := .exm "OtherSize" "TooMany" false) rfl), He.exm_ok (c.fact 142 (f := .exm "OtherSize" "BadCount" false) rfl)⟩
  have MM : Cm mg := ⟨⟨_, g0, ⟨_, rfl⟩⟩, ⟨_, g1, ⟨_, rfl⟩⟩, He.free_ok KX G (c.fact 70 (f := .free "max") rfl)⟩
  have TX : TxC K (He.ga K "Code") := ⟨He.cls_ok (c.fact 82 (f := .cls "Code") rfl), q_Code_longest, q_Code_lengths, q_Code_words, q_Code_size, q_Code_tree⟩
  have TR : TxR K (He.ga K "Tree") := ⟨He.cls_ok (c.fact 80 (f := .cls "Tree") rfl), q_Tree_names, q_Tree_zeros, q_Tree_ones, q_Tree_numbers⟩
  have U : ObK K := ⟨He.eqO_ok x9, of_decide_eq_true x10⟩
  have TE : TxE K (He.ga K "Code") := ⟨He.eqO_ok x18, U.gg, U.tk, of_decide_eq_true x19, of_decide_eq_true x11⟩
  have KC : KtC K (He.ga K "Code") := ⟨of_decide_eq_true x12, of_decide_eq_true x13, of_decide_eq_true x14⟩
  have O : ObC K (He.ga K "Code") := ⟨He.cls_ok (c.fact 82 (f := .cls "Code") rfl), He.eqO_ok x18, of_decide_eq_true x19, of_decide_eq_true x20, of_decide_eq_true x21, of_decide_eq_true x22, of_decide_eq_true x23, of_decide_eq_true x24⟩
  have OK : ObC K (He.ga K "Kept") := ⟨He.cls_ok (c.fact 84 (f := .cls "Kept") rfl), He.eqO_ok x25, of_decide_eq_true x26, of_decide_eq_true x27, of_decide_eq_true x28, of_decide_eq_true x29, of_decide_eq_true x30, of_decide_eq_true x31⟩
  have OR : ObC K (He.ga K "Recoded") := ⟨He.cls_ok (c.fact 86 (f := .cls "Recoded") rfl), He.eqO_ok x32, of_decide_eq_true x33, of_decide_eq_true x34, of_decide_eq_true x35, of_decide_eq_true x36, of_decide_eq_true x37, of_decide_eq_true x38⟩
  have TK : TxK K (He.ga K "Kept") "sign" := ⟨OK.cl, q_Kept_code, q_Kept_counts, q_Kept_rank, q_Kept_count, q_Kept_sign⟩
  have TP : TxK K (He.ga K "Recoded") "other" := ⟨OR.cl, q_Recoded_code, q_Recoded_counts, q_Recoded_rank, q_Recoded_count, q_Recoded_other⟩
  have VC : CvC K mg (He.ga K "VaultError") (He.ga K "OtherSize") (He.ga K "BadRank") (He.ga K "BadCount") := ⟨(He.glo_ok KX G (c.fact 144 (f := .glo "VaultError") rfl)), He.exm_ok (c.fact 145 (f := .exm "OtherSize" "VaultError" true) rfl), He.exm_ok (c.fact 146 (f := .exm "BadRank" "VaultError" true) rfl), He.exm_ok (c.fact 147 (f := .exm "BadCount" "VaultError" true) rfl)⟩
  have el : fl = He.ga K "law" := by
    have e := hfl.symm.trans (He.glo_ok KX G (c.fact 46 (f := .glo "law") rfl))
    cases e
    rfl
  subst el
  have n01 : (He.cT K treD).2 ≠ (He.cT K canD).2 := of_decide_eq_true x42
  have n02 : (He.cT K treD).2 ≠ (He.cT K arD).2 := of_decide_eq_true x43
  have n12 : (He.cT K canD).2 ≠ (He.cT K arD).2 := of_decide_eq_true x44
  refine ⟨d46, [He.cT K treD, He.cT K canD, He.cT K arD], spLaw K (TbK K), ?_, ?_, ?_, ?_, ?_, ?_⟩
  · intro p hp
    simp only [List.mem_cons, List.not_mem_nil, or_false] at hp
    rcases hp with rfl | rfl | rfl
    · exact hT _ (of_decide_eq_true x39)
    · exact hT _ (of_decide_eq_true x40)
    · exact hT _ (of_decide_eq_true x41)
  · intro p hp
    simp only [List.mem_cons, List.not_mem_nil, or_false] at hp
    rcases hp with rfl | rfl | rfl
    · exact isNone_of x48
    · exact isNone_of x49
    · exact isNone_of x50
  · intro p hp
    simp only [List.mem_cons, List.not_mem_nil, or_false] at hp
    rcases hp with rfl | rfl | rfl
    · exact PySem.W.codeHd_of_K KX x45
    · exact PySem.W.codeHd_of_K KX x46
    · exact PySem.W.codeHd_of_K KX x47
  · exact fun s u => FunD.bindsA (ps := ["_law_script"]) D46 (fun _ _ _ _ _ _ us hl => match us, hl with | [_], _ => rfl) s [u] rfl
  · intro H a ns hl hb hH hS
    refine ⟨a, ns, rfl, hS, fun p hp => ?_, fun _ => rfl⟩
    simp only [List.mem_cons, List.not_mem_nil, or_false] at hp
    rcases hp with rfl | rfl | rfl
    · exact LamX.TabS.nil (hH (He.cT K treD) List.mem_cons_self)
    · exact LamX.TabS.nil (hH (He.cT K canD) (List.mem_cons_of_mem _ List.mem_cons_self))
    · exact LamX.TabS.nil (hH (He.cT K arD) (List.mem_cons_of_mem _ (List.mem_cons_of_mem _ List.mem_cons_self)))
  · intro base KB GB TB
    have hu0 : ∀ p ∈ TbK K, p.1 = (He.cT K treD).2 → p.2 = (("Tree.__init__.<locals>.<lambda>" : String) : Str) := fun p hp e => by
      simp only [List.mem_cons, List.not_mem_nil, or_false] at hp
      rcases hp with rfl | rfl | rfl
      · exact rfl
      · exact absurd e.symm n01
      · exact absurd e.symm n02
    have LF0 : FunL K base mg "__init__" "Tree.__init__" sTrI (He.ma K (He.ga K "Tree") "__init__") (He.cT K treD).1 (He.cT K treD).2 d56 := funL_of (kq := treD) F56 (TB _ List.mem_cons_self)
    have hu1 : ∀ p ∈ TbK K, p.1 = (He.cT K canD).2 → p.2 = (("canonical_words.<locals>.<lambda>" : String) : Str) := fun p hp e => by
      simp only [List.mem_cons, List.not_mem_nil, or_false] at hp
      rcases hp with rfl | rfl | rfl
      · exact absurd e n01
      · exact rfl
      · exact absurd e.symm n12
    have LF1 : FunL K base mg "canonical_words" "canonical_words" sCan (He.ga K "canonical_words") (He.cT K canD).1 (He.cT K canD).2 d9 := funL_of (kq := canD) F9 (TB _ (List.mem_cons_of_mem _ List.mem_cons_self))
    have hu2 : ∀ p ∈ TbK K, p.1 = (He.cT K arD).2 → p.2 = (("_law_are_refused.<locals>.<lambda>" : String) : Str) := fun p hp e => by
      simp only [List.mem_cons, List.not_mem_nil, or_false] at hp
      rcases hp with rfl | rfl | rfl
      · exact absurd e n02
      · exact absurd e n12
      · exact rfl
    have LF2 : FunL K base mg "_law_are_refused" "_law_are_refused" sAR (He.ga K "_law_are_refused") (He.cT K arD).1 (He.cT K arD).2 d45 := funL_of (kq := arD) F45 (TB _ (List.mem_cons_of_mem _ (List.mem_cons_of_mem _ List.mem_cons_self)))
    have cWh : Cal CX0 l.prog w K mg base 1 "is_whole" spWhole := ⟨_, d0, _, ok_whole F0 B, (He.glo_ok KX G (c.fact 0 (f := .glo "is_whole") rfl)), F0.kp, b0⟩
    have cB : Cal CX0 l.prog w K mg base 2 "is_between" spBetween := ⟨_, d1, _, ok_between F1 cWh, (He.glo_ok KX G (c.fact 1 (f := .glo "is_between") rfl)), F1.kp, b1⟩
    have cFr : Cal CX0 l.prog w K mg base 2 "is_from" spFrom := ⟨_, d2, _, ok_from F2 cWh, (He.glo_ok KX G (c.fact 2 (f := .glo "is_from") rfl)), F2.kp, b2⟩
    have cC1 : Cal CX0 l.prog w K mg base 1 "copied" spCopied := ⟨_, d3, _, ok_copied F3 B, (He.glo_ok KX G (c.fact 3 (f := .glo "copied") rfl)), F3.kp, b3⟩
    have cC2 : Cal CX0 l.prog w K mg base 2 "copied" spCopy2 := ⟨_, d3, _, ok_copy2 F3 B cC1, (He.glo_ok KX G (c.fact 3 (f := .glo "copied") rfl)), F3.kp, b3⟩
    have cCL : Cal CX0 l.prog w K mg base 1 "copied" (spCopyL K) := ⟨_, d3, _, ok_copyL F3 B, (He.glo_ok KX G (c.fact 3 (f := .glo "copied") rfl)), F3.kp, b3⟩
    have xTooMany : Xc l.prog w K mg base 2 "TooMany" (He.ga K "TooMany") (spX3 K "what" "many" "most") := ⟨oexB_ok o0, (He.glo_ok KX G (c.fact 47 (f := .glo "TooMany") rfl)), _, d47, _, m47.at_, beq_iff_eq.mp m47.fn, ok_TMany F47 cC1, b47⟩
    have xBadLength : Xc l.prog w K mg base 2 "BadLength" (He.ga K "BadLength") (spX1 K "index") := ⟨oexB_ok o3, (He.glo_ok KX G (c.fact 50 (f := .glo "BadLength") rfl)), _, d50, _, m50.at_, beq_iff_eq.mp m50.fn, ok_BLen F50 cC1, b50⟩
    have xNotFull : Xc l.prog w K mg base 1 "NotFull" (He.ga K "NotFull") spX0 := ⟨oexB_ok o4, (He.glo_ok KX G (c.fact 51 (f := .glo "NotFull") rfl)), _, d51, _, m51.at_, beq_iff_eq.mp m51.fn, ok_NFull F51, b51⟩
    have xBadBits : Xc l.prog w K mg base 2 "BadBits" (He.ga K "BadBits") (spX1 K "index") := ⟨oexB_ok o1, (He.glo_ok KX G (c.fact 48 (f := .glo "BadBits") rfl)), _, d48, _, m48.at_, beq_iff_eq.mp m48.fn, ok_BBits F48 cC1, b48⟩
    have xBegins : Xc l.prog w K mg base 2 "Begins" (He.ga K "Begins") (spX2 K "index" "other") := ⟨oexB_ok o5, (He.glo_ok KX G (c.fact 52 (f := .glo "Begins") rfl)), _, d52, _, m52.at_, beq_iff_eq.mp m52.fn, ok_Begins F52 cC1, b52⟩
    have xBadTally : Xc l.prog w K mg base 2 "BadTally" (He.ga K "BadTally") (spX1 K "index") := ⟨oexB_ok o2, (He.glo_ok KX G (c.fact 49 (f := .glo "BadTally") rfl)), _, d49, _, m49.at_, beq_iff_eq.mp m49.fn, ok_BTally F49 cC1, b49⟩
    have xOtherSize : Xc l.prog w K mg base 2 "OtherSize" (He.ga K "OtherSize") (spX2 K "many" "wanted") := ⟨oexB_ok o6, (He.glo_ok KX G (c.fact 53 (f := .glo "OtherSize") rfl)), _, d53, _, m53.at_, beq_iff_eq.mp m53.fn, ok_OSize F53 cC1, b53⟩
    have xBadRank : Xc l.prog w K mg base 3 "BadRank" (He.ga K "BadRank") (spXB K "rank") := ⟨oexB_ok o7, (He.glo_ok KX G (c.fact 54 (f := .glo "BadRank") rfl)), _, d54, _, m54.at_, beq_iff_eq.mp m54.fn, ((ok_BRank F54 cC2).or ((ok_BRankL F54 cCL).mono (by omega))), b54⟩
    have xBadCount : Xc l.prog w K mg base 3 "BadCount" (He.ga K "BadCount") (spXB K "count") := ⟨oexB_ok o8, (He.glo_ok KX G (c.fact 55 (f := .glo "BadCount") rfl)), _, d55, _, m55.at_, beq_iff_eq.mp m55.fn, ((ok_BCount F55 cC2).or ((ok_BCountL F55 cCL).mono (by omega))), b55⟩
    have cFo : Cal CX0 l.prog w K mg base 1 "first_one" (spFo K) := ⟨_, d5, _, ok_fo F5, (He.glo_ok KX G (c.fact 5 (f := .glo "first_one") rfl)), F5.kp, b5⟩
    have mkT : Mak CX0 l.prog w K mg base 6 "Tree" (He.ga K "Tree") (spTrI (He.ga K "Tree") (TbK K)) := ⟨_, d56, _, MK_Tree, ok_trI LF0 B Bz TR cFo List.mem_cons_self hu0, (He.glo_ok KX G (c.fact 56 (f := .glo "Tree") rfl)), b56⟩
    have cFwb : Cal CX0 l.prog w K mg base 1 "first_wrong_bit" spFwb := ⟨_, d8, _, ok_fwb F8 B Bz, (He.glo_ok KX G (c.fact 8 (f := .glo "first_wrong_bit") rfl)), F8.kp, b8⟩
    have cChW : Cal (L2.CX l.prog w) l.prog w K mg base 4 "check_words" (spChW (He.ga K "BadBits") (He.ga K "Begins")) := ⟨_, d7, _, ok_chW F7 B Bz cFwb xBadBits q_BadBits_index xBegins ⟨q_Begins_index, q_Begins_other⟩, (He.glo_ok KX G (c.fact 7 (f := .glo "check_words") rfl)), F7.kp, b7⟩
    have cCan : Cal CX0 l.prog w K mg base 6 "canonical_words" (spCa (TbK K)) := ⟨_, d9, _, ok_can LF1 B Bz (List.mem_cons_of_mem _ List.mem_cons_self) hu1, (He.glo_ok KX G (c.fact 9 (f := .glo "canonical_words") rfl)), F9.kp, b9⟩
    have fC : FnOk l.prog w K mg base (L2.CX l.prog w) 8 (He.ma K (He.ga K "Code") "__init__") d57 ["self", "lengths", "words"] (spCoI (He.ga K "Code") (He.ga K "TooMany") (He.ga K "BadLength") (He.ga K "NotFull") (He.ga K "BadBits") (He.ga K "Begins") (TbK K)) := ok_coI F57 B Bz MM TX ⟨q_TooMany_what, q_TooMany_many, q_TooMany_most, q_BadLength_index⟩ cB xTooMany xBadLength xNotFull cChW cCan mkT
    have mN : MakN (L2.CX l.prog w) l.prog w K mg base 8 "Code" (He.ga K "Code") (spCoI (He.ga K "Code") (He.ga K "TooMany") (He.ga K "BadLength") (He.ga K "NotFull") (He.ga K "BadBits") (He.ga K "Begins") (TbK K)) := ⟨_, d57, _, MK_Code, fC, (He.glo_ok KX G (c.fact 57 (f := .glo "Code") rfl)), bn57⟩
    have mC : Mak (L2.CX l.prog w) l.prog w K mg base 8 "Code" (He.ga K "Code") (spCoI (He.ga K "Code") (He.ga K "TooMany") (He.ga K "BadLength") (He.ga K "NotFull") (He.ga K "BadBits") (He.ga K "Begins") (TbK K)) := ⟨_, d57, _, MK_Code, fC, (He.glo_ok KX G (c.fact 57 (f := .glo "Code") rfl)), b57⟩
    have cCC : Cal (L2.CX l.prog w) l.prog w K mg base 4 "check_counts" (spCC (He.ga K "TooMany") (He.ga K "BadTally")) := ⟨_, d6, _, ok_chC F6 B MM cFr xTooMany xBadTally ⟨q_TooMany_what, q_TooMany_many, q_TooMany_most, q_BadTally_index⟩, (He.glo_ok KX G (c.fact 6 (f := .glo "check_counts") rfl)), F6.kp, b6⟩
    have cCCC : Cal (L2.CX l.prog w) l.prog w K mg base 5 "check_code_counts" (spCCC (He.ga K "Code") (He.ga K "TooMany") (He.ga K "BadTally") (He.ga K "OtherSize")) := ⟨_, d10, _, ok_ccc F10 B TX cCC xOtherSize q_OtherSize_many q_OtherSize_wanted, (He.glo_ok KX G (c.fact 10 (f := .glo "check_code_counts") rfl)), F10.kp, b10⟩
    have cCO : Cal CX0 l.prog w K mg base 1 "cost_of" spCOfA := ⟨_, d14, _, ok_cofA F14 Bz Bz.zip, (He.glo_ok KX G (c.fact 14 (f := .glo "cost_of") rfl)), F14.kp, b14⟩
    have cCost : Cal (L2.CX l.prog w) l.prog w K mg base 6 "cost" (spCost (He.ga K "Code") (He.ga K "TooMany") (He.ga K "BadTally") (He.ga K "OtherSize")) := ⟨_, d11, _, ok_cost F11 TX cCCC cCO, (He.glo_ok KX G (c.fact 11 (f := .glo "cost") rfl)), F11.kp, b11⟩
    have cJC : Cal CX0 l.prog w K mg base 1 "joined_counts" spJC := ⟨_, d16, _, ok_jc F16 B Bz.sorted, (He.glo_ok KX G (c.fact 16 (f := .glo "joined_counts") rfl)), F16.kp, b16⟩
    have cLO : Cal CX0 l.prog w K mg base 2 "least_of" spLO := ⟨_, d15, _, ok_lo F15 cJC, (He.glo_ok KX G (c.fact 15 (f := .glo "least_of") rfl)), F15.kp, b15⟩
    have cIL : Cal (L2.CX l.prog w) l.prog w K mg base 7 "is_least" (spIL (He.ga K "Code") (He.ga K "TooMany") (He.ga K "BadTally") (He.ga K "OtherSize")) := ⟨_, d12, _, ok_il F12 cCost cLO, (He.glo_ok KX G (c.fact 12 (f := .glo "is_least") rfl)), F12.kp, b12⟩
    have cLC : Cal (L2.CX l.prog w) l.prog w K mg base 10 "least_code" (spLC (He.ga K "Code") (He.ga K "TooMany") (He.ga K "BadTally") (TbK K)) := ⟨_, d13, _, ok_lc F13 B cCC cJC mN, (He.glo_ok KX G (c.fact 13 (f := .glo "least_code") rfl)), F13.kp, b13⟩
    have cWV : Cal CX0 l.prog w K mg base 1 "is_whole" (spWholeV K) := ⟨_, d0, _, ok_wholeV F0 B, (He.glo_ok KX G (c.fact 0 (f := .glo "is_whole") rfl)), F0.kp, b0⟩
    have cBV : Cal CX0 l.prog w K mg base 2 "is_between" (spBetweenV K) := ⟨_, d1, _, ok_betweenV F1 cWV, (He.glo_ok KX G (c.fact 1 (f := .glo "is_between") rfl)), F1.kp, b1⟩
    have cFV : Cal CX0 l.prog w K mg base 2 "is_from" (spFromV K) := ⟨_, d2, _, ok_fromV F2 cWV, (He.glo_ok KX G (c.fact 2 (f := .glo "is_from") rfl)), F2.kp, b2⟩
    have cF0 : Cal CX0 l.prog w K mg base 1 "frozen" (spFz K 0) := ⟨_, d4, _, ok_fz0 F4 B, (He.glo_ok KX G (c.fact 4 (f := .glo "frozen") rfl)), F4.kp, b4⟩
    have cF1 : Cal CX0 l.prog w K mg base 2 "frozen" (spFz K 1) := ⟨_, d4, _, ok_fzS F4 B cF0, (He.glo_ok KX G (c.fact 4 (f := .glo "frozen") rfl)), F4.kp, b4⟩
    have cPt : Cal CX0 l.prog w K mg base 1 "parted" spPt := ⟨_, d19, _, ok_pt F19 B, (He.glo_ok KX G (c.fact 19 (f := .glo "parted") rfl)), F19.kp, b19⟩
    have cCf : Cal CX0 l.prog w K mg base 10 "code_of" (spCf (He.ga K "Code") (TbK K)) := ⟨_, d20, _, ok_cf F20 B mC, (He.glo_ok KX G (c.fact 20 (f := .glo "code_of") rfl)), F20.kp, b20⟩
    have cCR : Cal (L2.CX l.prog w) l.prog w K mg base 6 "check_rank" (spCRk K (He.ga K "Code") (He.ga K "TooMany") (He.ga K "BadTally") (He.ga K "OtherSize") (He.ga K "BadRank")) := ⟨_, d17, _, ok_cr F17 TX cCCC cBV xBadRank q_BadRank_rank, (He.glo_ok KX G (c.fact 17 (f := .glo "check_rank") rfl)), F17.kp, b17⟩
    have cCM : Cal CX0 l.prog w K mg base 1 "check_more" (spCM (He.ga K "Code")) := ⟨_, d18, _, ok_cm F18 MM TX, (He.glo_ok KX G (c.fact 18 (f := .glo "check_more") rfl)), F18.kp, b18⟩
    have cCk : Cal (L2.CX l.prog w) l.prog w K mg base 7 "check_counted" (spCk K (He.ga K "Code") (He.ga K "TooMany") (He.ga K "BadTally") (He.ga K "OtherSize") (He.ga K "BadRank") (He.ga K "BadCount")) := ⟨_, d22, _, ok_ck F22 cCR cFV cCM xBadCount q_BadCount_count, (He.glo_ok KX G (c.fact 22 (f := .glo "check_counted") rfl)), F22.kp, b22⟩
    have cWC : Cal CX0 l.prog w K mg base 1 "with_count" spWC := ⟨_, d23, _, ok_wc F23 B, (He.glo_ok KX G (c.fact 23 (f := .glo "with_count") rfl)), F23.kp, b23⟩
    have cLP : Cal CX0 l.prog w K mg base 3 "least_parted" (spLP (He.ga K "Code")) := ⟨_, d24, _, ok_lp F24 B TX cWC cLO cCO, (He.glo_ok KX G (c.fact 24 (f := .glo "least_parted") rfl)), F24.kp, b24⟩
    have mK : Mak CX0 l.prog w K mg base 3 "Kept" (He.ga K "Kept") (spK5 K (He.ga K "Kept") "sign") := ⟨_, d59, _, MK_Kept, ok_kpI F59 TK cF1, (He.glo_ok KX G (c.fact 58 (f := .glo "Kept") rfl)), b59⟩
    have mR : Mak CX0 l.prog w K mg base 3 "Recoded" (He.ga K "Recoded") (spK5 K (He.ga K "Recoded") "other") := ⟨_, d60, _, MK_Recoded, ok_rcI F60 TP cF1, (He.glo_ok KX G (c.fact 59 (f := .glo "Recoded") rfl)), b60⟩
    have cPC : Cal (L2.CX l.prog w) l.prog w K mg base 11 "put_counted" (spPC K (He.ga K "Code") (He.ga K "Kept") (He.ga K "Recoded") (He.ga K "TooMany") (He.ga K "BadTally") (He.ga K "OtherSize") (He.ga K "BadRank") (He.ga K "BadCount") (TbK K)) := ⟨_, d21, _, ok_pc F21 O U cCk cLP cWC cLC mK mR, (He.glo_ok KX G (c.fact 21 (f := .glo "put_counted") rfl)), F21.kp, b21⟩
    have cKC : Cal CX0 l.prog w K mg base 11 "kept_code" (spKC (He.ga K "Code") (He.ga K "Kept") (TbK K)) := ⟨_, d25, _, ok_kc F25 TX TK cPt cCf, (He.glo_ok KX G (c.fact 25 (f := .glo "kept_code") rfl)), F25.kp, b25⟩
    have cIC : Cal CX0 l.prog w K mg base 8 "is_counted" (spIC K (He.ga K "Code")) := ⟨_, d28, _, ok_ic F28 B TX TE KC VC (He.glo_ok KX G (c.fact 57 (f := .glo "Code") rfl)) cCk, (He.glo_ok KX G (c.fact 28 (f := .glo "is_counted") rfl)), F28.kp, b28⟩
    have cIK : Cal CX0 l.prog w K mg base 9 "is_kept" (spIK K (He.ga K "Code") (He.ga K "Kept")) := ⟨_, d26, _, ok_ik F26 TX TK cIC cBV cLP, (He.glo_ok KX G (c.fact 26 (f := .glo "is_kept") rfl)), F26.kp, b26⟩
    have cIR : Cal CX0 l.prog w K mg base 9 "is_recoded" (spIR K (He.ga K "Code") (He.ga K "Recoded")) := ⟨_, d27, _, ok_ir F27 B TX TE KC TP (He.glo_ok KX G (c.fact 57 (f := .glo "Code") rfl)) cIC cLP cWC cIL, (He.glo_ok KX G (c.fact 27 (f := .glo "is_recoded") rfl)), F27.kp, b27⟩
    have cPn : Cal CX0 l.prog w K mg base 1 "_law_pen_of" (spPen K) := ⟨_, d29, _, ok_pen F29 B, (He.glo_ok KX G (c.fact 29 (f := .glo "_law_pen_of") rfl)), F29.kp, b29⟩
    have cD : Cal CX0 l.prog w K mg base 1 "_law_draw" spDraw := ⟨_, d30, _, ok_draw F30 B, (He.glo_ok KX G (c.fact 30 (f := .glo "_law_draw") rfl)), F30.kp, b30⟩
    have cPk : Cal CX0 l.prog w K mg base 2 "_law_pick" spPick := ⟨_, d31, _, ok_pick F31 B cD, (He.glo_ok KX G (c.fact 31 (f := .glo "_law_pick") rfl)), F31.kp, b31⟩
    have cSh : Cal CX0 l.prog w K mg base 3 "_law_shuffled" spShuf := ⟨_, d32, _, ok_shuf F32 B cD, (He.glo_ok KX G (c.fact 32 (f := .glo "_law_shuffled") rfl)), F32.kp, b32⟩
    have cShF : Cal CX0 l.prog w K mg base 3 "_law_shuffled" spShufF := ⟨_, d32, _, ok_shufF F32 B cD, (He.glo_ok KX G (c.fact 32 (f := .glo "_law_shuffled") rfl)), F32.kp, b32⟩
    have cShW : Cal CX0 l.prog w K mg base 3 "_law_shuffled" spShufW := ⟨_, d32, _, ok_shufW F32 B cD, (He.glo_ok KX G (c.fact 32 (f := .glo "_law_shuffled") rfl)), F32.kp, b32⟩
    have cSC : Cal CX0 l.prog w K mg base 4 "_law_some_code" spSC := ⟨_, d33, _, ok_sc F33 B cD cSh, (He.glo_ok KX G (c.fact 33 (f := .glo "_law_some_code") rfl)), F33.kp, b33⟩
    have cLCo : Cal CX0 l.prog w K mg base 1 "_law_cost" spLCo := ⟨_, d34, _, ok_lco F34 Bz Bz.zip, (He.glo_ok KX G (c.fact 34 (f := .glo "_law_cost") rfl)), F34.kp, b34⟩
    have cLLe : Cal CX0 l.prog w K mg base 1 "_law_least" spLLe := ⟨_, d36, _, ok_lle F36 B Bz.sorted, (He.glo_ok KX G (c.fact 36 (f := .glo "_law_least") rfl)), F36.kp, b36⟩
    have cW : Cal CX0 l.prog w K mg base 4 "_law_words" spLWo := ⟨_, d37, _, ok_lwo F37 B cD cShW, (He.glo_ok KX G (c.fact 37 (f := .glo "_law_words") rfl)), F37.kp, b37⟩
    have cLCd : Cal CX0 l.prog w K mg base 10 "_law_code" (spCf (He.ga K "Code") (TbK K)) := ⟨_, d38, _, ok_lcd F38 B mC, (He.glo_ok KX G (c.fact 38 (f := .glo "_law_code") rfl)), F38.kp, b38⟩
    have cSn : Cal CX0 l.prog w K mg base 3 "_law_some_counts" spSCn := ⟨_, d35, _, ok_scn F35 B cD cPk, (He.glo_ok KX G (c.fact 35 (f := .glo "_law_some_counts") rfl)), F35.kp, b35⟩
    have cNC : Cal CX0 l.prog w K mg base 4 "_law_near_counts" spNC := ⟨_, d39, _, ok_nc F39 B cD cPk cSn, (He.glo_ok KX G (c.fact 39 (f := .glo "_law_near_counts") rfl)), F39.kp, b39⟩
    have cLPt : Cal CX0 l.prog w K mg base 1 "_law_parted" spLPt := ⟨_, d41, _, ok_lpt F41 B, (He.glo_ok KX G (c.fact 41 (f := .glo "_law_parted") rfl)), F41.kp, b41⟩
    have cRS : Cal CX0 l.prog w K mg base 2 "_law_right_signs" spRS := ⟨_, d42, _, ok_rs F42 B cLLe cLPt cLCo, (He.glo_ok KX G (c.fact 42 (f := .glo "_law_right_signs") rfl)), F42.kp, b42⟩
    have cSt : Cal CX0 l.prog w K mg base 3 "_law_some_count" spSCt := ⟨_, d43, _, ok_sct F43 B Bz cD cPk, (He.glo_ok KX G (c.fact 43 (f := .glo "_law_some_count") rfl)), F43.kp, b43⟩
    have cPp : Cal CX0 l.prog w K mg base 11 "_law_are_papers" (spPp (He.ga K "Code") (TbK K)) := ⟨_, d44, _, ok_pp ⟨F44, B, Bz, He.free_ok KX G (c.fact 143 (f := .free "repr") rfl), TX, TE, O, U, KC, (He.glo_ok KX G (c.fact 57 (f := .glo "Code") rfl)), cPk, cShF, cSC, cLCd, cLCo, cLLe, cIK, cIR, mN, mK, mR⟩, (He.glo_ok KX G (c.fact 44 (f := .glo "_law_are_papers") rfl)), F44.kp, b44⟩
    have cAR : Cal CX0 l.prog w K mg base 14 "_law_are_refused" (spAR (TbK K)) := ⟨_, d45, _, ok_ar ⟨LF2, B, cPk, cLCd, cPC, F40, b40, (He.glo_ok KX G (c.fact 40 (f := .glo "_law_met") rfl)), Ts, (List.mem_cons_of_mem _ (List.mem_cons_of_mem _ List.mem_cons_self)), hu2⟩, (He.glo_ok KX G (c.fact 45 (f := .glo "_law_are_refused") rfl)), F45.kp, b45⟩
    have FE : FnOk l.prog w K mg base CX0 1 (He.ma K (He.ga K "Code") "__eq__") d58 ["self", "other"] (spEqC (He.ga K "Code")) := ok_eqC F58 B TX TE (He.glo_ok KX G (c.fact 57 (f := .glo "Code") rfl))
    exact ok_law ⟨F46, B, TX, TE, TK, TP, O, OK, OR, U, of_decide_eq_true x15, (He.glo_ok KX G (c.fact 58 (f := .glo "Kept") rfl)), cPn, cD, cW, cNC, cSt, cLCd, cPC, cRS, cLPt, cKC, cIK, cIR, cLCo, cLLe, cPp, cAR, FE, m58.at_, m58.fn, b58, He.eqO_ok x17, x16⟩
end K38
set_option Elab.async false
open PySem.W PySem PyProof.Rows in
set_option maxRecDepth 100001 in
set_option maxHeartbeats 0 in
theorem PySem.Challenge.cw_wordvault_k38_whole_counted_signs_holds : PySem.Challenge.rw_wordvault_k38_whole_counted_signs.Holds := by
  w_on; o_law
  k_head
  case hw => w_witness2
  k_fill
  refine LamX.walk_ofTs (l := PySem.Challenge.rw_wordvault_k38_whole_counted_signs) (n := 63) (k := 15) (x := "_law_script") (CX := fun _ => L2.CX0) rfl (by decide) rfl ⟨rfl, by decide, by decide⟩ (fun w h Y => PySem.W.km_in_of Y) ?F (fun _ _ _ _ _ z => z)
  case F =>
    intro w mg fa h Y KX G hmg
    refine K38.at_law KX G hmg ?c ?e (PySem.W.km_tabs_of Y)
    case c =>
      show He.obsD K38.faA K38.fnA _ = He.valD K38.fnA
      kernel_rfl
    case e => kernel_rfl
