import PyProof.Rows.All
import Wide.All
import OpenK.AllK
import Wide.FinOn
import KE.GoesEnum
import HandS.ForMost
import HandS.Walk
import HandS.ForExc
import HandS.ExcInit
import HandS.TryMany
import HandS.Lambda
import HandS.SortKw
import KE.KSortKey
import PyProof.Rows.SortStr
import PyProof.Rows.SortKeyStr
import HandS.Text
import KE.LtSeq
import KE.KRevSl
import PyProof.ListStr
import PyProof.StrOps2
import PyProof.SliceStr2
import PyProof.Rows.StrJoinStr
import HandS.DictComp
import HandS.NoneIn
import HandS.IsInst
import HandS.Conv
import HandS.Flow
import HandS.Deep
import HandS.Codes
import HandS.Wide
import HandS.TupAny
import HandS.EndTab
import HandS.ExcField
import HandS.Strs
import PyProof.StrWalks
import PyProof.CollectStr
import PyProof.Rows.StrOver
import KE.GoesMore
import HandS.Replace
import PyProof.StrLawsFirst
import HandS.WideBits
import HandS.TupMul
import HandS.HeadHook4
import KE.KNestM
import PySem.Challenge.RW_wordvault_k05_patterns_refused
set_option Elab.async false
set_option maxRecDepth 100001
set_option maxHeartbeats 1999999
/-! enumerate over a tuple. -/
namespace PySem
theorem enumT_new {v : Value} {o : Obj} {G : Heap → Prop} (B : Begins v o G) : Meets (Builtin.«enumerate.__new__» ⟨[.type "enumerate", v], []⟩)
    (fun _ R z => G z.heap ∧ R (.ok (.ret (.ref (z.heap.push o).objs.size)))
      { z with heap := (z.heap.push o).push { cls := .type "enumerate", data := .fields #[.none, .bool false, .ref z.heap.objs.size, rawInt 0, .none, .none] } }) :=
  .of_wp fun P W A R z hz => by
    obtain ⟨hp, gs, dr, tk, os⟩ := z
    obtain ⟨g0, r0⟩ := hz
    have su := sub_enumerate
    have it0 : ∀ {A' : Around} {E : Value → Shared → Prop} {Q : Value → Shared → Prop}, Q (.ref hp.objs.size) ⟨hp.push o, gs, dr, tk, os⟩ → wpAny (model P W) A' (pyIter v) Q E ⟨hp, gs, dr, tk, os⟩ :=
      fun q => B.iter P W _ _ ⟨hp, gs, dr, tk, os⟩ _ g0 q
    wp_walk using it0
    refine wpAny_stack_any fun sk => wpAny_pure ?_
    split
    next c _ _ _ _ _ =>
      cases (c == Value.type "enumerate") <;> (wp_walk using it0; exact ⟨_, rfl, r0⟩)
    next => wp_walk using it0; exact ⟨_, rfl, r0⟩
theorem enumT_call {P : Program} {W : World} {A : Around} {E : Value → Shared → Prop} {z : Shared} {v : Value} {o : Obj} {G : Heap → Prop} {Q : Value → Shared → Prop} (B : Begins v o G) (g0 : G z.heap)
    (k : ∀ h2, IsEnum h2 (z.heap.objs.size + 1) z.heap.objs.size 0 .none → h2.get? z.heap.objs.size = some o → (∀ b u, z.heap.get? b = some u → h2.get? b = some u) → Q (.ref (z.heap.objs.size + 1)) { z with heap := h2 }) :
    wpAny (model P W) A (call (.type "enumerate") [v]) Q E z := by
  refine callType_new F.called_enumerate (by decide) (F.typeCall_enumerate_1 _) (F.newCall_enumerate_1 _) (fun ob => F.args_object_init_2 ob _) F.entry_enumerate_new (enumT_new B) ⟨g0, ?_⟩
  have sz : (z.heap.push o).objs.size = z.heap.objs.size + 1 := Heap.size_push ..
  show _ ∧ _
  rw [sz]
  have en : IsEnum ((z.heap.push o).push { cls := .type "enumerate", data := .fields #[.none, .bool false, .ref z.heap.objs.size, rawInt 0, .none, .none] }) (z.heap.objs.size + 1) z.heap.objs.size 0 .none := by
    have q := Heap.get?_push_size (z.heap.push o) (o := { cls := .type "enumerate", data := .fields #[.none, .bool false, .ref z.heap.objs.size, rawInt 0, .none, .none] }) rfl
    rw [sz] at q
    exact q
  exact ⟨⟨_, en, rfl⟩, k _ en (Heap.get?_push_of_some _ (Heap.get?_push_size _ B.free)) fun b u e => Heap.get?_push_of_some _ (Heap.get?_push_of_some _ e)⟩
end PySem
namespace L2
open PySem.Spec PySem PyProof.Rows
/-- the tuple at a, each item in a new pair behind its number -/
def ItEnT (K : PySem.W.Frag) (a : Addr) : It where
  go := fun i H => ∃ (xs : List V) (x : V), SqT K H a xs ∧ xs[i]? = some x
  yld := fun i H v H2 => ∃ p x, v = .ref p ∧ H p = none ∧ H2 = upd H p (.tup [.int (i : Nat), x]) ∧ ∀ xs, SqT K H a xs → xs[i]? = some x
  stop := fun i H => ∃ xs : List V, SqT K H a xs ∧ xs.length ≤ i
theorem two_of {b e d : Addr} (h : b ∈ [e, d]) : b = e ∨ b = d := by simpa using h
theorem turn_enT {P : Program} {W : World} {K : PySem.W.Frag} {es : List Expr} {kk : Nat} {tp : Pos} (a e d : Addr) :
    Turn P W K (.Tuple es kk tp) (ItEnT K a) [e, d] e (fun i h => (∃ was, IsEnum h e d ((i : Nat) : Int) was) ∧ h.IsTupleIter d a i ∧ e ≠ d) where
  mem := List.mem_cons_self
  obj := fun i h st b hb => by
    obtain ⟨⟨was, he⟩, ⟨o, ho, hc, hd⟩, _⟩ := st
    rcases two_of hb with rfl | rfl
    · exact ⟨_, he, fun _ q => nomatch q⟩
    · exact ⟨o, ho, fun _ q => by rw [hd] at q; cases q⟩
  keep := fun i h h2 st k => ⟨let ⟨was, he⟩ := st.1; ⟨was, k e (by simp) _ he⟩, st.2.1.at fun o q => k d (by simp) o q, st.2.2⟩
  item := by
    intro X hP hW hK hc i pins s σ H E I hf st hg
    subst hP hW hK
    obtain ⟨⟨was, he⟩, hit, hne⟩ := st
    obtain ⟨xs, x, hq, hx⟩ := hg
    obtain ⟨its, rv, p, hz⟩ := I.tuple hq
    obtain ⟨u, hu, ru⟩ := rv.get hx
    have le : e < s.heap.objs.size := Heap.lt_size he
    have ld : d < s.heap.objs.size := let ⟨_, q, _⟩ := hit; Heap.lt_size q
    have la : a < s.heap.objs.size := p.lt
    have had : a ≠ d := fun z => by
      obtain ⟨o1, h1, c1, _⟩ := hit
      obtain ⟨o2, h2, c2, _⟩ := p
      rw [z, h1] at h2
      have := Option.some.inj h2
      subst this
      rw [c1] at c2
      exact absurd c2 (by decide)
    have hae : a ≠ e := fun z => by
      obtain ⟨o2, h2, c2, _⟩ := p
      have h1 : s.heap.get? e = some _ := he
      rw [z, h1] at h2
      have := Option.some.inj h2
      subst this
      exact absurd (show Value.type "enumerate" = Value.type "tuple" from c2) (by decide)
    have hi : i < its.toArray.size := by
      have := (List.getElem?_eq_some_iff.mp hu).1
      simpa using this
    have D := Draws.tuple (prog := X.prog) (w := X.w) (A := X.A.in1) (I.ok.hd hc) d a had its.toArray
    refine wpAny_pyNext_enum_itemD (n := its.toArray.size) (i := i) D he ⟨hit, p⟩ hi hne (fun m => ?_) fun y h2 tk hy ho hs2 hT hsz hk => ?_
    · rcases two_of m with z | z
      · exact hne z
      · exact hae z.symm
    have ey : y = u := by
      have q : its.toArray[i]? = some u := by simpa using hu
      rw [hy] at q
      exact Option.some.inj q
    subst ey
    refine ⟨_, rfl, wpAny_letOwnedTupleGo_enum (s := { s with heap := h2, toks := tk + 1 }) ho fun h3 he3 sb => ?_⟩
    have hT3 : h3.get? s.heap.objs.size = some { cls := .type "tuple", data := .seq #[.int i tk, y] } := (sb.2 _ (Nat.ne_of_gt le)).trans hT
    have new : ObjOk X.prog X.w (upd H s.heap.objs.size (.tup [.int (i : Nat), x])) h3 s.heap.objs.size (.tup [.int (i : Nat), x]) :=
      ⟨by show 2 ≤ sizeLine; decide, [.int i tk, y], .cons ⟨_, rfl⟩ (.cons ru .nil), ⟨_, hT3, rfl, _, rfl⟩⟩
    have J : Inv X pins σ (upd H s.heap.objs.size (.tup [.int (i : Nat), x])) { s with heap := h3, toks := tk + 1 } :=
      I.turnedNew (ch := [e, d]) (fun b o hb q => (sb.2 b fun z => hb (by simp [z])).trans (hk b o (fun z => hb (by simp [z])) (fun z => hb (by simp [z])) q)) hf (Nat.le_refl _) new
    refine ⟨.ref s.heap.objs.size, _, J, rfl, ⟨_, x, rfl, I.hok.fresh (Nat.le_refl _), rfl, fun ys hy2 => by rw [I.tuple_inj hy2 hq]; exact hx⟩, ⟨⟨y, ?_⟩, hs2.1.at fun o q => (sb.2 d (Ne.symm hne)).trans q, hne⟩, fun b hb => ?_⟩
    · have e1 : ((i + 1 : Nat) : Int) = (i : Int) + 1 := by omega
      rw [e1]
      exact he3
    · have lb : b < s.heap.objs.size := by
        rcases two_of hb with z | z
        · rw [z]; exact le
        · rw [z]; exact ld
      rw [upd_ne (Nat.ne_of_lt lb)]
      exact (hf b hb).1
  done := by
    intro X hP hW hK hc i pins s σ H E I hf st hg
    subst hP hW hK
    obtain ⟨⟨was, he⟩, hit, hne⟩ := st
    obtain ⟨xs, hq, hx⟩ := hg
    obtain ⟨its, rv, p, hz⟩ := I.tuple hq
    obtain ⟨f0, f1, f2, f3, f4, f5⟩ := hf d (by simp)
    have hl := rv.length
    unfold pyNext
    refine wpAny_bind (wpAny_attempt (wpAny_callSpecial?_slot (name := Str.ofString "__next__") ⟨_, he, rfl⟩ F.slot_enumerate_next
      (wpAny_call_entry F.slot_enumerate_next ⟨_, he, rfl⟩ F.entry_enumerate_next ?_ (F.args_enumerate_next_1 _))))
    show wpAny _ _ (field (.ref e) 2 >>= _) _ _ _
    refine wpAny_bind (wpAny_field he rfl (x := .ref d) rfl ?_)
    refine wpAny_bind (wpAny_nextOf_tuple_end (I.ok.hd hc) hit p (by simp; omega) fun h2 x eb hx2 => ?_)
    obtain ⟨o, ho, hcl⟩ := hx2
    refine wpAny_bind (wpAny_isInstance (T := "StopIteration") (b := true) ⟨o, ho, hcl⟩ isSubtype_stop ?_)
    exact wpAny_pure ⟨rfl, I.turned (t' := s.toks) (fun b o hb q => eb b o hb q) f0 f1 f3 f4 f5⟩
  self := fun A i s Q E st h => let ⟨⟨_, he⟩, _⟩ := st; wpAny_pyIter_enum he h
def iEnT (K : PySem.W.Frag) (ta : TA) : TI := fun σ H R => ta σ H fun vs H1 => ∃ a xs, vs = [.ref a] ∧ SqT K H1 a xs ∧ R (ItEnT K a) H1
theorem pi_enT {X : Cx} {e : Expr} {ta : TA} {p pos tp : Pos} {es : List Expr} {kk : Nat} (hg : Gl X "enumerate") (hm : X.mg "enumerate" = none) (ha : PA X [e] ta) (hs : starEach [e] X.env = [(false, eval e X.env)] := by rfl) :
    PI X (.Tuple es kk tp) (.Call (.Name "enumerate" p) [e] [] pos) (iEnT X.K ta) := by
  constructor
  intro pins s σ H R I h
  refine Call_ (ld_blt I hg hm boot_enumerate (PyProof.Rows.callWith_type1 (thn (ha.run pos pins s σ H _ I h) fun us s1 hh => ?_) hs rfl))
  obtain ⟨vs, H1, I1, r1, a, xs, ex, hq, q⟩ := hh
  subst ex
  cases r1 with
  | cons r rr =>
    cases rr
    cases r
    obtain ⟨its, rv, p2, hz⟩ := I1.tuple hq
    refine enumT_call (begins_tuple a its.toArray) p2 fun h2 he hd hk => wpAny_pyIter_enum he ?_
    have I2 : Inv X pins σ H1 { s1 with heap := h2 } := I1.kept (t' := s1.toks) hk
    refine ⟨s1.heap.objs.size + 1, [s1.heap.objs.size + 1, s1.heap.objs.size], _, _, H1, rfl, I2, turn_enT a (s1.heap.objs.size + 1) s1.heap.objs.size, ⟨⟨.none, he⟩, ⟨_, hd, rfl, rfl⟩, Nat.succ_ne_self _⟩, fun b hb => ?_, q⟩
    have ge : s1.heap.objs.size ≤ b := by
      rcases two_of hb with z | z
      · rw [z]; exact Nat.le_add_right _ _
      · rw [z]; exact Nat.le_refl _
    exact I1.fpOk ge (I1.hok.fresh ge)
theorem walk_enT {K : PySem.W.Frag} {a : Addr} {xs : List V} : Walk (ItEnT K a) xs.length (fun H => SqT K H a xs) (YPair (fun i => some (.int (i : Nat))) (fun i => xs[i]?)) where
  goes := fun i _ hi q => ⟨xs, xs[i], q, by simp [hi]⟩
  stops := fun _ q => ⟨xs, q, Nat.le_refl _⟩
  yields := fun i H v H2 _ q y => let ⟨p, x, h1, h2, h3, h4⟩ := y; ⟨p, .int (i : Nat), x, h1, h2, h3, rfl, h4 xs q⟩
end L2
set_option Elab.async false
set_option linter.all false
set_option maxRecDepth 100001
set_option maxHeartbeats 1999999
/-! enumerate over a text. -/
namespace L2
open PySem.Spec PySem PyProof.Rows
def ItEnS (x : Str) : It where
  go := fun i _ => i < x.cps.size
  yld := fun i H v H2 => ∃ p c, v = .ref p ∧ H p = none ∧ H2 = upd H p (.tup [.int (i : Nat), .str ⟨#[c]⟩]) ∧ x.cps[i]? = some c
  stop := fun i _ => x.cps.size ≤ i
theorem strIter_at {h h' : Heap} {a : Addr} {ty : String} {x : Str} {t : Tok} {i : Nat} (y : h.IsStrIter a ty x t i) (k : ∀ o, h.get? a = some o → h'.get? a = some o) : h'.IsStrIter a ty x t i := let ⟨o, ho, r⟩ := y; ⟨o, k o ho, r⟩
theorem text_end {prog : Program} {w : World} {A : Around} {E : Value → Shared → Prop} {s : Shared} {it : Addr} {x : Str} {t : Tok} {i : Nat} {Q : Value → Shared → Prop} (hh : A.handled = none) (hit : s.heap.IsStrIter it (strIterType x) x t i) (hx : x.cps[i]? = none)
    (hE : ∀ h' e, Heap.ExtBut it s.heap h' → (∃ o, h'.get? e = some o ∧ o.cls = .type "StopIteration") → E (.ref e) { s with heap := h' }) : wpAny (model prog w) A (Builtin.SmallTypes.nextOf (.ref it)) Q E s := by
  cases ha : x.cps.all (· < 128)
  · simp only [strIterType, ha, Bool.false_eq_true, if_false] at hit
    exact wpAny_nextOf_wide_end hh hit hx hE
  · simp only [strIterType, ha, if_true] at hit
    exact wpAny_nextOf_ascii_end hh hit hx hE
theorem turn_enS {P : Program} {W : World} {K : PySem.W.Frag} {es : List Expr} {kk : Nat} {tp : Pos} (x : Str) (t : Tok) (e d : Addr) :
    Turn P W K (.Tuple es kk tp) (ItEnS x) [e, d] e (fun i h => (∃ was, IsEnum h e d ((i : Nat) : Int) was) ∧ h.IsStrIter d (strIterType x) x t i ∧ e ≠ d) where
  mem := List.mem_cons_self
  obj := fun i h st b hb => by
    obtain ⟨⟨was, he⟩, ⟨o, ho, hc, hd⟩, _⟩ := st
    rcases two_of hb with rfl | rfl
    · exact ⟨_, he, fun _ q => nomatch q⟩
    · exact ⟨o, ho, fun _ q => by rw [hd] at q; cases q⟩
  keep := fun i h h2 st k => ⟨let ⟨was, he⟩ := st.1; ⟨was, k e (by simp) _ he⟩, strIter_at st.2.1 fun o q => k d (by simp) o q, st.2.2⟩
  item := by
    intro X hP hW hK hc i pins s σ H E I hf st hg
    subst hP hW hK
    obtain ⟨⟨was, he⟩, hit, hne⟩ := st
    have hi : i < x.cps.size := hg
    have le : e < s.heap.objs.size := Heap.lt_size he
    have ld : d < s.heap.objs.size := let ⟨_, q, _⟩ := hit; Heap.lt_size q
    have D := Draws.text (prog := X.prog) (w := X.w) (A := X.A.in1) (I.ok.hd hc) d x t
    refine wpAny_pyNext_enum_itemD (n := x.cps.size) (i := i) D he hit hi hne (fun m => ?_) fun y h2 tk hy ho hs2 hT hsz hk => ?_
    · exact hne (by simpa using m)
    obtain ⟨c, u, hcx, rfl⟩ := hy
    refine ⟨_, rfl, wpAny_letOwnedTupleGo_enum (s := { s with heap := h2, toks := tk + 1 }) ho fun h3 he3 sb => ?_⟩
    have hT3 : h3.get? s.heap.objs.size = some { cls := .type "tuple", data := .seq #[.int i tk, .str ⟨#[c]⟩ u] } := (sb.2 _ (Nat.ne_of_gt le)).trans hT
    have new : ObjOk X.prog X.w (upd H s.heap.objs.size (.tup [.int (i : Nat), .str ⟨#[c]⟩])) h3 s.heap.objs.size (.tup [.int (i : Nat), .str ⟨#[c]⟩]) :=
      ⟨by show 2 ≤ sizeLine; decide, [.int i tk, .str ⟨#[c]⟩ u], .cons ⟨_, rfl⟩ (.cons ⟨_, rfl⟩ .nil), ⟨_, hT3, rfl, _, rfl⟩⟩
    have J : Inv X pins σ (upd H s.heap.objs.size (.tup [.int (i : Nat), .str ⟨#[c]⟩])) { s with heap := h3, toks := tk + 1 } :=
      I.turnedNew (ch := [e, d]) (fun b o hb q => (sb.2 b fun z => hb (by simp [z])).trans (hk b o (fun z => hb (by simp [z])) (fun z => hb (by simp [z])) q)) hf (Nat.le_refl _) new
    refine ⟨.ref s.heap.objs.size, _, J, rfl, ⟨_, c, rfl, I.hok.fresh (Nat.le_refl _), rfl, hcx⟩, ⟨⟨.str ⟨#[c]⟩ u, ?_⟩, strIter_at hs2 fun o q => (sb.2 d (Ne.symm hne)).trans q, hne⟩, fun b hb => ?_⟩
    · have e1 : ((i + 1 : Nat) : Int) = (i : Int) + 1 := by omega
      rw [e1]
      exact he3
    · have lb : b < s.heap.objs.size := by
        rcases two_of hb with z | z
        · rw [z]; exact le
        · rw [z]; exact ld
      rw [upd_ne (Nat.ne_of_lt lb)]
      exact (hf b hb).1
  done := by
    intro X hP hW hK hc i pins s σ H E I hf st hg
    subst hP hW hK
    obtain ⟨⟨was, he⟩, hit, hne⟩ := st
    have hx : x.cps.size ≤ i := hg
    obtain ⟨f0, f1, f2, f3, f4, f5⟩ := hf d (by simp)
    unfold pyNext
    refine wpAny_bind (wpAny_attempt (wpAny_callSpecial?_slot (name := Str.ofString "__next__") ⟨_, he, rfl⟩ F.slot_enumerate_next
      (wpAny_call_entry F.slot_enumerate_next ⟨_, he, rfl⟩ F.entry_enumerate_next ?_ (F.args_enumerate_next_1 _))))
    show wpAny _ _ (field (.ref e) 2 >>= _) _ _ _
    refine wpAny_bind (wpAny_field he rfl (x := .ref d) rfl ?_)
    have none : x.cps[i]? = none := by simp [hx]
    refine wpAny_bind (text_end (I.ok.hd hc) hit none fun h2 ex eb hx2 => ?_)
    obtain ⟨o, ho, hcl⟩ := hx2
    refine wpAny_bind (wpAny_isInstance (T := "StopIteration") (b := true) ⟨o, ho, hcl⟩ isSubtype_stop ?_)
    exact wpAny_pure ⟨rfl, I.turned (t' := s.toks) (fun b o hb q => eb b o hb q) f0 f1 f3 f4 f5⟩
  self := fun A i s Q E st h => let ⟨⟨_, he⟩, _⟩ := st; wpAny_pyIter_enum he h
def iEnS (ta : TA) : TI := fun σ H R => ta σ H fun vs H1 => ∃ x, vs = [.str x] ∧ R (ItEnS x) H1
theorem pi_enS {X : Cx} {e : Expr} {ta : TA} {p pos tp : Pos} {es : List Expr} {kk : Nat} (hg : Gl X "enumerate") (hm : X.mg "enumerate" = none) (ha : PA X [e] ta) (hs : starEach [e] X.env = [(false, eval e X.env)] := by rfl) :
    PI X (.Tuple es kk tp) (.Call (.Name "enumerate" p) [e] [] pos) (iEnS ta) := by
  constructor
  intro pins s σ H R I h
  refine Call_ (ld_blt I hg hm boot_enumerate (PyProof.Rows.callWith_type1 (thn (ha.run pos pins s σ H _ I h) fun us s1 hh => ?_) hs rfl))
  obtain ⟨vs, H1, I1, r1, x, ex, q⟩ := hh
  subst ex
  cases r1 with
  | cons r rr =>
    cases rr
    obtain ⟨t, rfl⟩ := r
    refine enumT_call (begins_text x t) trivial fun h2 he hd hk => wpAny_pyIter_enum he ?_
    have I2 : Inv X pins σ H1 { s1 with heap := h2 } := I1.kept (t' := s1.toks) hk
    refine ⟨s1.heap.objs.size + 1, [s1.heap.objs.size + 1, s1.heap.objs.size], _, _, H1, rfl, I2, turn_enS x t (s1.heap.objs.size + 1) s1.heap.objs.size, ⟨⟨.none, he⟩, ⟨_, hd, rfl, rfl⟩, Nat.succ_ne_self _⟩, fun b hb => ?_, q⟩
    have ge : s1.heap.objs.size ≤ b := by
      rcases two_of hb with z | z
      · rw [z]; exact Nat.le_add_right _ _
      · rw [z]; exact Nat.le_refl _
    exact I1.fpOk ge (I1.hok.fresh ge)
theorem walk_enS {x : Str} : Walk (ItEnS x) x.cps.size (fun _ => True) (YPair (fun i => some (.int (i : Nat))) (fun i => (x.cps[i]?).map fun c => V.str ⟨#[c]⟩)) where
  goes := fun i _ hi _ => hi
  stops := fun _ _ => Nat.le_refl _
  yields := fun i H v H2 _ _ y => let ⟨p, c, h1, h2, h3, h4⟩ := y; ⟨p, .int (i : Nat), .str ⟨#[c]⟩, h1, h2, h3, rfl, by show Option.map _ _ = _; rw [h4]; rfl⟩
end L2
set_option Elab.async false
set_option maxRecDepth 100001
set_option maxHeartbeats 3999999
/-! raise C(), C an own class whose own __init__ stores nothing. -/
namespace L2
open PySem.Spec PySem PyProof.Rows
section
variable {X : Cx}
theorem mk_bare {pins : List (Addr × Obj)} {σ : St} {H1 H2 : Hp} {Q : XK} {hp hp2 h2 : Heap} {g1 g2 : Array GenState} {d1 d2 : Drawn} {t1 t2 : Nat} {o1 o2 : OsState} {a C : Addr} (T : Raises X (.ref C))
    (I1 : Inv X pins σ H1 ⟨hp, g1, d1, t1, o1⟩) (big : hp.objs.size ≤ a) (k : ∀ b o, hp.get? b = some o → hp2.get? b = some o) (un : Un (frs X.stack) [] (upd H1 a (exo a C none)) H2 hp2 h2)
    (hok : HOk X.prog X.w H2 h2) (ho : o2 = o1) (hb : AllBare g2) (ea : H2 a = some (exo a C none)) (q : Q (.ref C) none (del H2 a)) : MkP X pins σ Q (.ref a) ⟨h2, g2, d2, t2, o2⟩ := by
  obtain ⟨t0, he⟩ := exo_at hok ea
  have na : H1 a = none := I1.hok.fresh big
  obtain ⟨G, gyes, gno⟩ := restrict h2 fun b => decide (b ≠ a)
  have gk : ∀ b, b ≠ a → G.get? b = h2.get? b := fun b z => gyes b (decide_eq_true z)
  have ga : G.get? a = none := gno a (by simp)
  have ne : ∀ {b : Addr} {o : Obj}, hp.get? b = some o → b ≠ a := fun z => Nat.ne_of_lt (Nat.lt_of_lt_of_le (Heap.lt_size z) big)
  have free : ∀ {b : Addr}, b ≠ a → H1 b = none → upd H1 a (exo a C none) b = none := fun z n => (upd_ne z).trans n
  have U : Un (frs X.stack) [] H1 (del H2 a) hp G := {
    keep := fun b o z n hf hx => (gk b (ne z)).trans (un.keep b o (k b o z) (free (ne z) n) hf hx)
    slot := fun b o z n hf hx => let ⟨sl, e⟩ := un.slot b o (k b o z) (free (ne z) n) hf hx; ⟨sl, (gk b (ne z)).trans e⟩
    free := fun b o z n hx => (del_ne (ne z)).trans (un.free b o (k b o z) (free (ne z) n) hx)
    there := fun b o z hx => let ⟨o', e⟩ := un.there b o (k b o z) hx; ⟨o', (gk b (ne z)).trans e⟩
    tups := fun b xs z => (del_ne (ne_of_none z na)).trans (un.tups b xs ((upd_ne (ne_of_none z na)).trans z))
    frzs := fun b o v z => (del_ne (ne_of_none z na)).trans (un.frzs b o v ((upd_ne (ne_of_none z na)).trans z))
    tbls := fun b ps z => let ⟨m, e⟩ := un.tbls b ps ((upd_ne (ne_of_none z na)).trans z); ⟨m, (del_ne (ne_of_none z na)).trans e⟩ }
  have hG : HOk X.prog X.w (del H2 a) G := fun b o z => by
    have hba : b ≠ a := fun e => by
      rw [e, del_same] at z
      cases z
    rw [del_ne hba] at z
    have own : ∀ {c : Addr}, H2 c = some (.own b) → c ≠ a := fun hc => at_ne ea hc exo_own
    refine (hok b o z).stay (fun c v hc y => ?_) (fun c hc => (del_ne (own hc)).trans hc) fun c xs hc => (del_ne (at_ne ea hc exo_tup)).trans hc
    refine (gk c ?_).trans y
    rcases hc with rfl | hc
    · exact hba
    · exact own hc
  have J : Inv X pins σ (del H2 a) ⟨G, g2, d2, t2, o2⟩ := I1.call' (ch := []) ho U hG hb fun b z => absurd z (by simp)
  refine ⟨a, _, _, ⟨G, g2, d2, t2, o2⟩, _, .ref C, none, rfl, J, fun b o z => ?_, ga, he, ⟨rfl, rfl⟩, rfl, rfl, del_same, rfl, hb, T, q⟩
  have hba : b ≠ a := fun e => by
    rw [e] at z
    have z' : G.get? a = some o := z
    rw [ga] at z'
    cases z'
  exact (gk b hba).symm.trans z
/-- C(): what its __init__ keeps, at the fresh exception -/
def tMkO0 (C : Addr) (sp : Sp) : St → Hp → XK → Prop := fun _ H Q => ∀ a, H a = none → sp [.ref a] (upd H a (exo a C none)) (fun v H2 => v = .non ∧ H2 a = some (exo a C none) ∧ Q (.ref C) none (del H2 a)) (fun _ _ _ => False)
theorem pmk_oex0 {CX : CXT} {x : Str} {p pos : Pos} {C fI : Addr} {k : Nat} {fd : FuncData} {ps : List Str} {sp : Sp} (T : OexC X.K C) (iC : PySem.W.findIn X.K (.ref C) "__init__" = some (some (.ref fI))) (tI : PySem.W.typeIn X.K (.ref fI) = some (.type "function"))
    (F1 : FnOk X.prog X.w X.K X.mg X.base CX k fI fd ps sp) (hr : Room (k + 1) X.A) (hb : Binds X.K fd ps []) (hx : Passes CX X (fun _ _ _ => False)) (hg : Gl X x) (hm : X.mg x = some (.ref C)) (hdb : (x == ("__debug__" : Str)) = false := by decide) :
    PMk X (.Call (.Name x p) [] [] pos) (tMkO0 C sp) := by
  intro pins s σ H Q I h
  obtain ⟨nm, qn, N, bs, bm, sn, sb, ab, col, dd, j0, j1, j2, j3, j5, hC, hbm⟩ := T.cls
  refine wpAny_Call_Name_kw (ld_glob I hg hm ?_ hdb)
  refine PySem.W.callWith_K0 I.kIn T.kC ?_
  show wpAny _ _ (call (.ref C) []) _ _ _
  obtain ⟨hp, g, dr, tk, os⟩ := s
  have big : hp.objs.size ≤ hp.objs.size + 1 := Nat.le_succ _
  have hn : H (hp.objs.size + 1) = none := I.hok.fresh big
  have hq := h (hp.objs.size + 1) hn
  have kk : ∀ b o, hp.get? b = some o → ((hp.push (PySem.W.kdv_tup [])).push (PySem.HandSPX.excO C hp.objs.size)).get? b = some o := fun b o e => Heap.get?_push_of_some _ (Heap.get?_push_of_some _ e)
  have hget : ((hp.push (PySem.W.kdv_tup [])).push (PySem.HandSPX.excO C hp.objs.size)).get? (hp.objs.size + 1) = some (PySem.HandSPX.excO C hp.objs.size) := by heap_get
  have I2 : Inv X pins σ (upd H (hp.objs.size + 1) (exo (hp.objs.size + 1) C none)) ⟨(hp.push (PySem.W.kdv_tup [])).push (PySem.HandSPX.excO C hp.objs.size), g, dr, tk, os⟩ := I.laid (t' := tk) kk big (exo_ok hget)
  have r2 : Vals [V.ref (hp.objs.size + 1)] [Value.ref (hp.objs.size + 1)] := .cons rfl .nil
  have hl : ([Value.ref (hp.objs.size + 1)] ++ ([] : List Value)).length = ps.length := (F1.len _ _ _ _ hq)
  refine wpAny_call (PySem.HandSPX.call_own F.excBase_ValueError (fun Y => PySem.HandSPX.refsVE_contains Y bm hbm) (I.kIn _ _ hC) (PySem.W.looks_findIn I.kIn iC) (fun self => PySem.W.bind_fn I.kIn self tI) (by show 0 ≤ sizeLine; exact Nat.zero_le _)
    (codeAny_mono (F1.run _ X.stack _ _ ⟨[Value.ref (hp.objs.size + 1)], []⟩ [Value.ref (hp.objs.size + 1)] _ _ (fun _ _ _ => False) (hr.make C [] []) (I2.env0.make C [] []) (hb _ [Value.ref (hp.objs.size + 1)] I2.kIn hl) r2 hq) fun r s2 hq2 => ?_))
  cases r with
  | error er => exact hx pins σ _ _ er s2 I2 hq2
  | ok fl =>
    cases fl with
    | ret u =>
      obtain ⟨v, H2, os2, bare2, un2, hok2, rv, ev, ea, q2⟩ := hq2
      subst ev
      obtain ⟨h2, g2, d2, t2, o2⟩ := s2
      exact ⟨rv, mk_bare (raises_own T.exC T.tyC) I big kk un2 hok2 os2 bare2 ea q2⟩
    | next => exact hq2.elim
    | brk => exact hq2.elim
    | cont => exact hq2.elim
end
end L2
set_option Elab.async false
set_option maxRecDepth 100001
set_option maxHeartbeats 3999999
/-! try with several clauses, some of which name the exception. -/
namespace L2
open PySem.Spec PySem PyProof.Rows
/-- a clause: its class, the slot of its name, its suite's reading -/
abbrev Clause := Value × Option Nat × (Addr → Value → Option Addr → TS)
def endsOf : Option Nat → Ends → Ends
  | none, D => D
  | some i, D => ⟨fun σ H => D.nx (σ.set i none) H, D.rt, fun σ H => D.bk (σ.set i none) H, fun σ H => D.ct (σ.set i none) H⟩
def slotOf : Option Nat → Addr → St → St
  | none, _, σ => σ
  | some i, a, σ => σ.set i (some (.ref a))
def wClauses (K : PySem.W.Frag) (Wout : WX) (D : Ends) : List Clause → WX
  | [], cls, d, σ, H => Wout cls d σ H
  | (c, i, ts) :: r, cls, d, σ, H => ∃ b, PySem.W.exmOne K cls c = some b ∧ (b = true → ∀ a, H a = none → ts a cls d (endsOf i D) (slotOf i a σ) H) ∧ (b = false → wClauses K Wout D r cls d σ H)
def SuiteOk (X : Cx) (sts : List Stmt) (ts : Addr → Value → Option Addr → TS) : Prop :=
  ∀ (a : Addr) (oe : Obj) (cls : Value) (d : Option Addr) (pn : List (Addr × Obj)), Zc cls d oe → (∃ vs, oe.data = .fields vs) → PSs (X.suite a ((a, oe) :: pn)) sts (ts a cls d)
inductive ClausesOk (X : Cx) : List ExceptHandler → List Clause → Prop
  | nil : ClausesOk X [] []
  | plain {x c ts b₀ su np p2 hds l} (hc : Names X x c) (ok : SuiteOk X (b₀ :: su) ts) (r : ClausesOk X hds l) : ClausesOk X (.ExceptHandler (some (.Name x np)) none (b₀ :: su) p2 :: hds) ((c, none, ts) :: l)
  | named {x c ts b₀ su np p2 hds l n i} (hc : Names X x c) (hi : X.N[i]? = some n) (hn : X.env.kindOf n = some .local) (ok : SuiteOk X (b₀ :: su) ts) (r : ClausesOk X hds l) :
      ClausesOk X (.ExceptHandler (some (.Name x np)) (some n) (b₀ :: su) p2 :: hds) ((c, some i, ts) :: l)
section
variable {X : Cx} {pins : List (Addr × Obj)} {σ : St} {H : Hp} {z sI : Shared} {a : Addr} {cls : Value} {d : Option Addr} {B h : Heap} {D : Ends}
/-- an exception that has come to its try: what is known there -/
structure Come (X : Cx) (pins : List (Addr × Obj)) (σ : St) (H : Hp) (sI z : Shared) (a : Addr) (cls : Value) (d : Option Addr) (B h : Heap) : Prop where
  hs : X.stack = X.env :: X.outer
  hf : X.env.frame = some X.env.locals
  J : Inv X pins σ H sI
  nb : ∀ b o, sI.heap.get? b = some o → b ∉ frs X.stack → B.get? b = some o
  fl : HandSPX.FlyingZ B (X.env :: X.outer) a (Zc cls d) h
  up : sI.heap.UpToSlots h
  na : H a = none
  os : z.os = sI.os
  ag : AllBare z.gens
theorem Come.inv (C : Come X pins σ H sI z a cls d B h) : Inv X pins σ H { z with heap := h } := C.J.landed C.nb C.fl.1 C.up C.os C.ag
theorem Come.apart (C : Come X pins σ H sI z a cls d B h) : a ≠ X.env.locals ∧ a ∉ X.fs := by
  obtain ⟨oe, vs, he, _, hd⟩ := C.fl.there
  have no : a ∉ frs (X.env :: X.outer) := fun m => by
    obtain ⟨_, o, e, q⟩ := C.fl.2.2.1.mem m
    rw [he] at e
    cases e
    exact q _ hd
  refine ⟨fun e => no (List.mem_filterMap.mpr ⟨X.env, List.mem_cons_self, by rw [C.hf, e]⟩), fun m => ?_⟩
  obtain ⟨e, he, q⟩ := List.mem_filterMap.mp m
  exact no (List.mem_filterMap.mpr ⟨e, List.mem_cons_of_mem _ he, q⟩)
theorem Come.suite (C : Come X pins σ H sI z a cls d B h) : ∃ oe, Zc cls d oe ∧ (∃ vs, oe.data = .fields vs) ∧ h.get? a = some oe ∧ Inv (X.suite a ((a, oe) :: (X.pn ++ pins))) [] σ H { z with heap := h } := by
  obtain ⟨oe, vs, he, hz, hd⟩ := C.fl.there
  exact ⟨oe, hz, ⟨vs, hd⟩, he, C.inv.suite he hd C.na C.apart.1 C.apart.2⟩
theorem Come.step (C : Come X pins σ H sI z a cls d B h) {h2 : Heap} (fl : HandSPX.FlyingZ B (X.env :: X.outer) a (Zc cls d) h2) (up : h.UpToSlots h2) : Come X pins σ H sI z a cls d B h2 :=
  ⟨C.hs, C.hf, C.J, C.nb, fl, C.up.trans up, C.na, C.os, C.ag⟩
/-- the class of a clause is looked at -/
theorem Come.test (C : Come X pins σ H sI z a cls d B h) {x : Str} {c : Value} {np : Pos} {b : Bool} (hc : Names X x c) (hb : PySem.W.exmOne X.K cls c = some b) {Q : Bool → Shared → Prop} {E E2 : Value → Shared → Prop} (q : Q b { z with heap := h }) :
    wpAny (model X.prog X.w) (X.A.mark (some (.ref a))) (eval (.Name x np) X.env) (fun u s1 => wpAny (model X.prog X.w) (X.A.mark (some (.ref a))) (excMatches (.ref a) u) Q E2 s1) E { z with heap := h } := by
  obtain ⟨oe, hz, _, he, S⟩ := C.suite
  have LT : PySem.W.Looks (model X.prog X.w) h (typeOf (.ref a)) cls := fun _ _ _ _ k q2 => wpAny_typeOf_ref (k _ _ he) (by rw [hz.1]; exact q2)
  have LM := (PySem.W.exm_one (M := model X.prog X.w) C.inv.kIn LT hb).here (A := X.A.mark (some (.ref a))) (Q := Q) (E := E2) (s := { z with heap := h }) q
  obtain ⟨hg, hdb, hm | ⟨hm, hv, hnn⟩⟩ := hc
  · exact ld_glob (X := X.suite a ((a, oe) :: (X.pn ++ pins))) S hg hm LM hdb
  · exact ld_blt (X := X.suite a ((a, oe) :: (X.pn ++ pins))) S hg hm hv LM hnn hdb
/-- no clause is left: it goes on -/
theorem Come.on {Wout : WX} (C : Come X pins σ H sI z a cls d B h) (tk : Takes X Wout) (wo : Wout cls d σ H) :
    wpAny (model X.prog X.w) X.A (handleBy (.ref a) X.env []) (SP X pins D) X.xe { z with heap := h } := by
  refine wpAny_handleBy_nil ?_
  obtain ⟨_, _, _, oe, vs, T, oT, ts, he, _, hd, h1, _⟩ := id C.fl
  unfold PySem.passOn
  refine wpAny_bind (wpAny_field he hd h1 ?_)
  rw [if_neg (show ¬ ((Value.ref T == Value.none) = true) from by simp)]
  have fin : wpAny (model X.prog X.w) X.A (setFlight (.ref a) X.env.frame) (fun _ s4 => wpAny (model X.prog X.w) X.A (throw (.ref a) : Sem Flow) (SP X pins D) X.xe s4) X.xe { z with heap := h } := by
    rw [C.hf]
    refine HandSPX.setFlight_upZ C.fl fun h4 hh4 up4 => wpAny_throw (tk _ _ ?_)
    exact ⟨a, B, sI, pins, σ, H, cls, d, rfl, C.J, C.nb, C.up.trans up4, .inr (.inr (by rw [C.hs]; exact hh4)), C.na, C.os, C.ag, wo⟩
  first | exact wpAny_bind (wpAny_pure (wpAny_bind fin)) | exact wpAny_bind fin
theorem Come.run {Wout : WX} {hds : List ExceptHandler} {l : List Clause} (hN : X.N.Nodup) (tk : Takes X Wout) (ok : ClausesOk X hds l) : ∀ {h : Heap}, Come X pins σ H sI z a cls d B h → wClauses X.K Wout D l cls d σ H →
    wpAny (model X.prog X.w) X.A (handleBy (.ref a) X.env hds) (SP X pins D) X.xe { z with heap := h } := by
  induction ok with
  | nil => exact fun C w => C.on tk w
  | plain hc su r ih =>
    intro h C w
    obtain ⟨b, hb, yes, no⟩ := w
    refine wpAny_handleBy_cons (codeAny_handlers_test (C.test hc hb ?_)) (by intro q; cases q)
    cases b with
    | false => exact ih C (no rfl)
    | true =>
      refine codeAny_handlers_suite ?_
      refine HandSPX.lands_againZ C.fl fun h4 fl4 up4 => ?_
      have C4 := C.step fl4 up4
      obtain ⟨oe, hz, hd, he, S⟩ := C4.suite
      refine wpAny_mono ((su a oe cls d (X.pn ++ pins) hz hd).run [] _ _ H _ S (yes rfl a C.na)) (fun f s6 hsp => ?_) (fun _ _ q => False.elim q)
      cases f with
      | next => exact let ⟨_, _, S6, q6⟩ := hsp; ⟨_, _, S6.unsuite C.J.ok, q6⟩
      | brk => exact let ⟨_, _, S6, q6⟩ := hsp; ⟨_, _, S6.unsuite C.J.ok, q6⟩
      | cont => exact let ⟨_, _, S6, q6⟩ := hsp; ⟨_, _, S6.unsuite C.J.ok, q6⟩
      | ret u => exact let ⟨_, _, _, S6, r6, q6⟩ := hsp; ⟨_, _, _, S6.unsuite C.J.ok, r6, q6⟩
  | @named x c ts b₀ suite np p2 hds l n i hc hi hn su r ih =>
    intro h C w
    obtain ⟨b, hb, yes, no⟩ := w
    refine wpAny_handleBy_cons (codeAny_handlers_test (C.test hc hb ?_)) (by intro q; cases q)
    cases b with
    | false => exact ih C (no rfl)
    | true =>
      refine codeAny_handlers_suite_as ?_
      refine HandSPX.lands_againZ C.fl fun h4 fl4 up4 => ?_
      have C4 := C.step fl4 up4
      obtain ⟨oe, hz, hd, he, S⟩ := C4.suite
      refine store_ok (X := X.suite a ((a, oe) :: (X.pn ++ pins))) (v := .ref a) S hN hi (.inl hn) rfl (fun s5 S5 => ?_) (.inr hn)
      refine wpAny_mono ((su a oe cls d (X.pn ++ pins) hz hd).run [] s5 _ H _ S5 (yes rfl a C.na)) (fun f s6 hsp => ?_) (fun _ _ q => False.elim q)
      have away : ∀ {σ6 : St} {H6 : Hp} {Q : Shared → Prop}, Inv (X.suite a ((a, oe) :: (X.pn ++ pins))) [] σ6 H6 s6 → (∀ s7, Inv X pins (σ6.set i none) H6 s7 → Q s7) →
          wpAny (model X.prog X.w) X.A (do bindName X.env n .none; unbindBehindTheSuite X.env n p2) (fun _ s7 => Q s7) X.xe s6 := fun S6 hq => gone_ok (S6.unsuite C.J.ok) hN hi hn hq
      cases f with
      | next => exact let ⟨_, _, S6, q6⟩ := hsp; away S6 fun s7 J7 => ⟨_, _, J7, q6⟩
      | brk => exact let ⟨_, _, S6, q6⟩ := hsp; away S6 fun s7 J7 => ⟨_, _, J7, q6⟩
      | cont => exact let ⟨_, _, S6, q6⟩ := hsp; away S6 fun s7 J7 => ⟨_, _, J7, q6⟩
      | ret u => exact let ⟨_, _, _, S6, r6, q6⟩ := hsp; away S6 fun s7 J7 => ⟨_, _, _, J7, r6, q6⟩
end
/-- try: body / except C1 as n: .. / except C2: .. -/
theorem ps_try_clauses {X : Cx} {body : List Stmt} {hd₀ : ExceptHandler} {hds : List ExceptHandler} {l : List Clause} {pos : Pos} {tb : WX → TS} {Wout : WX} (hs : X.stack = X.env :: X.outer) (hf : X.env.frame = some X.env.locals) (hN : X.N.Nodup) (tk : Takes X Wout)
    (hb : ∀ (W : WX) (pn : List (Addr × Obj)) (xe : Value → Shared → Prop), Takes (X.tr pn xe) W → PassesOwn (model X.prog X.w) X.A X.env xe → PSs (X.tr pn xe) body (tb W)) (ok : ClausesOk X (hd₀ :: hds) l) :
    PS X (.Try body (hd₀ :: hds) [] [] pos) (fun D σ H => tb (wClauses X.K Wout D l) D σ H) := by
  constructor
  intro pins s σ H D I h
  have oX := I.ok
  have fr : X.A.frames = some (X.env :: X.outer) := by rw [oX.frames, hs]
  refine wpAny_Try_except ?_
  refine wpAny_mono ((hb (wClauses X.K Wout D l) (X.pn ++ pins) (fun e s₁ => wpAny (model X.prog X.w) X.A (noteFrame e X.env) (fun _ s₂ => wpAny (model X.prog X.w) X.A (setFlight e none) (fun _ s₃ =>
    wpAny (model X.prog X.w) X.A (handleBy e X.env (hd₀ :: hds)) (SP X pins D) X.xe s₃) X.xe s₂) X.xe s₁) (fun u s1 xx => ?_) PassesOwn.looking).run [] s σ H D (I.toTry _) h) (fun f s1 hsp => ?_) fun _ _ he => he
  · obtain ⟨a, B, sI, pins', σ', H', cls, d, rfl, J', nb, up, sky, na, os, ag, w⟩ := xx
    have sky' : Sky B (X.env :: X.outer) a (Zc cls d) X.env.locals s1.heap := by rw [← hs]; exact sky
    show wpAny (model X.prog X.w) X.A (noteFrame (.ref a) X.env) _ _ _
    refine Sky.land Zc.steady fr hf sky' fun h3 fl3 up3 => ?_
    exact Come.run (z := s1) hN tk ok ⟨hs, hf, J'.ofTry oX, nb, fl3, up.trans up3, na, os, ag⟩ w
  · cases f with
    | next => exact let ⟨σ', H', J', q⟩ := hsp; wpAny_execs_nil ⟨σ', H', J'.ofTry oX, q⟩
    | brk => exact let ⟨σ', H', J', q⟩ := hsp; ⟨σ', H', J'.ofTry oX, q⟩
    | cont => exact let ⟨σ', H', J', q⟩ := hsp; ⟨σ', H', J'.ofTry oX, q⟩
    | ret u => exact let ⟨v, σ', H', J', r, q⟩ := hsp; ⟨v, σ', H', J'.ofTry oX, r, q⟩
end L2
set_option Elab.async false
set_option linter.all false
set_option maxRecDepth 100001
set_option maxHeartbeats 3999999
/-! sorted(xs, key=lambda x: ..): any order of the keys that the sort can tell. -/
namespace SrtL
open PySem PyProof.Rows Srt SrtO
theorem zip_list (ks vs : List Value) : (ks.toArray.zip vs.toArray).toList = ks.zip vs := by
  rw [ksk_zip]
section
variable {prog : Program} {w : World} {A : Around} {E : Value → Shared → Prop} {s : Shared} {a kS : Addr} {e1 ek : Nat} {vs ks : List Value} {ltv : Value → Value → Bool} {R : PySem.Fin → Shared → Prop}
/-- what is left when the list is sorted -/
def doneHeap (h : Heap) (kS a : Addr) (out : Array Value) : Heap := (h.update kS (Obj.mapSeq fun _ => (#[] : Array Value))).update a (Obj.mapSeq fun _ => out)
theorem tail_ord {st : SortSt} (hk : s.heap.get? kS = some (seqObj "list" ks.toArray ek)) (ha : s.heap.get? a = some (seqObj "list" #[] e1)) (ne : kS ≠ a) (hz : vs.length ≤ sizeLine) (hl : ks.length = vs.length) (hsz : (arrOf st).size = vs.length) (hfl : failedOf st = none)
    (h : R (.done (.ret .none)) { s with heap := doneHeap s.heap kS a ((arrOf st).map (·.2)) }) : wpAny (model prog w) A (ksk_tail a false e1 (.ref kS) st) R E s := by
  have s1 := Heap.SameBut.update s.heap kS (Obj.mapSeq fun _ => (#[] : Array Value))
  have na1 : (s.heap.update kS (Obj.mapSeq fun _ => (#[] : Array Value))).get? a = some (seqObj "list" #[] e1) := (s1.2 a ne.symm).trans ha
  unfold ksk_tail
  try dsimp only
  refine wpAny_bind (listUpdate_at hk rfl ?_ (by rw [List.size_toArray]; omega) (Nat.zero_le _))
  refine wpAny_bind (wpAny_letGo ?_)
  refine wpAny_bind (seqEpoch_at na1 rfl ?_)
  refine wpAny_bind (listUpdate_at na1 rfl ?_ (Nat.zero_le _) (by simp only [Bool.false_eq_true, if_false, Array.size_map]; omega))
  rw [hfl]
  simp only [bne_self_eq_false, Bool.false_eq_true, if_false]
  exact wpAny_pure h
theorem end_ord (O : Swo ltv) (hk : s.heap.get? kS = some (seqObj "list" ks.toArray ek)) (ha : s.heap.get? a = some (seqObj "list" #[] e1)) (ne : kS ≠ a) (hz : vs.length ≤ sizeLine) (hl : ks.length = vs.length)
    (hS : 2 ≤ vs.length → ∃ κ, (∀ (Q : SortKind → Shared → Prop) (E : Value → Shared → Prop), Q κ s → wpAny (model prog w) A (keyKind' ks.toArray) Q E s) ∧ Cmp prog w A s κ (fun p => p.1 ∈ ks) (lt2 ltv))
    (h : ∀ ps : List Keyed, Srtd (lt2 ltv) ps → Stb (lt2 ltv) ps (ks.zip vs) → R (.done (.ret .none)) { s with heap := doneHeap s.heap kS a (ps.map (·.2)).toArray }) :
    wpAny (model prog w) A (ksk_end a false vs.toArray e1 (.ref kS) ks.toArray) R E s := by
  have hzs : (ks.toArray.zip vs.toArray).size = vs.length := by rw [Array.size_zip, List.size_toArray, List.size_toArray, hl, Nat.min_self]
  have fin : ∀ st : SortSt, Srtd (lt2 ltv) (arrOf st).toList → Stb (lt2 ltv) (arrOf st).toList (ks.toArray.zip vs.toArray).toList → R (.done (.ret .none)) { s with heap := doneHeap s.heap kS a ((arrOf st).map (·.2)) } := by
    intro st h1 h2
    rw [zip_list] at h2
    have h3 := h _ h1 h2
    have e : ((arrOf st).toList.map (·.2)).toArray = (arrOf st).map (·.2) := by
      rw [← Array.toList_map, Array.toArray_toList]
    rw [e] at h3
    exact h3
  have size : ∀ st : SortSt, Stb (lt2 ltv) (arrOf st).toList (ks.toArray.zip vs.toArray).toList → (arrOf st).size = vs.length := by
    intro st h2
    have := h2.perm.length_eq
    rw [Array.length_toList, Array.length_toList, hzs] at this
    exact this
  unfold ksk_end
  try dsimp only
  simp only [Bool.false_eq_true, if_false]
  by_cases h2 : vs.toArray.size < 2
  · rw [if_pos h2, if_pos h2]
    refine wpAny_bind (wpAny_pure ?_)
    rw [StateT.run_pure]
    refine wpAny_bind (wpAny_pure ?_)
    try dsimp only
    rw [List.size_toArray] at h2
    refine tail_ord (st := SortSt.mk' general' (ks.toArray.zip vs.toArray) #[] 7 none) hk ha ne hz hl hzs rfl (fin (SortSt.mk' general' (ks.toArray.zip vs.toArray) #[] 7 none) ?_ (Stb.refl _))
    show Srtd (lt2 ltv) (ks.toArray.zip vs.toArray).toList
    have hlz : (ks.toArray.zip vs.toArray).toList.length < 2 := by rw [Array.length_toList, hzs]; exact h2
    revert hlz
    generalize (ks.toArray.zip vs.toArray).toList = l
    intro hlz
    match l, hlz with
    | [], _ => exact List.Pairwise.nil
    | [v], _ => exact List.pairwise_singleton _ _
    | _ :: _ :: l, h => exact absurd h (by rw [List.length_cons, List.length_cons]; omega)
  · rw [if_neg h2, if_neg h2]
    rw [List.size_toArray] at h2
    obtain ⟨κ, hkind, hT⟩ := hS (by omega)
    refine wpAny_bind (hkind _ _ ?_)
    have hall : AllL (fun p : Keyed => p.1 ∈ ks) (ks.toArray.zip vs.toArray).toList := fun p hm => by
      rw [zip_list] at hm
      obtain ⟨x, y⟩ := p
      exact (List.of_mem_zip hm).1
    refine wpAny_bind (wpAny_mono (wpS_sortO (st0 := SortSt.mk' κ (ks.toArray.zip vs.toArray) #[] 7 none)
      (Q := fun _ st' => Srtd (lt2 ltv) (arrOf st').toList ∧ Stb (lt2 ltv) (arrOf st').toList (ks.toArray.zip vs.toArray).toList ∧ failedOf st' = none) (swo2 O) hT rfl hall rfl rfl fun st' a1 a2 a3 => ⟨a1, a2, a3⟩) ?_ fun _ _ e => e)
    rintro ⟨⟨⟩, st'⟩ s' ⟨rfl, hp1, hp2, hf⟩
    try dsimp only
    exact tail_ord hk ha ne hz hl (size st' hp2) hf (fin st' hp1 hp2)
/-- what is asked of the keys' making: J of the keys so far -/
structure Keys (prog : Program) (w : World) (A : Around) (f : Value) (vs : List Value) (ltv : Value → Value → Bool) (R : PySem.Fin → Shared → Prop) (a kS : Addr) (e1 : Nat) (J : List Value → Shared → Prop) : Prop where
  obj : ∀ ks s, J ks s → (∃ ek, s.heap.get? kS = some (seqObj "list" ks.toArray ek)) ∧ s.heap.get? a = some (seqObj "list" #[] e1)
  turn : ∀ (ks : List Value) (v : Value) (s : Shared), J ks s → vs[ks.length]? = some v → wpAny (model prog w) A (call f [v]) (fun k s' => (∃ ek, s'.heap.get? kS = some (seqObj "list" ks.toArray ek)) ∧ J (ks ++ [k]) { s' with heap := s'.heap.update kS (Obj.mapSeq (·.push k)) }) (fun _ _ => False) s
  kind : ∀ ks s, J ks s → ks.length = vs.length → 2 ≤ vs.length → ∃ κ, (∀ (Q : SortKind → Shared → Prop) (E : Value → Shared → Prop), Q κ s → wpAny (model prog w) A (keyKind' ks.toArray) Q E s) ∧ Cmp prog w A s κ (fun p => p.1 ∈ ks) (lt2 ltv)
  fin : ∀ ks s, J ks s → ks.length = vs.length → ∀ ps : List Keyed, Srtd (lt2 ltv) ps → Stb (lt2 ltv) ps (ks.zip vs) → R (.done (.ret .none)) { s with heap := doneHeap s.heap kS a (ps.map (·.2)).toArray }
theorem rest_ord {f : Value} {J : List Value → Shared → Prop} (O : Swo ltv) (ne : kS ≠ a) (hz : vs.length ≤ sizeLine) (h0 : J [] s) (Y : Keys prog w A f vs ltv R a kS e1 J) : wpAny (model prog w) A (ksk_rest a f false vs.toArray e1 (.ref kS)) R E s := by
  unfold ksk_rest
  refine wpAny_bind (wpAny_rule ?_)
  first
    | rw [List.forIn_toArray]
    | (rw [← Array.forIn_toList]; simp only [List.toList_toArray])
    | rw [← Array.forIn_toList]
  refine wpAny_bind (ksk_fold (fun i s' => ∃ ks, J ks s' ∧ ks.length = i) vs 0 s ⟨[], h0, rfl⟩ ?step ?done)
  case step =>
    rintro j x s' hx ⟨ks, hJ, lk⟩
    simp only [Nat.zero_add] at lk ⊢
    have hj : j < vs.length := (List.getElem?_eq_some_iff.mp hx).1
    refine wpAny_bind (wpAny_attempt (wpAny_mono (Y.turn ks x s' hJ (by rw [lk]; exact hx)) (fun k s'' he => ?_) fun _ _ hF => hF.elim))
    obtain ⟨⟨ek, hk⟩, hJ2⟩ := he
    try dsimp only
    refine wpAny_bind (listUpdate_at hk rfl ?_ (by rw [List.size_toArray]; omega) (Nat.le_trans (Nat.le_of_eq (Array.size_push ..)) (by rw [List.size_toArray]; omega)))
    exact wpAny_pure ⟨rfl, _, hJ2, by rw [List.length_append, lk]; rfl⟩
  case done =>
    rintro s' ⟨ks, hJ, lk⟩
    rw [Nat.zero_add] at lk
    obtain ⟨⟨ek, hk⟩, ha⟩ := Y.obj ks s' hJ
    try dsimp only
    refine wpAny_bind (listItems_at hk rfl ?_)
    exact end_ord O hk ha ne hz lk (Y.kind ks s' hJ lk) (Y.fin ks s' hJ lk)
theorem tree_ord {f : Value} {n : Nat} (O : Swo ltv) (ho : s.heap.get? a = some (seqObj "list" vs.toArray n)) (hz : vs.length ≤ sizeLine)
    (h : ∀ (h1 : Heap) (kS : Addr) (e1 : Nat), (∀ b o, b ≠ a → s.heap.get? b = some o → h1.get? b = some o) → h1.get? a = some (seqObj "list" #[] e1) → h1.get? kS = some (seqObj "list" #[] 0) → s.heap.objs.size ≤ kS →
      ∃ J, J [] { s with heap := h1 } ∧ Keys prog w A f vs ltv R a kS e1 J) : wpAny (model prog w) A (ksk_tree a f false) R E s := by
  have ha : a < s.heap.objs.size := Heap.lt_size ho
  have s1 := Heap.SameBut.update s.heap a (Obj.mapSeq fun _ => (#[] : Array Value))
  obtain ⟨e1, ho1⟩ : ∃ e1, (s.heap.update a (Obj.mapSeq fun _ => (#[] : Array Value))).get? a = some (seqObj "list" #[] e1) := ⟨_, get?_update_seq ho fun _ => #[]⟩
  have hkS : ((s.heap.update a (Obj.mapSeq fun _ => (#[] : Array Value))).push (seqObj "tuple" vs.toArray 0)).objs.size = s.heap.objs.size + 1 := by rw [size_push', Heap.size_update]
  unfold ksk_tree
  refine wpAny_bind (listItems_at ho rfl ?_)
  refine wpAny_bind (listUpdate_at ho rfl ?_ (by rw [List.size_toArray]; omega) (Nat.zero_le _))
  refine wpAny_bind (seqEpoch_at ho1 rfl ?_)
  refine wpAny_bind (wpAny_newTuple ?_ (by show vs.length ≤ _; exact hz))
  refine wpAny_bind (wpAny_newList ?_ (Nat.zero_le _))
  refine wpAny_holding ?_
  obtain ⟨J, j0, Y⟩ := h (((s.heap.update a (Obj.mapSeq fun _ => (#[] : Array Value))).push (seqObj "tuple" vs.toArray 0)).push (seqObj "list" #[] 0)) ((s.heap.update a (Obj.mapSeq fun _ => (#[] : Array Value))).push (seqObj "tuple" vs.toArray 0)).objs.size e1
    (fun b o hb e => Heap.get?_push_of_some _ (Heap.get?_push_of_some _ ((Heap.get?_update_ne _ _ _ _ hb).trans e))) (Heap.get?_push_of_some _ (Heap.get?_push_of_some _ ho1)) (Heap.get?_push_size _ rfl) (by rw [hkS]; exact Nat.le_succ _)
  exact rest_ord (s := { s with heap := ((s.heap.update a (Obj.mapSeq fun _ => (#[] : Array Value))).push (seqObj "tuple" vs.toArray 0)).push (seqObj "list" #[] 0) }) O (by rw [hkS]; exact Nat.ne_of_gt (Nat.lt_succ_of_lt ha)) hz j0 Y
/-- sorted(l, key=q) -/
theorem sorted_ord {l q : Addr} {Q : Value → Shared → Prop} (O : Swo ltv) (hl : s.heap.IsList l vs.toArray) (hz : vs.length ≤ sizeLine)
    (h : ∀ (h1 : Heap) (d kS : Addr) (e1 : Nat), (∀ b o, s.heap.get? b = some o → h1.get? b = some o) → h1.get? d = some (seqObj "list" #[] e1) → h1.get? kS = some (seqObj "list" #[] 0) → s.heap.objs.size ≤ d → s.heap.objs.size ≤ kS → kS ≠ d →
      ∃ J, J [] { s with heap := h1 } ∧ Keys prog w A.in1.in1 (.ref q) vs ltv (fun r s' => r = .done (.ret .none) ∧ Q (.ref d) s') d kS e1 J) :
    wpAny (model prog w) A (call (.builtin "sorted") [.ref l] [(Str.ofString "key", .ref q)]) Q E s := by
  refine call_function_entry_kw kind_sorted plain_sorted entry_sorted (ksk_s1 _ _) ?_
  unfold Builtin.«sorted»
  refine wpAny_bind (m := checkCount "sorted" 1 1 _) (wpAny_pure ?_)
  refine wpAny_bind (collect_list hl ?_ hz)
  refine wpAny_bind (wpAny_newList ?_ hz)
  have hsz : ((s.heap.push (seqObj "list" #[] 0)).update s.heap.objs.size (Obj.mapSeq (· ++ vs.toArray))).objs.size = s.heap.objs.size + 1 := by
    rw [Heap.size_update, size_push']
  have hoL : (((s.heap.push (seqObj "list" #[] 0)).update s.heap.objs.size (Obj.mapSeq (· ++ vs.toArray))).push (seqObj "list" vs.toArray 0)).get? (s.heap.objs.size + 1) = some (seqObj "list" vs.toArray 0) := by
    rw [← hsz]; exact Heap.get?_push_size _ rfl
  have keep : ∀ b o, s.heap.get? b = some o → b ≠ s.heap.objs.size + 1 ∧ (((s.heap.push (seqObj "list" #[] 0)).update s.heap.objs.size (Obj.mapSeq (· ++ vs.toArray))).push (seqObj "list" vs.toArray 0)).get? b = some o := fun b o q => by
    have hlt : b < s.heap.objs.size := Heap.lt_size q
    refine ⟨Nat.ne_of_lt (Nat.lt_succ_of_lt hlt), Heap.get?_push_of_some _ ?_⟩
    rw [Heap.get?_update_ne _ _ _ _ (Nat.ne_of_lt hlt)]
    exact Heap.get?_push_of_some _ q
  have size2 : (((s.heap.push (seqObj "list" #[] 0)).update s.heap.objs.size (Obj.mapSeq (· ++ vs.toArray))).push (seqObj "list" vs.toArray 0)).objs.size = s.heap.objs.size + 2 := by rw [size_push', hsz]
  show wpAny _ _ _ _ _ { s with heap := ((s.heap.push (seqObj "list" #[] 0)).update s.heap.objs.size (Obj.mapSeq (· ++ vs.toArray))).push (seqObj "list" vs.toArray 0) }
  rw [hsz]
  refine wpAny_bind (wpAny_holding (wpAny_call_entry_kw slot_list_sort ⟨_, hoL, rfl⟩ entry_list_sort ?_ (ksk_l1 _ _)))
  rw [ksk_t1]
  refine tree_ord O hoL hz fun h1 kS e1 hk ha hkS hge => ?_
  dsimp only at hge hk
  rw [size2] at hge
  obtain ⟨J, j0, Y⟩ := h h1 (s.heap.objs.size + 1) kS e1 (fun b o q => hk b o (keep b o q).1 (keep b o q).2) ha hkS (Nat.le_succ _) (Nat.le_trans (Nat.le_add_right _ 2) hge) (Nat.ne_of_gt (Nat.lt_of_lt_of_le (Nat.lt_succ_self _) hge))
  refine ⟨J, j0, ⟨Y.obj, Y.turn, Y.kind, fun ks s' hJ hl ps h1 h2 => ?_⟩⟩
  obtain ⟨_, z⟩ := Y.fin ks s' hJ hl ps h1 h2
  exact ⟨_, rfl, wpAny_pure ⟨_, rfl, z⟩⟩
end
end SrtL
set_option Elab.async false
set_option linter.all false
set_option maxRecDepth 100001
set_option maxHeartbeats 3999999
namespace LamX
open PySem PySem.Spec PyProof.Rows L2
/-! ### a lambda of one parameter -/
structure LamP (sc scope : Scope) (a : Str) : Prop where
  kind : scope.kind = .function
  co : scope.isCoroutine = false
  gen : scope.isGenerator = false
  par : scope.names.lookup a = some .local
  own : ∀ y ∈ scope.names, y.2 ≠ .cell ∧ (y.2 = .local → y.1 = a)
  free : ∀ y ∈ scope.names, y.2 = .free → sc.names.lookup y.1 = some .cell ∨ sc.names.lookup y.1 = some .free
def lamPB (sc scope : Scope) (a : Str) : Bool :=
  decide (scope.kind = .function) && !scope.isCoroutine && !scope.isGenerator && decide (scope.names.lookup a = some .local) && scope.names.all fun y => !decide (y.2 = .cell) && (!decide (y.2 = .local) || decide (y.1 = a)) && (!decide (y.2 = .free) || decide (sc.names.lookup y.1 = some .cell) || decide (sc.names.lookup y.1 = some .free))
theorem lamP_by {sc scope : Scope} {a : Str} (h : lamPB sc scope a = true) : LamP sc scope a := by
  unfold lamPB at h
  simp only [Bool.and_eq_true, Bool.or_eq_true, Bool.not_eq_true', decide_eq_true_eq, decide_eq_false_iff_not, List.all_eq_true] at h
  obtain ⟨⟨⟨⟨h1, h2⟩, h3⟩, h0⟩, h4⟩ := h
  refine ⟨h1, h2, h3, h0, fun y hy => ⟨(h4 y hy).1.1, fun e => ?_⟩, fun y hy e => ?_⟩
  · rcases (h4 y hy).1.2 with z | z
    · exact absurd e z
    · exact z
  · rcases (h4 y hy).2 with (z | z) | z
    · exact absurd e z
    · exact .inl z
    · exact .inr z
theorem LamP.has {X : Cx} {scope : Scope} {a : Str} (L : LamP X.env.scope scope a) (ok : X.Ok) : ∀ y ∈ scope.names, y.2 = .free → ∃ c, X.env.cells.lookup y.1 = some c := fun y hy e => by
  rcases L.free y hy e with k | k
  · exact ok.has _ (.inl k)
  · exact ok.has _ (.inr k)
section
variable {X : Cx} {pins : List (Addr × Obj)} {σ : L2.St} {H : Hp} {s : Shared}
theorem lam_start1 {A : Around} {E : XK} {scope : Scope} {a : Str} {i : Nat} {v : V} {u : Value} {f c' : Addr} {h₁ : Heap} {tk : Nat} (I : Inv X pins σ H s) (L : LamP X.env.scope scope a) (hA : A.frames = some X.stack) (hd : A.handled = none) (nd : X.N.Nodup) (hN : X.N[i]? = some a) (rv : RelV v u)
    (hns : h₁.Ns s.heap.objs.size fun y => ([(a, u)] : List (Str × Value)).reverse.lookup y) (kp : ∀ b o, s.heap.get? b = some o → h₁.get? b = some o) :
    Inv (lamCx X A X.stack s H E scope f c') [] (σ.set i (some v)) H { s with heap := h₁, toks := tk } := by
  have e0 := I.env0
  have hfree := L.has I.ok
  have cm : ∀ {y c}, (cloFrom X.env.cells scope.names []).lookup y = some c → X.env.cells.lookup y = some c := fun {y c} e => by
    rcases cloFrom_mem (PySem.mem_of_lookup e) with hm | ⟨h1, h2⟩
    · cases hm
    · obtain ⟨c1, hc⟩ := hfree _ h1 rfl
      have hc : X.env.cells.lookup y = some c1 := hc
      have e2 : c = c1 := by
        rw [h2, hc] <;> rfl
      rw [e2]
      exact hc
  have look : ∀ {y}, scope.names.lookup y = some .free → ∃ c, (cloFrom X.env.cells scope.names []).lookup y = some c := fun {y} hl => by
    have hy : (y, NameKind.free) ∈ scope.names := PySem.mem_of_lookup hl
    exact mem_lookup (cloFrom_has (cells := X.env.cells) (acc := []) hy)
  have cellK : ∀ {c : Addr} {v : Option Value}, s.heap.IsCell c v → h₁.IsCell c v := fun {c v} ⟨o, ho, hd⟩ => ⟨o, kp _ _ ho, hd⟩
  have noA : ∀ b : Addr, b ∉ (lamCx X A X.stack s H E scope f c').ex := fun b z => absurd (show b ∈ ([] : List Addr) from z) (by simp)
  refine ⟨⟨e0.mod, L.kind, rfl, rfl, Nat.le_refl _, fun y z c e1 e2 => I.ok.inj y z c (cm e1) (cm e2), fun y hy => ?_, fun y c z _ => ?_, fun _ => hd, Around.frames_deeper hA, .inr ⟨rfl, rfl⟩, fun b z => absurd z (noA b), e0.bs, e0.bsz, fun b _ _ => noA b,
      fun b z => absurd z (noA b), e0.funs, e0.frf⟩,
    rfl, e0.bare, Un.kept kp, ⟨_, hns, fun j y w e1 e2 e3 => ?_⟩, fun y c e => ?_, e0.hok.fresh (Nat.le_refl _), fun y c e => I.freeC y c (cm e), fun q hq => absurd (show q ∈ ([] : List (Addr × Obj)) ++ [] from hq) (by simp), e0.hok.kept kp, by rw [List.length_set]; exact I.len⟩
  · have hy : scope.names.lookup y = some .cell ∨ scope.names.lookup y = some .free := hy
    rcases hy with hy | hy
    · exact absurd rfl (L.own _ (PySem.mem_of_lookup hy)).1
    · exact look hy
  · have z : false = true := z
    cases z
  · have e1 : X.N[j]? = some y := e1
    by_cases ej : j = i
    · rw [ej] at e1 e2
      rw [hN] at e1
      cases e1
      have lt : i < σ.length := by rw [I.len]; exact (List.getElem?_eq_some_iff.mp hN).1
      rw [List.getElem?_set_self lt] at e2
      cases e2
      refine ⟨u, rv, .inl ⟨L.par, ?_⟩⟩
      simp [List.lookup]
    · rw [List.getElem?_set_ne (fun z => ej z.symm)] at e2
      have ya : y ≠ a := fun z => ej (nodup_ix nd (z ▸ e1) hN)
      have e3 : Vis scope y := e3
      rcases e3 with k | k | k
      · exact absurd ((L.own _ (PySem.mem_of_lookup k)).2 rfl) ya
      · exact absurd rfl (L.own _ (PySem.mem_of_lookup k)).1
      · obtain ⟨m, hn, hl⟩ := I.loc
        have hvis : Vis X.env.scope y := (L.free _ (PySem.mem_of_lookup k) rfl).elim (fun k => .inr (.inl k)) (fun k => .inr (.inr k))
        obtain ⟨w', r, q⟩ := hl j y w e1 e2 hvis
        obtain ⟨c2, h2⟩ := look k
        refine ⟨w', r, .inr ⟨.inr k, c2, h2, ?_⟩⟩
        have c1 := cm h2
        rcases q with ⟨k', _⟩ | ⟨_, c3, e', z⟩
        · have k' : X.env.scope.names.lookup y = some .local := k'
          rcases L.free _ (PySem.mem_of_lookup k) rfl with k2 | k2 <;> rw [show X.env.scope.names.lookup y = _ from k2] at k' <;> cases k'
        · rw [c1] at e'
          cases e'
          exact cellK z
  · obtain ⟨w', z⟩ := I.cell y c (cm e)
    exact ⟨w', cellK z⟩
/-- the lambda called with one value, in the def that made it -/
theorem lam_call1 {A : Around} {scope : Scope} {a : Str} {i k : Nat} {v : V} {u pm ctv : Value} {f c' : Addr} {params : Arguments} {body : Expr} {tb : TE} {Q : VK} (I : Inv X pins σ H s) (L : LamP X.env.scope scope a) (hA : A.frames = some X.stack) (hr : Room (k + 1) A) (nd : X.N.Nodup) (hN : X.N[i]? = some a) (rv : RelV v u)
    (hf : s.heap.get? f = some (PySem.W.kla_obj "<lambda>" (X.env.qual ++ "<lambda>") params body scope (cloFrom X.env.cells scope.names []) pm c' ctv)) (hc : H c' = some (CodeO c' (X.env.qual ++ "<lambda>")))
    (hbind : bindArgs (PySem.W.kla_fn "<lambda>" (X.env.qual ++ "<lambda>") params body scope (cloFrom X.env.cells scope.names []) pm (.ref c') ctv) ⟨[u], []⟩ = pure [(a, u)])
    (hbody : Room k (A.deeper (lamEnv X scope s.heap.objs.size f c')) → PE (lamCx X A X.stack s H C8.E0 scope f c') body tb) (ht : tb (σ.set i (some v)) H Q) :
    codeAny (model X.prog X.w) A (.call (.ref f) ⟨[u], []⟩) (CR (L2.CX X.prog X.w) X.stack X.prog X.w H s Q C8.E0) s := by
  obtain ⟨⟨oc, vs, t, hoc, hdc, hvc⟩, _, _⟩ := I.hok c' _ hc
  refine PySem.W.kla_callFunE hr.depth hf rfl L.co L.gen rfl ⟨c', oc, vs, t, rfl, hoc, hdc, hvc⟩ ?_
  rw [hbind]
  refine wpAny_pure (wpAny_newFunctionEnv (fun y hy => (L.own y hy).1) (fun y hy => ?_) (fun h₁ hns hsb => ⟨I.nolimit.fresh _ hsb, ?_⟩) L.kind)
  · rw [List.mem_singleton.mp hy]
    exact L.par
  show codeAny _ _ (.expr body (lamEnv X scope s.heap.objs.size f c')) _ _
  have kp : ∀ b o, s.heap.get? b = some o → h₁.get? b = some o := fun b o e => hsb.extBut b o (Nat.ne_of_lt (Heap.lt_size e)) (Heap.get?_push_of_some _ e)
  have J : Inv (lamCx X A X.stack s H C8.E0 scope f c') [] (σ.set i (some v)) H { s with heap := h₁, toks := s.toks + ([(a, u)] : List (Str × Value)).length } := lam_start1 I L hA hr.hd nd hN rv hns kp
  refine PySem.W.kla_codeExpr (wpAny_mono ((hbody (hr.deeper _)).run [] _ _ H Q J ht) (fun v s' hq => ?_) fun e s' hq => hq)
  obtain ⟨w', H', J', rv, q⟩ := hq
  exact ⟨w', H', J'.os, J'.bare, J'.base, J'.hok, rv, q⟩
end
end LamX
set_option Elab.async false
set_option linter.all false
set_option maxRecDepth 100001
set_option maxHeartbeats 3999999
namespace SrtL
open PySem PyProof.Rows Srt SrtO L2 LamX
/-! ### orders of keys -/
structure KeyOrd (α : Type) where
  lt : α → α → Bool
  enc : α → V
  dec : Value → α
  val : α → Value
  swo : Swo lt
  rel : ∀ k u, RelV (enc k) u → dec u = k
  back : ∀ k, dec (val k) = k
  sortable : ∀ {prog : Program} {w : World} {A : Around} {s : Shared} (us : List Value), (∀ u ∈ us, ∃ k, RelV (enc k) u) → 2 ≤ us.length →
    ∃ κ, (∀ (Q : SortKind → Shared → Prop) (E : Value → Shared → Prop), Q κ s → wpAny (model prog w) A (keyKind' us.toArray) Q E s) ∧ Cmp prog w A s κ (fun p => p.1 ∈ us) (lt2 fun x y => lt (dec x) (dec y))
theorem swo_dec {α β : Type} {lt : α → α → Bool} (O : Swo lt) (f : β → α) : Swo fun x y => lt (f x) (f y) := ⟨fun x y h => O.asym _ _ h, fun x y z h1 h2 => O.tr _ _ _ h1 h2⟩
def decI : Value → Int
  | .int i _ => i
  | _ => 0
def decS : Value → Str
  | .str z _ => z
  | _ => Str.empty
theorem ints_dec : ∀ {us : List Value}, (∀ u ∈ us, ∃ k, RelV (.int k) u) → IntsAre us (us.map decI)
  | [], _ => .nil
  | u :: us, h => by
    obtain ⟨k, t, e⟩ := h u List.mem_cons_self
    subst e
    exact .cons k t (ints_dec fun v hv => h v (List.mem_cons_of_mem _ hv))
def ordInt : KeyOrd Int where
  lt i j := decide (i < j)
  enc := .int
  dec := decI
  val i := .int i 0
  swo := ⟨fun x y h => by have := of_decide_eq_true h; exact decide_eq_false (by omega), fun x y z h1 h2 => by have := of_decide_eq_false h1; have := of_decide_eq_false h2; exact decide_eq_false (by omega)⟩
  rel k u h := by obtain ⟨t, rfl⟩ := h; rfl
  back k := rfl
  sortable us h h2 := by
    have hI := ints_dec h
    refine ⟨oneType', fun Q E hq => ?_, fun p q hm hm' => ?_⟩
    · match us, hI, h2 with
      | v1 :: v2 :: rest, hI, _ =>
        rw [keyKind_ints hI]
        exact wpAny_pure hq
      | [], _, h => exact absurd h (by decide)
      | [v], _, h => exact absurd h (by simp)
    · obtain ⟨a, t, e⟩ := h _ hm
      obtain ⟨b, u, e'⟩ := h _ hm'
      show wpAny _ _ (keyLt' oneType' p.1 q.1) (fun r s' => s' = _ ∧ r = decide (decI p.1 < decI q.1)) (fun _ _ => False) _
      rw [e, e', keyLt'_oneType]
      exact oneLt_int ⟨rfl, rfl⟩
theorem strs_dec : ∀ {us : List Value}, (∀ u ∈ us, ∃ k, RelV (.str k) u) → StrsAre us (us.map decS)
  | [], _ => .nil
  | u :: us, h => by
    obtain ⟨k, t, e⟩ := h u List.mem_cons_self
    subst e
    exact .cons k t (strs_dec fun v hv => h v (List.mem_cons_of_mem _ hv))
theorem swo_nats : Swo fun (a b : List Nat) => decide (a < b) := by
  refine ⟨fun x y h => ?_, fun x y z h1 h2 => ?_⟩
  · have h := of_decide_eq_true h
    exact decide_eq_false fun z => List.lt_irrefl x (List.lt_trans h z)
  · have h1 := List.not_lt.mp (of_decide_eq_false h1)
    have h2 := List.not_lt.mp (of_decide_eq_false h2)
    exact decide_eq_false (List.not_lt.mpr (List.le_trans h1 h2))
def ordStr : KeyOrd Str where
  lt a b := decide (a.cps.toList < b.cps.toList)
  enc := .str
  dec := decS
  val z := .str z 0
  swo := swo_dec swo_nats fun a : Str => a.cps.toList
  rel k u h := by obtain ⟨t, rfl⟩ := h; rfl
  back k := rfl
  sortable us h h2 := by
    have hI := strs_dec h
    refine ⟨oneType', fun Q E hq => ?_, fun p q hm hm' => ?_⟩
    · match us, hI, h2 with
      | v1 :: v2 :: rest, hI, _ =>
        rw [keyKind_strs hI]
        exact wpAny_pure hq
      | [], _, h => exact absurd h (by decide)
      | [v], _, h => exact absurd h (by simp)
    · obtain ⟨a, t, e⟩ := h _ hm
      obtain ⟨b, u, e'⟩ := h _ hm'
      show wpAny _ _ (keyLt' oneType' p.1 q.1) (fun r s' => s' = _ ∧ r = decide ((decS p.1).cps.toList < (decS q.1).cps.toList)) (fun _ _ => False) _
      rw [e, e', keyLt'_oneType]
      exact oneLt_str ⟨rfl, rfl⟩
end SrtL
set_option Elab.async false
set_option linter.all false
set_option maxRecDepth 100001
set_option maxHeartbeats 3999999
namespace SrtL
open PySem PyProof.Rows Srt SrtO L2 LamX
def bk (u : Value) : V := (absV u).getD .non
theorem bk_rel {x : V} {u : Value} (r : RelV x u) : bk u = x := by
  unfold bk
  rw [r.abs]
  rfl
section
variable {α : Type} (O : KeyOrd α) (g : V → α)
theorem zip_fact : ∀ {xs : List V} {vs ks : List Value}, Vals xs vs → Vals (xs.map fun x => O.enc (g x)) ks → (∀ p ∈ ks.zip vs, O.dec p.1 = g (bk p.2) ∧ RelV (bk p.2) p.2) ∧ (ks.zip vs).map (fun p => bk p.2) = xs
  | [], _, _, .nil, .nil => ⟨fun _ h => (by simp at h), rfl⟩
  | x :: xs, _, _, .cons r t, .cons r2 t2 => by
    obtain ⟨h1, h2⟩ := zip_fact t t2
    refine ⟨fun p hp => ?_, ?_⟩
    · rw [List.zip_cons_cons] at hp
      rcases List.mem_cons.mp hp with rfl | hp
      · rw [bk_rel r]
        exact ⟨O.rel _ _ r2, r⟩
      · exact h1 p hp
    · rw [List.zip_cons_cons, List.map_cons, h2]
      show bk _ :: xs = x :: xs
      rw [bk_rel r]
abbrev ltG (x y : V) : Bool := O.lt (g x) (g y)
abbrev ltD (x y : Value) : Bool := O.lt (O.dec x) (O.dec y)
theorem conv {xs : List V} {vs ks : List Value} {ps : List Keyed} (hv : Vals xs vs) (hk : Vals (xs.map fun x => O.enc (g x)) ks) (h1 : Srtd (lt2 (ltD O)) ps) (h2 : Stb (lt2 (ltD O)) ps (ks.zip vs)) :
    Vals (ps.map fun p => bk p.2) (ps.map (·.2)) ∧ Srtd (ltG O g) (ps.map fun p => bk p.2) ∧ Stb (ltG O g) (ps.map fun p => bk p.2) xs := by
  obtain ⟨f1, f2⟩ := zip_fact O g hv hk
  have mem : ∀ p ∈ ps, O.dec p.1 = g (bk p.2) ∧ RelV (bk p.2) p.2 := fun p hp => f1 p (h2.perm.mem_iff.mp hp)
  refine ⟨?_, ?_, ?_⟩
  · clear h1 h2
    induction ps with
    | nil => exact .nil
    | cons p ps ih => exact .cons (mem p List.mem_cons_self).2 (ih fun q hq => mem q (List.mem_cons_of_mem _ hq))
  · refine srtd_map (f := fun p : Keyed => bk p.2) (lt := ltG O g) ?_
    refine List.Pairwise.imp_of_mem (fun {p q} hp hq hr => ?_) h1
    show O.lt (g (bk q.2)) (g (bk p.2)) = false
    rw [← (mem p hp).1, ← (mem q hq).1]
    exact hr
  · have h3 : Stb (fun p q : Keyed => ltG O g (bk p.2) (bk q.2)) ps (ks.zip vs) := by
      refine ⟨h2.perm, fun x => ?_⟩
      have e : ∀ p : Keyed, O.dec p.1 = g (bk p.2) → eqv (fun p q : Keyed => ltG O g (bk p.2) (bk q.2)) x p = eqv (lt2 (ltD O)) (O.val (g (bk x.2)), x.2) p := by
        intro p hp
        show (!O.lt (g (bk x.2)) (g (bk p.2)) && !O.lt (g (bk p.2)) (g (bk x.2))) = (!O.lt (O.dec (O.val (g (bk x.2)))) (O.dec p.1) && !O.lt (O.dec p.1) (O.dec (O.val (g (bk x.2)))))
        rw [O.back, hp]
      rw [List.filter_congr fun p hp => e p (mem p hp).1, List.filter_congr fun p hp => e p (f1 p hp).1]
      exact h2.cls _
    have h4 := Stb.map (swo_dec O.swo g) (fun p : Keyed => bk p.2) h3
    rw [f2] at h4
    exact h4
end
/-- sorted(e, key=lambda x: tb): the keys are read at one and the same heap -/
def tSortLam {α : Type} (Tb : List (Addr × Str)) (K : PySem.W.Frag) (O : KeyOrd α) (i : Nat) (te tb : TE) : TE := fun σ H Q => te σ H fun x H1 => ∃ (a : Addr) (xs : List V) (g : V → α), x = .ref a ∧ SqL K H1 a xs ∧ Tabs Tb H1 ∧
  ∀ H2, ExtN H1 H2 → Tabs Tb H2 → SqL K H2 a xs ∧ (∀ v ∈ xs, tb (σ.set i (some v)) H2 fun kv H4 => kv = O.enc (g v) ∧ H4 = H2) ∧
    ∀ ys p, Srtd (ltG O g) ys → Stb (ltG O g) ys xs → H2 p = none → Q (.ref p) (upd H2 p (.lst ys))
section
variable {X : Cx} {pins : List (Addr × Obj)} {σ : L2.St} {H : Hp} {s : Shared}
theorem fp_keep {b : Addr} {o : Obj} {H' : Hp} {h' : Heap} (I : Inv X pins σ H s) (un : Un (frs X.stack) [] H H' s.heap h') (hn : H b = none) (hf : b ∉ frs X.stack) (hb : s.heap.get? b = some o) : h'.get? b = some o := un.keep b o hb hn hf (by simp)
theorem fp_nofr {b : Addr} (I : Inv X pins σ H s) (hf : FpOk X pins H b) : b ∉ frs X.stack := fun z => by
  rcases List.mem_cons.mp (I.stkSub _ z) with e | e
  · exact hf.2.1 e
  · exact hf.2.2.1 e
/-- the sorted list is known from now on -/
theorem inv_done {kS d : Addr} {ks out : List Value} {ys : List V} {ek e1 : Nat} (I : Inv X pins σ H s) (fk : FpOk X pins H kS) (fd : FpOk X pins H d) (ne : kS ≠ d) (hk : s.heap.get? kS = some (seqObj "list" ks.toArray ek)) (hd : s.heap.get? d = some (seqObj "list" #[] e1))
    (hl : ys.length ≤ sizeLine) (hv : Vals ys out) : Inv X pins σ (upd H d (.lst ys)) { s with heap := doneHeap s.heap kS d out.toArray } := by
  have s1 := Heap.SameBut.update s.heap kS (Obj.mapSeq fun _ => (#[] : Array Value))
  have nd1 : (s.heap.update kS (Obj.mapSeq fun _ => (#[] : Array Value))).get? d = some (seqObj "list" #[] e1) := (s1.2 d ne.symm).trans hd
  obtain ⟨e2, hd2⟩ : ∃ e2, (doneHeap s.heap kS d out.toArray).get? d = some (seqObj "list" out.toArray e2) := ⟨_, get?_update_seq nd1 fun _ => out.toArray⟩
  obtain ⟨e3, hk3⟩ : ∃ e3, (s.heap.update kS (Obj.mapSeq fun _ => (#[] : Array Value))).get? kS = some (seqObj "list" #[] e3) := ⟨_, get?_update_seq hk fun _ => #[]⟩
  have kp : ∀ b o, b ≠ kS → b ≠ d → s.heap.get? b = some o → (doneHeap s.heap kS d out.toArray).get? b = some o := fun b o h1 h2 e => by
    show ((s.heap.update kS (Obj.mapSeq fun _ => (#[] : Array Value))).update d _).get? b = _
    rw [Heap.get?_update_ne _ _ _ _ h2, Heap.get?_update_ne _ _ _ _ h1]
    exact e
  have nK : ∀ b u, H b = some u → b ≠ kS := fun b u e z => by rw [z, fk.1] at e; cases e
  have nD : ∀ b u, H b = some u → b ≠ d := fun b u e z => by rw [z, fd.1] at e; cases e
  have stay : ∀ b u, H b = some u → upd H d (.lst ys) b = some u := fun b u e => (upd_ne (nD b u e)).trans e
  refine I.step (g' := s.gens) (t' := s.toks) (d' := s.drawn) (ch := [kS, d]) (fun b hb => ?_) (fun b o _ _ hc e _ => kp b o (fun z => hc (by simp [z])) (fun z => hc (by simp [z])) e) (fun b o _ _ hc e _ => ⟨o.slots, kp b o (fun z => hc (by simp [z])) (fun z => hc (by simp [z])) e⟩)
    (fun b o hc _ n => (upd_ne (fun z => hc (by simp [z]))).trans n) (fun b o hc e => ⟨o, kp b o (fun z => hc (by simp [z])) (fun z => hc (by simp [z])) e⟩) (fun b xs e => stay _ _ e) (fun b o u e => stay _ _ e) (fun b ps e => ⟨#[], by rw [stay _ _ e]; simp⟩) (fun m hm => ?_) (fun b u e => ?_) I.bare
  · rcases List.mem_cons.mp hb with rfl | hb
    · exact ⟨fk.2.2.2.1, fk.2.1, fk.2.2.2.2.1, fk.2.2.2.2.2⟩
    · rw [List.mem_singleton.mp hb]
      exact ⟨fd.2.2.2.1, fd.2.1, fd.2.2.2.2.1, fd.2.2.2.2.2⟩
  · obtain ⟨o, es, ep, ho, r⟩ := hm
    exact ⟨o, es, ep, kp _ o (Ne.symm fk.2.1) (Ne.symm fd.2.1) ho, r⟩
  · by_cases hb : b = d
    · rw [hb, upd_same] at e
      cases e
      rw [hb]
      exact ⟨hl, out, e2, hv, hd2⟩
    · rw [upd_ne hb] at e
      refine (I.hok b u e).stay (fun c v hc q => ?_) (fun _ q => stay _ _ q) fun _ _ q => stay _ _ q
      rcases hc with z | z
      · rw [z] at q ⊢
        exact kp _ _ (nK b u e) hb q
      · exact kp _ _ (nK c _ z) (nD c _ z) q
end
end SrtL
set_option Elab.async false
set_option linter.all false
set_option maxRecDepth 100001
set_option maxHeartbeats 3999999
namespace SrtL
open PySem PyProof.Rows Srt SrtO L2 LamX
section
variable {X : Cx} {p lpos kpos pos : Pos} {e : Expr} {te tb : TE} {α : Type}
theorem frames2 (I : X.Ok) : X.A.in1.in1.frames = some X.stack := I.frames
theorem pe_sortLam (O : KeyOrd α) {Tb : List (Addr × Str)} {c T : Addr} {k i : Nat} {a : Str} {params : Arguments} {body : Expr} {scope : Scope} (hg : Gl X "sorted") (hm : X.mg "sorted" = none) (he : PE X e te) (TB : TabB X.base X.mg c T) (hmT : (T, X.env.qual ++ "<lambda>") ∈ Tb) (hu : ∀ p ∈ Tb, p.1 = T → p.2 = X.env.qual ++ "<lambda>")
    (hr : Room (k + 3) X.A) (L : LamP X.env.scope scope a) (nd : X.N.Nodup) (hN : X.N[i]? = some a)
    (hbody : ∀ (s : Shared) (H : Hp) (f c' : Addr), Room k (X.A.in1.in1.deeper (lamEnv X scope s.heap.objs.size f c')) → PE (lamCx X X.A.in1.in1 X.stack s H C8.E0 scope f c') body tb)
    (hcode : X.env.code = .ref c := by rfl) (hdef : defaultsOf params X.env = ([], []) := by rfl)
    (hbind : ∀ (q : Str) (cl : List (Str × Addr)) (pm cv ctv u : Value), bindArgs (PySem.W.kla_fn "<lambda>" q params body scope cl pm cv ctv) ⟨[u], []⟩ = pure [(a, u)] := by intros; rfl)
    (hs0 : starEach [e] X.env = (false, eval e X.env) :: starEach [] X.env := by rfl) (hs : backTo pos (starEach [e] X.env) = (false, eval e X.env) :: backTo pos (starEach [] X.env) := by rfl) (hpl : (backTo pos (starEach [e] X.env)).any (·.1) = false := by rfl) :
    PE X (.Call (.Name "sorted" p) [e] [⟨some "key", .Lambda params body scope lpos, kpos⟩] pos) (tSortLam Tb X.K O i te tb) := by
  refine ⟨fun pins s σ H Q I h => ?_⟩
  refine wpAny_Call_Name_kw (ld_blt (u := Value.builtin "sorted") I hg hm (by decide +kernel) ?_ (by decide) (by decide))
  refine PyProof.Rows.callWith_kw (thn ((pa_cons he pa_nil hs0).run pos pins s σ H (fun vs H1 => match vs with
    | [x] => ∃ (a : Addr) (xs : List V) (g : V → α), x = .ref a ∧ SqL X.K H1 a xs ∧ Tabs Tb H1 ∧
  ∀ H2, ExtN H1 H2 → Tabs Tb H2 → SqL X.K H2 a xs ∧ (∀ v ∈ xs, tb (σ.set i (some v)) H2 fun kv H4 => kv = O.enc (g v) ∧ H4 = H2) ∧
    ∀ ys p, Srtd (ltG O g) ys → Stb (ltG O g) ys xs → H2 p = none → Q (.ref p) (upd H2 p (.lst ys))
    | _ => False) I h) fun us s1 ⟨vs, H1, I1, r1, q1⟩ => ?_) hs hpl (by rfl) (by rfl)
  obtain ⟨x, rfl, u, rfl, rx, q1⟩ : ∃ x, vs = [x] ∧ ∃ u, us = [u] ∧ RelV x u ∧ ∃ (a : Addr) (xs : List V) (g : V → α), x = .ref a ∧ SqL X.K H1 a xs ∧ Tabs Tb H1 ∧
      ∀ H2, ExtN H1 H2 → Tabs Tb H2 → SqL X.K H2 a xs ∧ (∀ v ∈ xs, tb (σ.set i (some v)) H2 fun kv H4 => kv = O.enc (g v) ∧ H4 = H2) ∧
        ∀ ys p, Srtd (ltG O g) ys → Stb (ltG O g) ys xs → H2 p = none → Q (.ref p) (upd H2 p (.lst ys)) := by
    cases vs with
    | nil => exact q1.elim
    | cons x r =>
      cases r with
      | nil =>
        cases r1 with
        | cons rx t =>
          cases t
          exact ⟨x, rfl, _, rfl, rx, q1⟩
      | cons y r => exact q1.elim
  obtain ⟨l, xs, g, rfl, hl1, hT1, q1⟩ := q1
  obtain rfl : u = Value.ref l := rx
  show wpAny _ _ (evalAll ((do let v ← eval (.Lambda params body scope lpos) X.env; standAt pos; pure v) :: (backToKw pos (keywordEach [] X.env)).map (·.2))) _ _ s1
  refine wpAny_evalAll_cons (wpAny_bind (lam_make2 I1 TB hcode hmT hu hT1 hdef (L.has I1.ok) fun f c' pm ctv H2 s2 I2 e12 hT2 hf hfn hfr hc => wpAny_bind (wpAny_standAt (wpAny_pure ?_))))
  refine wpAny_evalAll_nil ?_
  show wpAny _ _ (call (.builtin "sorted") [.ref l] [(Str.ofString "key", .ref f)]) _ _ s2
  obtain ⟨hl2, hkey, hend⟩ := q1 H2 e12 hT2
  obtain ⟨its, rv, hil, hz⟩ := I2.list hl2
  refine sorted_ord (vs := its) (ltv := ltD O) (swo_dec O.swo O.dec) hil.isList (by rw [← rv.length]; exact hz) fun h1 d kS e1 hkp hd hkS gd gk nkd => ?_
  have fk : FpOk X pins H2 kS := I2.fpOk gk (I2.hok.fresh gk)
  have fd : FpOk X pins H2 d := I2.fpOk gd (I2.hok.fresh gd)
  have hroom : Room (k + 1) X.A.in1.in1 := (Room.in1 (Room.in1 hr))
  refine ⟨fun ks s' => Inv X pins σ H2 s' ∧ (∃ ek, s'.heap.get? kS = some (seqObj "list" ks.toArray ek)) ∧ s'.heap.get? d = some (seqObj "list" #[] e1) ∧ s'.heap.get? f = some (PySem.W.kla_obj "<lambda>" (X.env.qual ++ "<lambda>") params body scope (cloFrom X.env.cells scope.names []) pm c' ctv) ∧ Vals ((xs.take ks.length).map fun x => O.enc (g x)) ks,
    ⟨I2.kept (t' := s2.toks) hkp, ⟨0, hkS⟩, hd, hkp _ _ hf, by rw [List.length_nil, List.take_zero]; exact .nil⟩, ⟨fun ks s' h => ⟨h.2.1, h.2.2.1⟩, ?_, ?_, ?_⟩⟩
  · rintro ks u s' ⟨J, ⟨ek, jk⟩, jd, jf, jv⟩ hu2
    obtain ⟨x, hx, rx⟩ : ∃ x, xs[ks.length]? = some x ∧ RelV x u := by
      have lt : ks.length < xs.length := by rw [rv.length]; exact (List.getElem?_eq_some_iff.mp hu2).1
      obtain ⟨u', h1, h2⟩ := rv.get (List.getElem?_eq_getElem lt)
      rw [hu2] at h1
      cases h1
      exact ⟨_, List.getElem?_eq_getElem lt, h2⟩
    refine wpAny_call (codeAny_mono (lam_call1 (A := X.A.in1.in1) (i := i) (Q := fun kv H4 => kv = O.enc (g x) ∧ H4 = H2) J L J.ok.frames hroom nd hN rx jf hc (hbind _ _ _ _ _ _) (fun _ => hbody s' H2 f c' ‹_›) (hkey x (List.mem_of_getElem? hx))) fun r s'' hq => ?_)
    cases r with
    | error e =>
      obtain ⟨_, _, _, _, _, _, _, _, _, _, _, _, z⟩ := hq
      exact z
    | ok fl =>
      cases fl with
      | ret kv =>
        obtain ⟨v, H', os, bare, un, hok, rk, rfl, rfl⟩ := id hq
        obtain ⟨v2, H3, J2, _, _, rfl⟩ := J.after hq
        have kept : ∀ b o, H3 b = none → b ∉ frs X.stack → s'.heap.get? b = some o → s''.heap.get? b = some o := fun b o h1 h2 h3 => un.keep b o h3 h1 h2 (by simp)
        have jk2 := kept _ _ fk.1 (fp_nofr J fk) jk
        have jd2 := kept _ _ fd.1 (fp_nofr J fd) jd
        have jf2 := kept _ _ hfn hfr jf
        have sb := Heap.SameBut.update s''.heap kS (Obj.mapSeq (·.push kv))
        have kb : ∀ b o, b ≠ kS → s''.heap.get? b = some o → (s''.heap.update kS (Obj.mapSeq (·.push kv))).get? b = some o := fun b o hb e => (sb.2 b hb).trans e
        obtain ⟨c2, hc2⟩ : ∃ c2, (s''.heap.update kS (Obj.mapSeq (·.push kv))).get? kS = some (seqObj "list" (ks.toArray.push kv) c2) := ⟨_, get?_update_seq jk2 (·.push kv)⟩
        have nf : f ≠ kS := fun z => Nat.lt_irrefl _ (Nat.lt_of_lt_of_le (z ▸ Heap.lt_size hf) gk)
        refine ⟨⟨ek, jk2⟩, J2.turned (t' := s''.toks) kb fk.1 fk.2.1 fk.2.2.2.1 fk.2.2.2.2.1 fk.2.2.2.2.2, ⟨c2, by rw [hc2, List.push_toArray]⟩, kb _ _ nkd.symm jd2, kb _ _ nf jf2, ?_⟩
        have e1 : xs.take (ks ++ [kv]).length = xs.take ks.length ++ [x] := by
          rw [List.length_append, List.length_singleton, List.take_add_one, hx]
          rfl
        rw [e1, List.map_append]
        exact Paired.snoc jv rk
      | next => exact False.elim hq
      | brk => exact False.elim hq
      | cont => exact False.elim hq
  · rintro ks s' ⟨J, _, _, _, jv⟩ lk h2
    refine O.sortable ks (fun u hu => ?_) (by omega)
    obtain ⟨j, hj⟩ := List.mem_iff_getElem?.mp hu
    obtain ⟨lt, _⟩ := List.getElem?_eq_some_iff.mp hj
    have lt2 : j < ((xs.take ks.length).map fun x => O.enc (g x)).length := by rw [jv.length]; exact lt
    obtain ⟨u', h3, h4⟩ := jv.get (List.getElem?_eq_getElem lt2)
    rw [hj] at h3
    cases h3
    rw [List.getElem_map] at h4
    exact ⟨_, h4⟩
  · rintro ks s' ⟨J, ⟨ek, jk⟩, jd, _, jv⟩ lk ps h1 h2
    have lx : xs.length = ks.length := by rw [rv.length, lk]
    rw [← lx, List.take_length] at jv
    obtain ⟨y1, y2, y3⟩ := conv O g rv jv h1 h2
    refine ⟨rfl, .ref d, _, inv_done (ys := ps.map fun p => bk p.2) J fk fd nkd jk jd (by rw [y3.len]; exact hz) y1, rfl, hend _ d y2 y3 fd.1⟩
end
end SrtL
set_option Elab.async false
set_option linter.all false
set_option maxRecDepth 100001
set_option maxHeartbeats 1999999
/-! rules for texts: list(s), s * n, s[::-1], and for lists of ints: xs < ys. -/
namespace L2
open PySem.Spec PySem PyProof.Rows
def sgn (c : Nat) : V := .str ⟨#[c]⟩
def sgns (z : Str) : List V := z.cps.toList.map sgn
theorem vals_get : ∀ {xs : List V} {us : List Value}, xs.length = us.length → (∀ (j : Nat) x u, xs[j]? = some x → us[j]? = some u → RelV x u) → Vals xs us
  | [], [], _, _ => .nil
  | [], _ :: _, h, _ => by simp at h
  | _ :: _, [], h, _ => by simp at h
  | x :: xs, u :: us, h, k => .cons (k 0 x u rfl rfl) (vals_get (by simpa using h) fun j a b h1 h2 => k (j + 1) a b (by simpa using h1) (by simpa using h2))
section
variable {X : Cx}
/-- list(s) -/
theorem call_listS (hc : X.calm = true) : CallR X (.type "list") (fun xs H Q => ∃ z : Str, xs = [.str z] ∧ z.length ≤ sizeLine ∧ ∀ p, H p = none → Q (.ref p) (upd H p (.lst (sgns z)))) := by
  intro pins s σ H xs us Q I r h
  obtain ⟨z, rfl, hz, q⟩ := h
  obtain ⟨u, rfl, rx⟩ := vals1 r
  obtain ⟨t, rfl⟩ := rx
  refine PySem.call_list_str (I.ok.hd hc) z t (fun h' tk acc' c' hk hS hacc => ?_) hz
  refine ⟨.ref _, upd H s.heap.objs.size (.lst (sgns z)), I.laid (t' := tk) hk (Nat.le_refl _) ⟨?_, acc'.toList, c', ?_, by rw [hS]⟩, rfl, q _ (I.hok.fresh (Nat.le_refl _))⟩
  · unfold sgns
    rw [List.length_map, Array.length_toList]
    exact hz
  · refine vals_get ?_ fun j x u h1 h2 => ?_
    · unfold sgns
      rw [List.length_map, Array.length_toList, Array.length_toList, hacc.1]
    · unfold sgns at h1
      rw [List.getElem?_map] at h1
      rw [Array.getElem?_toList] at h2
      obtain ⟨c, t', hc', rfl⟩ := hacc.2 j u h2
      rw [Array.getElem?_toList, hc'] at h1
      cases h1
      exact ⟨t', rfl⟩
/-! ### xs < ys -/
theorem firstLt_map (e r : Nat → Bool) (fin : Bool) : ∀ l : List Nat, SeqAt.firstLt e r fin (l.map (· + 1)) = SeqAt.firstLt (fun j => e (j + 1)) (fun j => r (j + 1)) fin l
  | [] => rfl
  | j :: l => by
    rw [List.map_cons]
    unfold SeqAt.firstLt
    rw [firstLt_map e r fin l]
theorem firstLt_lex : ∀ ns ms : List Int, SeqAt.firstLt (fun j => ns.getD j 0 == ms.getD j 0) (fun j => decide (ns.getD j 0 < ms.getD j 0)) (decide (ns.length < ms.length)) (List.range (min ns.length ms.length)) = HT.lexLt ns ms
  | [], [] => rfl
  | [], y :: ys => by simp [SeqAt.firstLt, HT.lexLt]
  | x :: xs, [] => by simp [SeqAt.firstLt, HT.lexLt]
  | x :: xs, y :: ys => by
    have ih := firstLt_lex xs ys
    have e : List.range (min (x :: xs).length (y :: ys).length) = 0 :: (List.range (min xs.length ys.length)).map (· + 1) := by
      rw [List.length_cons, List.length_cons, Nat.succ_min_succ, List.range_succ_eq_map]
    rw [e, HT.lexLt_cons]
    show (if (x == y) = true then _ else decide (x < y)) = _
    by_cases c : x = y
    · rw [if_pos (by simpa using c), if_pos c, firstLt_map, ← ih]
      simp
    · rw [if_neg (by simpa using c), if_neg c]
theorem ints_get : ∀ {ns : List Int} {us : List Value}, Vals (ns.map V.int) us → ∀ (j : Nat) u, us[j]? = some u → ∃ t, u = .int (ns.getD j 0) t
  | [], _, .nil, j, u, h => by simp at h
  | n :: ns, _, .cons ⟨t, e⟩ r, 0, u, h => by
    simp at h
    subst h e
    exact ⟨t, rfl⟩
  | n :: ns, _, .cons _ r, j + 1, u, h => by
    obtain ⟨t, e⟩ := ints_get r j u (by simpa using h)
    exact ⟨t, by simpa using e⟩
def rLtLI (K : PySem.W.Frag) : R2 := fun x y H Q => ∃ a b ns ms, x = .ref a ∧ y = .ref b ∧ SqL K H a (ns.map V.int) ∧ SqL K H b (ms.map V.int) ∧ Q (.bl (HT.lexLt ns ms)) H
theorem op_ltLI (hu : X.A.units < cLine) : OpR X (compareOp .Lt) (rLtLI X.K) := by
  intro pins s σ H x y v u Q I rx ry h
  obtain ⟨a, b, ns, ms, rfl, rfl, ha, hb, q⟩ := h
  cases rx
  cases ry
  obtain ⟨its, r1, p1, _⟩ := I.list ha
  obtain ⟨its2, r2, p2, _⟩ := I.list hb
  have l1 : its.toArray.size = ns.length := by have := r1.length; simp at this ⊢; omega
  have l2 : its2.toArray.size = ms.length := by have := r2.length; simp at this ⊢; omega
  have g1 : ∀ j (h : j < its.toArray.size), ∃ t, its.toArray[j] = .int (ns.getD j 0) t := fun j h => ints_get r1 j _ (by simpa using (List.getElem?_eq_getElem (by simpa using h)))
  have g2 : ∀ j (h : j < its2.toArray.size), ∃ t, its2.toArray[j] = .int (ms.getD j 0) t := fun j h => ints_get r2 j _ (by simpa using (List.getElem?_eq_getElem (by simpa using h)))
  refine SeqAt.RcLt.lists (e := fun j => ns.getD j 0 == ms.getD j 0) (r := fun j => decide (ns.getD j 0 < ms.getD j 0)) p1.isList p2.isList hu (fun j h1 h2 => ?_) (fun j h1 h2 _ => ?_) X.prog X.w _ _ ?_
  · obtain ⟨t, e1⟩ := g1 j h1
    obtain ⟨t', e2⟩ := g2 j h2
    rw [e1, e2]
    exact SeqAt.EqAt.int_int _ _ _ _
  · obtain ⟨t, e1⟩ := g1 j h1
    obtain ⟨t', e2⟩ := g2 j h2
    rw [e1, e2]
    exact fun prog w E Q h => HT.rcLt_int _ _ _ _ _ _ prog w E Q h
  · rw [l1, l2, firstLt_lex]
    exact ⟨.bl _, H, I, rfl, q⟩
/-! ### s * n -/
def repS (z : Str) (k : Nat) : Str := ⟨((List.replicate k z.cps.toList).flatten).toArray⟩
theorem fold_rep (z : Array Nat) : ∀ (k : Nat) (a : Array Nat), ((List.replicate k z).foldl (· ++ ·) a) = a ++ ((List.replicate k z.toList).flatten).toArray
  | 0, a => by simp
  | k + 1, a => by
    rw [List.replicate_succ, List.foldl_cons, fold_rep z k, List.replicate_succ, List.flatten_cons]
    refine Array.ext' ?_
    simp
def rMulS : R2 := fun x y H Q => ∃ (z : Str) (k : Nat), x = .str z ∧ y = .int (k : Nat) ∧ 2 ≤ k ∧ k ≤ 1000 ∧ 1 ≤ z.length ∧ z.length ≤ 1000 ∧ Q (.str (repS z k)) H
theorem op_mulS : OpR X (binaryOp .Mult) rMulS := by
  intro pins s σ H x y v u Q I rx ry h
  obtain ⟨z, k, rfl, rfl, k2, k1, z1, z2, q⟩ := h
  obtain ⟨t, rfl⟩ := rx
  obtain ⟨t', rfl⟩ := ry
  have n1 : ¬ ((k : Nat) : Int) < 1 := by omega
  have n2 : (((k : Nat) : Int) == 1 || z.length == 0) = false := by
    simp
    omega
  refine P.mul_str (by simp; omega) (fun _ _ => ?_) (fun _ _ => ?_) ?_
  · have hk : (9007199254740 : Int) ≤ (2 ^ 63 - 1) / ((k : Nat) : Int) := by
      refine (Int.le_ediv_iff_mul_le (by omega)).mpr ?_
      have : (9007199254740 : Int) * ((k : Nat) : Int) ≤ 9007199254740 * 1000 := Int.mul_le_mul_of_nonneg_left (by omega) (by decide)
      have e : (9007199254740 : Int) * 1000 ≤ 2 ^ 63 - 1 := by decide
      omega
    omega
  · rw [Int.toNat_natCast]
    have : z.length * k ≤ 1000 * 1000 := Nat.mul_le_mul z2 k1
    exact decide_eq_false (Nat.not_lt.mpr (Nat.le_trans this (by decide)))
  · rw [if_neg n1, if_neg (by rw [n2]; decide), Int.toNat_natCast, fold_rep]
    have e : (#[] ++ ((List.replicate k z.cps.toList).flatten).toArray : Array Nat) = ((List.replicate k z.cps.toList).flatten).toArray := by simp
    rw [e]
    refine ⟨?_, .str (repS z k), H, I.tok _, ⟨_, rfl⟩, q⟩
    show (((List.replicate k z.cps.toList).flatten).toArray).size ≤ sizeLine
    rw [List.size_toArray, List.length_flatten, List.map_replicate, List.sum_replicate_nat, Array.length_toList]
    have : k * z.length ≤ 1000 * 1000 := Nat.mul_le_mul k1 z2
    exact Nat.le_trans this (by decide)
/-! ### s[::-1] -/
def revS (z : Str) : Str := ⟨z.cps.toList.reverse.toArray⟩
def tRevS (te : TE) : TE := fun σ H Q => te σ H fun x H1 => ∃ z : Str, x = .str z ∧ z.length ≤ sizeLine ∧ Q (.str (revS z)) H1
theorem pick_rev (z : Str) : (Builtin.Str.strSliceIndices none none (-1) z.length).filterMap (z.cps[·]?) = z.cps.toList.reverse := by
  show (sliceRange ((z.cps.size : Int) - 1) (-1) (-1)).filterMap (z.cps[·]?) = _
  rw [PySem.W.krv_sliceRange, PySem.W.krv_range, List.filterMap_reverse, PySem.W.krv_all]
theorem pe_revS {e : Expr} {te : TE} {k : Nat} {p1 p2 p3 pos : Pos} (he : PE X e te) : PE X (.Subscript e (.Slice none none (some (.UnaryOp .USub (.Constant (.int 1) k p1) p2)) p3) pos) (tRevS te) := by
  refine ⟨fun pins s σ H Q I h => ?_⟩
  refine Subscript_ (thn (he.run pins s σ H _ I h) fun v s1 ⟨x, H1, I1, r1, q1⟩ => ?_)
  obtain ⟨z, ex, hz, q⟩ := q1
  subst ex
  obtain ⟨t, rfl⟩ := r1
  have hst : PO X (some (.UnaryOp .USub (.Constant (.int 1) k p1) p2)) (tPart (tUn (rU fun i => .int (-i)) (tC (.int 1)))) := po_some (pe_un un_neg pe_int)
  refine wpAny_Slice (thn (po_none.run pins s1 σ H1 (fun o H2 => o = none ∧ H2 = H1) I1 ⟨rfl, rfl⟩) fun vl s2 ⟨l, H2, I2, pl, el, e2⟩ => ?_)
  subst el e2
  refine thn (po_none.run pins s2 σ H2 (fun o H3 => o = none ∧ H3 = H2) I2 ⟨rfl, rfl⟩) fun vu s3 ⟨u, H3, I3, pu, eu, e3⟩ => ?_
  subst eu e3
  refine thn (hst.run pins s3 σ H3 (fun o H4 => o = some (-1) ∧ H4 = H3) I3 ⟨1, rfl, -1, rfl, rfl, rfl⟩) fun vs s4 ⟨o, H4, I4, ps, eo, e4⟩ => ?_
  subst eo e4
  have I5 : Inv X pins σ H4 { s4 with heap := s4.heap.push { cls := .type "slice", data := .fields #[vl, vu, vs] } } := I4.kept (t' := s4.toks) fun b ob q => Heap.get?_push_of_some _ q
  obtain ⟨l0, rfl, e0⟩ := IsPart.raw pl
  obtain ⟨u0, rfl, e1⟩ := IsPart.raw pu
  obtain ⟨v0, rfl, e2⟩ := IsPart.raw ps
  have l0n : l0 = none := by cases l0 with | none => rfl | some _ => cases e0
  have u0n : u0 = none := by cases u0 with | none => rfl | some _ => cases e1
  subst l0n u0n
  obtain ⟨tk, rfl⟩ : ∃ tk, v0 = some (-1, tk) := by
    cases v0 with
    | none => cases e2
    | some p =>
      obtain ⟨a, b⟩ := p
      have : a = -1 := Option.some.inj e2
      exact ⟨b, by rw [this]⟩
  show wpAny (model X.prog X.w) X.A (subscriptTail e (.Slice none none (some (.UnaryOp .USub (.Constant (.int 1) k p1) p2)) p3) (.str z t) (.ref s4.heap.objs.size)) (EP X pins σ Q) X.xe _
  refine tail_any (ops := [.str z t, .ref s4.heap.objs.size]) (typeIs_str _ z t) F.slot_str_getitem.lookup ?_ (by with_unfolding_all rfl)
  refine wpAny_getItem_str_slice (l := none) (u := none) (st := some (-1, tk)) ⟨_, Heap.get?_push_size _ rfl, rfl, rfl⟩ rfl ?_
  show Made.post (if ((-1 : Int) == 1 && (Builtin.Str.strSliceIndices none none (-1) z.length).length == z.length) = true then Made.val (.str z t) else Made.str ⟨((Builtin.Str.strSliceIndices none none (-1) z.length).filterMap (z.cps[·]?)).toArray⟩) _ _
  rw [if_neg (by simp), pick_rev]
  refine ⟨?_, .str (revS z), H4, I5.tok _, ⟨_, rfl⟩, q⟩
  show (z.cps.toList.reverse.toArray).size ≤ sizeLine
  rw [List.size_toArray, List.length_reverse, Array.length_toList]
  exact hz
/-! ### sep.join(s), s a text -/
theorem mt_joinS (hc : X.calm = true) : MtR X "str.join" (fun x xs H Q => ∃ a z : Str, x = .str a ∧ xs = [.str z] ∧ JoinOk a (PyProof.Rows.signs z) = true ∧ Q (.str (Txt.join a (PyProof.Rows.signs z))) H) := by
  intro pins s σ H x xs v us Q I rx rs h
  obtain ⟨a, z, rfl, rfl, ok, q⟩ := h
  obtain ⟨t, rfl⟩ := rx
  obtain ⟨u, rfl, ru⟩ := vals1 rs
  obtain ⟨t', rfl⟩ := ru
  exact SC.joinStr (I.ok.hd hc) ok fun h' k t2 hk => ⟨.str _, H, I.kept (t' := k) hk, ⟨t2, rfl⟩, q⟩
end
end L2
set_option Elab.async false
set_option linter.all false
set_option maxRecDepth 100001
set_option maxHeartbeats 3999999
namespace K05
open PySem L2
def topS (i : Nat) : Stmt := PySem.Challenge.pw_wordvault_k05_patterns_refused.main.body.getD i (.Pass ⟨0, 0, 0, 0⟩)
abbrev sPen : Stmt := topS 23
abbrev sDraw : Stmt := topS 24
abbrev sPick : Stmt := topS 25
/-! what kinds of values are met -/
inductive Kn (H : Hp) : V → Prop where
  | non : Kn H .non
  | bl (b : Bool) : Kn H (.bl b)
  | int (i : Int) : Kn H (.int i)
  | str (x : Str) : Kn H (.str x)
  | lst {a : Addr} {xs : List V} (e : H a = some (.lst xs)) : Kn H (.ref a)
  | tup {a : Addr} {xs : List V} (e : H a = some (.tup xs)) : Kn H (.ref a)
theorem Kn.same {H H2 : Hp} {v : V} (k : Kn H v) (s : Same H H2) : Kn H2 v := by
  cases k with
  | non => exact .non
  | bl b => exact .bl b
  | int i => exact .int i
  | str x => exact .str x
  | lst e => exact .lst (s _ _ e)
  | tup e => exact .tup (s _ _ e)
def isI : V → Bool
  | .int _ => true
  | _ => false
def isB : V → Bool
  | .bl _ => true
  | _ => false
def isT (H : Hp) : V → Bool
  | .ref a => match H a with
    | some (.tup _) => true
    | _ => false
  | _ => false
def isL (H : Hp) : V → Bool
  | .ref a => match H a with
    | some (.lst _) => true
    | _ => false
  | _ => false
theorem isT_lst {H : Hp} {a : Addr} {xs : List V} (e : H a = some (.lst xs)) : isT H (.ref a) = false := by simp only [isT, e]
theorem isT_tup {H : Hp} {a : Addr} {xs : List V} (e : H a = some (.tup xs)) : isT H (.ref a) = true := by simp only [isT, e]
theorem isL_lst {H : Hp} {a : Addr} {xs : List V} (e : H a = some (.lst xs)) : isL H (.ref a) = true := by simp only [isL, e]
theorem isL_tup {H : Hp} {a : Addr} {xs : List V} (e : H a = some (.tup xs)) : isL H (.ref a) = false := by simp only [isL, e]
def KT (K : PySem.W.Frag) (t : String) (bi bb bt bl : Bool) : Prop := PySem.W.kitOne K (.type t) (.type "int") = some bi ∧ PySem.W.kitOne K (.type t) (.type "bool") = some bb ∧
    PySem.W.kitOne K (.type t) (.type "tuple") = some bt ∧ PySem.W.kitOne K (.type t) (.type "list") = some bl ∧ PySem.W.kitOne K (.type t) (.type "dict") = some false
theorem kt_of {K : PySem.W.Frag} {t : String} {bi bb bt bl : Bool} (h : kitB t "int" = some bi ∧ kitB t "bool" = some bb ∧ kitB t "tuple" = some bt ∧ kitB t "list" = some bl ∧ kitB t "dict" = some false) : KT K t bi bb bt bl := h
theorem kt_non {K : PySem.W.Frag} : KT K "NoneType" false false false false := kt_of (by decide +kernel)
theorem kt_bl {K : PySem.W.Frag} : KT K "bool" true true false false := kt_of (by decide +kernel)
theorem kt_int {K : PySem.W.Frag} : KT K "int" true false false false := kt_of (by decide +kernel)
theorem kt_str {K : PySem.W.Frag} : KT K "str" false false false false := kt_of (by decide +kernel)
theorem kt_lst {K : PySem.W.Frag} : KT K "list" false false false true := kt_of (by decide +kernel)
theorem kt_tup {K : PySem.W.Frag} : KT K "tuple" false false true false := kt_of (by decide +kernel)
/-- a known value's type, and what isinstance says of it -/
theorem Kn.kinds (K : PySem.W.Frag) {H : Hp} {v : V} (k : Kn H v) : ∃ t : String, TyX K H v (.type t) ∧ KT K t (isI v || isB v) (isB v) (isT H v) (isL H v) := by
  cases k with
  | non => exact ⟨_, .base .non, kt_non⟩
  | bl b => exact ⟨_, .base (.bl b), kt_bl⟩
  | int i => exact ⟨_, .base (.int i), kt_int⟩
  | str x => exact ⟨_, .base (.str x), kt_str⟩
  | lst e =>
    rw [isT_lst e, isL_lst e]
    exact ⟨_, .base (.lst e), kt_lst⟩
  | tup e =>
    rw [isT_tup e, isL_tup e]
    exact ⟨_, .base (.tup e), kt_tup⟩
def spWhole : Sp := fun vs H Q _ => ∃ v, vs = [v] ∧ Kn H v ∧ Q (.bl (isI v)) H
def btw : V → Int → Int → Bool
  | .int i, lo, hi => decide (lo ≤ i ∧ i ≤ hi)
  | _, _, _ => false
def spBetween : Sp := fun vs H Q _ => ∃ v lo hi, vs = [v, .int lo, .int hi] ∧ Kn H v ∧ Q (.bl (btw v lo hi)) H
/-- how many items a known tuple has -/
def isTn (H : Hp) (v : V) (n : Int) : Bool := match v with
  | .ref a => match H a with
    | some (.tup xs) => decide ((xs.length : Int) = n)
    | _ => false
  | _ => false
def spTupOf : Sp := fun vs H Q _ => ∃ v n, vs = [v, .int n] ∧ Kn H v ∧ Q (.bl (isTn H v n)) H
section
variable {P : Program} {w : World} {K : PySem.W.Frag} {mg : Str → Option Value} {base : Heap}
/-- a def of the top that may be called by its name; CX: what it may let out -/
structure Cal (CX : CXT) (P : Program) (w : World) (K : PySem.W.Frag) (mg : Str → Option Value) (base : Heap) (k : Nat) (x : Str) (sp : Sp) : Prop where
  ex : ∃ (f : Addr) (fd : FuncData) (ps : List Str), FnOk P w K mg base CX k f fd ps sp ∧ mg x = some (.ref f) ∧ PySem.W.keepIn K (.ref f) = true ∧ Binds K fd ps []
/-- a method of the class at C -/
structure Met (CX : CXT) (P : Program) (w : World) (K : PySem.W.Frag) (mg : Str → Option Value) (base : Heap) (k : Nat) (C : Addr) (m : Str) (sp : Sp) : Prop where
  ex : ∃ (f : Addr) (fd : FuncData) (ps : List Str), Cls K C ∧ Meth K C m f ∧ FnOk P w K mg base CX k f fd ps sp ∧ Binds K fd ps []
/-- a class that may be made by its name -/
structure Mak (CX : CXT) (P : Program) (w : World) (K : PySem.W.Frag) (mg : Str → Option Value) (base : Heap) (k : Nat) (x : Str) (C : Addr) (sp : Sp) : Prop where
  ex : ∃ (f : Addr) (fd : FuncData) (ps : List Str), Mk K C f ∧ FnOk P w K mg base CX k f fd ps sp ∧ mg x = some (.ref C) ∧ Binds K fd ps []
section
variable {X : Cx} {CX : CXT} {k j : Nat} {C : Addr} {x m : Str} {sp : Sp} {p pos apos : Pos} {e o : Expr} {es : List Expr} {ta : TE} {t : TA} {E : XK}
theorem pe_c (c : Cal CX X.prog X.w X.K X.mg X.base k x sp) (hr : Room j X.A) (hx : Passes CX X E) (ha : PA X (e :: es) t) (hk : k ≤ j := by decide) (hg : Gl X x := by rfl) (hdb : (x == ("__debug__" : Str)) = false := by decide)
    (he : starEach (e :: es) X.env = (false, eval e X.env) :: starEach es X.env := by rfl) (hpl : (backTo pos (starEach es X.env)).any (·.1) = false := by rfl) : PE X (.Call (.Name x p) (e :: es) [] pos) (tCall sp [] E t) := by
  obtain ⟨f, fd, ps, F, hm, kp, b⟩ := c.ex
  exact pe_call F (hr.mono hk) hg hm kp b .nil hx ha hdb he hpl
theorem pe_mt (c : Met CX X.prog X.w X.K X.mg X.base k C m sp) (hr : Room j X.A) (hx : Passes CX X E) (he : PE X o ta) (ha : PA X (e :: es) t) (hk : k ≤ j := by decide) {pl : Sem Bool}
    (hst : starEach (e :: es) X.env = (false, eval e X.env) :: starEach es X.env := by rfl) (hpl : (backTo pos (starEach es X.env)).any (·.1) = false := by rfl)
    (hc : eval (.Call (.Attribute o m apos) (e :: es) [] pos) X.env = (do
      let ov ← eval o X.env
      standAt apos.atName
      let (f, first) ← holding [ov] (getMethod ov m pl)
      callWith pos f first (backTo pos (starEach (e :: es) X.env)) (backToKw pos (keywordEach [] X.env))) := by rfl) :
    PE X (.Call (.Attribute o m apos) (e :: es) [] pos) (tMeth C m sp [] E ta t) := by
  obtain ⟨f, fd, ps, cc, hm, F, b⟩ := c.ex
  exact pe_meth he cc hm F (hr.mono hk) b .nil hx ha hst hpl hc
theorem pe_mt0 (c : Met CX X.prog X.w X.K X.mg X.base k C m sp) (hr : Room j X.A) (hx : Passes CX X E) (he : PE X o ta) (hk : k ≤ j := by decide) {pl : Sem Bool}
    (hc : eval (.Call (.Attribute o m apos) [] [] pos) X.env = (do
      let ov ← eval o X.env
      standAt apos.atName
      let (f, first) ← holding [ov] (getMethod ov m pl)
      callWith pos f first (backTo pos (starEach [] X.env)) (backToKw pos (keywordEach [] X.env))) := by rfl) :
    PE X (.Call (.Attribute o m apos) [] [] pos) (tMeth C m sp [] E ta tNil) := by
  obtain ⟨f, fd, ps, cc, hm, F, b⟩ := c.ex
  exact pe_meth0 he cc hm F (hr.mono hk) b .nil hx hc
theorem pe_mk (c : Mak CX X.prog X.w X.K X.mg X.base k x C sp) (hr : Room j X.A) (hx : Passes CX X E) (ha : PA X (e :: es) t) (hk : k + 1 ≤ j := by decide) (hg : Gl X x := by rfl) (hdb : (x == ("__debug__" : Str)) = false := by decide)
    (he : starEach (e :: es) X.env = (false, eval e X.env) :: starEach es X.env := by rfl) (hpl : (backTo pos (starEach es X.env)).any (·.1) = false := by rfl) : PE X (.Call (.Name x p) (e :: es) [] pos) (tMake C sp [] E t) := by
  obtain ⟨f, fd, ps, M, F, hm, b⟩ := c.ex
  exact pe_make M F (hr.mono hk) hg hm b .nil hx ha hdb he hpl
end
/-- the built-in names that the module leaves as they are -/
structure Bi (mg : Str → Option Value) : Prop where
  isi : mg "isinstance" = none
  int : mg "int" = none
  bool : mg "bool" = none
  tuple : mg "tuple" = none
  list : mg "list" = none
  dict : mg "dict" = none
  len : mg "len" = none
  enum : mg "enumerate" = none
  range : mg "range" = none
  abs : mg "abs" = none
  max : mg "max" = none
  min : mg "min" = none
section
variable {X : Cx}
theorem pe_isi {a : Expr} {es : List Expr} {t : TA} {p pos : Pos} (hm : X.mg "isinstance" = none) (ha : PA X (a :: es) t) (hg : Gl X "isinstance" := by rfl)
    (he : starEach (a :: es) X.env = (false, eval a X.env) :: starEach es X.env := by rfl) (hpl : (backTo pos (starEach es X.env)).any (·.1) = false := by rfl) :
    PE X (.Call (.Name "isinstance" p) (a :: es) [] pos) (tCB (rIsi X.K) t) := pe_callB call_isi hg hm PyProof.Rows.boot_isinstance ha (he := he) (hpl := hpl)
theorem pe_ty (n : String) {x : Str} {p : Pos} (hm : X.mg x = none) (hv : bootBuiltins x = some (.type n) := by decide +kernel) (hg : Gl X x := by rfl) (h1 : x ≠ "__name__" := by decide) (h2 : (x == ("__debug__" : Str)) = false := by decide) : PE X (.Name x p) (tC (.ty n)) :=
  pe_bltn (v := .ty n) hg hm hv rfl h1 h2
theorem pe_len {a : Expr} {es : List Expr} {t : TA} {p pos : Pos} (hm : X.mg "len" = none) (ha : PA X (a :: es) t) (hg : Gl X "len" := by rfl) (he : starEach (a :: es) X.env = (false, eval a X.env) :: starEach es X.env := by rfl)
    (hpl : (backTo pos (starEach es X.env)).any (·.1) = false := by rfl) :
    PE X (.Call (.Name "len" p) (a :: es) [] pos) (tCB (fun xs H Q => ∃ p ys, xs = [.ref p] ∧ (SqL X.K H p ys ∨ SqT X.K H p ys) ∧ Q (.int ys.length) H) t) := pe_callB call_len_seq hg hm PySem.boot_len ha (he := he) (hpl := hpl)
theorem pa1 {a : Expr} {ta : TE} (ha : PE X a ta) (hs : starEach (a :: []) X.env = (false, eval a X.env) :: starEach [] X.env := by rfl) : PA X [a] (tCons ta tNil) := pa_cons ha pa_nil hs
end
end
theorem Same.seqT {K : PySem.W.Frag} {H H' : Hp} {a : Addr} {xs : List V} (e : Same H H') (h : SqT K H a xs) : SqT K H' a xs := by
  rcases h with (h | ⟨o, h⟩) | h
  · exact .inl (.inl (e _ _ h))
  · exact .inl (.inr ⟨o, e _ _ h⟩)
  · exact .inr h
theorem same_new {H : Hp} {p : Addr} {o : HO} (n : H p = none) : Same H (upd H p o) := fun b u e => by
  rw [upd_ne (ne_of_none e n)]
  exact e
/-- a list or a tuple of these items -/
def Sq (K : PySem.W.Frag) (H : Hp) (a : Addr) (xs : List V) : Prop := SqL K H a xs ∨ SqT K H a xs
theorem Sq.same {K : PySem.W.Frag} {H H' : Hp} {a : Addr} {xs : List V} (q : Sq K H a xs) (e : Same H H') : Sq K H' a xs := q.imp (fun h => e.seq h) fun h => Same.seqT e h
section
variable {X : Cx} {tg e : Expr} {w1 w2 : TI}
/-- a list or a tuple, item by item -/
def iSqS (K : PySem.W.Frag) (te : TE) : TI := fun σ H R => te σ H fun x H1 => ∃ a xs, x = .ref a ∧ Sq K H1 a xs ∧ ∀ (J : It) (G : Hp → Prop), Walk J xs.length G (YAt xs) → (∀ H', Same H1 H' → G H') → R J H1
open PySem.Spec PyProof.Rows in
theorem pi_sq {te : TE} (he : PE X e te) : PI X tg e (iSqS X.K te) := by
  constructor
  intro pins s σ H R I h
  refine thn (he.run pins s σ H _ I h) fun u s1 hh => ?_
  obtain ⟨v, H1, I1, r1, a, xs, ev, sq, k⟩ := hh
  subst ev
  cases r1
  have near : ∀ b ∈ [s1.heap.objs.size], FpOk X pins H1 b := fun b hb => by
    rw [List.mem_singleton.mp hb]
    exact I1.fpOk (Nat.le_refl _) (I1.hok.fresh (Nat.le_refl _))
  have J1 : ∀ o : Obj, Inv X pins σ H1 { s1 with heap := s1.heap.push o } := fun o => I1.kept (t' := s1.toks) fun b u z => Heap.get?_push_of_some _ z
  rcases sq with hq | hq
  · obtain ⟨its, rv, p1, hz⟩ := I1.list hq
    exact wpAny_pyIter_list p1.isList ⟨s1.heap.objs.size, _, _, _, H1, rfl, J1 _, turn_list a _, ⟨_, Heap.get?_push_size _ rfl, rfl, rfl⟩, near, k _ _ walk_list fun H' z => z.seq hq⟩
  · obtain ⟨its, rv, p2, hz⟩ := I1.tuple hq
    exact wpAny_pyIter_tuple (show s1.heap.IsTuple a its.toArray from p2) ⟨s1.heap.objs.size, _, _, _, H1, rfl, J1 _, turn_tuple a _, ⟨_, Heap.get?_push_size _ rfl, rfl, rfl⟩, near, k _ _ walk_tup fun H' z => Same.seqT z hq⟩
end
/-! ### None or an int -/
def Num (v : V) : Prop := v = .non ∨ ∃ i, v = .int i
def dOf : V → PyData
  | .int i => .int i
  | .bl b => .bool b
  | .str x => .str x
  | _ => .none
theorem eqv_num {a b : V} (ha : Num a) (hb : Num b) : PyData.eqv (dOf a) (dOf b) = decide (a = b) := by
  rcases ha with rfl | ⟨i, rfl⟩ <;> rcases hb with rfl | ⟨j, rfl⟩
  · simp [dOf, PyData.eqv]
  · simp [dOf, PyData.eqv]
  · simp [dOf, PyData.eqv]
  · rw [dec_int]
    simp [dOf, PyData.eqv]
theorem eqvAll_num : ∀ {xs ys : List V}, (∀ v ∈ xs, Num v) → (∀ v ∈ ys, Num v) → PyData.eqvAll (xs.map dOf) (ys.map dOf) = decide (xs = ys)
  | [], [], _, _ => by simp [PyData.eqvAll]
  | [], _ :: _, _, _ => by simp [PyData.eqvAll]
  | _ :: _, [], _, _ => by simp [PyData.eqvAll]
  | x :: xs, y :: ys, hx, hy => by
    have ih := eqvAll_num (fun v m => hx v (List.mem_cons_of_mem _ m)) fun v m => hy v (List.mem_cons_of_mem _ m)
    have e : PyData.eqvAll ((x :: xs).map dOf) ((y :: ys).map dOf) = (PyData.eqv (dOf x) (dOf y) && PyData.eqvAll (xs.map dOf) (ys.map dOf)) := by simp only [List.map_cons, PyData.eqvAll]
    rw [e, ih, eqv_num (hx x List.mem_cons_self) (hy y List.mem_cons_self)]
    by_cases h1 : x = y
    · by_cases h2 : xs = ys
      · simp [h1, h2]
      · simp [h1, h2]
    · simp [h1]
theorem dp_num {K : PySem.W.Frag} {H : Hp} {v : V} (h : Num v) : Dp K H v (dOf v) := by
  rcases h with rfl | ⟨i, rfl⟩
  · exact .non
  · exact .int i
theorem dpAll_num {K : PySem.W.Frag} {H : Hp} : ∀ {xs : List V}, (∀ v ∈ xs, Num v) → DpAll K H xs (xs.map dOf)
  | [], _ => .nil
  | x :: xs, h => .cons (dp_num (h x List.mem_cons_self)) (dpAll_num fun v m => h v (List.mem_cons_of_mem _ m))
theorem lay_num : ∀ {xs : List V}, (∀ v ∈ xs, Num v) → PyData.canLayAll0 (xs.map dOf) = true
  | [], _ => by simp [PyData.canLayAll0]
  | x :: xs, h => by
    have ih := lay_num fun v m => h v (List.mem_cons_of_mem x m)
    rw [List.map_cons, PyData.canLayAll0, ih, Bool.and_true]
    rcases h x List.mem_cons_self with rfl | ⟨i, rfl⟩ <;> simp [dOf, PyData.canLay0]
theorem depth_num : ∀ {xs : List V}, (∀ v ∈ xs, Num v) → PyData.depthAll (xs.map dOf) ≤ 1
  | [], _ => by simp [PyData.depthAll]
  | x :: xs, h => by
    have ih := depth_num fun v m => h v (List.mem_cons_of_mem x m)
    simp only [List.map_cons, PyData.depthAll]
    rcases h x List.mem_cons_self with rfl | ⟨i, rfl⟩ <;> simp only [dOf, PyData.depth] <;> omega
theorem shL_num {xs : List V} (h : ∀ v ∈ xs, Num v) : SeqAt.shaped (.list (xs.map dOf)) = true := by
  have h1 := lay_num h
  have h2 := depth_num h
  show (PyData.canLay0 (.list (xs.map dOf)) && decide (PyData.depth (.list (xs.map dOf)) ≤ 64)) = true
  rw [Bool.and_eq_true]
  refine ⟨by simp only [PyData.canLay0]; exact h1, decide_eq_true ?_⟩
  simp only [PyData.depth]
  omega
theorem shT_num {xs : List V} (h : ∀ v ∈ xs, Num v) : SeqAt.shaped (.tuple (xs.map dOf)) = true := by
  have h1 := lay_num h
  have h2 := depth_num h
  show (PyData.canLay0 (.tuple (xs.map dOf)) && decide (PyData.depth (.tuple (xs.map dOf)) ≤ 64)) = true
  rw [Bool.and_eq_true]
  refine ⟨by simp only [PyData.canLay0]; exact h1, decide_eq_true ?_⟩
  simp only [PyData.depth]
  omega
/-- two lists, or two tuples, of None and ints -/
def rEqN (K : PySem.W.Frag) (neg : Bool) : R2 := fun x y H Q => ∃ a b xs ys, x = .ref a ∧ y = .ref b ∧ ((SqL K H a xs ∧ SqL K H b ys) ∨ (SqT K H a xs ∧ SqT K H b ys)) ∧ (∀ v ∈ xs, Num v) ∧ (∀ v ∈ ys, Num v) ∧ Q (.bl (if neg then !decide (xs = ys) else decide (xs = ys))) H
section
variable {X : Cx}
theorem op_eqN (hu : X.A.units + 64 < cLine) : OpR X (compareOp .Eq) (rEqN X.K false) := by
  intro pins s σ H x y v u Q I rx ry h
  obtain ⟨a, b, xs, ys, rfl, rfl, d, nx, ny, q⟩ := h
  rcases d with ⟨d1, d2⟩ | ⟨d1, d2⟩
  · refine op_eqD hu pins s σ H _ _ v u Q I rx ry ⟨.list (xs.map dOf), .list (ys.map dOf), .lst d1 (dpAll_num nx), .lst d2 (dpAll_num ny), shL_num nx, shL_num ny, ?_⟩
    rw [show PyData.eqv (.list (xs.map dOf)) (.list (ys.map dOf)) = decide (xs = ys) by rw [← eqvAll_num nx ny]; simp only [PyData.eqv]]
    exact q
  · refine op_eqD hu pins s σ H _ _ v u Q I rx ry ⟨.tuple (xs.map dOf), .tuple (ys.map dOf), .tup d1 (dpAll_num nx), .tup d2 (dpAll_num ny), shT_num nx, shT_num ny, ?_⟩
    rw [show PyData.eqv (.tuple (xs.map dOf)) (.tuple (ys.map dOf)) = decide (xs = ys) by rw [← eqvAll_num nx ny]; simp only [PyData.eqv]]
    exact q
theorem op_neN (hu : X.A.units + 64 < cLine) : OpR X (compareOp .NotEq) (rEqN X.K true) := by
  intro pins s σ H x y v u Q I rx ry h
  obtain ⟨a, b, xs, ys, rfl, rfl, d, nx, ny, q⟩ := h
  rcases d with ⟨d1, d2⟩ | ⟨d1, d2⟩
  · refine op_neD hu pins s σ H _ _ v u Q I rx ry ⟨.list (xs.map dOf), .list (ys.map dOf), .lst d1 (dpAll_num nx), .lst d2 (dpAll_num ny), shL_num nx, shL_num ny, ?_⟩
    rw [show PyData.eqv (.list (xs.map dOf)) (.list (ys.map dOf)) = decide (xs = ys) by rw [← eqvAll_num nx ny]; simp only [PyData.eqv]]
    exact q
  · refine op_neD hu pins s σ H _ _ v u Q I rx ry ⟨.tuple (xs.map dOf), .tuple (ys.map dOf), .tup d1 (dpAll_num nx), .tup d2 (dpAll_num ny), shT_num nx, shT_num ny, ?_⟩
    rw [show PyData.eqv (.tuple (xs.map dOf)) (.tuple (ys.map dOf)) = decide (xs = ys) by rw [← eqvAll_num nx ny]; simp only [PyData.eqv]]
    exact q
/-- x == y, x an instance of the class at C with an own __eq__ -/
def rOwnEq (K : PySem.W.Frag) (C : Addr) (sp : Sp) : R2 := fun x y H Q => ∃ a dx fs tb, x = .ref a ∧ H a = some (.ins C dx fs) ∧ TyX K H y tb ∧ PySem.W.notFirst K C tb = true ∧ sp [x, y] H (fun v H' => (∃ b, v = .bl b) ∧ Q v H') E0
theorem op_ownEq {CX : CXT} {n j : Nat} {C f : Addr} {fd : FuncData} {ps : List Str} {sp : Sp} (F : FnOk X.prog X.w X.K X.mg X.base CX n f fd ps sp) (hs : PySem.W.findIn X.K (.ref C) "__eq__" = some (some (.ref f))) (hf : PySem.W.isFn X.K (.ref f) = true) (hb : Binds X.K fd ps [])
    (hx : Passes CX X E0) (hr : Room j X.A) (hj : n ≤ j) : OpR X (compareOp .Eq) (rOwnEq X.K C sp) := by
  intro pins s σ H x y v u Q I rx ry h
  obtain ⟨a, dx, fs, tb, rfl, ha, ty, nf, h⟩ := h
  have hr := hr.mono hj
  cases (show v = Value.ref a from rx)
  obtain ⟨mA, J, _⟩ := ins_get I.hok ha
  obtain ⟨od, J, _⟩ := J.look
  obtain ⟨Pz, Z, p, _⟩ := kit_of I ry ty
  obtain ⟨m, hF⟩ := I.fr
  show wpAny (model X.prog X.w) X.A (richCompare .Eq (.ref a) u) (EP X pins σ Q) X.xe s
  have hu : X.A.units < cLine := by have := hr.un; omega
  refine PySem.W.cmp_K (op := .Eq) (tb := tb) hu hF I.ok.mod.kin J (Z.ty _ _ I.kIn p) nf hs hf ?_
  have hl := F.len _ _ _ _ h
  have r2 : Vals [V.ref a, y] [Value.ref a, u] := .cons rfl (.cons ry .nil)
  refine wpAny_call (codeAny_mono (F.run X.A X.stack s H ⟨[.ref a, u], []⟩ [.ref a, u] [.ref a, y] _ E0 hr I.env0 (by
    have := hb s [.ref a, u] I.kIn (by simpa using hl)
    simpa using this) r2 h) fun r s' hq => ?_)
  cases r with
  | error e => exact hx pins σ H s e s' I hq
  | ok fl =>
    cases fl with
    | ret w =>
      obtain ⟨z, H', I', rz, ⟨b, ez⟩, q⟩ := I.after hq
      subst ez
      cases rz
      exact ⟨.bl b, H', I', rfl, q⟩
    | next => exact False.elim hq
    | brk => exact False.elim hq
    | cont => exact False.elim hq
end
theorem kit_self {K : PySem.W.Frag} {C : Addr} : PySem.W.kitOne K (.ref C) (.ref C) = some true := by
  unfold PySem.W.kitOne
  rw [if_pos (by simp)]

theorem hu64 {A : Around} {k : Nat} (hr : Room k A) : A.units + 64 < cLine := by have := hr.un; omega
theorem hu65 {A : Around} {k : Nat} (hr : Room k A) : A.units + 65 < cLine := by have := hr.un; omega
theorem small2000 {n : Nat} (h : n ≤ 2100) : n < sizeLine := Nat.lt_of_le_of_lt h (by decide)
theorem small10 {n : Nat} (h : n ≤ 10000) : n < sizeLine := Nat.lt_of_le_of_lt h (by decide)
theorem num_kn {H : Hp} {v : V} (h : Num v) : Kn H v := by
  rcases h with rfl | ⟨i, rfl⟩
  · exact .non
  · exact .int i

section
variable {X : Cx} (K : PySem.W.Frag)
theorem pe_fldK (hK : X.K = K) {e : Expr} {ta : TE} {f : Str} {pos : Pos} (he : PE X e ta) (hb : attributeBase e f X.env (eval e X.env) = eval e X.env := by rfl) : PE X (.Attribute e f pos) (tFld K ta f) := by
  subst hK
  exact pe_fld he hb
theorem ix_tupK (hK : X.K = K) : IxR X (rIxT K) := by
  subst hK
  exact ix_tup
theorem ix_listK (hK : X.K = K) : IxR X (rIxL K) := by
  subst hK
  exact ix_list
end

theorem paired_last {α β : Type} {F : α → β → Prop} : ∀ {ts : List α} {ps : List β} {p : β}, Paired F ts (ps ++ [p]) → ∃ us v, ts = us ++ [v] ∧ Paired F us ps ∧ F v p
  | _, [], _, .cons h .nil => ⟨[], _, rfl, .nil, h⟩
  | _, _ :: _, _, .cons h t =>
    let ⟨us, v, e, q1, q2⟩ := paired_last t
    ⟨_ :: us, v, by rw [e]; rfl, .cons h q1, q2⟩
section
variable {X : Cx} {tg e : Expr}
/-- a list or a tuple, item by item; it stays where its own object does -/
def iSqA (K : PySem.W.Frag) (te : TE) : TI := fun σ H R => te σ H fun x H1 => ∃ a xs, x = .ref a ∧ Sq K H1 a xs ∧ ∀ (J : It) (G : Hp → Prop), Walk J xs.length G (YAt xs) → (∀ H', (∀ o, H1 a = some o → H' a = some o) → G H') → R J H1
theorem sqL_at {K : PySem.W.Frag} {H H' : Hp} {a : Addr} {xs : List V} (h : SqL K H a xs) (e : ∀ o, H a = some o → H' a = some o) : SqL K H' a xs := by
  rcases h with (h | ⟨o, h⟩) | h
  · exact .inl (.inl (e _ h))
  · exact .inl (.inr ⟨o, e _ h⟩)
  · exact .inr h
theorem sqT_at {K : PySem.W.Frag} {H H' : Hp} {a : Addr} {xs : List V} (h : SqT K H a xs) (e : ∀ o, H a = some o → H' a = some o) : SqT K H' a xs := by
  rcases h with (h | ⟨o, h⟩) | h
  · exact .inl (.inl (e _ h))
  · exact .inl (.inr ⟨o, e _ h⟩)
  · exact .inr h
open PySem.Spec PyProof.Rows in
theorem pi_sqA {te : TE} (he : PE X e te) : PI X tg e (iSqA X.K te) := by
  constructor
  intro pins s σ H R I h
  refine thn (he.run pins s σ H _ I h) fun u s1 hh => ?_
  obtain ⟨v, H1, I1, r1, a, xs, ev, sq, k⟩ := hh
  subst ev
  cases r1
  have near : ∀ b ∈ [s1.heap.objs.size], FpOk X pins H1 b := fun b hb => by
    rw [List.mem_singleton.mp hb]
    exact I1.fpOk (Nat.le_refl _) (I1.hok.fresh (Nat.le_refl _))
  have J1 : ∀ o : Obj, Inv X pins σ H1 { s1 with heap := s1.heap.push o } := fun o => I1.kept (t' := s1.toks) fun b u z => Heap.get?_push_of_some _ z
  rcases sq with hq | hq
  · obtain ⟨its, rv, p1, hz⟩ := I1.list hq
    exact wpAny_pyIter_list p1.isList ⟨s1.heap.objs.size, _, _, _, H1, rfl, J1 _, turn_list a _, ⟨_, Heap.get?_push_size _ rfl, rfl, rfl⟩, near, k _ _ walk_list fun H' z => sqL_at hq z⟩
  · obtain ⟨its, rv, p2, hz⟩ := I1.tuple hq
    exact wpAny_pyIter_tuple (show s1.heap.IsTuple a its.toArray from p2) ⟨s1.heap.objs.size, _, _, _, H1, rfl, J1 _, turn_tuple a _, ⟨_, Heap.get?_push_size _ rfl, rfl, rfl⟩, near, k _ _ walk_tup fun H' z => sqT_at hq z⟩
end

/-! ### the law's pen -/
def penK (cl : Addr) (k left : Int) : List (Key × V) := [(.inr "cells", .ref cl), (.inr "opened", .int k), (.inr "left", .int left)]
theorem valV_eq {k : Key} {v : V} {r : List (Key × V)} : valV ((k, v) :: r) k = some v := by
  unfold valV
  rw [List.find?_cons_of_pos (by simp)]
  rfl
theorem valV_ne {k j : Key} {v : V} {r : List (Key × V)} (h : ¬ j = k) : valV ((j, v) :: r) k = valV r k := by
  unfold valV
  rw [List.find?_cons_of_neg (by simpa using h)]
theorem k12 : ¬ (Sum.inr ("cells" : Str) : Key) = Sum.inr ("opened" : Str) := by decide +kernel
theorem k13 : ¬ (Sum.inr ("cells" : Str) : Key) = Sum.inr ("left" : Str) := by decide +kernel
theorem k23 : ¬ (Sum.inr ("opened" : Str) : Key) = Sum.inr ("left" : Str) := by decide +kernel
theorem k32 : ¬ (Sum.inr ("left" : Str) : Key) = Sum.inr ("opened" : Str) := by decide +kernel
theorem pen_cells (cl : Addr) (k l : Int) : valV (penK cl k l) (.inr "cells") = some (.ref cl) := valV_eq
theorem pen_opened (cl : Addr) (k l : Int) : valV (penK cl k l) (.inr "opened") = some (.int k) := (valV_ne k12).trans valV_eq
theorem pen_left (cl : Addr) (k l : Int) : valV (penK cl k l) (.inr "left") = some (.int l) := (valV_ne k13).trans ((valV_ne k23).trans valV_eq)
theorem put_opened (cl : Addr) (k l j : Int) : putK (penK cl k l) (.inr "opened") (.int j) = penK cl j l := by
  unfold putK penK
  rw [if_pos (by simp)]
  simp only [List.map_cons, List.map_nil, k12, k32, if_false, if_true]
theorem put_left (cl : Addr) (k l j : Int) : putK (penK cl k l) (.inr "left") (.int j) = penK cl k j := by
  unfold putK penK
  rw [if_pos (by simp)]
  simp only [List.map_cons, List.map_nil, k13, k23, if_false, if_true]
/-- at pn: the pen, at most b cells opened -/
def Pen (H : Hp) (pn cl : Addr) (b : Nat) : Prop := ∃ (k : Nat) (l : Int) (cs : List Int), H pn = some (.dK (penK cl (k : Nat) l)) ∧ H cl = some (.lst (cs.map V.int)) ∧ k ≤ b ∧ cs.length ≤ 63
/-- all but what is at pn is as it was -/
def But (pn : Addr) (H H' : Hp) : Prop := ∀ b o, b ≠ pn → H b = some o → H' b = some o
theorem But.refl {pn : Addr} {H : Hp} : But pn H H := fun _ _ _ h => h
theorem But.trans {pn : Addr} {H H1 H2 : Hp} (a : But pn H H1) (b : But pn H1 H2) : But pn H H2 := fun c o n h => b c o n (a c o n h)
def spDraw : Sp := fun vs H Q _ => ∃ (pn cl : Addr) (m : Int) (b : Nat), vs = [.ref pn, .int m] ∧ Pen H pn cl b ∧ b ≤ 1000000 ∧ 0 < m ∧ m < 1073741824 ∧ ∀ (r : Int) H', 0 ≤ r → r < m → But pn H H' → Pen H' pn cl (b + 1) → Q (.int r) H'
def spPen (K : PySem.W.Frag) : Sp := fun vs H Q _ => ∃ (a : Addr) (ns : List Int), vs = [.ref a] ∧ SqL K H a (ns.map V.int) ∧ ∀ pn cl H', H pn = none → H cl = none → Same H H' → Pen H' pn cl 0 → Q (.ref pn) H'
section
variable {P : Program} {w : World} {K : PySem.W.Frag} {mg : Str → Option Value} {base : Heap}
theorem scPen : FnScope ["_law_script"] ["_law_script"] (defScope sPen) := ⟨rfl, rfl, rfl, by decide +kernel, rfl, by decide +kernel, by decide +kernel⟩
theorem ok_pen {f : Addr} {fd : FuncData} (F : Fun K "_law_pen" "_law_pen" sPen f fd) (B : Bi mg) : FnOk P w K mg base CX0 1 f fd ["_law_script"] (spPen K) := by
  refine F.ok scPen (fun vs H Q E h => ?_) (fun cdv A outer s H vs Q E hr h => ?_)
  · obtain ⟨a, ns, rfl, _⟩ := h
    rfl
  · obtain ⟨a, ns, rfl, hs, q⟩ := h
    refine ⟨_, pss_one (ps_ret (pe_disp (pps_cons pe_str (pe_callTy call_list_of rfl B.list (by decide +kernel) (pa_cons (pe_slice sl_list (pv 0) po_none (po_some pe_int)) pa_nil)) (pps_cons pe_str pe_int (pps_cons pe_str pe_int pps_nil))) rfl rfl (by simp) (by decide))), ?_⟩
    intro p np
    have hs2 := (same_new (o := .dK []) np).seq hs
    refine ⟨_, rfl, 63, rfl, a, _, rfl, hs2, fun c nc => ⟨c, _, rfl, .inl (SqL.of upd_same), fun l nl => ?_⟩⟩
    have npl : p ≠ l := ne_of_none ((upd_ne (ne_of_none upd_same nc)).trans upd_same) nl
    have npc : p ≠ c := ne_of_none upd_same nc
    have ec : cutV (ns.map V.int) none (some 63) = (ns.take 63).map V.int := by
      unfold cutV
      rw [show ((63 : Int)) = ((63 : Nat) : Int) from rfl, HT.sIx_nat, HT.sIx_none, List.drop_zero, Nat.sub_zero, List.length_map, ← List.map_take]
      congr 1
      by_cases c : 63 ≤ ns.length
      · rw [Nat.min_eq_left c]
      · rw [Nat.min_eq_right (by omega), List.take_of_length_le (Nat.le_refl _), List.take_of_length_le (by omega)]
    refine ⟨(upd_ne npl).trans ((upd_ne npc).trans upd_same), [(.inr "cells", .ref l), (.inr "opened", .int 0), (.inr "left", .int 0)], rfl, (by show 3 ≤ 15; decide), ?_⟩
    have em : mergeK [] [((.inr ("cells" : Str) : Key), V.ref l), (.inr ("opened" : Str), .int 0), (.inr ("left" : Str), .int 0)] = penK l ((0 : Nat) : Int) 0 := by
      unfold mergeK penK
      simp only [List.foldl_cons, List.foldl_nil]
      have h1 : valV ([(.inr ("cells" : Str), V.ref l)] : List (Key × V)) (.inr ("opened" : Str)) = none := (valV_ne k12).trans rfl
      have h2 : valV ([(.inr ("cells" : Str), V.ref l), (.inr ("opened" : Str), V.int 0)] : List (Key × V)) (.inr ("left" : Str)) = none := (valV_ne k13).trans ((valV_ne k23).trans rfl)
      rw [show putK ([] : List (Key × V)) (.inr ("cells" : Str)) (.ref l) = [(.inr ("cells" : Str), .ref l)] from rfl, putK_new _ h1]
      simp only [List.cons_append, List.nil_append]
      rw [putK_new _ h2]
      rfl
    rw [em]
    have nl0 : H l = none := by
      cases z : H l with
      | none => rfl
      | some o =>
        have z1 : upd H p (.dK []) l = some o := (upd_ne (ne_of_none z np)).trans z
        rw [(upd_ne (ne_of_none z1 nc)).trans z1] at nl
        cases nl
    refine q p l _ np nl0 (fun b o z => ?_) ⟨0, 0, ns.take 63, upd_same, ?_, Nat.le_refl _, by rw [List.length_take]; omega⟩
    · have nb : b ≠ p := ne_of_none z np
      have z1 : upd H p (.dK []) b = some o := (upd_ne nb).trans z
      have nc2 : b ≠ c := ne_of_none z1 nc
      have z2 : upd (upd H p (.dK [])) c (.lst (cutV (ns.map V.int) none (some 63))) b = some o := (upd_ne nc2).trans z1
      rw [upd_ne nb, upd_ne (ne_of_none z2 nl)]
      exact z2
    · rw [upd_ne (Ne.symm npl), upd_same, ec]
theorem getL {H : Hp} {pn cl : Addr} {k l : Int} (hp : H pn = some (.dK (penK cl k l))) : DGet H pn (.str "left") (some (.int l)) := by
  have z := DGet.k (k := .inr ("left" : Str)) hp
  rw [pen_left] at z
  exact z
theorem getO {H : Hp} {pn cl : Addr} {k l : Int} (hp : H pn = some (.dK (penK cl k l))) : DGet H pn (.str "opened") (some (.int k)) := by
  have z := DGet.k (k := .inr ("opened" : Str)) hp
  rw [pen_opened] at z
  exact z
theorem getC {H : Hp} {pn cl : Addr} {k l : Int} (hp : H pn = some (.dK (penK cl k l))) : DGet H pn (.str "cells") (some (.ref cl)) := by
  have z := DGet.k (k := .inr ("cells" : Str)) hp
  rw [pen_cells] at z
  exact z
theorem putL {H : Hp} {pn cl : Addr} {k l : Int} (j : Int) (hp : H pn = some (.dK (penK cl k l))) : DPut H pn (.str "left") (.int j) (upd H pn (.dK (penK cl k j))) := by
  have z := DPut.k (k := .inr ("left" : Str)) (v := .int j) hp (by show 3 < sizeLine; decide)
  rw [put_left] at z
  exact z
theorem putO' {H : Hp} {pn cl : Addr} {k l : Int} (j : Int) (hp : H pn = some (.dK (penK cl k l))) : DPut H pn (.str "opened") (.int j) (upd H pn (.dK (penK cl j l))) := by
  have z := DPut.k (k := .inr ("opened" : Str)) (v := .int j) hp (by show 3 < sizeLine; decide)
  rw [put_opened] at z
  exact z
theorem scDraw : FnScope ["_law_pen_here", "_law_many", "_law_digit", "_law_k", "_law_told_cells", "_law_cell", "_law_mix"] ["_law_pen_here", "_law_many"] (defScope sDraw) := ⟨rfl, rfl, rfl, by decide +kernel, rfl, by decide +kernel, by decide +kernel⟩
theorem mix_lt (x : Int) {m : Int} (h : 0 < m) : 0 ≤ x % m ∧ x % m < m := ⟨Int.emod_nonneg _ (by omega), Int.emod_lt_of_pos _ h⟩
section
variable {X : Cx}
theorem pe_int1 {a : Expr} {es : List Expr} {t : TA} {p pos : Pos} (hm : X.mg "int" = none) (ha : PA X (a :: es) t) (hg : Gl X "int" := by rfl) (he : starEach (a :: es) X.env = (false, eval a X.env) :: starEach es X.env := by rfl)
    (hpl : (backTo pos (starEach es X.env)).any (·.1) = false := by rfl) : PE X (.Call (.Name "int" p) (a :: es) [] pos) (tCB (fun xs H Q => (∃ i, xs = [.int i] ∧ Q (.int i) H) ∨ ∃ k, xs = [.bl k] ∧ Q (.int (if k then 1 else 0)) H) t) :=
  pe_callTy call_int1 hg hm (by decide +kernel) ha (he := he) (hpl := hpl)
theorem pe_abs {a : Expr} {es : List Expr} {t : TA} {p pos : Pos} (hm : X.mg "abs" = none) (ha : PA X (a :: es) t) (hg : Gl X "abs" := by rfl) (he : starEach (a :: es) X.env = (false, eval a X.env) :: starEach es X.env := by rfl)
    (hpl : (backTo pos (starEach es X.env)).any (·.1) = false := by rfl) : PE X (.Call (.Name "abs" p) (a :: es) [] pos) (tCB (fun xs H Q => ∃ i, xs = [.int i] ∧ Q (.int (if i < 0 then -i else i)) H) t) :=
  pe_callB call_abs hg hm (by decide +kernel) ha (he := he) (hpl := hpl)
end
theorem ok_draw {f : Addr} {fd : FuncData} (F : Fun K "_law_draw" "_law_draw" sDraw f fd) (B : Bi mg) : FnOk P w K mg base CX0 1 f fd ["_law_pen_here", "_law_many"] spDraw := by
  refine F.ok scDraw (fun vs H Q E h => ?_) (fun cdv A outer s H vs Q E hr h => ?_)
  · obtain ⟨pn, cl, m, b, rfl, _⟩ := h
    rfl
  · obtain ⟨pn, cl, m, b, rfl, ⟨k, l, cs, hp, hc, hk, lc⟩, hb, m0, m1, q⟩ := h
    refine ⟨_, pss_cons (ps_if (pt_cmpR op_gt (pe_dget (hu_of hr) (pv 0) pe_str (fun _ _ => rfl)) pe_int (nomark _))
        (pss_cons (ps_set (i := 2) scDraw.nd rfl (Or.inl rfl) (pe_op op_mod (pe_int1 B.int (pa_cons (pe_dget (hu_of hr) (pv 0) pe_str (fun _ _ => rfl)) pa_nil)) (pv 1)))
        (pss_cons (ps_dput (hu_of hr) (pv 0) pe_str (pe_op op_fdiv (pe_dget (hu_of hr) (pv 0) pe_str (fun _ _ => rfl)) (pv 1)) rfl) (pss_one (ps_ret (pv 2))))) pss_nil)
      (pss_cons (ps_par (i := 3) (j := 4) rfl scDraw.nd rfl rfl (by decide) rfl rfl (pa_cons (pe_dget (hu_of hr) (pv 0) pe_str (fun _ _ => rfl)) (pa_cons (pe_dget (hu_of hr) (pv 0) pe_str (fun _ _ => rfl)) pa_nil)) rfl)
      (pss_cons (ps_dput (hu_of hr) (pv 0) pe_str (pe_op op_add (pv 3) pe_int) rfl)
      (pss_cons (ps_if (pt_cmpR (op_eqN (hu64 hr)) (pv 4) (pe_lst pa_nil) (nomark _)) (pss_one (ps_ret (pe_op op_mod (pe_int1 B.int (pa_cons (pe_op op_add (pe_op op_mul pe_int (pv 3)) pe_int) pa_nil)) (pv 1)))) pss_nil)
      (pss_cons (ps_set (i := 5) scDraw.nd rfl (Or.inl rfl) (pe_ix ix_list (pv 4) (pe_op op_mod (pe_int1 B.int (pa_cons (pv 3) pa_nil)) (pe_len B.len (pa_cons (pv 4) pa_nil))) (fun _ _ => rfl)))
      (pss_cons (ps_if (PW.pt (pw_and (pt_cmpR op_lt (pv 3) (pe_len B.len (pa_cons (pv 4) pa_nil)) (nomark _)) (pw_and1 (pt_cmpR op_ge (pe_abs B.abs (pa_cons (pv 5) pa_nil)) (pe_op op_pow pe_int pe_int) (nomark _)))))
        (pss_cons (ps_dput (hu_of hr) (pv 0) pe_str (pe_op op_fdiv (pe_op op_sub (pe_abs B.abs (pa_cons (pv 5) pa_nil)) (pe_op op_pow pe_int pe_int)) (pv 1)) rfl)
        (pss_one (ps_ret (pe_op op_mod (pe_int1 B.int (pa_cons (pe_op op_sub (pe_abs B.abs (pa_cons (pv 5) pa_nil)) (pe_op op_pow pe_int pe_int)) pa_nil)) (pv 1))))) pss_nil)
      (pss_cons (ps_set (i := 6) scDraw.nd rfl (Or.inl rfl) (pe_op op_mod (pe_int1 B.int (pa_cons (pe_op op_add (pe_op op_add (pe_op op_add (pe_op op_mul (pe_op op_mod (pe_int1 B.int (pa_cons (pv 5) pa_nil)) pe_int) pe_int) (pe_op op_mul (pe_op op_mul pe_int (pv 3)) (pv 3))) (pe_op op_mul pe_int (pv 3))) pe_int) pa_nil)) pe_int))
      (pss_cons (ps_set (i := 6) scDraw.nd rfl (Or.inl rfl) (pe_op op_mod (pe_int1 B.int (pa_cons (pe_op op_add (pe_op op_add (pe_op op_mul (pv 6) (pv 6)) (pe_op op_mul pe_int (pv 6))) (pe_op op_mul pe_int (pv 3))) pa_nil)) pe_int))
      (pss_one (ps_ret (pe_op op_mod (pe_int1 B.int (pa_cons (pe_op op_fdiv (pe_op op_mod (pe_int1 B.int (pa_cons (pe_op op_mul (pv 6) (pe_op op_add (pv 6) pe_int)) pa_nil)) pe_int) pe_int) pa_nil)) (pv 1))))))))))), ?_⟩
    have ncp : cl ≠ pn := ne_of hc hp (fun z => by cases z)
    refine ⟨_, rfl, pn, _, rfl, getL hp, _, _, rfl, rfl, _, rfl, ?_⟩
    refine ite2 (fun _ => ?_) fun _ => ?_
    · refine ⟨_, rfl, pn, _, rfl, getL hp, .inl ⟨_, rfl, _, rfl, _, _, rfl, rfl, m0, ?_⟩⟩
      refine ⟨_, rfl, pn, _, rfl, getL hp, _, rfl, _, _, rfl, rfl, ⟨m0, m1⟩, _, rfl, pn, _, rfl, putL _ hp, ?_⟩
      exact ⟨_, rfl, q _ _ (mix_lt _ m0).1 (mix_lt _ m0).2 (fun c o n z => (upd_ne n).trans z) ⟨k, _, cs, upd_same, (upd_ne ncp).trans hc, Nat.le_succ_of_le hk, lc⟩⟩
    · refine ⟨_, rfl, pn, _, rfl, getO hp, _, rfl, pn, _, rfl, getC hp, _, _, rfl, ?_⟩
      refine ⟨_, rfl, _, _, rfl, rfl, _, rfl, pn, _, rfl, putO' _ hp, ?_⟩
      have ek : ((k : Nat) : Int) + 1 = ((k + 1 : Nat) : Int) := by omega
      rw [ek]
      generalize eH2 : upd H pn (.dK (penK cl ((k + 1 : Nat) : Int) l)) = H2
      have hp2 : H2 pn = some (.dK (penK cl ((k + 1 : Nat) : Int) l)) := by rw [← eH2]; exact upd_same
      have hc2 : H2 cl = some (.lst (cs.map V.int)) := by rw [← eH2]; exact (upd_ne ncp).trans hc
      have e2 : But pn H H2 := fun c o n z => by rw [← eH2]; exact (upd_ne n).trans z
      refine ⟨_, rfl, Nat.zero_le _, fun e ne => ?_⟩
      have hp3 : upd H2 e (.lst []) pn = some (.dK (penK cl ((k + 1 : Nat) : Int) l)) := (upd_ne (ne_of_none hp2 ne)).trans hp2
      have hc3 : upd H2 e (.lst []) cl = some (.lst (cs.map V.int)) := (upd_ne (ne_of_none hc2 ne)).trans hc2
      have e3 : But pn H (upd H2 e (.lst [])) := fun c o n z => (upd_ne (ne_of_none (e2 c o n z) ne)).trans (e2 c o n z)
      have he3 : upd H2 e (.lst []) e = some (.lst []) := upd_same
      generalize upd H2 e (.lst []) = H3 at hp3 hc3 e3 he3
      have fin : ∀ (r : Int) (H4 : Hp) (l2 : Int), 0 ≤ r → r < m → H4 = H3 ∨ H4 = upd H3 pn (.dK (penK cl ((k + 1 : Nat) : Int) l2)) → Q (.int r) H4 := fun r H4 l2 r0 r1 e4 => by
        rcases e4 with rfl | rfl
        · exact q r _ r0 r1 e3 ⟨k + 1, l, cs, hp3, hc3, Nat.succ_le_succ hk, lc⟩
        · exact q r _ r0 r1 (fun c o n z => (upd_ne n).trans (e3 c o n z)) ⟨k + 1, l2, cs, upd_same, (upd_ne ncp).trans hc3, Nat.succ_le_succ hk, lc⟩
      have num : ∀ v ∈ cs.map V.int, Num v := fun v hv => by
        obtain ⟨i, _, rfl⟩ := List.mem_map.mp hv
        exact .inr ⟨i, rfl⟩
      refine ⟨cl, e, _, [], rfl, rfl, .inl ⟨SqL.of hc3, SqL.of he3⟩, num, (fun v hv => absurd hv (by simp)), _, rfl, ?_⟩
      refine ite2 (fun c => ?_) fun c => ?_
      · refine ⟨_, rfl, _, _, rfl, rfl, .inl ⟨by decide, by decide⟩, ?_⟩
        refine ⟨_, _, rfl, rfl, .inl ⟨_, rfl, _, rfl, _, _, rfl, rfl, m0, ?_⟩⟩
        exact fin _ _ 0 (mix_lt _ m0).1 (mix_lt _ m0).2 (.inl rfl)
      have cne : cs ≠ [] := fun z => by
        rw [z] at c
        exact c (by decide)
      have lpos : 0 < cs.length := List.length_pos_iff.mpr cne
      refine ⟨_, rfl, _, rfl, .inl ⟨_, rfl, _, rfl, cl, _, rfl, .inl (SqL.of hc3), _, _, rfl, rfl, (by rw [List.length_map]; omega), cl, _, _, .int (cs[k % cs.length]'(Nat.mod_lt _ lpos)), rfl, rfl, SqL.of hc3, ?_, ?_⟩⟩
      · rw [List.length_map]
        have em : ((k : Nat) : Int) % ((cs.length : Nat) : Int) = ((k % cs.length : Nat) : Int) := by omega
        rw [em]
        refine atI_nat ?_
        rw [List.getElem?_map, List.getElem?_eq_getElem (Nat.mod_lt _ lpos)]
        rfl
      generalize cs[k % cs.length]'(Nat.mod_lt _ lpos) = cell
      refine ⟨_, rfl, _, rfl, cl, _, rfl, .inl (SqL.of hc3), _, _, rfl, rfl, _, rfl, ?_⟩
      refine ite2 (fun _ => ?_) fun _ => iteF ?_
      refine ⟨_, rfl, _, rfl, _, _, rfl, rfl, ⟨by decide, by decide, by decide⟩, _, _, rfl, rfl, _, rfl, ?_⟩
      refine ite2 (fun _ => ?_) fun _ => ?_
      refine ⟨_, rfl, _, rfl, _, _, rfl, rfl, ⟨by decide, by decide, by decide⟩, _, _, rfl, rfl, _, rfl, _, _, rfl, rfl, ⟨m0, m1⟩, _, rfl, pn, _, rfl, putL _ hp3, ?_⟩
      refine ⟨_, rfl, _, rfl, _, _, rfl, rfl, ⟨by decide, by decide, by decide⟩, _, _, rfl, rfl, .inl ⟨_, rfl, _, rfl, _, _, rfl, rfl, m0, ?_⟩⟩
      exact fin _ _ _ (mix_lt _ m0).1 (mix_lt _ m0).2 (.inr rfl)
      all_goals
        refine ⟨_, rfl, .inl ⟨_, rfl, _, _, rfl, rfl, (by show (0 : Int) < _; decide), _, _, rfl, rfl, .inr ⟨by decide, by decide⟩, ?_⟩⟩
        refine ⟨_, rfl, _, _, rfl, rfl, .inl ⟨by decide, by decide⟩, _, rfl, _, _, rfl, rfl, .inr ⟨by omega, by omega⟩, _, _, rfl, rfl, ?_⟩
        refine ⟨_, rfl, _, _, rfl, rfl, .inl ⟨by decide, by decide⟩, _, _, rfl, rfl, _, _, rfl, rfl, .inl ⟨_, rfl, _, _, rfl, rfl, (by show (0 : Int) < _; decide), ?_⟩⟩
        generalize emx : (cell % 4294965361 * 41903 + 27011 * ((k : Nat) : Int) * ((k : Nat) : Int) + 853 * ((k : Nat) : Int) + 71) % 4294965383 = mx
        have b1 : 0 ≤ mx ∧ mx < 4294965383 := by rw [← emx]; exact mix_lt _ (by decide)
        refine ⟨_, rfl, _, rfl, _, _, rfl, rfl, .inl ⟨by omega, by omega⟩, ?_⟩
        refine ⟨_, rfl, _, _, rfl, rfl, .inl ⟨by decide, by decide⟩, _, _, rfl, rfl, _, rfl, _, _, rfl, rfl, .inl ⟨by decide, by decide⟩, _, _, rfl, rfl, .inl ⟨_, rfl, _, _, rfl, rfl, (by show (0 : Int) < _; decide), ?_⟩⟩
        generalize emy : (mx * mx + 40213 * mx + 37 * ((k : Nat) : Int)) % 4294965337 = my
        have b2 : 0 ≤ my ∧ my < 4294965337 := by rw [← emy]; exact mix_lt _ (by decide)
        refine ⟨_, rfl, _, rfl, _, _, rfl, rfl, _, _, rfl, rfl, .inl ⟨by omega, by omega⟩, .inl ⟨_, rfl, _, _, rfl, rfl, (by show (0 : Int) < _; decide), _, _, rfl, rfl, ⟨by decide, by decide⟩, .inl ⟨_, rfl, _, rfl, _, _, rfl, rfl, m0, ?_⟩⟩⟩
        exact fin _ _ 0 (mix_lt _ m0).1 (mix_lt _ m0).2 (.inl rfl)
end
def spPick : Sp := fun vs H Q _ => ∃ (pn cl s : Addr) (xs : List V) (b : Nat), vs = [.ref pn, .ref s] ∧ Pen H pn cl b ∧ b ≤ 1000000 ∧ H s = some (.lst xs) ∧ 0 < xs.length ∧ xs.length ≤ 1000 ∧ ∀ x H', x ∈ xs → But pn H H' → Pen H' pn cl (b + 1) → Q x H'
theorem Pen.mono {H : Hp} {pn cl : Addr} {b c : Nat} (h : Pen H pn cl b) (e : b ≤ c) : Pen H pn cl c := let ⟨k, l, cs, h1, h2, h3, h4⟩ := h; ⟨k, l, cs, h1, h2, Nat.le_trans h3 e, h4⟩
theorem Pen.same {H H' : Hp} {pn cl : Addr} {b : Nat} (h : Pen H pn cl b) (e : Same H H') : Pen H' pn cl b := let ⟨k, l, cs, h1, h2, h3, h4⟩ := h; ⟨k, l, cs, e _ _ h1, e _ _ h2, h3, h4⟩
theorem Pen.ne {H : Hp} {pn cl a : Addr} {b : Nat} {o : HO} (h : Pen H pn cl b) (ha : H a = some o) (d : ∀ kvs, o ≠ .dK kvs) : a ≠ pn := let ⟨_, _, _, h1, _⟩ := h; ne_of ha h1 (d _)
/-- the pen stays where another object is written -/
theorem Pen.upd {H : Hp} {pn cl a : Addr} {b : Nat} {o : HO} (h : Pen H pn cl b) (n1 : pn ≠ a) (n2 : cl ≠ a) : Pen (L2.upd H a o) pn cl b := let ⟨k, l, cs, h1, h2, h3, h4⟩ := h; ⟨k, l, cs, (upd_ne n1).trans h1, (upd_ne n2).trans h2, h3, h4⟩
theorem Pen.off {H : Hp} {pn cl a : Addr} {b : Nat} (h : Pen H pn cl b) (n : H a = none) : pn ≠ a ∧ cl ≠ a := let ⟨_, _, _, h1, h2, _⟩ := h; ⟨ne_of_none h1 n, ne_of_none h2 n⟩
theorem same_but {pn : Addr} {H H' : Hp} (e : Same H H') : But pn H H' := fun b o _ h => e b o h
section
variable {P : Program} {w : World} {K : PySem.W.Frag} {mg : Str → Option Value} {base : Heap}
theorem scPick : FnScope ["_law_pen_here", "_law_some"] ["_law_pen_here", "_law_some"] (defScope sPick) := ⟨rfl, rfl, rfl, by decide +kernel, rfl, by decide +kernel, by decide +kernel⟩
theorem ok_pick {f : Addr} {fd : FuncData} (F : Fun K "_law_pick" "_law_pick" sPick f fd) (B : Bi mg) (cD : Cal CX0 P w K mg base 1 "_law_draw" spDraw) : FnOk P w K mg base CX0 2 f fd ["_law_pen_here", "_law_some"] spPick := by
  refine F.ok scPick (fun vs H Q E h => ?_) (fun cdv A outer s H vs Q E hr h => ?_)
  · obtain ⟨pn, cl, s, xs, b, rfl, _⟩ := h
    rfl
  · obtain ⟨pn, cl, s0, xs, b, rfl, pen, hb, hs, l0, l1, q⟩ := h
    refine ⟨_, pss_one (ps_ret (pe_ix ix_list (pv 1) (pe_c cD hr pass0 (pa_cons (pv 0) (pa_cons (pe_len B.len (pa_cons (pv 1) pa_nil)) pa_nil))) (fun _ _ => rfl))), ?_⟩
    refine ⟨_, rfl, _, rfl, _, rfl, s0, xs, rfl, .inl (SqL.of hs), pn, cl, _, b, rfl, pen, hb, by omega, by omega, fun r H' r0 r1 e pen2 => ?_⟩
    obtain ⟨r, rfl⟩ := Int.eq_ofNat_of_zero_le r0
    have lt : r < xs.length := by omega
    exact ⟨s0, xs, _, xs[r], rfl, rfl, SqL.of (e _ _ (pen.ne hs fun _ z => by cases z) hs), atI_nat (List.getElem?_eq_getElem lt), q _ _ (List.getElem_mem lt) e pen2⟩
end
def Flat : V → Prop
  | .non | .bl _ | .int _ => True
  | .str x => PyData.strOk x = true
  | _ => False
theorem dp_flat {K : PySem.W.Frag} {H : Hp} {v : V} (h : Flat v) : Dp K H v (dOf v) := by
  cases v with
  | non => exact .non
  | bl b => exact .bl b
  | int i => exact .int i
  | str x => exact .str x
  | _ => exact h.elim
theorem dpAll_flat {K : PySem.W.Frag} {H : Hp} : ∀ {xs : List V}, (∀ v ∈ xs, Flat v) → DpAll K H xs (xs.map dOf)
  | [], _ => .nil
  | x :: xs, h => .cons (dp_flat (h x List.mem_cons_self)) (dpAll_flat fun v m => h v (List.mem_cons_of_mem _ m))
theorem lay_flat : ∀ {xs : List V}, (∀ v ∈ xs, Flat v) → PyData.canLayAll0 (xs.map dOf) = true
  | [], _ => by simp [PyData.canLayAll0]
  | x :: xs, h => by
    have ih := lay_flat fun v m => h v (List.mem_cons_of_mem x m)
    have hx := h x List.mem_cons_self
    rw [List.map_cons, PyData.canLayAll0, ih, Bool.and_true]
    cases x <;> simp [dOf, PyData.canLay0, Flat] at hx ⊢
    exact hx
theorem depth_flat : ∀ (xs : List V), PyData.depthAll (xs.map dOf) ≤ 1
  | [] => by simp [PyData.depthAll]
  | x :: xs => by
    have ih := depth_flat xs
    simp only [List.map_cons, PyData.depthAll]
    cases x <;> simp only [dOf, PyData.depth] <;> omega
theorem shT_flat {xs : List V} (h : ∀ v ∈ xs, Flat v) : SeqAt.shaped (.tuple (xs.map dOf)) = true := by
  have h1 := lay_flat h
  have h2 := depth_flat xs
  show (PyData.canLay0 (.tuple (xs.map dOf)) && decide (PyData.depth (.tuple (xs.map dOf)) ≤ 64)) = true
  rw [Bool.and_eq_true]
  refine ⟨by simp only [PyData.canLay0]; exact h1, decide_eq_true ?_⟩
  simp only [PyData.depth]
  omega
/-- two tuples with the same flat items -/
def rSm (b : Bool) : R2 := fun x y H Q => ∃ s t us, x = .ref s ∧ y = .ref t ∧ H s = some (.tup us) ∧ H t = some (.tup us) ∧ (∀ v ∈ us, Flat v) ∧ Q (.bl b) H
section
variable {X : Cx}
theorem op_neSm (hu : X.A.units + 64 < cLine) : OpR X (compareOp .NotEq) (rSm false) := by
  intro pins s σ H x y v u Q I rx ry h
  obtain ⟨a, b, us, rfl, rfl, d1, d2, f, q⟩ := h
  have sh := shT_flat f
  refine op_neD hu pins s σ H _ _ v u Q I rx ry ⟨_, _, .tup (SqT.of d1) (dpAll_flat f), .tup (SqT.of d2) (dpAll_flat f), sh, sh, ?_⟩
  rw [SeqAt.eqv_refl _ (Bool.and_eq_true_iff.mp sh).1]
  exact q
theorem op_eqSm (hu : X.A.units + 64 < cLine) : OpR X (compareOp .Eq) (rSm true) := by
  intro pins s σ H x y v u Q I rx ry h
  obtain ⟨a, b, us, rfl, rfl, d1, d2, f, q⟩ := h
  have sh := shT_flat f
  refine op_eqD hu pins s σ H _ _ v u Q I rx ry ⟨_, _, .tup (SqT.of d1) (dpAll_flat f), .tup (SqT.of d2) (dpAll_flat f), sh, sh, ?_⟩
  rw [SeqAt.eqv_refl _ (Bool.and_eq_true_iff.mp sh).1]
  exact q
end
theorem cut_to {xs : List V} {k : Nat} (h : k ≤ xs.length) : cutV xs none (some (k : Int)) = xs.take k := by
  unfold cutV
  rw [HT.sIx_nat, HT.sIx_none, List.drop_zero, Nat.sub_zero, Nat.min_eq_left h]
theorem cut_from {xs : List V} {k : Nat} (h : k ≤ xs.length) : cutV xs (some (k : Int)) none = xs.drop k := by
  unfold cutV
  rw [HT.sIx_nat, HT.sIx_none, Nat.min_eq_left h, List.take_of_length_le (by rw [List.length_drop]; exact Nat.le_refl _)]
theorem kn_flat {H : Hp} {v : V} (h : Flat v) : Kn H v := by
  cases v with
  | non => exact .non
  | bl b => exact .bl b
  | int i => exact .int i
  | str x => exact .str x
  | _ => exact h.elim
theorem flat_ref {v : V} (h : Flat v) : ∀ b, v ≠ .ref b := fun b e => by
  rw [e] at h
  exact h
end K05
set_option Elab.async false
set_option linter.all false
set_option maxRecDepth 100001
set_option maxHeartbeats 3999999
namespace K05
open PySem L2
abbrev sCopied : Stmt := topS 4
/-- what is handed in of any kind, as data -/
inductive Odd (H : Hp) : V → PyData → Prop
  | flat {v : V} (h : Flat v) : Odd H v (dOf v)
  | tup {a : Addr} {xs : List V} (e : H a = some (.tup xs)) (f : ∀ v ∈ xs, Flat v) (l : xs.length ≤ 1000) : Odd H (.ref a) (.tuple (xs.map dOf))
theorem Odd.kn {H : Hp} {v : V} {d : PyData} (o : Odd H v d) : Kn H v := by
  cases o with
  | flat h => exact kn_flat h
  | tup e f l => exact .tup e
theorem Odd.same {H H' : Hp} {v : V} {d : PyData} (o : Odd H v d) (s : Same H H') : Odd H' v d := by
  cases o with
  | flat h => exact .flat h
  | tup e f l => exact .tup (s _ _ e) f l
theorem Odd.dp {K : PySem.W.Frag} {H : Hp} {v : V} {d : PyData} (o : Odd H v d) : Dp K H v d := by
  cases o with
  | flat h => exact dp_flat h
  | tup e f l => exact .tup (SqT.of e) (dpAll_flat f)
def spCopied : Sp := fun vs H Q _ => ∃ v, vs = [v] ∧ Flat v ∧ Q v H
def spCopy2 : Sp := fun vs H Q _ => ∃ v d, vs = [v] ∧ Odd H v d ∧ ∀ v' H', Same H H' → Odd H' v' d → Q v' H'
section
variable {P : Program} {w : World} {K : PySem.W.Frag} {mg : Str → Option Value} {base : Heap}
theorem scCopied : FnScope ["value", "part", "key"] ["value"] (defScope sCopied) := ⟨rfl, rfl, rfl, by decide +kernel, rfl, by decide +kernel, by decide +kernel⟩
theorem ok_copied {f : Addr} {fd : FuncData} (F : Fun K "copied" "copied" sCopied f fd) (B : Bi mg) : FnOk P w K mg base CX0 1 f fd ["value"] spCopied := by
  refine F.ok scCopied (fun vs H Q E h => ?_) (fun cdv A outer s H vs Q E hr h => ?_)
  · obtain ⟨v, rfl, _⟩ := h
    rfl
  · obtain ⟨v, rfl, fl, q⟩ := h
    refine ⟨_, pss_cons (ps_if (pt_val (pe_isi B.isi (pa_cons (pv 0) (pa_cons (pe_ty "list" B.list) pa_nil)))) pss_never pss_nil) (pss_cons (ps_if (pt_val (pe_isi B.isi (pa_cons (pv 0) (pa_cons (pe_ty "tuple" B.tuple) pa_nil)))) pss_never pss_nil)
      (pss_cons (ps_if (pt_val (pe_isi B.isi (pa_cons (pv 0) (pa_cons (pe_ty "dict" B.dict) pa_nil)))) pss_never pss_nil) (pss_one (ps_ret (pv 0))))), ?_⟩
    obtain ⟨t, ty, _, _, k3, k4, k5⟩ := (kn_flat (H := H) fl).kinds K
    have f3 : isT H v = false := by cases v <;> first | rfl | exact fl.elim
    have f4 : isL H v = false := by cases v <;> first | rfl | exact fl.elim
    rw [f3] at k3
    rw [f4] at k4
    exact ⟨v, rfl, v, _, _, _, _, rfl, .ty "list", ty, k4, _, rfl, iteF ⟨v, rfl, v, _, _, _, _, rfl, .ty "tuple", ty, k3, _, rfl, iteF ⟨v, rfl, v, _, _, _, _, rfl, .ty "dict", ty, k5, _, rfl, iteF ⟨v, rfl, q⟩⟩⟩⟩
theorem ok_copy2 {f : Addr} {fd : FuncData} (F : Fun K "copied" "copied" sCopied f fd) (B : Bi mg) (c1 : Cal CX0 P w K mg base 1 "copied" spCopied) : FnOk P w K mg base CX0 2 f fd ["value"] spCopy2 := by
  refine F.ok scCopied (fun vs H Q E h => ?_) (fun cdv A outer s H vs Q E hr h => ?_)
  · obtain ⟨v, d, rfl, _⟩ := h
    rfl
  · obtain ⟨v, d, rfl, od, q⟩ := h
    refine ⟨_, pss_cons (ps_if (pt_val (pe_isi B.isi (pa_cons (pv 0) (pa_cons (pe_ty "list" B.list) pa_nil)))) pss_never pss_nil)
      (pss_cons (ps_if (pt_val (pe_isi B.isi (pa_cons (pv 0) (pa_cons (pe_ty "tuple" B.tuple) pa_nil)))) (pss_one (ps_ret (pe_tupleOf rfl B.tuple (pe_lc (own := [("part", 1)]) rfl scCopied.nd (pi_sqA (pv 0)) (blkOk_by (N := ["value", "part", "key"]) (sc := defScope sCopied) (by decide +kernel))
          (fun _ _ _ _ _ => pg_name (i := 1) scCopied.nd rfl (Or.inl rfl)) (fun _ _ _ _ _ => pts_nil) (fun _ _ _ _ _ => pe_c c1 hr pass0 (pa_cons (pv 1) pa_nil)))))) pss_nil)
      (pss_cons (ps_if (pt_val (pe_isi B.isi (pa_cons (pv 0) (pa_cons (pe_ty "dict" B.dict) pa_nil)))) pss_never pss_nil) (pss_one (ps_ret (pv 0))))), ?_⟩
    obtain ⟨t, ty, _, _, k3, k4, k5⟩ := od.kn.kinds K
    cases od with
    | flat fl =>
      have f3 : isT H v = false := by cases v <;> first | rfl | exact fl.elim
      have f4 : isL H v = false := by cases v <;> first | rfl | exact fl.elim
      rw [f3] at k3
      rw [f4] at k4
      exact ⟨v, rfl, v, _, _, _, _, rfl, .ty "list", ty, k4, _, rfl, iteF ⟨v, rfl, v, _, _, _, _, rfl, .ty "tuple", ty, k3, _, rfl, iteF ⟨v, rfl, v, _, _, _, _, rfl, .ty "dict", ty, k5, _, rfl, iteF ⟨v, rfl, q v H (Same.refl H) (.flat fl)⟩⟩⟩⟩
    | @tup a xs e fx ll =>
      rw [isL_tup e] at k4
      rw [isT_tup e] at k3
      refine ⟨_, rfl, _, _, _, _, _, rfl, .ty "list", ty, k4, _, rfl, iteF ⟨_, rfl, _, _, _, _, _, rfl, .ty "tuple", ty, k3, _, rfl, iteT ?_⟩⟩
      refine ⟨_, rfl, a, _, rfl, .inr (SqT.of e), fun J G wk hG D nD => lc_it wk (fun j H' => Same H H' ∧ H' D = some (.lst (xs.take j))) ⟨same_new nD, upd_same⟩ (fun j H' _ z => hG H' fun o w => z.1 _ _ w) ?_ ?_⟩
      · rintro j y H1 H2 hj ⟨e1, hD⟩ ⟨rfl, hy⟩
        refine ⟨rfl, ?_⟩
        unfold tYes
        refine iteT ⟨_, rfl, _, rfl, fx y (List.mem_of_getElem? hy), _, hD, by rw [List.length_take]; exact small10 (by omega), fun b o z => ?_, ?_⟩
        · rw [upd_ne (ne_of_none z nD)]
          exact e1 _ _ z
        · rw [upd_same, List.take_add_one, hy]
          rfl
      · rintro H1 ⟨e1, hD⟩
        rw [List.take_length] at hD
        exact .inl ⟨D, _, rfl, SqL.of hD, fun t nt => q _ _ (e1.trans (same_new nt)) (.tup upd_same fx ll)⟩
/-! ### the errors -/
/-- self.f = copied(v), of an exception that has no field yet -/
def spXO (K : PySem.W.Frag) (f : Str) : Sp := fun vs H Q _ => ∃ (a C : Addr) (v : V) (d : PyData), vs = [.ref a, v] ∧ OexC K C ∧ PySem.W.findIn K (.ref C) f = some none ∧ Odd H v d ∧ H a = some (exo a C none) ∧
  ∀ v' H1 dx, Same H H1 → Odd H1 v' d → H1 dx = none → dx ≠ a → Q .non (upd (upd H1 dx (exd dx [(f, v')])) a (exo a C (some dx)))
abbrev sBadLet : Stmt := inClass (topS 8) 0
abbrev sBadPart : Stmt := inClass (topS 9) 0
theorem scBadLet : FnScope ["self", "letters"] ["self", "letters"] (defScope sBadLet) := ⟨rfl, rfl, rfl, by decide +kernel, rfl, by decide +kernel, by decide +kernel⟩
theorem ok_badLet {f : Addr} {fd : FuncData} (F : Fun K "__init__" "BadLetters.__init__" sBadLet f fd) (cC : Cal CX0 P w K mg base 2 "copied" spCopy2) : FnOk P w K mg base CX0 3 f fd ["self", "letters"] (spXO K "letters") := by
  refine F.ok scBadLet (fun vs H Q E h => ?_) (fun cdv A outer s H vs Q E hr h => ?_)
  · obtain ⟨a, C, v, d, rfl, _⟩ := h
    rfl
  · obtain ⟨a, C, v, d, rfl, T, no, od, ha, q⟩ := h
    refine ⟨_, pss_one (ps_ost (pv 0) (pe_c cC hr pass0 (pa_cons (pv 1) pa_nil))), ?_⟩
    exact ⟨_, rfl, v, d, rfl, od, fun v' H1 e1 o1 => ⟨_, rfl, a, C, rfl, T, no, .inl ⟨e1 _ _ ha, fun dx nd ne => q v' H1 dx e1 o1 nd ne⟩⟩⟩
theorem scBadPart : FnScope ["self", "path"] ["self", "path"] (defScope sBadPart) := ⟨rfl, rfl, rfl, by decide +kernel, rfl, by decide +kernel, by decide +kernel⟩
theorem ok_badPart {f : Addr} {fd : FuncData} (F : Fun K "__init__" "BadPart.__init__" sBadPart f fd) (cC : Cal CX0 P w K mg base 2 "copied" spCopy2) : FnOk P w K mg base CX0 3 f fd ["self", "path"] (spXO K "path") := by
  refine F.ok scBadPart (fun vs H Q E h => ?_) (fun cdv A outer s H vs Q E hr h => ?_)
  · obtain ⟨a, C, v, d, rfl, _⟩ := h
    rfl
  · obtain ⟨a, C, v, d, rfl, T, no, od, ha, q⟩ := h
    refine ⟨_, pss_one (ps_ost (pv 0) (pe_c cC hr pass0 (pa_cons (pv 1) pa_nil))), ?_⟩
    exact ⟨_, rfl, v, d, rfl, od, fun v' H1 e1 o1 => ⟨_, rfl, a, C, rfl, T, no, .inl ⟨e1 _ _ ha, fun dx nd ne => q v' H1 dx e1 o1 nd ne⟩⟩⟩
end
/-! ### what a raise leaves -/
/-- behind a raise: all that was there, and the error's field at d -/
structure RsO (H H' : Hp) (d : Addr) (f : Str) (dd : PyData) : Prop where
  new : H d = none
  same : Same H H'
  at_ : ∃ v', H' d = some (.xd [(f, v')]) ∧ Odd H' v' dd
theorem RsO.back {H H1 H' : Hp} {d : Addr} {f : Str} {dd : PyData} (r : RsO H1 H' d f dd) (e : Same H H1) : RsO H H' d f dd := ⟨e.free r.new, e.trans r.same, r.at_⟩
theorem raiseO {H : Hp} {C : Addr} {f : Str} {v : V} {dd : PyData} {R : XK} {K : PySem.W.Frag} (T : OexC K C) (no : PySem.W.findIn K (.ref C) f = some none) (od : Odd H v dd) (r : ∀ d H', RsO H H' d f dd → R (.ref C) (some d) H') :
    ([v] : List V).length ≤ 1000 ∧ ∀ a, H a = none → spXO K f (.ref a :: ([v] ++ [])) (upd H a (exo a C none)) (fun u H2 => u = .non ∧ ∃ (d : Addr) (fs : List (Str × V)), H2 a = some (exo a C (some d)) ∧ H2 d = some (exd d fs) ∧ H d = none ∧ R (.ref C) (some d) (upd (del H2 a) d (.xd fs))) (fun _ _ _ => False) := by
  refine ⟨by show 1 ≤ 1000; decide, fun a na => ⟨a, C, v, dd, rfl, T, no, od.same (same_new na), upd_same, fun v' H1 dx e1 o1 nd ne => ⟨rfl, dx, [(f, v')], upd_same, by rw [upd_ne ne]; exact upd_same, ?_, r _ _ ?_⟩⟩⟩
  · cases z : H dx with
    | none => rfl
    | some o =>
      rw [e1 _ _ (same_new na _ _ z)] at nd
      cases nd
  · have hne : ∀ b o, H1 b = some o → b ≠ dx := fun b o e => ne_of_none e nd
    have h1a : H1 a = some (exo a C none) := e1 _ _ upd_same
    have keep : ∀ b o, b ≠ a → H1 b = some o → upd (del (upd (upd H1 dx (exd dx [(f, v')])) a (exo a C (some dx))) a) dx (.xd [(f, v')]) b = some o := fun b o h1 h2 => by
      rw [upd_ne (hne b o h2), del_ne h1, upd_ne h1, upd_ne (hne b o h2)]
      exact h2
    refine ⟨?_, fun b o e => ?_, v', upd_same, ?_⟩
    · cases z : H dx with
      | none => rfl
      | some o =>
        rw [e1 _ _ (same_new na _ _ z)] at nd
        cases nd
    · have ba := ne_of_none e na
      exact keep b o ba (e1 _ _ ((upd_ne ba).trans e))
    · cases o1 with
      | flat h => exact .flat h
      | tup e f l => exact .tup (keep _ _ (ne_of e h1a fun z => by unfold exo at z; cases z) e) f l
end K05
set_option Elab.async false
set_option linter.all false
set_option maxRecDepth 100001
set_option maxHeartbeats 3200000
/-! len(set(s)), s a text whose signs are all unlike. -/
namespace SetStr
open PySem.Spec PySem PyProof.Rows
def sgl (c : Nat) : Str := ⟨#[c]⟩
def firsts (z : Str) (i : Nat) : List Nat := z.cps.toList.take i
def has (z : Str) (i : Nat) (k : Str) : Bool := (firsts z i).any fun c => sgl c == k
theorem firsts_succ {z : Str} {i c : Nat} (h : z.cps[i]? = some c) : firsts z (i + 1) = firsts z i ++ [c] := by
  unfold firsts
  rw [List.take_add_one, Array.getElem?_toList, h]
  rfl
theorem sgl_inj {a b : Nat} (h : sgl a = sgl b) : a = b := by
  have h2 : (#[a] : Array Nat) = #[b] := congrArg Str.cps h
  have h3 := congrArg Array.toList h2
  simpa using h3
theorem has_new {z : Str} {i c : Nat} (nd : z.cps.toList.Nodup) (h : z.cps[i]? = some c) : has z i (sgl c) = false := by
  unfold has
  rw [List.any_eq_false]
  intro x hx e
  have e : x = c := sgl_inj (by simpa using e)
  subst e
  have h1 : firsts z (i + 1) = firsts z i ++ [x] := firsts_succ h
  have h2 : (firsts z (i + 1)).Nodup := List.Sublist.nodup (List.take_sublist _ _) nd
  rw [h1] at h2
  exact (List.nodup_append.mp h2).2.2 x hx x List.mem_cons_self rfl
section
variable {prog : Program} {w : World} {A : Around} {R : Result → Shared → Prop} {I : Addr} {fp wr : List Addr} {G : Array GenState → Array GenState → Prop} {n : Nat} {St : Nat → Shared → Prop}
theorem loop (z : Str) (nd : z.cps.toList.Nodup) (hb : z.cps.size + 1 < scanBound) (W : WalksS prog w A.in1 I fp wr G z.cps.size (SignAt z) St) (S : Addr) (hSf : S ∉ fp) :
    ∀ (k i : Nat) (s : Shared), z.cps.size - i = k → i ≤ z.cps.size → St i s →
      s.heap.SetOf (PySem.strKind prog w) S (has z i) i →
      (∀ s', Moved (S :: wr) G s s' → s'.heap.SetOf (PySem.strKind prog w) S (has z z.cps.size) z.cps.size → R (.ok (.ret .none)) s') →
      codeAny (model prog w) A (.builtin "set.update.loop" ⟨[.ref S, .ref I], []⟩) R s := by
  have hSw : S ∉ wr := fun h => hSf (W.sub _ h)
  have hsub : ∀ b ∈ wr, b ∈ S :: wr := fun b hb => List.mem_cons_of_mem _ hb
  intro k
  induction k with
  | zero =>
    intro i s hk hi hst hS hR
    have hin : i = z.cps.size := by omega
    subst hin
    refine codeAny_builtin PyProof.Rows.F.entry_set_update_loop ?_
    rw [Around.under_plainId PyProof.Rows.F.plain_set_update_loop _]
    show wpAny _ A.in1 (pyNext (.ref I) >>= _) _ _ s
    refine wpAny_bind (W.done s _ _ hst fun s' hm => ?_)
    show wpAny _ A.in1 (ret Value.none) _ _ s'
    exact wpAny_pure (hR s' (hm.mono hsub) (by
      obtain ⟨o, es, ep, t, ho, rest⟩ := hS
      exact ⟨o, es, ep, t, hm.heap S _ hSw ho, rest⟩))
  | succ k ih =>
    intro i s hk hi hst hS hR
    have hlt : i < z.cps.size := by omega
    refine codeAny_builtin PyProof.Rows.F.entry_set_update_loop ?_
    rw [Around.under_plainId PyProof.Rows.F.plain_set_update_loop _]
    show wpAny _ A.in1 (pyNext (.ref I) >>= _) _ _ s
    refine wpAny_bind (W.item i s _ _ hlt hst fun v s' hP hst' hm => ?_)
    obtain ⟨c, t, hc, rfl⟩ := hP
    have hS' : s'.heap.SetOf (PySem.strKind prog w) S (has z i) i := by
      obtain ⟨o, es, ep, tb, ho, rest⟩ := hS
      exact ⟨o, es, ep, tb, hm.heap S _ hSw ho, rest⟩
    show wpAny _ A.in1 (holding [Value.str (sgl c) t] (setAdd S (.str (sgl c) t)) >>= _) _ _ s'
    refine wpAny_bind (wpAny_holding ?_)
    unfold setAdd
    refine wpAny_holding ?_
    refine wpAny_bind ((PySem.strKind prog w).pyHash (k := sgl c) (strKind_is _ _ _ _) ?_)
    refine wpAny_setAddHashed_of (knd := PySem.strKind prog w) (s := { s' with toks := s'.toks + 1 }) (strKind_is _ _ _ _) rfl hS' (by omega) fun h' hsb hS2 => ?_
    have hSi : h'.SetOf (PySem.strKind prog w) S (has z (i + 1)) (i + 1) := by
      refine SetOf_congr hS2 (fun k' => ?_) (by rw [has_new nd hc]; rfl)
      unfold has
      rw [firsts_succ hc, List.any_append]
      congr 1
      by_cases e : k' = sgl c
      · subst e; simp
      · have hb : (sgl c == k') = false := by simpa [beq_iff_eq] using (fun h' : sgl c = k' => e h'.symm)
        simp [hb, e]
    refine wpAny_pure ⟨plainId_quiet PyProof.Rows.F.plain_set_update_loop _, ih (i + 1) _ (by omega) hlt (W.frame _ s' _ _ hst' (Nat.le_succ _) fun b hb o e => ?_) hSi fun s'' hm'' hS'' => ?_⟩
    · rw [hsb.2 b (fun h : b = S => hSf (by rw [← h]; exact hb))]; exact e
    · refine hR s'' (Moved.trans W.gtrans ((hm.mono hsub).then_heap (Nat.le_succ _) fun b o hb e => ?_) hm'') hS''
      rw [hsb.2 b (fun h : b = S => hb (by rw [h]; exact List.mem_cons_self))]; exact e
end
section
variable {prog : Program} {w : World} {A : Around} {E : Value → Shared → Prop} {s : Shared}
theorem call_set (z : Str) (t : Tok) {Q : Value → Shared → Prop} (hh : A.handled = none) (nd : z.cps.toList.Nodup) (hb : z.cps.size + 1 < scanBound)
    (h : ∀ (h' : Heap) (tk : Nat), h'.SetOf (PySem.strKind prog w) s.heap.objs.size (has z z.cps.size) z.cps.size → (∀ b o, b < s.heap.objs.size → s.heap.get? b = some o → h'.get? b = some o) → Q (.ref s.heap.objs.size) { s with heap := h', toks := tk }) :
    wpAny (model prog w) A (call (.type "set") [.str z t]) Q E s := by
  obtain ⟨c, tl, hmro⟩ := PySem.F.called_set.mro
  have hmade := PySem.F.called_set.made
  have hsub := PySem.F.called_set.sub
  refine wpAny_call (codeAny_of_tree ?_)
  show wpAny _ _ (callAny (.type "set") _) _ _ _
  refine wpAny_pure ⟨Code.quiet_builtin _ (by decide +kernel), codeAny_builtin PySem.F.entry_type_call ?_⟩
  rw [Around.under_plain (weight_type_call_type "set" [.str z t] []) rfl]
  have h1 := PySem.F.called_set.notType
  have h2 := PySem.F.called_set.canCreate
  have hct := PySem.F.typeCall_set_1 (.str z t)
  repeat (any_goals (first | assumption | wp_step))

  refine codeAny_mono (code_set_new_1 (.str z t) (E := E) (Q₁ := fun obj s₁ => ∃ led : Bool, obj = .ref s.heap.objs.size ∧ s₁ = { s with heap := s.heap.push { cls := .type "set", dict := none, data := .set #[] 0 (.fresh 0 0 led) } }) fun led => ⟨led, rfl, rfl⟩) fun r s₁ hr => ?_
  cases r with
  | error e => exact hr
  | ok fl =>
    cases fl with
    | ret obj =>
      obtain ⟨led, rfl, rfl⟩ := hr
      have hS : (s.heap.push { cls := .type "set", dict := none, data := .set #[] 0 (.fresh 0 0 led) }).get? s.heap.objs.size = some { cls := .type "set", dict := none, data := .set #[] 0 (.fresh 0 0 led) } := Heap.get?_push_size _ rfl
      have hT : Shared.TypeIs { s with heap := s.heap.push { cls := .type "set", dict := none, data := .set #[] 0 (.fresh 0 0 led) } } (.ref s.heap.objs.size) "set" := ⟨_, hS, rfl⟩
      have hli := PySem.F.called_set.init.lookup
      have hbi := PySem.F.called_set.init.bind (.ref s.heap.objs.size)
      repeat (any_goals (first | assumption | wp_step))

      refine codeAny_mono (codeAny_call_builtin (R := wants (fun r s₂ => r = .none ∧ ∃ h' tk, s₂ = { s with heap := h', toks := tk } ∧
          h'.SetOf (PySem.strKind prog w) s.heap.objs.size (has z z.cps.size) z.cps.size ∧
          (∀ b o, b < s.heap.objs.size → s.heap.get? b = some o → h'.get? b = some o)) E) PySem.F.called_set.init.plain PySem.F.entry_set_init (check_set_init_1 hT ?_)) fun r₂ s₂ hr₂ => ?_
      · have hsls := PySem.F.sub_str_set
        have hslf := PySem.F.sub_str_frozenset
        have hne : (Value.type "str" == Value.type "dict") = false := by decide
        unfold Builtin.«set.__init__» noKeywords Builtin.Frozenset.updateFrom
        generalize hPI : pyIter = PI
        wp_walk
        subst hPI

        have hh3 : A.in1.in1.in1.handled = none := by simp [hh]
        have hSf : s.heap.objs.size ∉ [(s.heap.push { cls := .type "set", dict := none, data := .set #[] 0 (.fresh 0 0 led) }).objs.size] := by
          rw [Heap.size_push]; simp only [List.mem_singleton]
          exact Nat.ne_of_lt (Nat.lt_succ_self _)
        refine wpAny_pyIter_str fun o St W hst => ?_
        refine wpAny_bind (wpAny_runValue ?_)
        refine loop z nd hb (W _ hh3).toS s.heap.objs.size hSf (z.cps.size - 0) 0 _ (by omega) (Nat.zero_le _) hst ?hS0 ?hR
        case hS0 =>
          have hget : ((s.heap.push { cls := .type "set", dict := none, data := .set #[] 0 (.fresh 0 0 led) }).push o).get? s.heap.objs.size
              = some { cls := .type "set", dict := none, data := .set #[] 0 (.fresh 0 0 led) } := Heap.get?_push_of_some _ hS
          exact PyProof.Rows.SetOf_congr ((PyProof.Rows.setObjOf_fresh (knd := PySem.strKind prog w) led).setOf hget (by unfold scanBound; omega)) (fun _ => rfl) rfl
        case hR =>
          intro s' hm hS'
          obtain ⟨h', g', d', tk', os'⟩ := s'
          have eg : g' = s.gens := hm.gens
          have ed : d' = s.drawn := hm.drawn
          have eo : os' = s.os := hm.os
          subst eg; subst ed; subst eo
          show wpAny _ _ _ _ _ _
          refine wpAny_pure ?_
          show wpAny _ _ (ret Value.none) _ _ _
          refine wpAny_pure ⟨rfl, h', tk', rfl, hS', fun b o hb e => ?_⟩
          have hb1 : b ≠ s.heap.objs.size := Nat.ne_of_lt hb
          have hb2 : b ≠ (s.heap.push { cls := .type "set", dict := none, data := .set #[] 0 (.fresh 0 0 led) }).objs.size := by
            rw [Heap.size_push]; exact Nat.ne_of_lt (Nat.lt_succ_of_lt hb)
          exact hm.heap b o (by simp only [List.mem_cons, List.mem_singleton, List.not_mem_nil, or_false, not_or]; exact ⟨hb1, hb2⟩) (Heap.get?_push_of_some _ (Heap.get?_push_of_some _ e))

      · cases r₂ with
        | error e => exact hr₂
        | ok fl₂ =>
          cases fl₂ with
          | ret r =>
            obtain ⟨rfl, h', tk, rfl, hS', hk'⟩ := hr₂
            repeat (any_goals (first | assumption | wp_step))
            exact h _ _ hS' hk'
          | _ => exact hr₂.elim
    | _ => exact hr.elim
end
end SetStr
namespace L2
open PySem.Spec PySem PyProof.Rows
section
variable {X : Cx}
/-- len(set(s)), the signs of s all unlike -/
def tLenSetS (ta : TE) : TE := fun σ H Q => ta σ H fun x H1 => ∃ z : Str, x = .str z ∧ z.cps.toList.Nodup ∧ z.cps.size ≤ 200 ∧ Q (.int z.cps.size) H1
theorem pe_lenSetS {a : Expr} {ta : TE} {p p2 q pos : Pos} (hc : X.calm = true) (hg : Gl X "len") (hm : X.mg "len" = none) (hg2 : Gl X "set") (hm2 : X.mg "set" = none) (ha : PE X a ta)
    (na : starEach [a] X.env = (false, eval a X.env) :: starEach [] X.env := by rfl) : PE X (.Call (.Name "len" p) [.Call (.Name "set" p2) [a] [] q] [] pos) (tLenSetS ta) := by
  refine ⟨fun pins s σ H Q I h => ?_⟩
  refine Call_ (ld_blt I hg hm boot_len ?_)
  refine PyProof.Rows.callWith_builtin1 (PyProof.Rows.args_cons ?_ rfl) rfl rfl
  refine Call_ (ld_blt I hg2 hm2 boot_set ?_)
  refine PyProof.Rows.callWith_type1 (PyProof.Rows.args_cons (thn (ha.run pins s σ H _ I h) fun v s1 ⟨x, H1, I1, r1, q1⟩ => PyProof.Rows.args_nil ?_) na) na rfl
  obtain ⟨z, rfl, nd, hz, q1⟩ := q1
  obtain ⟨t, rfl⟩ := r1
  refine SetStr.call_set z t (I1.ok.hd hc) nd (by unfold scanBound; omega) fun h' tk hS hk => ?_
  refine PyProof.Rows.args_nil ?_
  obtain ⟨o, es, ep, tt, ho, hex, hd, _, _, _, hf, hn⟩ := hS
  have I2 : Inv X pins σ H1 { s1 with heap := h', toks := tk } := I1.kept fun b o e => hk b o (Heap.lt_size e) e
  exact call_len_set ho hex hd hf (by rw [hn] <;> omega) ⟨.int z.cps.size, H1, I2.tok _, ⟨_, by rw [hn]⟩, q1⟩
end
end L2
set_option Elab.async false
set_option linter.all false
set_option maxRecDepth 100001
set_option maxHeartbeats 3999999
namespace K05
open PySem L2
abbrev sLetters : Stmt := topS 12
def S (l : List Nat) : Str := ⟨l.toArray⟩
def abc : List Nat := (List.range 26).map (· + 97)
theorem S_list (l : List Nat) : (S l).cps.toList = l := rfl
theorem S_size (l : List Nat) : (S l).cps.size = l.length := by simp [S]
theorem S_len (l : List Nat) : (S l).length = l.length := S_size l
theorem S_get (l : List Nat) (i : Nat) : (S l).cps[i]? = l[i]? := by simp [S]
theorem S_inj {l m : List Nat} (h : S l = S m) : l = m := congrArg (fun z : Str => z.cps.toList) h
theorem S_of (z : Str) : z = S z.cps.toList := rfl
/-- letters that a dictionary may have -/
structure Lets (ls : List Nat) : Prop where
  nd : ls.Nodup
  lo : 2 ≤ ls.length
  hi : ls.length ≤ 26
  abc : ∀ c ∈ ls, c ∈ abc
def isS : V → Bool
  | .str _ => true
  | _ => false
/-- a word over these letters -/
def isW (ls : List Nat) : V → Bool
  | .str x => decide (x.length ≤ 200) && x.cps.toList.all fun c => decide (c ∈ ls)
  | _ => false
structure Bs (mg : Str → Option Value) : Prop where
  str : mg "str" = none
  all : mg "all" = none
  set : mg "set" = none
  sorted : mg "sorted" = none
structure Cn (mg : Str → Option Value) : Prop where
  alpha : ∃ u, mg "ALPHABET" = some u ∧ RelV (.str (S abc)) u
theorem ks_of {K : PySem.W.Frag} {t : String} {b : Bool} (h : kitB t "str" = some b) : PySem.W.kitOne K (.type t) (.type "str") = some b := h
theorem Kn.isStr (K : PySem.W.Frag) {H : Hp} {v : V} (k : Kn H v) : ∃ t : String, TyX K H v (.type t) ∧ PySem.W.kitOne K (.type t) (.type "str") = some (isS v) := by
  cases k with
  | non => exact ⟨_, .base .non, ks_of (show kitB "NoneType" "str" = some false by decide +kernel)⟩
  | bl b => exact ⟨_, .base (.bl b), ks_of (show kitB "bool" "str" = some false by decide +kernel)⟩
  | int i => exact ⟨_, .base (.int i), ks_of (show kitB "int" "str" = some false by decide +kernel)⟩
  | str x => exact ⟨_, .base (.str x), ks_of (show kitB "str" "str" = some true by decide +kernel)⟩
  | lst e => exact ⟨_, .base (.lst e), ks_of (show kitB "list" "str" = some false by decide +kernel)⟩
  | tup e => exact ⟨_, .base (.tup e), ks_of (show kitB "tuple" "str" = some false by decide +kernel)⟩
theorem yesT {te : TE} {σ : St} {H : Hp} {Q : VK} {N : Hp → Prop} (h : te σ H Q) : tYes σ H fun b H3 => if b = true then te σ H3 Q else N H3 := by
  unfold tYes
  exact iteT h
/-- a comprehension whose elements change nothing -/
theorem lcP {J : It} {n : Nat} {G : Hp → Prop} {Y : Nat → Hp → V → Hp → Prop} (wk : Walk J n G Y) {g : TG} {tt : TT} {te : TE} {vs : List Nat} {σ : St} {H1 : Hp} {D : Addr} {Qd : Hp → Prop} (us fs : List V) (hn : us.length = n) (hf : fs.length = n) (hb : n ≤ 10000)
    (hY : ∀ (i : Nat) (x : V) (H H' : Hp), Y i H x H' → H' = H ∧ us[i]? = some x) (hG : ∀ H', Same H1 H' → G H') (nD : H1 D = none)
    (hs : ∀ (i : Nat) (x y : V) (H : Hp) (Q : VK) (N : Hp → Prop), us[i]? = some x → fs[i]? = some y → Same H1 H → Q y H → g x (wipe σ vs) H fun σ2 H2 => wipe σ2 vs = wipe σ vs ∧ tt σ2 H2 fun b H3 => if b = true then te σ2 H3 Q else N H3)
    (hd : ∀ H, Same H1 H → H D = some (.lst fs) → Qd H) :
    ∃ W : Nat → Nat → Hp → Prop, (∃ m, W 0 m (upd H1 D (.lst []))) ∧ ∀ i m H, W i m H →
      (J.stop i H ∧ Qd H) ∨ (J.go i H ∧ ∃ Nx : Hp → Prop, (∀ H', Nx H' → ∃ m', m' < m ∧ W (i + 1) m' H') ∧ ∀ x H', J.yld i H x H' → g x (wipe σ vs) H' fun σ2 H2 => wipe σ2 vs = wipe σ vs ∧ tt σ2 H2 fun b H3 =>
        if b = true then te σ2 H3 fun y H4 => ∃ acc, H4 D = some (.lst acc) ∧ acc.length < sizeLine ∧ Nx (upd H4 D (.lst (acc ++ [y]))) else Nx H3) := by
  refine lc_it wk (fun i H' => Same H1 H' ∧ H' D = some (.lst (fs.take i))) ⟨same_new nD, upd_same⟩ (fun i H' _ z => hG H' z.1) ?_ ?_
  · rintro i x H H' hi ⟨e1, hD⟩ y
    obtain ⟨rfl, hx⟩ := hY i x H H' y
    have hi2 : i < fs.length := by omega
    refine hs i x fs[i] H' _ _ hx (List.getElem?_eq_getElem hi2) e1 ⟨_, hD, ?_, fun b o z => ?_, ?_⟩
    · rw [List.length_take]
      exact small10 (by omega)
    · rw [upd_ne (ne_of_none z nD)]
      exact e1 _ _ z
    · rw [List.take_add_one, List.getElem?_eq_getElem hi2]
      exact upd_same
  · rintro H ⟨e1, hD⟩
    refine hd H e1 ?_
    rw [hD, List.take_of_length_le (by omega)]
/-- a comprehension over a text -/
theorem lcS {z : Str} {g : TG} {tt : TT} {te : TE} {vs : List Nat} {σ : St} {H1 : Hp} {D : Addr} {Qd : Hp → Prop} (f : Nat → V) (hb : z.cps.size ≤ 10000) (nD : H1 D = none)
    (hs : ∀ c H (Q : VK) (N : Hp → Prop), c ∈ z.cps.toList → Same H1 H → Q (f c) H → g (.str ⟨#[c]⟩) (wipe σ vs) H fun σ2 H2 => wipe σ2 vs = wipe σ vs ∧ tt σ2 H2 fun b H3 => if b = true then te σ2 H3 Q else N H3)
    (hd : ∀ H, Same H1 H → H D = some (.lst (z.cps.toList.map f)) → Qd H) :
    ∃ W : Nat → Nat → Hp → Prop, (∃ m, W 0 m (upd H1 D (.lst []))) ∧ ∀ i m H, W i m H →
      ((Its z).stop i H ∧ Qd H) ∨ ((Its z).go i H ∧ ∃ Nx : Hp → Prop, (∀ H', Nx H' → ∃ m', m' < m ∧ W (i + 1) m' H') ∧ ∀ x H', (Its z).yld i H x H' → g x (wipe σ vs) H' fun σ2 H2 => wipe σ2 vs = wipe σ vs ∧ tt σ2 H2 fun b H3 =>
        if b = true then te σ2 H3 fun y H4 => ∃ acc, H4 D = some (.lst acc) ∧ acc.length < sizeLine ∧ Nx (upd H4 D (.lst (acc ++ [y]))) else Nx H3) := by
  refine lcP walk_str (sgns z) (z.cps.toList.map f) (by simp [sgns]) (by simp) hb ?_ (fun _ _ => True.intro) nD ?_ hd
  · rintro i x H H' ⟨rfl, c, hc, rfl⟩
    refine ⟨rfl, ?_⟩
    unfold sgns
    rw [List.getElem?_map, Array.getElem?_toList, hc]
    rfl
  · intro i x y H Q N hx hy e q
    unfold sgns at hx
    rw [List.getElem?_map] at hx hy
    cases hc : z.cps.toList[i]? with
    | none =>
      rw [hc] at hx
      cases hx
    | some c =>
      rw [hc] at hx hy
      cases hx
      cases hy
      exact hs c H Q N (List.mem_of_getElem? hc) e q
def spLets : Sp := fun vs H Q _ => ∃ ls, vs = [.str (S ls)] ∧ Lets ls ∧ ∀ H', Same H H' → Q (.bl true) H'
section
variable {X : Cx}
theorem pe_isStr {a : Expr} {es : List Expr} {t : TA} {p pos : Pos} (hm : X.mg "isinstance" = none) (ha : PA X (a :: es) t) (hg : Gl X "isinstance" := by rfl)
    (he : starEach (a :: es) X.env = (false, eval a X.env) :: starEach es X.env := by rfl) (hpl : (backTo pos (starEach es X.env)).any (·.1) = false := by rfl) :
    PE X (.Call (.Name "isinstance" p) (a :: es) [] pos) (tCB (rIsi X.K) t) := pe_isi hm ha hg he hpl
theorem pe_lenS {a : Expr} {es : List Expr} {t : TA} {p pos : Pos} (hm : X.mg "len" = none) (ha : PA X (a :: es) t) (hg : Gl X "len" := by rfl) (he : starEach (a :: es) X.env = (false, eval a X.env) :: starEach es X.env := by rfl)
    (hpl : (backTo pos (starEach es X.env)).any (·.1) = false := by rfl) :
    PE X (.Call (.Name "len" p) (a :: es) [] pos) (tCB (fun xs H Q => ∃ z, xs = [.str z] ∧ z.length ≤ sizeLine ∧ Q (.int z.length) H) t) := pe_callB call_len_str hg hm PySem.boot_len ha (he := he) (hpl := hpl)
theorem pe_all {a : Expr} {es : List Expr} {t : TA} {p pos : Pos} (hc : X.calm = true) (hm : X.mg "all" = none) (ha : PA X (a :: es) t) (hg : Gl X "all" := by rfl) (he : starEach (a :: es) X.env = (false, eval a X.env) :: starEach es X.env := by rfl)
    (hpl : (backTo pos (starEach es X.env)).any (·.1) = false := by rfl) :
    PE X (.Call (.Name "all" p) (a :: es) [] pos) (tCB (rAll X.K) t) := pe_callB (cr_all hc) hg hm (by decide +kernel) ha (he := he) (hpl := hpl)
end
section
variable {P : Program} {w : World} {K : PySem.W.Frag} {mg : Str → Option Value} {base : Heap}
theorem scLetters : FnScope ["value", "letter"] ["value"] (defScope sLetters) := ⟨rfl, rfl, rfl, by decide +kernel, rfl, by decide +kernel, by decide +kernel⟩
theorem ok_letters {f : Addr} {fd : FuncData} (F : Fun K "are_letters" "are_letters" sLetters f fd) (B : Bi mg) (C : Bs mg) (N : Cn mg) : FnOk P w K mg base CX0 1 f fd ["value"] spLets := by
  refine F.ok scLetters (fun vs H Q E h => ?_) (fun cdv A outer s H vs Q E hr h => ?_)
  · obtain ⟨ls, rfl, _⟩ := h
    rfl
  · obtain ⟨ls, rfl, L, q⟩ := h
    refine ⟨_, pss_cons (ps_if (PW.pt (pw_or (pt_not (pt_val (pe_isStr B.isi (pa_cons (pv 0) (pa_cons (pe_ty "str" C.str) pa_nil))))) (pw_or1 (pt_not (pt_chain op_le op_le pe_int (pe_lenS B.len (pa_cons (pv 0) pa_nil)) pe_int))))) pss_never pss_nil)
      (pss_one (ps_ret (pe_and (pe_all rfl C.all (pa_cons (pe_lc (own := [("letter", 1)]) rfl scLetters.nd (pi_str (pv 0)) (blkOk_by (N := ["value", "letter"]) (sc := defScope sLetters) (by decide +kernel))
          (fun _ _ _ _ _ => pg_name (i := 1) scLetters.nd rfl (Or.inl rfl)) (fun _ _ _ _ _ => pts_nil) (fun _ _ _ _ _ => pe_cmpR op_in_sign (pv 1) (C8.pe_gc rfl N.alpha) rfl)) pa_nil))
        (pe_one (pe_cmpR op_eq (pe_lenSetS rfl rfl B.len rfl C.set (pv 0)) (pe_lenS B.len (pa_cons (pv 0) pa_nil)) (nomark _)))))), ?_⟩
    obtain ⟨t, ty, k1⟩ := (Kn.str (S ls) : Kn H _).isStr K
    have l26 : (S ls).length ≤ 26 := by rw [S_len]; exact L.hi
    have l2 : 2 ≤ (S ls).length := by rw [S_len]; exact L.lo
    have small : (S ls).length ≤ sizeLine := Nat.le_of_lt (small10 (by omega))
    refine ⟨_, rfl, _, _, _, _, _, rfl, .ty "str", ty, k1, _, rfl, iteF ⟨_, rfl, _, rfl, small, _, _, rfl, rfl, _, rfl, ?_⟩⟩
    rw [if_pos (decide_eq_true (by omega))]
    refine ⟨_, _, rfl, rfl, _, rfl, ?_⟩
    show (if (!decide (((S ls).length : Int) ≤ 26)) = true then _ else _)
    rw [decide_eq_true (by omega)]
    refine iteF ⟨_, rfl, _, rfl, fun D nD => lcS (fun c => .bl (decide (c ∈ abc))) (by rw [S_size]; have := L.hi; omega) nD ?_ ?_⟩
    · intro c H1 Q N hc e q
      exact ⟨rfl, yesT ⟨_, rfl, c, S abc, rfl, rfl, q⟩⟩
    · intro H1 e hD
      refine ⟨D, (ls.map fun c => decide (c ∈ abc)), rfl, ?_, ?_⟩
      · rw [List.map_map]
        exact SqL.of hD
      rw [List.all_map, show (ls.all (id ∘ fun c => decide (c ∈ abc))) = true from List.all_eq_true.mpr fun c hc => decide_eq_true (L.abc c hc)]
      refine ⟨true, rfl, iteT ⟨_, rfl, S ls, rfl, L.nd, by rw [S_size]; have := L.hi; omega, _, rfl, S ls, rfl, small, rfl, ?_⟩⟩
      rw [S_len, S_size, decide_eq_true rfl]
      exact q H1 e
end
end K05
set_option Elab.async false
set_option linter.all false
set_option maxRecDepth 100001
set_option maxHeartbeats 3999999
namespace K05
open PySem L2
abbrev sTMany : Stmt := inClass (topS 7) 0
/-- an exception of three flat fields -/
def spX3 (K : PySem.W.Frag) (f g h : Str) : Sp := fun vs H Q _ => ∃ (a C : Addr) (u v w : V), vs = [.ref a, u, v, w] ∧ OexC K C ∧ PySem.W.findIn K (.ref C) f = some none ∧ PySem.W.findIn K (.ref C) g = some none ∧ PySem.W.findIn K (.ref C) h = some none ∧
  Flat u ∧ Flat v ∧ Flat w ∧ H a = some (exo a C none) ∧
  ∀ dx H', H dx = none → dx ≠ a → (∀ b, b ≠ a → b ≠ dx → H' b = H b) → H' a = some (exo a C (some dx)) → H' dx = some (exd dx [(h, w), (g, v), (f, u)]) → Q .non H'
def spX0 : Sp := fun vs H Q _ => ∃ a : Addr, vs = [.ref a] ∧ Q .non H
section
variable {P : Program} {w : World} {K : PySem.W.Frag} {mg : Str → Option Value} {base : Heap}
theorem scTMany : FnScope ["self", "what", "many", "most"] ["self", "what", "many", "most"] (defScope sTMany) := ⟨rfl, rfl, rfl, by decide +kernel, rfl, by decide +kernel, by decide +kernel⟩
theorem ok_TMany {f : Addr} {fd : FuncData} (F : Fun K "__init__" "TooMany.__init__" sTMany f fd) (cC : Cal CX0 P w K mg base 1 "copied" spCopied) : FnOk P w K mg base CX0 2 f fd ["self", "what", "many", "most"] (spX3 K "what" "many" "most") := by
  refine F.ok scTMany (fun vs H Q E h => ?_) (fun cdv A outer s H vs Q E hr h => ?_)
  · obtain ⟨a, C, u, v, z, rfl, _⟩ := h
    rfl
  · obtain ⟨a, C, u, v, z, rfl, T, n1, n2, n3, k1, k2, k3, ha, q⟩ := h
    refine ⟨_, pss_cons (ps_ost (pv 0) (pe_c cC hr pass0 (pa_cons (pv 1) pa_nil))) (pss_cons (ps_ost (pv 0) (pe_c cC hr pass0 (pa_cons (pv 2) pa_nil))) (pss_one (ps_ost (pv 0) (pe_c cC hr pass0 (pa_cons (pv 3) pa_nil))))), ?_⟩
    refine ⟨u, rfl, u, rfl, k1, _, rfl, a, C, rfl, T, n1, .inl ⟨ha, fun dx nd na => ?_⟩⟩
    refine ⟨v, rfl, v, rfl, k2, _, rfl, a, C, rfl, T, n2, .inr ⟨dx, _, upd_same, by rw [upd_ne na]; exact upd_same, by show 1 ≤ 900; decide, ?_⟩⟩
    refine ⟨z, rfl, z, rfl, k3, _, rfl, a, C, rfl, T, n3, .inr ⟨dx, _, by rw [upd_ne (Ne.symm na)]; exact upd_same, upd_same, by show 2 ≤ 900; decide, ?_⟩⟩
    refine q dx _ nd na (fun b h1 h2 => ?_) ?_ upd_same
    · rw [upd_ne h2, upd_ne h2, upd_ne h1, upd_ne h2]
    · rw [upd_ne (Ne.symm na), upd_ne (Ne.symm na)]
      exact upd_same
end
/-- behind a raise: all that was there, and the error's fields at d -/
structure Rsd (H H' : Hp) (d : Addr) (fs : List (Str × V)) : Prop where
  new : H d = none
  same : Same H H'
  at_ : H' d = some (.xd fs)
theorem rsd_of {H H2 : Hp} {a d C : Addr} {fs : List (Str × V)} (na : H a = none) (nd : H d = none) (h : ∀ b, b ≠ a → b ≠ d → H2 b = H b) : Rsd H (upd (del H2 a) d (.xd fs)) d fs :=
  ⟨nd, fun b o e => by
    rw [upd_ne (ne_of_none e nd), del_ne (ne_of_none e na), h b (ne_of_none e na) (ne_of_none e nd)]
    exact e, upd_same⟩
theorem raise3 {H : Hp} {C : Addr} {f g h : Str} {u v z : V} {R : XK} {K : PySem.W.Frag} (T : OexC K C) (n1 : PySem.W.findIn K (.ref C) f = some none) (n2 : PySem.W.findIn K (.ref C) g = some none) (n3 : PySem.W.findIn K (.ref C) h = some none)
    (k1 : Flat u) (k2 : Flat v) (k3 : Flat z) (r : ∀ d H', Rsd H H' d [(h, z), (g, v), (f, u)] → R (.ref C) (some d) H') :
    ([u, v, z] : List V).length ≤ 1000 ∧ ∀ a, H a = none → spX3 K f g h (.ref a :: ([u, v, z] ++ [])) (upd H a (exo a C none)) (fun y H2 => y = .non ∧ ∃ (d : Addr) (fs : List (Str × V)), H2 a = some (exo a C (some d)) ∧ H2 d = some (exd d fs) ∧ H d = none ∧ R (.ref C) (some d) (upd (del H2 a) d (.xd fs))) (fun _ _ _ => False) := by
  refine ⟨by show 3 ≤ 1000; decide, fun a na => ⟨a, C, u, v, z, rfl, T, n1, n2, n3, k1, k2, k3, upd_same, fun dx H' nd ne hk ha hd => ⟨rfl, dx, _, ha, hd, ?_, r _ _ ?_⟩⟩⟩
  · rw [upd_ne ne] at nd
    exact nd
  · refine rsd_of (C := C) na (by rw [upd_ne ne] at nd; exact nd) fun b h1 h2 => ?_
    rw [hk b h1 h2, upd_ne h1]
theorem raise0 {H : Hp} {C : Addr} {R : XK} {K : PySem.W.Frag} (r : ∀ H', Same H H' → R (.ref C) none H') :
    ∀ a, H a = none → spX0 [.ref a] (upd H a (exo a C none)) (fun v H2 => v = .non ∧ H2 a = some (exo a C none) ∧ R (.ref C) none (del H2 a)) (fun _ _ _ => False) := fun a na =>
  ⟨a, rfl, rfl, upd_same, r _ fun b o e => by rw [del_ne (ne_of_none e na), upd_ne (ne_of_none e na)]; exact e⟩
end K05
set_option Elab.async false
set_option linter.all false
set_option maxRecDepth 100001
set_option maxHeartbeats 3200000
/-! len(set(s)), s any text. -/
namespace SetAny
open PySem.Spec PySem PyProof.Rows
def sgl (c : Nat) : Str := ⟨#[c]⟩
def firsts (z : Str) (i : Nat) : List Nat := z.cps.toList.take i
def has (z : Str) (i : Nat) (k : Str) : Bool := (firsts z i).any fun c => sgl c == k
theorem firsts_succ {z : Str} {i c : Nat} (h : z.cps[i]? = some c) : firsts z (i + 1) = firsts z i ++ [c] := by
  unfold firsts
  rw [List.take_add_one, Array.getElem?_toList, h]
  rfl
theorem sgl_inj {a b : Nat} (h : sgl a = sgl b) : a = b := by
  have h2 : (#[a] : Array Nat) = #[b] := congrArg Str.cps h
  have h3 := congrArg Array.toList h2
  simpa using h3
/-- how many unlike signs there are among the first i -/
def news (z : Str) : Nat → Nat
  | 0 => 0
  | i + 1 => news z i + if has z i (sgl (z.cps.toList.getD i 0)) = true then 0 else 1
theorem news_le (z : Str) : ∀ i, news z i ≤ i
  | 0 => Nat.le_refl _
  | i + 1 => by
    have ih := news_le z i
    unfold news
    split <;> omega
theorem news_succ {z : Str} {i c : Nat} (h : z.cps[i]? = some c) : news z (i + 1) = news z i + if has z i (sgl c) = true then 0 else 1 := by
  have e : z.cps.toList.getD i 0 = c := by
    rw [List.getD_eq_getElem?_getD, Array.getElem?_toList, h]
    rfl
  show news z i + _ = _
  rw [e]
section
variable {prog : Program} {w : World} {A : Around} {R : Result → Shared → Prop} {I : Addr} {fp wr : List Addr} {G : Array GenState → Array GenState → Prop} {n : Nat} {St : Nat → Shared → Prop}
theorem loop (z : Str) (hb : z.cps.size + 1 < scanBound) (W : WalksS prog w A.in1 I fp wr G z.cps.size (SignAt z) St) (S : Addr) (hSf : S ∉ fp) :
    ∀ (k i : Nat) (s : Shared), z.cps.size - i = k → i ≤ z.cps.size → St i s →
      s.heap.SetOf (PySem.strKind prog w) S (has z i) (news z i) →
      (∀ s', Moved (S :: wr) G s s' → s'.heap.SetOf (PySem.strKind prog w) S (has z z.cps.size) (news z z.cps.size) → R (.ok (.ret .none)) s') →
      codeAny (model prog w) A (.builtin "set.update.loop" ⟨[.ref S, .ref I], []⟩) R s := by
  have hSw : S ∉ wr := fun h => hSf (W.sub _ h)
  have hsub : ∀ b ∈ wr, b ∈ S :: wr := fun b hb => List.mem_cons_of_mem _ hb
  intro k
  induction k with
  | zero =>
    intro i s hk hi hst hS hR
    have hin : i = z.cps.size := by omega
    subst hin
    refine codeAny_builtin PyProof.Rows.F.entry_set_update_loop ?_
    rw [Around.under_plainId PyProof.Rows.F.plain_set_update_loop _]
    show wpAny _ A.in1 (pyNext (.ref I) >>= _) _ _ s
    refine wpAny_bind (W.done s _ _ hst fun s' hm => ?_)
    show wpAny _ A.in1 (ret Value.none) _ _ s'
    exact wpAny_pure (hR s' (hm.mono hsub) (by
      obtain ⟨o, es, ep, t, ho, rest⟩ := hS
      exact ⟨o, es, ep, t, hm.heap S _ hSw ho, rest⟩))
  | succ k ih =>
    intro i s hk hi hst hS hR
    have hlt : i < z.cps.size := by omega
    refine codeAny_builtin PyProof.Rows.F.entry_set_update_loop ?_
    rw [Around.under_plainId PyProof.Rows.F.plain_set_update_loop _]
    show wpAny _ A.in1 (pyNext (.ref I) >>= _) _ _ s
    refine wpAny_bind (W.item i s _ _ hlt hst fun v s' hP hst' hm => ?_)
    obtain ⟨c, t, hc, rfl⟩ := hP
    have hS' : s'.heap.SetOf (PySem.strKind prog w) S (has z i) (news z i) := by
      obtain ⟨o, es, ep, tb, ho, rest⟩ := hS
      exact ⟨o, es, ep, tb, hm.heap S _ hSw ho, rest⟩
    show wpAny _ A.in1 (holding [Value.str (sgl c) t] (setAdd S (.str (sgl c) t)) >>= _) _ _ s'
    refine wpAny_bind (wpAny_holding ?_)
    unfold setAdd
    refine wpAny_holding ?_
    refine wpAny_bind ((PySem.strKind prog w).pyHash (k := sgl c) (strKind_is _ _ _ _) ?_)
    refine wpAny_setAddHashed_of (knd := PySem.strKind prog w) (s := { s' with toks := s'.toks + 1 }) (strKind_is _ _ _ _) rfl hS' (by have := news_le z i; omega) fun h' hsb hS2 => ?_
    have hSi : h'.SetOf (PySem.strKind prog w) S (has z (i + 1)) (news z (i + 1)) := by
      refine SetOf_congr hS2 (fun k' => ?_) (by rw [news_succ hc]; cases has z i (sgl c) <;> rfl)
      unfold has
      rw [firsts_succ hc, List.any_append]
      congr 1
      by_cases e : k' = sgl c
      · subst e; simp
      · have hb : (sgl c == k') = false := by simpa [beq_iff_eq] using (fun h' : sgl c = k' => e h'.symm)
        simp [hb, e]
    refine wpAny_pure ⟨plainId_quiet PyProof.Rows.F.plain_set_update_loop _, ih (i + 1) _ (by omega) hlt (W.frame _ s' _ _ hst' (Nat.le_succ _) fun b hb o e => ?_) hSi fun s'' hm'' hS'' => ?_⟩
    · rw [hsb.2 b (fun h : b = S => hSf (by rw [← h]; exact hb))]; exact e
    · refine hR s'' (Moved.trans W.gtrans ((hm.mono hsub).then_heap (Nat.le_succ _) fun b o hb e => ?_) hm'') hS''
      rw [hsb.2 b (fun h : b = S => hb (by rw [h]; exact List.mem_cons_self))]; exact e
end
section
variable {prog : Program} {w : World} {A : Around} {E : Value → Shared → Prop} {s : Shared}
theorem call_set (z : Str) (t : Tok) {Q : Value → Shared → Prop} (hh : A.handled = none) (hb : z.cps.size + 1 < scanBound)
    (h : ∀ (h' : Heap) (tk : Nat), h'.SetOf (PySem.strKind prog w) s.heap.objs.size (has z z.cps.size) (news z z.cps.size) → (∀ b o, b < s.heap.objs.size → s.heap.get? b = some o → h'.get? b = some o) → Q (.ref s.heap.objs.size) { s with heap := h', toks := tk }) :
    wpAny (model prog w) A (call (.type "set") [.str z t]) Q E s := by
  obtain ⟨c, tl, hmro⟩ := PySem.F.called_set.mro
  have hmade := PySem.F.called_set.made
  have hsub := PySem.F.called_set.sub
  refine wpAny_call (codeAny_of_tree ?_)
  show wpAny _ _ (callAny (.type "set") _) _ _ _
  refine wpAny_pure ⟨Code.quiet_builtin _ (by decide +kernel), codeAny_builtin PySem.F.entry_type_call ?_⟩
  rw [Around.under_plain (weight_type_call_type "set" [.str z t] []) rfl]
  have h1 := PySem.F.called_set.notType
  have h2 := PySem.F.called_set.canCreate
  have hct := PySem.F.typeCall_set_1 (.str z t)
  repeat (any_goals (first | assumption | wp_step))

  refine codeAny_mono (code_set_new_1 (.str z t) (E := E) (Q₁ := fun obj s₁ => ∃ led : Bool, obj = .ref s.heap.objs.size ∧ s₁ = { s with heap := s.heap.push { cls := .type "set", dict := none, data := .set #[] 0 (.fresh 0 0 led) } }) fun led => ⟨led, rfl, rfl⟩) fun r s₁ hr => ?_
  cases r with
  | error e => exact hr
  | ok fl =>
    cases fl with
    | ret obj =>
      obtain ⟨led, rfl, rfl⟩ := hr
      have hS : (s.heap.push { cls := .type "set", dict := none, data := .set #[] 0 (.fresh 0 0 led) }).get? s.heap.objs.size = some { cls := .type "set", dict := none, data := .set #[] 0 (.fresh 0 0 led) } := Heap.get?_push_size _ rfl
      have hT : Shared.TypeIs { s with heap := s.heap.push { cls := .type "set", dict := none, data := .set #[] 0 (.fresh 0 0 led) } } (.ref s.heap.objs.size) "set" := ⟨_, hS, rfl⟩
      have hli := PySem.F.called_set.init.lookup
      have hbi := PySem.F.called_set.init.bind (.ref s.heap.objs.size)
      repeat (any_goals (first | assumption | wp_step))

      refine codeAny_mono (codeAny_call_builtin (R := wants (fun r s₂ => r = .none ∧ ∃ h' tk, s₂ = { s with heap := h', toks := tk } ∧
          h'.SetOf (PySem.strKind prog w) s.heap.objs.size (has z z.cps.size) (news z z.cps.size) ∧
          (∀ b o, b < s.heap.objs.size → s.heap.get? b = some o → h'.get? b = some o)) E) PySem.F.called_set.init.plain PySem.F.entry_set_init (check_set_init_1 hT ?_)) fun r₂ s₂ hr₂ => ?_
      · have hsls := PySem.F.sub_str_set
        have hslf := PySem.F.sub_str_frozenset
        have hne : (Value.type "str" == Value.type "dict") = false := by decide
        unfold Builtin.«set.__init__» noKeywords Builtin.Frozenset.updateFrom
        generalize hPI : pyIter = PI
        wp_walk
        subst hPI

        have hh3 : A.in1.in1.in1.handled = none := by simp [hh]
        have hSf : s.heap.objs.size ∉ [(s.heap.push { cls := .type "set", dict := none, data := .set #[] 0 (.fresh 0 0 led) }).objs.size] := by
          rw [Heap.size_push]; simp only [List.mem_singleton]
          exact Nat.ne_of_lt (Nat.lt_succ_self _)
        refine wpAny_pyIter_str fun o St W hst => ?_
        refine wpAny_bind (wpAny_runValue ?_)
        refine loop z hb (W _ hh3).toS s.heap.objs.size hSf (z.cps.size - 0) 0 _ (by omega) (Nat.zero_le _) hst ?hS0 ?hR
        case hS0 =>
          have hget : ((s.heap.push { cls := .type "set", dict := none, data := .set #[] 0 (.fresh 0 0 led) }).push o).get? s.heap.objs.size
              = some { cls := .type "set", dict := none, data := .set #[] 0 (.fresh 0 0 led) } := Heap.get?_push_of_some _ hS
          exact PyProof.Rows.SetOf_congr ((PyProof.Rows.setObjOf_fresh (knd := PySem.strKind prog w) led).setOf hget (by unfold scanBound; omega)) (fun _ => rfl) rfl
        case hR =>
          intro s' hm hS'
          obtain ⟨h', g', d', tk', os'⟩ := s'
          have eg : g' = s.gens := hm.gens
          have ed : d' = s.drawn := hm.drawn
          have eo : os' = s.os := hm.os
          subst eg; subst ed; subst eo
          show wpAny _ _ _ _ _ _
          refine wpAny_pure ?_
          show wpAny _ _ (ret Value.none) _ _ _
          refine wpAny_pure ⟨rfl, h', tk', rfl, hS', fun b o hb e => ?_⟩
          have hb1 : b ≠ s.heap.objs.size := Nat.ne_of_lt hb
          have hb2 : b ≠ (s.heap.push { cls := .type "set", dict := none, data := .set #[] 0 (.fresh 0 0 led) }).objs.size := by
            rw [Heap.size_push]; exact Nat.ne_of_lt (Nat.lt_succ_of_lt hb)
          exact hm.heap b o (by simp only [List.mem_cons, List.mem_singleton, List.not_mem_nil, or_false, not_or]; exact ⟨hb1, hb2⟩) (Heap.get?_push_of_some _ (Heap.get?_push_of_some _ e))

      · cases r₂ with
        | error e => exact hr₂
        | ok fl₂ =>
          cases fl₂ with
          | ret r =>
            obtain ⟨rfl, h', tk, rfl, hS', hk'⟩ := hr₂
            repeat (any_goals (first | assumption | wp_step))
            exact h _ _ hS' hk'
          | _ => exact hr₂.elim
    | _ => exact hr.elim
end
end SetAny
namespace L2
open PySem.Spec PySem PyProof.Rows
section
variable {X : Cx}
/-- len(set(s)) -/
def tLenSetA (ta : TE) : TE := fun σ H Q => ta σ H fun x H1 => ∃ z : Str, x = .str z ∧ z.cps.size ≤ 200 ∧ Q (.int (SetAny.news z z.cps.size)) H1
theorem pe_lenSetA {a : Expr} {ta : TE} {p p2 q pos : Pos} (hc : X.calm = true) (hg : Gl X "len") (hm : X.mg "len" = none) (hg2 : Gl X "set") (hm2 : X.mg "set" = none) (ha : PE X a ta)
    (na : starEach [a] X.env = (false, eval a X.env) :: starEach [] X.env := by rfl) : PE X (.Call (.Name "len" p) [.Call (.Name "set" p2) [a] [] q] [] pos) (tLenSetA ta) := by
  refine ⟨fun pins s σ H Q I h => ?_⟩
  refine Call_ (ld_blt I hg hm boot_len ?_)
  refine PyProof.Rows.callWith_builtin1 (PyProof.Rows.args_cons ?_ rfl) rfl rfl
  refine Call_ (ld_blt I hg2 hm2 boot_set ?_)
  refine PyProof.Rows.callWith_type1 (PyProof.Rows.args_cons (thn (ha.run pins s σ H _ I h) fun v s1 ⟨x, H1, I1, r1, q1⟩ => PyProof.Rows.args_nil ?_) na) na rfl
  obtain ⟨z, rfl, hz, q1⟩ := q1
  obtain ⟨t, rfl⟩ := r1
  refine SetAny.call_set z t (I1.ok.hd hc) (by unfold scanBound; omega) fun h' tk hS hk => ?_
  refine PyProof.Rows.args_nil ?_
  obtain ⟨o, es, ep, tt, ho, hex, hd, _, _, _, hf, hn⟩ := hS
  have I2 : Inv X pins σ H1 { s1 with heap := h', toks := tk } := I1.kept fun b o e => hk b o (Heap.lt_size e) e
  exact call_len_set ho hex hd hf (by rw [hn]; have := SetAny.news_le z z.cps.size; omega) ⟨.int (SetAny.news z z.cps.size), H1, I2.tok _, ⟨_, by rw [hn]⟩, q1⟩
end
end L2
namespace SetAny
open PySem
/-- as many unlike signs as signs: none comes twice -/
theorem news_nd {z : Str} : ∀ {i : Nat}, i ≤ z.cps.size → (news z i = i ↔ (firsts z i).Nodup)
  | 0, _ => by simp [news, firsts]
  | i + 1, h => by
    have ih := news_nd (z := z) (i := i) (by omega)
    have hc : z.cps[i]? = some z.cps[i] := Array.getElem?_eq_getElem (by omega)
    have le := news_le z i
    rw [news_succ hc, firsts_succ hc, List.nodup_append]
    have e : has z i (sgl z.cps[i]) = true ↔ z.cps[i] ∈ firsts z i := by
      unfold has
      rw [List.any_eq_true]
      constructor
      · rintro ⟨x, hx, e⟩
        have := sgl_inj (by simpa using e : sgl x = sgl z.cps[i])
        rw [← this]
        exact hx
      · intro m
        exact ⟨_, m, by simp⟩
    by_cases c : has z i (sgl z.cps[i]) = true
    · rw [if_pos c]
      constructor
      · intro z; omega
      · intro z
        exact absurd rfl (z.2.2 _ (e.mp c) _ List.mem_cons_self)
    · rw [if_neg c]
      have nm := fun m => c (e.mpr m)
      constructor
      · intro z
        refine ⟨ih.mp (by omega), by simp, fun a ha b hb => ?_⟩
        rw [List.mem_singleton.mp hb]
        exact fun y => nm (y ▸ ha)
      · intro z
        have := ih.mpr z.1
        omega
end SetAny
set_option Elab.async false
set_option linter.all false
set_option maxRecDepth 100001
set_option maxHeartbeats 3999999
namespace K05
open PySem L2
/-- letters that a dictionary may have, of any value -/
def isLs : V → Bool
  | .str x => (decide (2 ≤ x.length ∧ x.length ≤ 26)) && ((x.cps.toList.all fun c => decide (c ∈ abc)) && decide (SetAny.news x x.cps.size = x.cps.size))
  | _ => false
theorem isLs_lets {ls : List Nat} (h : isLs (.str (S ls)) = true) : Lets ls := by
  have h : ((decide (2 ≤ (S ls).length ∧ (S ls).length ≤ 26)) && (((S ls).cps.toList.all fun c => decide (c ∈ abc)) && decide (SetAny.news (S ls) (S ls).cps.size = (S ls).cps.size))) = true := h
  rw [Bool.and_eq_true, Bool.and_eq_true] at h
  obtain ⟨h1, h2, h3⟩ := h
  have h1 := of_decide_eq_true h1
  rw [S_len] at h1
  have h3 := (SetAny.news_nd (Nat.le_refl _)).mp (of_decide_eq_true h3)
  unfold SetAny.firsts at h3
  rw [S_size, S_list, List.take_length] at h3
  exact ⟨h3, h1.1, h1.2, fun c m => of_decide_eq_true (List.all_eq_true.mp h2 c m)⟩
def spLetsV : Sp := fun vs H Q _ => ∃ v, vs = [v] ∧ Kn H v ∧ (∀ x, v = .str x → x.length ≤ 200) ∧ ∀ H', Same H H' → Q (.bl (isLs v)) H'
section
variable {P : Program} {w : World} {K : PySem.W.Frag} {mg : Str → Option Value} {base : Heap}
theorem ok_lettersV {f : Addr} {fd : FuncData} (F : Fun K "are_letters" "are_letters" sLetters f fd) (B : Bi mg) (C : Bs mg) (N : Cn mg) : FnOk P w K mg base CX0 1 f fd ["value"] spLetsV := by
  refine F.ok scLetters (fun vs H Q E h => ?_) (fun cdv A outer s H vs Q E hr h => ?_)
  · obtain ⟨v, rfl, _⟩ := h
    rfl
  · obtain ⟨v, rfl, kn, lv, q⟩ := h
    refine ⟨_, pss_cons (ps_if (PW.pt (pw_or (pt_not (pt_val (pe_isStr B.isi (pa_cons (pv 0) (pa_cons (pe_ty "str" C.str) pa_nil))))) (pw_or1 (pt_not (pt_chain op_le op_le pe_int (pe_lenS B.len (pa_cons (pv 0) pa_nil)) pe_int))))) (pss_one (ps_ret pe_bl)) pss_nil)
      (pss_one (ps_ret (pe_and (pe_all rfl C.all (pa_cons (pe_lc (own := [("letter", 1)]) rfl scLetters.nd (pi_str (pv 0)) (blkOk_by (N := ["value", "letter"]) (sc := defScope sLetters) (by decide +kernel))
          (fun _ _ _ _ _ => pg_name (i := 1) scLetters.nd rfl (Or.inl rfl)) (fun _ _ _ _ _ => pts_nil) (fun _ _ _ _ _ => pe_cmpR op_in_sign (pv 1) (C8.pe_gc rfl N.alpha) rfl)) pa_nil))
        (pe_one (pe_cmpR op_eq (pe_lenSetA rfl rfl B.len rfl C.set (pv 0)) (pe_lenS B.len (pa_cons (pv 0) pa_nil)) (nomark _)))))), ?_⟩
    obtain ⟨t, ty, k1⟩ := kn.isStr K
    refine ⟨_, rfl, _, _, _, _, _, rfl, .ty "str", ty, k1, _, rfl, ?_⟩
    cases v with
    | str x =>
      have lx := lv x rfl
      have small : x.length ≤ sizeLine := Nat.le_of_lt (small10 (by omega))
      have q0 : ∀ H', Same H H' → Q (.bl ((decide (2 ≤ x.length ∧ x.length ≤ 26)) && ((x.cps.toList.all fun c => decide (c ∈ abc)) && decide (SetAny.news x x.cps.size = x.cps.size)))) H' := q
      refine iteF ⟨_, rfl, _, rfl, small, _, _, rfl, rfl, _, rfl, ?_⟩
      by_cases c1 : 2 ≤ x.length
      · rw [if_pos (decide_eq_true (show (2 : Int) ≤ (x.length : Int) by omega))]
        refine ⟨_, _, rfl, rfl, _, rfl, ?_⟩
        show (if (!decide ((x.length : Int) ≤ 26)) = true then _ else _)
        by_cases c2 : x.length ≤ 26
        · rw [decide_eq_true (show (x.length : Int) ≤ 26 by omega)]
          rw [decide_eq_true (show 2 ≤ x.length ∧ x.length ≤ 26 from ⟨c1, c2⟩)] at q0
          refine iteF ⟨_, rfl, _, rfl, fun D nD => lcS (fun c => .bl (decide (c ∈ abc))) (by show x.length ≤ 10000; omega) nD ?_ ?_⟩
          · intro c H1 Q N hc e q
            exact ⟨rfl, yesT ⟨_, rfl, c, S abc, rfl, rfl, q⟩⟩
          · intro H1 e hD
            refine ⟨D, (x.cps.toList.map fun c => decide (c ∈ abc)), rfl, ?_, ?_⟩
            · rw [List.map_map]
              exact SqL.of hD
            have q1 := q0 H1 e
            rw [Bool.true_and] at q1
            rw [List.all_map, show (id ∘ fun c => decide (c ∈ abc)) = fun c => decide (c ∈ abc) from rfl]
            cases ca : x.cps.toList.all fun c => decide (c ∈ abc) with
            | false =>
              rw [ca, Bool.false_and] at q1
              exact ⟨false, rfl, iteF q1⟩
            | true =>
              rw [ca, Bool.true_and] at q1
              refine ⟨true, rfl, iteT ⟨_, rfl, x, rfl, lx, _, rfl, x, rfl, small, rfl, ?_⟩⟩
              have e : decide (V.int ((SetAny.news x x.cps.size : Nat) : Int) = V.int ((x.length : Nat) : Int)) = decide (SetAny.news x x.cps.size = x.cps.size) := decide_eq_decide.mpr ⟨fun h => by
                have := V.int.inj h
                have e2 : x.length = x.cps.size := rfl
                omega, fun h => by rw [h]; rfl⟩
              rw [e]
              exact q1
        · rw [decide_eq_false (show ¬ (x.length : Int) ≤ 26 by omega)]
          rw [decide_eq_false (show ¬ (2 ≤ x.length ∧ x.length ≤ 26) from fun h => c2 h.2)] at q0
          exact iteT (q0 H (Same.refl H))
      · rw [if_neg (fun z => c1 (by have := of_decide_eq_true z; omega))]
        rw [decide_eq_false (show ¬ (2 ≤ x.length ∧ x.length ≤ 26) from fun h => c1 h.1)] at q0
        exact ⟨_, rfl, iteT (q0 H (Same.refl H))⟩
    | _ => exact iteT (q H (Same.refl H))
end
end K05
set_option Elab.async false
set_option linter.all false
set_option maxRecDepth 100001
set_option maxHeartbeats 3999999
namespace K05
open PySem L2
/-- how many signs two texts begin with in common -/
def shr : List Nat → List Nat → Nat
  | x :: xs, y :: ys => if x = y then shr xs ys + 1 else 0
  | _, _ => 0
theorem shr_nil {l : List Nat} : shr l [] = 0 := by cases l <;> rfl
theorem shr_step {a b : List Nat} {i x y : Nat} (ha : a[i]? = some x) (hb : b[i]? = some y) : shr (a.drop i) (b.drop i) = if x = y then shr (a.drop (i + 1)) (b.drop (i + 1)) + 1 else 0 := by
  obtain ⟨h1, rfl⟩ := List.getElem?_eq_some_iff.mp ha
  obtain ⟨h2, rfl⟩ := List.getElem?_eq_some_iff.mp hb
  rw [List.drop_eq_getElem_cons h1, List.drop_eq_getElem_cons h2]
  rfl
theorem shr_le : ∀ (a b : List Nat), shr a b ≤ a.length ∧ shr a b ≤ b.length
  | x :: xs, y :: ys => by
    have ih := shr_le xs ys
    unfold shr
    simp only [List.length_cons]
    split <;> omega
  | [], _ => by simp [shr]
  | _ :: _, [] => by simp [shr]
def MonT (t : TT) : Prop := ∀ (σ : St) (H : Hp) (Q Q' : Bool → Hp → Prop), (∀ b H1, Q b H1 → Q' b H1) → t σ H Q → t σ H Q'
theorem mono_and {t u : TT} (ht : MonT t) (hu : MonT u) : MonT (tAnd t u) := fun σ H Q Q' m h => ht σ H _ _ (fun c H1 z => by
  cases c with
  | true =>
    rw [if_pos rfl] at z ⊢
    exact hu _ _ _ _ m z
  | false =>
    rw [if_neg (by decide)] at z ⊢
    exact m _ _ z) h
def spPickS : Sp := fun vs H Q _ => ∃ (pn cl : Addr) (ls : List Nat) (b : Nat), vs = [.ref pn, .str (S ls)] ∧ Pen H pn cl b ∧ b ≤ 1000000 ∧ 0 < ls.length ∧ ls.length ≤ 1000 ∧ ∀ c H', c ∈ ls → But pn H H' → Pen H' pn cl (b + 1) → Q (.str (S [c])) H'
section
variable {P : Program} {w : World} {K : PySem.W.Frag} {mg : Str → Option Value} {base : Heap}
theorem ok_pickS {f : Addr} {fd : FuncData} (F : Fun K "_law_pick" "_law_pick" sPick f fd) (B : Bi mg) (cD : Cal CX0 P w K mg base 1 "_law_draw" spDraw) : FnOk P w K mg base CX0 2 f fd ["_law_pen_here", "_law_some"] spPickS := by
  refine F.ok scPick (fun vs H Q E h => ?_) (fun cdv A outer s H vs Q E hr h => ?_)
  · obtain ⟨pn, cl, ls, b, rfl, _⟩ := h
    rfl
  · obtain ⟨pn, cl, ls, b, rfl, pen, hb, l0, l1, q⟩ := h
    have small : (S ls).length ≤ sizeLine := by rw [S_len]; exact Nat.le_of_lt (small10 (by omega))
    refine ⟨_, pss_one (ps_ret (pe_ix ix_str (pv 1) (pe_c cD hr pass0 (pa_cons (pv 0) (pa_cons (pe_lenS B.len (pa_cons (pv 1) pa_nil)) pa_nil))) (fun _ _ => rfl))), ?_⟩
    refine ⟨_, rfl, _, rfl, _, rfl, _, rfl, small, pn, cl, _, b, rfl, pen, hb, by rw [S_len]; omega, by rw [S_len]; omega, fun r H' r0 r1 e pen2 => ?_⟩
    obtain ⟨r, rfl⟩ := Int.eq_ofNat_of_zero_le r0
    rw [S_len] at r1
    have lt : r < ls.length := by omega
    exact ⟨S ls, _, ls[r], rfl, rfl, small, atI_nat (List.getElem?_eq_getElem lt), q _ _ (List.getElem_mem lt) e pen2⟩
end
end K05
set_option Elab.async false
set_option linter.all false
set_option maxRecDepth 100001
set_option maxHeartbeats 3999999
namespace K05
open PySem L2
/-! ### texts compared, joined -/
def txs (ws : List (List Nat)) : List V := ws.map fun w => .str (S w)
def Nch (w : List Nat) : Prop := ∀ c ∈ w, c < 1114112
theorem S_ok {w : List Nat} (h : Nch w) : PyData.strOk (S w) = true := by
  show ((S w).cps.all (· < 0x110000)) = true
  rw [Array.all_eq_true']
  intro c hc
  exact decide_eq_true (h c (by simpa [S] using hc))
theorem flat_S {w : List Nat} (h : Nch w) : Flat (.str (S w)) := S_ok h
theorem flat_strs {ws : List (List Nat)} (h : ∀ w ∈ ws, Nch w) : ∀ v ∈ txs ws, Flat v := fun v hv => by
  obtain ⟨w, m, rfl⟩ := List.mem_map.mp hv
  exact flat_S (h w m)
theorem strs_len (ws : List (List Nat)) : (txs ws).length = ws.length := List.length_map ..
theorem str_inj {a b : List Nat} (h : V.str (S a) = V.str (S b)) : a = b := S_inj (V.str.inj h)
theorem strs_inj : ∀ {as bs : List (List Nat)}, txs as = txs bs → as = bs
  | [], [], _ => rfl
  | [], _ :: _, h => nomatch h
  | _ :: _, [], h => nomatch h
  | a :: as, b :: bs, h => by
    injection h with h1 h2
    rw [str_inj h1, strs_inj h2]
theorem decS {a b : List Nat} : decide (V.str (S a) = V.str (S b)) = decide (a = b) := decide_eq_decide.mpr ⟨str_inj, fun h => h ▸ rfl⟩
theorem eqvAll_strs : ∀ (as bs : List (List Nat)), PyData.eqvAll ((txs as).map dOf) ((txs bs).map dOf) = decide (as = bs)
  | [], [] => by simp [PyData.eqvAll, txs]
  | [], _ :: _ => by simp [PyData.eqvAll, txs]
  | _ :: _, [] => by simp [PyData.eqvAll, txs]
  | a :: as, b :: bs => by
    have ih := eqvAll_strs as bs
    have e : PyData.eqvAll ((txs (a :: as)).map dOf) ((txs (b :: bs)).map dOf) = (PyData.eqv (.str (S a)) (.str (S b)) && PyData.eqvAll ((txs as).map dOf) ((txs bs).map dOf)) := by simp only [txs, List.map_cons, PyData.eqvAll, dOf]
    have e2 : PyData.eqv (.str (S a)) (.str (S b)) = decide (a = b) := by
      have : PyData.eqv (.str (S a)) (.str (S b)) = (S a == S b) := by simp only [PyData.eqv]
      rw [this, Bool.eq_iff_iff, decide_eq_true_iff, beq_iff_eq]
      exact ⟨S_inj, fun h => h ▸ rfl⟩
    rw [e, ih, e2]
    by_cases h1 : a = b
    · by_cases h2 : as = bs
      · simp [h1, h2]
      · simp [h1, h2]
    · simp [h1]
theorem shL_flat {xs : List V} (h : ∀ v ∈ xs, Flat v) : SeqAt.shaped (.list (xs.map dOf)) = true := by
  have h1 := lay_flat h
  have h2 := depth_flat xs
  show (PyData.canLay0 (.list (xs.map dOf)) && decide (PyData.depth (.list (xs.map dOf)) ≤ 64)) = true
  rw [Bool.and_eq_true]
  refine ⟨by simp only [PyData.canLay0]; exact h1, decide_eq_true ?_⟩
  simp only [PyData.depth]
  omega
/-- two lists, or two tuples, of texts -/
def rEqT (K : PySem.W.Frag) (neg : Bool) : R2 := fun x y H Q => ∃ a b us vs, x = .ref a ∧ y = .ref b ∧ ((SqL K H a (txs us) ∧ SqL K H b (txs vs)) ∨ (SqT K H a (txs us) ∧ SqT K H b (txs vs))) ∧ (∀ v ∈ us, Nch v) ∧ (∀ v ∈ vs, Nch v) ∧ Q (.bl (if neg then !decide (us = vs) else decide (us = vs))) H
section
variable {X : Cx}
theorem op_eqT (hu : X.A.units + 64 < cLine) : OpR X (compareOp .Eq) (rEqT X.K false) := by
  intro pins s σ H x y v u Q I rx ry h
  obtain ⟨a, b, us, vs, rfl, rfl, d, nx, ny, q⟩ := h
  rcases d with ⟨d1, d2⟩ | ⟨d1, d2⟩
  · refine op_eqD hu pins s σ H _ _ v u Q I rx ry ⟨_, _, .lst d1 (dpAll_flat (flat_strs nx)), .lst d2 (dpAll_flat (flat_strs ny)), shL_flat (flat_strs nx), shL_flat (flat_strs ny), ?_⟩
    rw [show PyData.eqv (.list ((txs us).map dOf)) (.list ((txs vs).map dOf)) = decide (us = vs) by rw [← eqvAll_strs]; simp only [PyData.eqv]]
    exact q
  · refine op_eqD hu pins s σ H _ _ v u Q I rx ry ⟨_, _, .tup d1 (dpAll_flat (flat_strs nx)), .tup d2 (dpAll_flat (flat_strs ny)), shT_flat (flat_strs nx), shT_flat (flat_strs ny), ?_⟩
    rw [show PyData.eqv (.tuple ((txs us).map dOf)) (.tuple ((txs vs).map dOf)) = decide (us = vs) by rw [← eqvAll_strs]; simp only [PyData.eqv]]
    exact q
theorem op_neT (hu : X.A.units + 64 < cLine) : OpR X (compareOp .NotEq) (rEqT X.K true) := by
  intro pins s σ H x y v u Q I rx ry h
  obtain ⟨a, b, us, vs, rfl, rfl, d, nx, ny, q⟩ := h
  rcases d with ⟨d1, d2⟩ | ⟨d1, d2⟩
  · refine op_neD hu pins s σ H _ _ v u Q I rx ry ⟨_, _, .lst d1 (dpAll_flat (flat_strs nx)), .lst d2 (dpAll_flat (flat_strs ny)), shL_flat (flat_strs nx), shL_flat (flat_strs ny), ?_⟩
    rw [show PyData.eqv (.list ((txs us).map dOf)) (.list ((txs vs).map dOf)) = decide (us = vs) by rw [← eqvAll_strs]; simp only [PyData.eqv]]
    exact q
  · refine op_neD hu pins s σ H _ _ v u Q I rx ry ⟨_, _, .tup d1 (dpAll_flat (flat_strs nx)), .tup d2 (dpAll_flat (flat_strs ny)), shT_flat (flat_strs nx), shT_flat (flat_strs ny), ?_⟩
    rw [show PyData.eqv (.tuple ((txs us).map dOf)) (.tuple ((txs vs).map dOf)) = decide (us = vs) by rw [← eqvAll_strs]; simp only [PyData.eqv]]
    exact q
/-- two values that are the same data -/
def rSmD (K : PySem.W.Frag) : R2 := fun x y H Q => ∃ d, Dp K H x d ∧ Dp K H y d ∧ SeqAt.shaped d = true ∧ Q (.bl false) H
theorem op_neSmD (hu : X.A.units + 64 < cLine) : OpR X (compareOp .NotEq) (rSmD X.K) := by
  intro pins s σ H x y v u Q I rx ry h
  obtain ⟨d, d1, d2, sh, q⟩ := h
  refine op_neD hu pins s σ H _ _ v u Q I rx ry ⟨d, d, d1, d2, sh, sh, ?_⟩
  rw [SeqAt.eqv_refl _ (Bool.and_eq_true_iff.mp sh).1]
  exact q
end
theorem S_app (a b : List Nat) : S a ++ S b = S (a ++ b) := by
  show (⟨a.toArray ++ b.toArray⟩ : Str) = ⟨(a ++ b).toArray⟩
  simp
theorem join_signs : ∀ l : List Nat, Str.join (S []) (l.map fun c => S [c]) = S l
  | [] => rfl
  | [c] => rfl
  | c :: d :: r => by
    have ih := join_signs (d :: r)
    show S [c] ++ S [] ++ Str.join (S []) ((d :: r).map fun c => S [c]) = _
    rw [ih, S_app, S_app]
    rfl
theorem joined (l : List Nat) : Txt.join (S []) (l.map fun c => S [c]) = S l := by
  show Builtin.Str.glued _ _ = _
  rw [StrLaws.glued_eq_join, join_signs]
theorem empty_S : ("" : Str) = S [] := by decide +kernel
/-! ### a dict that is filled key by key -/
def asc (kf : Nat → Key) (vf : Nat → V) (n : Nat) : List (Key × V) := (List.range n).map fun j => (kf j, vf j)
theorem asc_len (kf : Nat → Key) (vf : Nat → V) (n : Nat) : (asc kf vf n).length = n := by simp [asc]
theorem asc_succ (kf : Nat → Key) (vf : Nat → V) (n : Nat) : asc kf vf (n + 1) = asc kf vf n ++ [(kf n, vf n)] := by
  unfold asc
  rw [List.range_succ, List.map_append]
  rfl
theorem asc_none {kf : Nat → Key} {vf : Nat → V} {k : Key} {n : Nat} (h : ∀ j, j < n → kf j ≠ k) : valV (asc kf vf n) k = none := by
  unfold valV
  rw [Option.map_eq_none_iff, List.find?_eq_none]
  intro x hx
  obtain ⟨j, hj, rfl⟩ := List.mem_map.mp hx
  simpa using h j (List.mem_range.mp hj)
theorem asc_at {kf : Nat → Key} {vf : Nat → V} {j : Nat} : ∀ {n : Nat}, j < n → (∀ i l, i < n → l < n → kf i = kf l → i = l) → valV (asc kf vf n) (kf j) = some (vf j)
  | 0, h, _ => absurd h (Nat.not_lt_zero _)
  | n + 1, h, inj => by
    rw [asc_succ, valV_snoc _ _ _ _ (asc_none fun i hi e => by have := inj i n (by omega) (by omega) e; omega)]
    by_cases c : j = n
    · rw [c, if_pos rfl]
    · rw [if_neg fun e => c (inj j n h (by omega) e)]
      exact asc_at (by omega) fun i l h1 h2 => inj i l (by omega) (by omega)
theorem asc_put {kf : Nat → Key} {vf : Nat → V} {n : Nat} (h : ∀ j, j < n → kf j ≠ kf n) : putK (asc kf vf n) (kf n) (vf n) = asc kf vf (n + 1) := by
  rw [putK_new _ (asc_none h), asc_succ]
/-! ### a dictionary -/
def key (ls w : List Nat) : List Nat := w.map fun c => 97 + ls.idxOf c
def plainF (ls : List Nat) (j : Nat) : Key := .inr (S [ls.getD j 0])
def plainK (ls : List Nat) : List (Key × V) := asc (plainF ls) (fun j => .str (S [97 + j])) ls.length
def numF (ws : List (List Nat)) (j : Nat) : Key := .inr (S (ws.getD j []))
def numK (ws : List (List Nat)) : List (Key × V) := asc (numF ws) (fun j => .int (j : Nat)) ws.length
theorem sg_inj {a b : Nat} (h : S [a] = S [b]) : a = b := (List.cons.inj (S_inj h)).1
theorem nd_at {α : Type} {l : List α} {d : α} (nd : l.Nodup) {i j : Nat} (hi : i < l.length) (hj : j < l.length) (e : l.getD i d = l.getD j d) : i = j := by
  rw [List.getD_eq_getElem?_getD, List.getD_eq_getElem?_getD, List.getElem?_eq_getElem hi, List.getElem?_eq_getElem hj] at e
  have p := List.pairwise_iff_getElem.mp nd
  rcases Nat.lt_trichotomy i j with h | h | h
  · exact absurd (Option.some.inj (by simpa using congrArg some e)) (p i j hi hj h)
  · exact h
  · exact absurd (Option.some.inj (by simpa using congrArg some e.symm)) (p j i hj hi h)
theorem plain_inj {ls : List Nat} (nd : ls.Nodup) : ∀ i l, i < ls.length → l < ls.length → plainF ls i = plainF ls l → i = l := fun i l hi hl e => nd_at nd hi hl (sg_inj (Sum.inr.inj e))
theorem num_inj {ws : List (List Nat)} (nd : ws.Nodup) : ∀ i l, i < ws.length → l < ws.length → numF ws i = numF ws l → i = l := fun i l hi hl e => nd_at nd hi hl (S_inj (Sum.inr.inj e))
theorem plain_at {ls : List Nat} (nd : ls.Nodup) {c : Nat} (h : c ∈ ls) : valV (plainK ls) (.inr (S [c])) = some (.str (S [97 + ls.idxOf c])) := by
  have lt := List.idxOf_lt_length_of_mem h
  have e : plainF ls (ls.idxOf c) = .inr (S [c]) := by
    unfold plainF
    rw [List.getD_eq_getElem?_getD, List.getElem?_eq_getElem lt, Option.getD_some, List.getElem_idxOf]
  rw [← e]
  exact asc_at lt (plain_inj nd)
theorem num_at {ws : List (List Nat)} (nd : ws.Nodup) {i : Nat} {w : List Nat} (h : ws[i]? = some w) : valV (numK ws) (.inr (S w)) = some (.int (i : Nat)) := by
  have lt := (List.getElem?_eq_some_iff.mp h).1
  have e : numF ws i = .inr (S w) := by
    unfold numF
    rw [List.getD_eq_getElem?_getD, h, Option.getD_some]
  rw [← e]
  exact asc_at lt (num_inj nd)
theorem num_none {ws : List (List Nat)} {z : Str} (h : z.cps.toList ∉ ws) : valV (numK ws) (.inr z) = none := asc_none fun j hj e => h (by
  have e := S_inj (Sum.inr.inj e)
  rw [List.getD_eq_getElem?_getD, List.getElem?_eq_getElem hj, Option.getD_some] at e
  rw [← e]
  exact List.getElem_mem hj)
section
variable (ls : List Nat) (p t : Addr) (n : Int) (kk nn : Addr)
end
theorem Lets.nch {ls : List Nat} (L : Lets ls) {w : List Nat} (h : ∀ c ∈ w, c ∈ ls) : Nch w := fun c hc => by
  obtain ⟨i, hi, rfl⟩ := List.mem_map.mp (L.abc c (h c hc))
  have := List.mem_range.mp hi
  omega
end K05
set_option Elab.async false
set_option linter.all false
set_option maxRecDepth 100001
set_option maxHeartbeats 3999999
namespace K05
open PySem L2
section
variable {X : Cx} {tg e : Expr}
/-- enumerate of a list or a tuple -/
def iEnS (K : PySem.W.Frag) (ta : TA) : TI := fun σ H R => ta σ H fun vs H1 => ∃ a xs, vs = [.ref a] ∧ Sq K H1 a xs ∧ ∀ (J : It) (G : Hp → Prop), Walk J xs.length G (YPair (fun i => some (.int (i : Nat))) (fun i => xs[i]?)) → (∀ H', (∀ o, H1 a = some o → H' a = some o) → G H') → R J H1
open PySem.Spec PyProof.Rows in
theorem pi_en {ta : TA} {p pos tp : Pos} {es : List Expr} {kk : Nat} (hm : X.mg "enumerate" = none) (ha : PA X [e] ta) (hg : Gl X "enumerate" := by rfl) (hs : starEach [e] X.env = [(false, eval e X.env)] := by rfl) :
    PI X (.Tuple es kk tp) (.Call (.Name "enumerate" p) [e] [] pos) (iEnS X.K ta) := by
  constructor
  intro pins s σ H R I h
  refine Call_ (ld_blt I hg hm PyProof.Rows.boot_enumerate (PyProof.Rows.callWith_type1 (thn (ha.run pos pins s σ H _ I h) fun us s1 hh => ?_) hs rfl))
  obtain ⟨vs, H1, I1, r1, a, xs, ev, sq, k⟩ := hh
  subst ev
  have near : ∀ b ∈ [s1.heap.objs.size + 1, s1.heap.objs.size], FpOk X pins H1 b := fun b hb => by
    have ge : s1.heap.objs.size ≤ b := by
      rcases two_of hb with z | z
      · rw [z]; exact Nat.le_add_right _ _
      · rw [z]; exact Nat.le_refl _
    exact I1.fpOk ge (I1.hok.fresh ge)
  cases r1 with
  | cons r rr =>
    cases rr
    cases r
    rcases sq with hq | hq
    · obtain ⟨its, rv, p1, hz⟩ := I1.list hq
      refine call_enumerate_list p1.isList fun h2 he hd _ hk => wpAny_pyIter_enum he ?_
      exact ⟨s1.heap.objs.size + 1, _, _, _, H1, rfl, I1.kept (t' := s1.toks) hk, turn_enum a (s1.heap.objs.size + 1) s1.heap.objs.size, ⟨⟨.none, he⟩, hd, Nat.succ_ne_self _⟩, near, k _ _ walk_enum fun H' e => sqL_at hq e⟩
    · obtain ⟨its, rv, p2, hz⟩ := I1.tuple hq
      refine enumT_call (begins_tuple a its.toArray) p2 fun h2 he hd hk => wpAny_pyIter_enum he ?_
      exact ⟨s1.heap.objs.size + 1, _, _, _, H1, rfl, I1.kept (t' := s1.toks) hk, turn_enT a (s1.heap.objs.size + 1) s1.heap.objs.size, ⟨⟨.none, he⟩, ⟨_, hd, rfl, rfl⟩, Nat.succ_ne_self _⟩, near, k _ _ walk_enT fun H' e => sqT_at hq e⟩
end
theorem pg_pairK {X : Cx} (K : PySem.W.Frag) (hK : X.K = K) (hc : X.calm = true) {e1 e2 : Expr} {t1 t2 : TG} {k : Nat} {pos : Pos} (h1 : PG X e1 t1) (h2 : PG X e2 t2) (he1 : (assignEach [e1, e2] X.env).map (·.2) = assign e1 X.env :: (assignEach [e2] X.env).map (·.2) := by rfl)
    (he2 : (assignEach [e2] X.env).map (·.2) = assign e2 X.env :: (assignEach [] X.env).map (·.2) := by rfl) (hn : (assignEach [e1, e2] X.env).length = 2 := by rfl) (hf : (assignEach [e1, e2] X.env).findIdx? (·.1) = none := by rfl) : PG X (.Tuple [e1, e2] k pos) (gTup K 2 (gCons t1 (gCons t2 gNil))) := by
  subst hK
  have h := pg_tup (k := k) (pos := pos) hc (pgs_cons h1 (pgs_cons h2 pgs_nil he2) he1) hn hf
  exact h
/-- a dict comprehension over numbered items, with keys that are all unlike -/
theorem dcA {J : It} {n : Nat} {G : Hp → Prop} {f1 f2 : Nat → Option V} (wk : Walk J n G (YPair f1 f2)) {g : TG} {tt : TT} {tk tv : TE} {vs : List Nat} {σ : St} {H1 : Hp} {D : Addr} {Qd : Hp → Prop} (kf : Nat → Key) (vf : Nat → V) (hb : n ≤ 10000)
    (inj : ∀ i l, i < n → l < n → kf i = kf l → i = l) (hG : ∀ H', Same H1 H' → G H') (nD : H1 D = none)
    (hs : ∀ (i : Nat) (T : Addr) (a b : V) (H : Hp) (R : V → V → Hp → Prop) (N : Hp → Prop), i < n → f1 i = some a → f2 i = some b → Same H1 H → H T = some (.tup [a, b]) → R (kV (kf i)) (vf i) H → g (.ref T) (wipe σ vs) H fun σ2 H2 => wipe σ2 vs = wipe σ vs ∧ tt σ2 H2 fun b H3 => if b = true then tk σ2 H3 fun y H4 => tv σ2 H4 fun z H5 => R y z H5 else N H3)
    (hd : ∀ H, Same H1 H → H D = some (.dK (asc kf vf n)) → Qd H) :
    ∃ W : Nat → Nat → Hp → Prop, (∃ m, W 0 m (upd H1 D (.dK []))) ∧ ∀ i m H, W i m H →
      (J.stop i H ∧ Qd H) ∨ (J.go i H ∧ ∃ Nx : Hp → Prop, (∀ H', Nx H' → ∃ m', m' < m ∧ W (i + 1) m' H') ∧ ∀ x H', J.yld i H x H' → g x (wipe σ vs) H' fun σ2 H2 => wipe σ2 vs = wipe σ vs ∧ tt σ2 H2 fun b H3 =>
        if b = true then tk σ2 H3 fun y H4 => tv σ2 H4 fun z H5 => ∃ kvs k, y = kV k ∧ H5 D = some (.dK kvs) ∧ kvs.length < sizeLine ∧ Nx (upd H5 D (.dK (putK kvs k z))) else Nx H3) := by
  refine ⟨fun i m H => m = n - i ∧ i ≤ n ∧ Same H1 H ∧ H D = some (.dK (asc kf vf i)), ⟨n, rfl, Nat.zero_le _, same_new nD, upd_same⟩, ?_⟩
  rintro i m H ⟨rfl, hi, e1, hD⟩
  by_cases lt : i < n
  · refine .inr ⟨wk.goes i H lt (hG H e1), fun H' => Same H1 H' ∧ H' D = some (.dK (asc kf vf (i + 1))), fun H' p => ⟨n - (i + 1), by omega, rfl, lt, p.1, p.2⟩, fun x H' y => ?_⟩
    obtain ⟨T, a, b, rfl, nT, rfl, ea, eb⟩ := wk.yields i H x H' lt (hG H e1) y
    refine hs i T a b _ _ _ lt ea eb (e1.trans (same_new nT)) upd_same ⟨asc kf vf i, kf i, rfl, ?_, ?_, fun c o z => ?_, ?_⟩
    · rw [upd_ne (ne_of_none hD nT)]
      exact hD
    · rw [asc_len]
      exact small10 (by omega)
    · rw [upd_ne (ne_of_none z nD)]
      exact (e1.trans (same_new nT)) _ _ z
    · rw [asc_put fun j hj e => by have := inj j i (by omega) lt e; omega]
      exact upd_same
  · obtain rfl : i = n := by omega
    exact .inl ⟨wk.stops H (hG H e1), hd H e1 hD⟩
/-- a def within which lambdas are made: its code object at c, its table at T -/
structure FunL (K : PySem.W.Frag) (base : Heap) (mg : Str → Option Value) (x q : Str) (st : Stmt) (f c T : Addr) (fd : FuncData) : Prop where
  ex : ∃ (oc : Value) (od : Option Addr) (kV doc pm : Value) (an : Option Addr) (ct : Value) (osl : Array (Option Value)),
    fd = PySem.W.fnOf x q (defArgs st) (defBody st) (defScope st) .none kV doc pm an (.ref c) ct ∧ K.lookup f = some ⟨oc, od, .func fd, osl⟩ ∧ PySem.W.codeIn K (.ref c) q = true
  tab : LamX.TabB base mg c T
section
variable {P : Program} {w : World} {K : PySem.W.Frag} {mg : Str → Option Value} {base : Heap}
theorem FunL.okX {CX : CXT} {x q : Str} {st : Stmt} {f c T : Addr} {fd : FuncData} {N ps : List Str} {k : Nat} {sp : Sp} (F : FunL K base mg x q st f c T fd) (S : FnScope N ps (defScope st)) (len : ∀ vs H Q E, sp vs H Q E → vs.length = ps.length)
    (hbody : ∀ (A : Around) (outer : List Env) (s : Shared) (H : Hp) (vs : List V) (Q : VK) (E : XK), Room k (A.deeper (PyProof.Rows.envOfC q (defScope st) s.heap.objs.size f (.ref c))) → sp vs H Q E →
      ∃ t, PSs (cxOf CX P w K mg base N q (defScope st) f (.ref c) A outer s H E).nox (defBody st) t ∧ t { nx := fun _ H' => Q .non H', rt := Q } (L2.start N vs) H) : FnOk P w K mg base CX (k + 1) f fd ps sp := by
  obtain ⟨oc, od, kV, doc, pm, an, ct, osl, rfl, lk, hcd⟩ := F.ex
  refine fn_of lk hcd S len fun A outer s H vs Q E hr hsp => ?_
  obtain ⟨t, h, q⟩ := hbody A outer s H vs Q E hr hsp
  exact ⟨t, h.nox, q⟩
end
theorem ext_of {H H' : Hp} (e : Same H H') : LamX.ExtN H H' := LamX.ExtN.of e
theorem Pen.ext {H H' : Hp} {pn cl : Addr} {b : Nat} (h : Pen H pn cl b) (e : LamX.ExtN H H') : Pen H' pn cl b := let ⟨k, l, cs, h1, h2, h3, h4⟩ := h; ⟨k, l, cs, e _ _ h1 (fun _ z => nomatch z), e _ _ h2 (fun _ z => nomatch z), h3, h4⟩
/-- what more the class is known by -/
structure TxE (K : PySem.W.Frag) (C : Addr) : Prop where
  cc : PySem.W.findIn K (.ref C) "__class__" = some (some (.builtin "object.__class__"))
  gg : PySem.W.specialIn K (.builtin "object.__class__") "__get__" = some (some (.builtin "getset_descriptor.__get__"))
  tk : PySem.W.takesIn K (.builtin "object.__class__") = some true
  mr : PySem.W.mroIn K C (.type "object") = some true
  kT : PySem.W.kitOne K (.type "tuple") (.ref C) = some false
section
variable {P : Program} {w : World} {K : PySem.W.Frag} {mg : Str → Option Value} {base : Heap}
end
end K05
set_option Elab.async false
set_option linter.all false
set_option maxRecDepth 100001
set_option maxHeartbeats 3999999
namespace K05
open PySem L2
/-- what is not at p stays -/
def ButI (p : Addr) (H H' : Hp) : Prop := ∀ b o, b ≠ p → H b = some o → H' b = some o
/-- a list or a tuple in the heap -/
def Lt (H : Hp) (a : Addr) (xs : List V) : Prop := H a = some (.lst xs) ∨ H a = some (.tup xs)
theorem Lt.sq {K : PySem.W.Frag} {H : Hp} {a : Addr} {xs : List V} (h : Lt H a xs) : Sq K H a xs := h.imp SqL.of SqT.of
theorem Lt.same {H H' : Hp} {a : Addr} {xs : List V} (h : Lt H a xs) (e : Same H H') : Lt H' a xs := h.imp (e _ _) (e _ _)
theorem Lt.at_ {H H' : Hp} {a p : Addr} {xs : List V} {o : HO} (h : Lt H a xs) (hp : H p = some o) (no : ∀ ys, o ≠ .lst ys ∧ o ≠ .tup ys) (e : ButI p H H') : Lt H' a xs :=
  h.imp (fun h => e _ _ (ne_of h hp fun z => (no xs).1 z.symm) h) (fun h => e _ _ (ne_of h hp fun z => (no xs).2 z.symm) h)
theorem Lt.ne {H : Hp} {a p : Addr} {xs : List V} (h : Lt H a xs) (hp : H p = none) : a ≠ p := h.elim (fun h => ne_of_none h hp) fun h => ne_of_none h hp
theorem tabs_at {Tb : List (Addr × Str)} {H H' : Hp} {p : Addr} {o : HO} (t : LamX.Tabs Tb H) (hp : H p = some o) (n1 : ∀ ps, o ≠ .tbl ps) (n2 : ∀ f, o ≠ .ext f) (e : ButI p H H') : LamX.Tabs Tb H' := fun pt hpt => by
  obtain ⟨ps, a1, a2, a3⟩ := t pt hpt
  refine ⟨ps, e _ _ (ne_of a1 hp fun z => n1 _ z.symm) a1, a2, fun pos cv hc => ?_⟩
  obtain ⟨c0, e1, e2⟩ := a3 pos cv hc
  exact ⟨c0, e1, e _ _ (ne_of e2 hp fun z => n2 _ (by unfold LamX.CodeO at z; exact z.symm)) e2⟩
theorem idx_inj {ls : List Nat} {a b : Nat} (ha : a ∈ ls) (hb : b ∈ ls) (e : ls.idxOf a = ls.idxOf b) : a = b := by
  have h1 := List.getElem_idxOf (List.idxOf_lt_length_of_mem ha)
  have h2 := List.getElem_idxOf (List.idxOf_lt_length_of_mem hb)
  rw [← h1, ← h2]
  simp only [e]
theorem key_inj {ls : List Nat} : ∀ {v w : List Nat}, (∀ c ∈ v, c ∈ ls) → (∀ c ∈ w, c ∈ ls) → key ls v = key ls w → v = w
  | [], [], _, _, _ => rfl
  | [], _ :: _, _, _, e => nomatch e
  | _ :: _, [], _, _, e => nomatch e
  | a :: v, b :: w, hv, hw, e => by
    unfold key at e
    rw [List.map_cons, List.map_cons] at e
    injection e with e1 e2
    rw [idx_inj (hv a List.mem_cons_self) (hw b List.mem_cons_self) (by omega), key_inj (fun c m => hv c (List.mem_cons_of_mem _ m)) (fun c m => hw c (List.mem_cons_of_mem _ m)) e2]
theorem numF_at {ws : List (List Nat)} {i : Nat} {w : List Nat} (h : ws[i]? = some w) : numF ws i = .inr (S w) ∧ ws.getD i [] = w := by
  unfold numF
  rw [List.getD_eq_getElem?_getD, h]
  exact ⟨rfl, rfl⟩
abbrev NI' : List Str := ["self", "letters", "words", "index", "word", "told", "letter", "place", "number"]
section
variable {P : Program} {w : World} {K : PySem.W.Frag} {mg : Str → Option Value} {base : Heap}
end
theorem cut_S {w : List Nat} {k : Nat} (h : k ≤ w.length) : cutS (S w) none (some (k : Int)) = S (w.take k) := by
  unfold cutS
  rw [S_len, HT.sIx_nat, HT.sIx_none, S_list, List.drop_zero, Nat.sub_zero, Nat.min_eq_left h]
  rfl
end K05
set_option Elab.async false
set_option linter.all false
set_option maxRecDepth 100001
set_option maxHeartbeats 3999999
namespace K05
open PySem L2
abbrev sLLet : Stmt := topS 26
theorem idx_first {c : Nat} : ∀ (l : List Nat) (i : Nat), l[i]? = some c → (∀ k, k < i → l[k]? ≠ some c) → l.idxOf c = i
  | [], i, h, _ => by simp at h
  | a :: l, 0, h, _ => by
    simp at h
    rw [h, List.idxOf_cons_self]
  | a :: l, i + 1, h, n => by
    have ne : a ≠ c := fun e => n 0 (by omega) (by rw [e]; rfl)
    have ih := idx_first l i (by simpa using h) fun k hk => by have := n (k + 1) (by omega); simpa using this
    rw [List.idxOf_cons, show (a == c) = false from beq_eq_false_iff_ne.mpr ne, ih]
    rfl
theorem occ_sign {l : List Nat} {c : Nat} (h : c ∈ l) : ∃ r, Builtin.Str.occurrences (S l) (S [c]) 0 (S l).length 1 = l.idxOf c :: r := by
  rcases StrLaws.occ_head (S l) (S [c]) 1 (Nat.le_refl _) with ⟨_, hn⟩ | ⟨i, r, e, ha, hn⟩
  · obtain ⟨i, hi, e⟩ := List.getElem_of_mem h
    exact absurd ((StrLaws.subAt_one (S l) c i).mpr (by rw [S_list, List.getElem?_eq_getElem hi, e])) (hn i)
  · refine ⟨r, ?_⟩
    rw [e, idx_first l i ((StrLaws.subAt_one (S l) c i).mp ha) fun k hk z => hn k hk ((StrLaws.subAt_one (S l) c k).mpr z)]
/-! ### the law's letters, words, keys -/
/-- letters, and how many the law draws; one of a, z is not among them -/
structure LLet (ls : List Nat) : Prop where
  L : Lets ls
  few : ls.length ≤ 3
  str : 97 ∉ ls ∨ 122 ∉ ls
def spLLet : Sp := fun vs H Q _ => ∃ (pn cl : Addr) (b : Nat), vs = [.ref pn, .int 3] ∧ Pen H pn cl b ∧ b ≤ 900000 ∧ ∀ ls H', LLet ls → But pn H H' → Pen H' pn cl (b + 6) → Q (.str (S ls)) H'
def keyI (ls w : List Nat) : List Int := w.map fun c => ((ls.idxOf c : Nat) : Int)
section
variable {P : Program} {w : World} {K : PySem.W.Frag} {mg : Str → Option Value} {base : Heap}
end
end K05
set_option Elab.async false
set_option linter.all false
set_option maxRecDepth 100001
set_option maxHeartbeats 3999999
namespace K05
open PySem L2
def low6 : List Nat := [97, 98, 99, 100, 101, 102]
def hi6 : List Nat := [117, 118, 119, 120, 121, 122]
theorem low6_S : ("abcdef" : Str) = S low6 := by decide +kernel
theorem hi6_S : ("uvwxyz" : Str) = S hi6 := by decide +kernel
theorem map_erase {α β : Type} (f : α → β) : ∀ (l : List α) (i : Nat), (l.map f).eraseIdx i = (l.eraseIdx i).map f
  | [], _ => rfl
  | _ :: _, 0 => rfl
  | a :: l, i + 1 => by
    rw [List.map_cons, List.eraseIdx_cons_succ, List.eraseIdx_cons_succ, List.map_cons, map_erase f l i]
theorem perm_erase {α : Type} : ∀ (l : List α) (i : Nat) (h : i < l.length), (l[i] :: l.eraseIdx i).Perm l
  | [], _, h => absurd h (Nat.not_lt_zero _)
  | _ :: _, 0, _ => List.Perm.refl _
  | a :: l, i + 1, h => by
    have ih := perm_erase l i (by simpa using h)
    exact (List.Perm.swap a _ _).trans (ih.cons a)
theorem seqIx {k n : Nat} (h : k < n) : seqIndex? ((k : Nat) : Int) n = some k := by
  unfold seqIndex?
  simp
  omega
section
variable {P : Program} {w : World} {K : PySem.W.Frag} {mg : Str → Option Value} {base : Heap}
theorem scLLet : FnScope ["_law_pen_here", "_law_most", "_law_kind", "_law_pool", "_law_found", "_law_k"] ["_law_pen_here", "_law_most"] (defScope sLLet) := ⟨rfl, rfl, rfl, by decide +kernel, rfl, by decide +kernel, by decide +kernel⟩
theorem ok_llet {f : Addr} {fd : FuncData} (F : Fun K "_law_letters" "_law_letters" sLLet f fd) (B : Bi mg) (cD : Cal CX0 P w K mg base 1 "_law_draw" spDraw) : FnOk P w K mg base CX0 3 f fd ["_law_pen_here", "_law_most"] spLLet := by
  refine F.ok scLLet (fun vs H Q E h => ?_) (fun cdv A outer s H vs Q E hr h => ?_)
  · obtain ⟨pn, cl, b, rfl, _⟩ := h
    rfl
  · obtain ⟨pn, cl, b, rfl, pen, hb, q⟩ := h
    refine ⟨_, pss_cons (ps_set (i := 2) scLLet.nd rfl (Or.inl rfl) (pe_c cD hr pass0 (pa_cons (pv 0) (pa_cons pe_int pa_nil))))
      (pss_cons (ps_set (i := 3) scLLet.nd rfl (Or.inl rfl) (pe_callTy (call_listS rfl) rfl B.list (by decide +kernel) (pa_cons (pe_slice sl_str (pe_ix ix_list (pe_lst (pa_cons pe_str (pa_cons pe_str pa_nil))) (pe_op op_fdiv (pv 2) pe_int) (fun _ _ => rfl)) po_none (po_some (pe_op op_add pe_int (pe_op op_mod (pe_int1 B.int (pa_cons (pv 2) pa_nil)) pe_int)))) pa_nil)))
      (pss_cons (ps_set (i := 4) scLLet.nd rfl (Or.inl rfl) pe_str)
      (pss_cons (ps_for PassesOwn.never rfl (pi_range1 rfl B.range (pa_cons (pe_op op_add pe_int (pe_c cD hr pass0 (pa_cons (pv 0) (pa_cons (pe_op op_sub (pv 1) pe_int) pa_nil)))) pa_nil)) (pg_name (i := 5) scLLet.nd rfl (.inl rfl))
        (pss_one (ps_set (i := 4) scLLet.nd rfl (Or.inl rfl) (pe_op op_add_str (pv 4) (pe_bm PySem.F.plainAttrs_list PySem.F.slot_list_pop PySem.F.type_list_pop mt_popAt (pv 3) (pa_cons (pe_c cD hr pass0 (pa_cons (pv 0) (pa_cons (pe_len B.len (pa_cons (pv 3) pa_nil)) pa_nil))) pa_nil))))))
      (pss_one (ps_ret (pv 4)))))), ?_⟩
    refine ⟨_, rfl, pn, cl, _, b, rfl, pen, by omega, by decide, by decide, fun r H1 r0 r1 e1 pen1 => ?_⟩
    obtain ⟨r, rfl⟩ := Int.eq_ofNat_of_zero_le r0
    have r6 : r < 6 := by omega
    obtain ⟨bs, hbs, b6, bi, b97⟩ : ∃ bs : List Nat, atI [V.str ("abcdef" : Str), V.str ("uvwxyz" : Str)] (((r : Nat) : Int) / 3) = some (.str (S bs)) ∧ bs.length = 6 ∧ (bs.Nodup ∧ ∀ c ∈ bs, c ∈ abc) ∧ (97 ∉ bs ∨ 122 ∉ bs) := by
      by_cases c : r < 3
      · rw [show ((r : Nat) : Int) / 3 = ((0 : Nat) : Int) by omega, low6_S]
        exact ⟨low6, atI_nat rfl, rfl, by decide, by decide⟩
      · rw [show ((r : Nat) : Int) / 3 = ((1 : Nat) : Int) by omega, hi6_S]
        exact ⟨hi6, atI_nat rfl, rfl, by decide, by decide⟩
    refine ⟨by decide, fun l0 n0 => ⟨_, rfl, _, _, rfl, rfl, ⟨by decide, by decide⟩, l0, _, _, _, rfl, rfl, SqL.of upd_same, hbs, ?_⟩⟩
    have sb : (S bs).length ≤ sizeLine := Nat.le_of_lt (small10 (by rw [S_len]; omega))
    refine ⟨_, rfl, .inl ⟨_, rfl, _, _, rfl, rfl, (by show (0 : Int) < 3; decide), _, _, rfl, rfl, _, rfl, S bs, rfl, sb, ?_⟩⟩
    have ec : cutS (S bs) none (some (4 + ((r : Nat) : Int) % 3)) = S (bs.take (4 + r % 3)) := by
      rw [show (4 + ((r : Nat) : Int) % 3) = ((4 + r % 3 : Nat) : Int) by omega]
      exact cut_S (by omega)
    rw [ec]
    have lp : (bs.take (4 + r % 3)).length = 4 + r % 3 := by rw [List.length_take]; omega
    have ps : ∀ c ∈ bs.take (4 + r % 3), c ∈ bs := fun c h => List.mem_of_mem_take h
    have pn' : (bs.take (4 + r % 3)).Nodup := (List.take_sublist _ _).nodup bi.1
    generalize bs.take (4 + r % 3) = pool at lp ps pn' ⊢
    refine ⟨_, rfl, Nat.le_of_lt (small10 (by rw [S_len]; omega)), fun po npo => ?_⟩
    have e2 : Same H1 (upd H1 l0 (.lst [.str "abcdef", .str "uvwxyz"])) := same_new n0
    generalize upd H1 l0 (.lst [.str "abcdef", .str "uvwxyz"]) = H2 at e2 npo ⊢
    have pen2 := pen1.same e2
    have x3 : Same H2 (upd H2 po (.lst (sgns (S pool)))) := same_new npo
    have hpo : upd H2 po (.lst (sgns (S pool))) po = some (.lst (sgns (S pool))) := upd_same
    have pen3 := pen2.same x3
    have npp : pn ≠ po := (pen2.off npo).1
    have ncp : cl ≠ po := (pen2.off npo).2
    have nH : ∀ c o, c ≠ pn → H c = some o → c ≠ po := fun c o n z => ne_of_none (e2 _ _ (e1 _ _ n z)) npo
    have bt3 : But pn H (upd H2 po (.lst (sgns (S pool)))) := fun c o n z => x3 _ _ (e2 _ _ (e1 _ _ n z))
    generalize upd H2 po (.lst (sgns (S pool))) = H3 at x3 hpo pen3 bt3 ⊢
    clear x3 pen2 e2 npo n0 pen1 e1 pen
    refine ⟨_, rfl, _, rfl, _, _, rfl, rfl, pn, cl, _, b + 1, rfl, pen3, by omega, by decide, by decide, fun m H4 m0 m1 e4 pen4 => ?_⟩
    obtain ⟨m, rfl⟩ := Int.eq_ofNat_of_zero_le m0
    have m3 : m < 3 := by omega
    have hpo4 := e4 _ _ npp.symm hpo
    have bt4 : But pn H H4 := fun c o n z => e4 _ _ n (bt3 c o n z)
    refine ⟨_, _, rfl, rfl, _, rfl, by omega, by omega, for_range (lo := 0) (n := (2 + ((m : Nat) : Int)).toNat) (fun i σ H' => ∃ (k : Option V) (u rest : List Nat), σ = [some (.ref pn), some (.int 3), some (.int (r : Nat)), some (.ref po), some (.str (S u)), k] ∧ But pn H H' ∧ Pen H' pn cl (b + 2 + i) ∧ H' po = some (.lst (rest.map sgn)) ∧ (u ++ rest).Nodup ∧ (∀ c ∈ u ++ rest, c ∈ bs) ∧ u.length = i ∧ 4 ≤ rest.length + i ∧ rest.length ≤ 6)
      ⟨none, [], pool, by rw [← empty_S]; rfl, bt4, pen4, hpo4, pn', ps, rfl, by omega, by omega⟩ ?_ ?_⟩
    · rintro i σ H5 hi ⟨k, u, rest, rfl, e5, pen5, hpo5, nd, sub, lu, l4, l6⟩
      have lm : (rest.map sgn).length = rest.length := List.length_map ..
      refine ⟨_, rfl, _, rfl, .inl ⟨rfl, _, SqL.of hpo5⟩, _, rfl, _, rfl, po, _, rfl, .inl (SqL.of hpo5), pn, cl, _, b + 2 + i, rfl, pen5, by omega, by rw [lm]; omega, by rw [lm]; omega, fun d H6 d0 d1 e6 pen6 => ?_⟩
      obtain ⟨d, rfl⟩ := Int.eq_ofNat_of_zero_le d0
      rw [lm] at d1
      have d2 : d < rest.length := by omega
      have hpo6 := e6 _ _ npp.symm hpo5
      have eg : (rest.map sgn)[d]? = some (sgn rest[d]) := by rw [List.getElem?_map, List.getElem?_eq_getElem d2]; rfl
      refine ⟨po, _, _, d, _, rfl, rfl, hpo6, by omega, by omega, by rw [lm]; exact seqIx d2, eg, _, S [rest[d]], rfl, rfl, ?_, some (.int (0 + ((i : Nat) : Int))), u ++ [rest[d]], rest.eraseIdx d, ?_, ?_, ?_, ?_, ?_, ?_, ?_, ?_, ?_⟩
      · rw [S_len, S_len]
        exact Nat.le_of_lt (small10 (by simp only [List.length_cons, List.length_nil]; omega))
      · rw [S_app]
        rfl
      · exact fun c o n z => (upd_ne (nH c o n z)).trans (e6 _ _ n (e5 c o n z))
      · exact (pen6.mono (by omega)).upd npp ncp
      · rw [upd_same, map_erase]
      · have pm : (u ++ [rest[d]] ++ rest.eraseIdx d).Perm (u ++ rest) := by
          rw [List.append_assoc]
          exact List.Perm.append_left _ (perm_erase rest d d2)
        exact pm.nodup_iff.mpr nd
      · have pm : (u ++ [rest[d]] ++ rest.eraseIdx d).Perm (u ++ rest) := by
          rw [List.append_assoc]
          exact List.Perm.append_left _ (perm_erase rest d d2)
        exact fun c h => sub c (pm.mem_iff.mp h)
      · rw [List.length_append, lu]
        rfl
      · rw [List.length_eraseIdx_of_lt d2]
        omega
      · rw [List.length_eraseIdx_of_lt d2]
        omega
    · rintro σ H5 ⟨k, u, rest, rfl, e5, pen5, hpo5, nd, sub, lu, l4, l6⟩
      have mu : ∀ c ∈ u, c ∈ bs := fun c h => sub c (List.mem_append_left _ h)
      refine ⟨_, rfl, q u H5 ⟨⟨(List.nodup_append.mp nd).1, by omega, by omega, fun c h => bi.2 c (mu c h)⟩, by omega, b97.imp (fun h z => h (mu _ z)) fun h z => h (mu _ z)⟩ e5 (pen5.mono (by omega))⟩
end
end K05
set_option Elab.async false
set_option linter.all false
set_option maxRecDepth 100001
set_option maxHeartbeats 3999999
namespace K05
open PySem L2
theorem lex_key (ls : List Nat) : ∀ v w : List Nat, HT.lexLt (keyI ls v) (keyI ls w) = decide (key ls v < key ls w)
  | [], [] => by simp [keyI, key, HT.lexLt]
  | [], _ :: _ => by simp [keyI, key, HT.lexLt]
  | _ :: _, [] => by simp [keyI, key, HT.lexLt]
  | a :: v, b :: w => by
    have ih := lex_key ls v w
    show HT.lexLt (((ls.idxOf a : Nat) : Int) :: keyI ls v) (((ls.idxOf b : Nat) : Int) :: keyI ls w) = decide ((97 + ls.idxOf a) :: key ls v < (97 + ls.idxOf b) :: key ls w)
    rw [HT.lexLt_cons, ih]
    by_cases c : ls.idxOf a = ls.idxOf b
    · rw [c, if_pos rfl]
      exact decide_eq_decide.mpr (by rw [List.cons_lt_cons_iff]; simp)
    · rw [if_neg (by omega)]
      refine decide_eq_decide.mpr ?_
      rw [List.cons_lt_cons_iff]
      omega
theorem in_txs {w : List Nat} : ∀ {us : List (List Nat)}, inV (.str (S w)) (txs us) = decide (w ∈ us)
  | [] => by simp [inV, txs]
  | u :: us => by
    have ih := in_txs (w := w) (us := us)
    have e : inV (.str (S w)) (txs (u :: us)) = (eqV (.str (S u)) (.str (S w)) || inV (.str (S w)) (txs us)) := by simp [inV, txs]
    have e2 : eqV (.str (S u)) (.str (S w)) = decide (w = u) := by
      show (S u == S w) = _
      rw [Bool.eq_iff_iff, decide_eq_true_iff, beq_iff_eq]
      exact ⟨fun h => (S_inj h).symm, fun h => h ▸ rfl⟩
    rw [e, ih, e2]
    simp only [List.mem_cons, Bool.decide_or]
theorem flat_txs (us : List (List Nat)) : (txs us).all flatV = true := by
  unfold txs
  rw [List.all_map]
  exact List.all_eq_true.mpr fun _ _ => rfl
theorem lt_tri {a b : List Nat} (h : ¬ b < a) (n : a ≠ b) : a < b := (List.le_iff_lt_or_eq.mp (List.not_lt.mp h)).resolve_right n
theorem lt_irr {a : List Nat} (h : a < a) : False := List.lt_irrefl a h
/-- a word put where its key belongs -/
theorem ins_sorted {ls w : List Nat} : ∀ {us : List (List Nat)}, (us.Pairwise fun a b => key ls a < key ls b) → (∀ u ∈ us, key ls u ≠ key ls w) → ((us.take (us.countP fun o => decide (key ls o < key ls w)) ++ [w] ++ us.drop (us.countP fun o => decide (key ls o < key ls w))).Pairwise fun a b => key ls a < key ls b)
  | [], _, _ => by simp
  | a :: us, h, n => by
    obtain ⟨h1, h2⟩ := List.pairwise_cons.mp h
    have ih := ins_sorted h2 fun u m => n u (List.mem_cons_of_mem _ m)
    by_cases c : key ls a < key ls w
    · have ec : (a :: us).countP (fun o => decide (key ls o < key ls w)) = us.countP (fun o => decide (key ls o < key ls w)) + 1 := by simp [List.countP_cons, c]
      rw [ec, List.take_succ_cons, List.drop_succ_cons, List.cons_append, List.cons_append]
      refine List.pairwise_cons.mpr ⟨fun x hx => ?_, ih⟩
      rcases List.mem_append.mp hx with hx | hx
      · rcases List.mem_append.mp hx with hx | hx
        · exact h1 x (List.mem_of_mem_take hx)
        · rw [List.mem_singleton.mp hx]
          exact c
      · exact h1 x (List.mem_of_mem_drop hx)
    · have wa : key ls w < key ls a := lt_tri c fun e => n a List.mem_cons_self e.symm
      have z : us.countP (fun o => decide (key ls o < key ls w)) = 0 := by
        rw [List.countP_eq_zero]
        intro u mu z
        exact lt_irr (List.lt_trans (List.lt_trans wa (h1 u mu)) (of_decide_eq_true z))
      have ec : (a :: us).countP (fun o => decide (key ls o < key ls w)) = us.countP (fun o => decide (key ls o < key ls w)) := by simp [List.countP_cons, c]
      rw [ec, z]
      show List.Pairwise _ (w :: a :: us)
      refine List.pairwise_cons.mpr ⟨fun x hx => ?_, h⟩
      rcases List.mem_cons.mp hx with rfl | hx
      · exact wa
      · exact List.lt_trans wa (h1 x hx)
theorem mem_ins {α : Type} {us : List α} {w x : α} {p : Nat} : x ∈ us.take p ++ [w] ++ us.drop p ↔ x = w ∨ x ∈ us := by
  rw [List.append_assoc, List.mem_append, List.mem_append, List.mem_singleton]
  constructor
  · rintro (h | h | h)
    · exact .inr (List.mem_of_mem_take h)
    · exact .inl h
    · exact .inr (List.mem_of_mem_drop h)
  · rintro (h | h)
    · exact .inr (.inl h)
    · rw [← List.take_append_drop p us, List.mem_append] at h
      exact h.elim .inl fun h => .inr (.inr h)
/-- words that the law draws -/
structure WsL (ls : List Nat) (ws : List (List Nat)) : Prop where
  many : ws.length ≤ 100
  word : ∀ w ∈ ws, w.length ≤ 5 ∧ ∀ c ∈ w, c ∈ ls
/-- these words in their order -/
structure OrdL (ls : List Nat) (ws us : List (List Nat)) : Prop where
  many : us.length ≤ ws.length
  mem : ∀ w, w ∈ us ↔ w ∈ ws
  up : us.Pairwise fun a b => key ls a < key ls b
theorem op_ltLIK {X : Cx} {K : PySem.W.Frag} (hK : X.K = K) (hu : X.A.units < cLine) : OpR X (compareOp .Lt) (rLtLI K) := by
  subst hK
  exact op_ltLI hu
section
variable {P : Program} {w : World} {K : PySem.W.Frag} {mg : Str → Option Value} {base : Heap}
end
end K05
set_option Elab.async false
set_option linter.all false
set_option maxRecDepth 100001
set_option maxHeartbeats 3999999
namespace K05
open PySem L2
abbrev sPart : Stmt := topS 16
abbrev sItem : Stmt := topS 17
abbrev sNodes : Stmt := topS 18
abbrev sR (j : Nat) : Stmt := inClass (topS 19) j
/-! ### values that are no parts, items -/
/-- whether a list of letters is an item -/
def itW (ls w : List Nat) : Bool := decide (w ≠ []) && (decide (w ∈ [[63], [42]]) || ((w.all fun c => decide (c ∈ ls)) && decide w.Nodup))
def itB (ls : List Nat) : V → Bool
  | .str x => itW ls x.cps.toList
  | _ => false
def hdT (H : Hp) : List V → Bool
  | v :: _ => isT H v
  | [] => false
def prL (H : Hp) (x : Str) (r : List V) : Bool := if x = "row" then decide (r.length = 1) && hdT H r else if x = "not" then decide (r.length = 1) else decide (x = "both") || decide (x = "either")
/-- whether a value is a part -/
def prB (H : Hp) : V → Bool
  | .ref a => match H a with
    | some (.tup (.str x :: r)) => prL H x r
    | _ => false
  | _ => false
theorem prB_no {H : Hp} {v : V} (h : isT H v = false) : prB H v = false := by
  cases v with
  | ref a =>
    cases e : H a with
    | none => simp [prB, e]
    | some o =>
      cases o with
      | tup xs => simp [isT, e] at h
      | _ => simp [prB, e]
  | _ => rfl
def prX (H : Hp) : List V → Bool
  | .str x :: r => prL H x r
  | _ => false
theorem prB_tup {H : Hp} {a : Addr} {xs : List V} (e : H a = some (.tup xs)) : prB H (.ref a) = prX H xs := by
  cases xs with
  | nil => simp [prB, e, prX]
  | cons x r => cases x <;> simp [prB, e, prX]
/-- a value whose items are known -/
def KnT (H : Hp) (v : V) : Prop := Kn H v ∧ ∀ a xs, v = .ref a → H a = some (.tup xs) → ∀ x ∈ xs, Kn H x
def spPart : Sp := fun vs H Q _ => ∃ v, vs = [v] ∧ KnT H v ∧ ∀ H', Same H H' → Q (.bl (prB H v)) H'
def spItem : Sp := fun vs H Q _ => ∃ v ls, vs = [v, .str (S ls)] ∧ Kn H v ∧ (∀ x, v = .str x → x.length ≤ 100) ∧ ls.length ≤ 1000 ∧ ∀ H', Same H H' → Q (.bl (itB ls v)) H'
/-- names of the module -/
structure Cm (mg : Str → Option Value) : Prop where
  parts : ∃ u, mg "MOST_PARTS" = some u ∧ RelV (.int 60) u
  stand : ∃ u, mg "MOST_STANDINGS" = some u ∧ RelV (.int 2000) u
section
variable {P : Program} {w : World} {K : PySem.W.Frag} {mg : Str → Option Value} {base : Heap}
theorem star_S : ("*" : Str) = S [42] := by decide +kernel
theorem any_S : ("?" : Str) = S [63] := by decide +kernel
theorem scPart : FnScope ["value"] ["value"] (defScope sPart) := ⟨rfl, rfl, rfl, by decide +kernel, rfl, by decide +kernel, by decide +kernel⟩
theorem ok_part {f : Addr} {fd : FuncData} (F : Fun K "is_part" "is_part" sPart f fd) (B : Bi mg) (C : Bs mg) (cT : Cal CX0 P w K mg base 1 "is_tuple_of" spTupOf) : FnOk P w K mg base CX0 2 f fd ["value"] spPart := by
  refine F.ok scPart (fun vs H Q E h => ?_) (fun cdv A outer s H vs Q E hr h => ?_)
  · obtain ⟨v, rfl, _⟩ := h
    rfl
  · obtain ⟨v, rfl, ⟨kn, ki⟩, q⟩ := h
    refine ⟨_, pss_cons (ps_if (PW.pt (pw_or (pt_not (pt_val (pe_isi B.isi (pa_cons (pv 0) (pa_cons (pe_ty "tuple" B.tuple) pa_nil))))) (pw_or (pt_not (pt_truth (pv 0) (by intro _; rfl))) (pw_or1 (pt_not (pt_val (pe_isStr B.isi (pa_cons (pe_ix ix_tup (pv 0) pe_int (fun _ _ => rfl)) (pa_cons (pe_ty "str" C.str) pa_nil)))))))) ) (pss_one (ps_ret pe_bl)) pss_nil)
      (pss_cons (ps_if (pt_cmpR op_eq (pe_ix ix_tup (pv 0) pe_int (fun _ _ => rfl)) pe_str (nomark _)) (pss_one (ps_ret (pe_and (pe_cmpR op_eq (pe_len B.len (pa_cons (pv 0) pa_nil)) pe_int (nomark _)) (pe_one (pe_isi B.isi (pa_cons (pe_ix ix_tup (pv 0) pe_int (fun _ _ => rfl)) (pa_cons (pe_ty "tuple" B.tuple) pa_nil))))))) pss_nil)
      (pss_cons (ps_if (pt_cmpR op_eq (pe_ix ix_tup (pv 0) pe_int (fun _ _ => rfl)) pe_str (nomark _)) (pss_one (ps_ret (pe_c cT hr pass0 (pa_cons (pv 0) (pa_cons pe_int pa_nil))))) pss_nil)
      (pss_one (ps_ret (pe_cmpR op_in_seq (pe_ix ix_tup (pv 0) pe_int (fun _ _ => rfl)) (pe_tup (pa_cons pe_str (pa_cons pe_str pa_nil))) rfl))))), ?_⟩
    obtain ⟨t, ty, _, _, k3, k4, k5⟩ := kn.kinds K
    refine ⟨_, rfl, _, _, _, _, _, rfl, .ty "tuple", ty, k3, _, rfl, ?_⟩
    have nT := prB_no (H := H) (v := v)
    cases eT : isT H v with
    | false =>
      have q := q H (Same.refl H)
      rw [nT eT] at q
      exact iteT q
    | true =>
      refine iteF ?_
      obtain ⟨a, xs, rfl, ha⟩ : ∃ a xs, v = .ref a ∧ H a = some (.tup xs) := by
        cases v with
        | ref a =>
          cases e : H a with
          | none => simp [isT, e] at eT
          | some o =>
            cases o with
            | tup xs => exact ⟨a, xs, rfl, e⟩
            | _ => simp [isT, e] at eT
        | _ => cases eT
      have kx := ki a xs rfl ha
      rw [prB_tup ha] at q
      cases xs with
      | nil => 
        refine ⟨_, rfl, false, .inr (.inl ⟨_, SqT.of ha, rfl⟩), iteT (q H (Same.refl H))⟩
      | cons x r =>
        refine ⟨_, rfl, true, .inr (.inl ⟨_, SqT.of ha, rfl⟩), iteF ?_⟩
        obtain ⟨t3, ty3, ks⟩ := (kx x List.mem_cons_self).isStr K
        refine ⟨_, rfl, a, _, _, _, rfl, rfl, SqT.of ha, atI_nat (j := 0) rfl, _, _, _, _, _, rfl, .ty "str", ty3, ks, _, rfl, ?_⟩
        cases x with
        | str x =>
          refine iteF ?_
          have q : ∀ H', Same H H' → Q (.bl (prL H x r)) H' := q
          refine ⟨_, rfl, a, _, _, _, rfl, rfl, SqT.of ha, atI_nat (j := 0) rfl, rfl, _, rfl, ?_⟩
          have lr : ((((V.str x :: r).length : Nat) : Int)) = ((r.length + 1 : Nat) : Int) := rfl
          by_cases c1 : x = "row"
          · subst c1
            rw [decide_eq_true rfl]
            refine iteT ⟨_, rfl, a, _, rfl, .inr (SqT.of ha), rfl, _, rfl, ?_⟩
            have e1 : prL H "row" r = (decide (r.length = 1) && hdT H r) := by
              unfold prL
              exact if_pos rfl
            rw [e1] at q
            have ed : decide (V.int (((V.str "row" :: r).length : Nat) : Int) = V.int 2) = decide (r.length = 1) := decide_eq_decide.mpr ⟨fun z => by have := V.int.inj z; rw [List.length_cons] at this; omega, fun z => by rw [List.length_cons, z]; rfl⟩
            rw [ed]
            cases r with
            | nil => exact iteF (q H (Same.refl H))
            | cons y r =>
              cases r with
              | cons z r =>
                have : decide ((y :: z :: r).length = 1) = false := decide_eq_false (by simp)
                rw [this] at q ⊢
                exact iteF (q H (Same.refl H))
              | nil =>
                obtain ⟨t4, ty4, _, _, k43, _⟩ := (kx y (by simp)).kinds K
                exact iteT ⟨_, rfl, a, _, _, _, rfl, rfl, SqT.of ha, atI_nat (j := 1) rfl, _, _, _, _, _, rfl, .ty "tuple", ty4, k43, q H (Same.refl H)⟩
          · rw [decide_eq_false (fun z => c1 (V.str.inj z))]
            refine iteF ⟨_, rfl, a, _, _, _, rfl, rfl, SqT.of ha, atI_nat (j := 0) rfl, rfl, _, rfl, ?_⟩
            have e1 : prL H x r = (if x = "not" then decide (r.length = 1) else decide (x = "both") || decide (x = "either")) := if_neg c1
            rw [e1] at q
            by_cases c2 : x = "not"
            · subst c2
              rw [if_pos rfl] at q
              rw [decide_eq_true rfl]
              refine iteT ⟨_, rfl, _, 2, rfl, kn, ?_⟩
              have ed : isTn H (.ref a) 2 = decide (r.length = 1) := by
                simp only [isTn, ha]
                exact decide_eq_decide.mpr ⟨fun z => by rw [List.length_cons] at z; omega, fun z => by rw [List.length_cons, z]; rfl⟩
              rw [ed]
              exact q H (Same.refl H)
            · rw [if_neg c2] at q
              rw [decide_eq_false (fun z => c2 (V.str.inj z))]
              refine iteF ⟨_, rfl, a, _, _, _, rfl, rfl, SqT.of ha, atI_nat (j := 0) rfl, by show 2 ≤ sizeLine; decide, fun p np => ⟨p, _, rfl, .inr (SqT.of upd_same), rfl, rfl, ?_⟩⟩
              have e5 := same_new (o := .tup [.str "both", .str "either"]) np
              have ei : (if (false : Bool) = true then !inV (V.str x) [V.str "both", V.str "either"] else inV (V.str x) [V.str "both", V.str "either"]) = (decide (x = "both") || decide (x = "either")) := by
                simp only [Bool.false_eq_true, if_false, inV, List.any_cons, List.any_nil, Bool.or_false, eqV]
                rw [show ((("both" : Str) == x) : Bool) = decide (x = "both") from by rw [Bool.eq_iff_iff, beq_iff_eq, decide_eq_true_iff]; exact eq_comm, show ((("either" : Str) == x) : Bool) = decide (x = "either") from by rw [Bool.eq_iff_iff, beq_iff_eq, decide_eq_true_iff]; exact eq_comm]
              rw [ei]
              exact q _ e5
        | _ => exact iteT (q H (Same.refl H))
theorem scItem : FnScope ["value", "letters", "letter"] ["value", "letters"] (defScope sItem) := ⟨rfl, rfl, rfl, by decide +kernel, rfl, by decide +kernel, by decide +kernel⟩
theorem ok_item {f : Addr} {fd : FuncData} (F : Fun K "is_item" "is_item" sItem f fd) (B : Bi mg) (C : Bs mg) : FnOk P w K mg base CX0 1 f fd ["value", "letters"] spItem := by
  refine F.ok scItem (fun vs H Q E h => ?_) (fun cdv A outer s H vs Q E hr h => ?_)
  · obtain ⟨v, ls, rfl, _⟩ := h
    rfl
  · obtain ⟨v, ls, rfl, kn, l2, ll, q⟩ := h
    refine ⟨_, pss_cons (ps_if (PW.pt (pw_or (pt_not (pt_val (pe_isStr B.isi (pa_cons (pv 0) (pa_cons (pe_ty "str" C.str) pa_nil))))) (pw_or1 (pt_not (pt_truth (pv 0) (by intro _; rfl)))))) (pss_one (ps_ret pe_bl)) pss_nil)
      (pss_cons (ps_if (pt_cmpR op_in_seq (pv 0) (pe_tup (pa_cons pe_str (pa_cons pe_str pa_nil))) rfl) (pss_one (ps_ret pe_bl)) pss_nil)
      (pss_one (ps_ret (pe_and (pe_all rfl C.all (pa_cons (pe_lc (own := [("letter", 2)]) rfl scItem.nd (pi_str (pv 0)) (blkOk_by (N := ["value", "letters", "letter"]) (sc := defScope sItem) (by decide +kernel))
          (fun _ _ _ _ _ => pg_name (i := 2) scItem.nd rfl (Or.inl rfl)) (fun _ _ _ _ _ => pts_nil) (fun _ _ _ _ _ => pe_cmpR op_in_sign (pv 2) (pv 1) rfl)) pa_nil))
        (pe_one (pe_cmpR op_eq (pe_lenSetA rfl rfl B.len rfl C.set (pv 0)) (pe_lenS B.len (pa_cons (pv 0) pa_nil)) (nomark _))))))), ?_⟩
    obtain ⟨t, ty, k1⟩ := kn.isStr K
    refine ⟨_, rfl, _, _, _, _, _, rfl, .ty "str", ty, k1, _, rfl, ?_⟩
    cases v with
    | str x =>
      have l2 := l2 x rfl
      obtain ⟨it, rfl⟩ : ∃ it, x = S it := ⟨_, S_of x⟩
      rw [S_len] at l2
      have q : ∀ H', Same H H' → Q (.bl (itW ls (S it).cps.toList)) H' := q
      rw [S_list] at q
      have small : (S it).length ≤ sizeLine := Nat.le_of_lt (small10 (by rw [S_len]; omega))
      refine iteF ⟨_, rfl, !decide (it = []), ⟨small, ?_⟩, ?_⟩
      · rw [S_len]
        cases it with
        | nil => rfl
        | cons a r => simp; omega
      cases it with
      | nil => exact iteT (q H (Same.refl H))
      | cons c0 r =>
      refine iteF ?_
      generalize eit : c0 :: r = it at q small l2 ⊢
      have ne : it ≠ [] := by rw [← eit]; simp
      clear eit
      have eW : itW ls it = (decide (it ∈ [[63], [42]]) || ((it.all fun c => decide (c ∈ ls)) && decide it.Nodup)) := by
        unfold itW
        rw [decide_eq_true ne, Bool.true_and]
      rw [eW] at q
      refine ⟨_, rfl, by show 2 ≤ sizeLine; decide, fun p np => ⟨p, _, rfl, .inr (SqT.of upd_same), rfl, rfl, ?_⟩⟩
      have e1 := same_new (o := .tup [.str "?", .str "*"]) np
      generalize upd H p (.tup [.str "?", .str "*"]) = H1 at e1 ⊢
      have ei : inV (.str (S it)) [.str "?", .str "*"] = decide (it ∈ [[63], [42]]) := by
        rw [star_S, any_S]
        exact in_txs (w := it) (us := [[63], [42]])
      show (∃ k, _ ∧ _)
      refine ⟨_, rfl, ?_⟩
      rw [show (if (false : Bool) = true then !inV (V.str (S it)) [V.str "?", V.str "*"] else inV (V.str (S it)) [V.str "?", V.str "*"]) = decide (it ∈ [[63], [42]]) from ei]
      cases c : decide (it ∈ [[63], [42]]) with
      | true =>
        rw [c] at q
        exact iteT (q H1 e1)
      | false =>
        rw [c] at q
        refine iteF ⟨_, rfl, _, rfl, fun D nD => lcS (fun c => .bl (decide (c ∈ ls))) (by rw [S_size]; omega) nD ?_ ?_⟩
        · intro c H2 Q N hc e q
          exact ⟨rfl, yesT ⟨_, rfl, _, rfl, c, S ls, rfl, rfl, q⟩⟩
        · intro H2 e hD
          refine ⟨D, (it.map fun c => decide (c ∈ ls)), rfl, ?_, ?_⟩
          · rw [List.map_map]
            exact SqL.of hD
          have q := q H2 (e1.trans e)
          rw [Bool.false_or] at q
          rw [List.all_map, show (id ∘ fun c => decide (c ∈ ls)) = fun c => decide (c ∈ ls) from rfl]
          cases ca : it.all fun c => decide (c ∈ ls) with
          | false =>
            rw [ca, Bool.false_and] at q
            exact ⟨false, rfl, iteF q⟩
          | true =>
            rw [ca, Bool.true_and] at q
            refine ⟨true, rfl, iteT ⟨_, rfl, S it, rfl, by rw [S_size]; omega, _, rfl, S it, rfl, small, rfl, ?_⟩⟩
            have e : decide (V.int ((SetAny.news (S it) (S it).cps.size : Nat) : Int) = V.int (((S it).length : Nat) : Int)) = decide it.Nodup := decide_eq_decide.mpr (by
              have h := SetAny.news_nd (z := S it) (Nat.le_refl _)
              unfold SetAny.firsts at h
              rw [S_size, S_list, List.take_length] at h
              rw [S_size, S_len]
              refine Iff.trans ⟨fun z => ?_, fun z => by rw [z]⟩ h
              have := V.int.inj z
              omega)
            rw [e]
            exact q
    | _ => exact iteT (q H (Same.refl H))
end
end K05
set_option Elab.async false
set_option linter.all false
set_option maxRecDepth 100001
set_option maxHeartbeats 3999999
namespace K05
open PySem L2
/-- parts: a row of items, a part of parts (0: not, 1: both, 2: either), a value that is no part -/
inductive T5 where
  | row (its : List V)
  | nd (k : Nat) (ks : List T5)
  | odd (v : V)
/-- how a part is called -/
def kn : Nat → Str
  | 0 => "not"
  | 1 => "both"
  | _ => "either"
mutual
/-- the way to the first thing that is none -/
def fst (ls : List Nat) (p : List Int) : T5 → Option (List Int)
  | .row its => match its.findIdx? (fun v => !itB ls v) with
    | some j => some (p ++ [1, (j : Int)])
    | none => none
  | .nd _ ks => fstL ls p 1 ks
  | .odd _ => some p
def fstL (ls : List Nat) (p : List Int) (i : Nat) : List T5 → Option (List Int)
  | [] => none
  | t :: ts => (fst ls (p ++ [(i : Int)]) t).or (fstL ls p (i + 1) ts)
end
mutual
/-- how many parts and items -/
def cnt : T5 → Nat
  | .row its => 1 + its.length
  | .nd _ ks => 1 + cntL ks
  | .odd _ => 1
def cntL : List T5 → Nat
  | [] => 0
  | t :: ts => cnt t + cntL ts
end
mutual
/-- the rows, in order -/
def rws : T5 → List (List V)
  | .row its => [its]
  | .nd _ ks => rwsL ks
  | .odd _ => []
def rwsL : List T5 → List (List V)
  | [] => []
  | t :: ts => rws t ++ rwsL ts
end
mutual
/-- a tree stands at a value -/
inductive Sh (H : Hp) : V → T5 → Prop
  | row {a b : Addr} {its : List V} (h1 : H a = some (.tup [.str "row", .ref b])) (h2 : H b = some (.tup its)) (l : its.length ≤ 100) (k : ∀ v ∈ its, Kn H v ∧ ∀ x, v = .str x → x.length ≤ 100) : Sh H (.ref a) (.row its)
  | nd {a : Addr} {k : Nat} {vs : List V} {ks : List T5} (h : H a = some (.tup (.str (kn k) :: vs))) (hk : k ≤ 2) (s : ShL H vs ks) (n : k = 0 → ks.length = 1) (l : ks.length ≤ 100) : Sh H (.ref a) (.nd k ks)
  | odd {v : V} (h : KnT H v) (n : prB H v = false) : Sh H v (.odd v)
inductive ShL (H : Hp) : List V → List T5 → Prop
  | nil : ShL H [] []
  | cons {v : V} {vs : List V} {t : T5} {ts : List T5} (h : Sh H v t) (r : ShL H vs ts) : ShL H (v :: vs) (t :: ts)
end
theorem ShL.len {H : Hp} : ∀ {vs : List V} {ts : List T5}, ShL H vs ts → vs.length = ts.length
  | _, _, .nil => rfl
  | _, _, .cons _ r => by rw [List.length_cons, List.length_cons, r.len]
theorem isT_same {H H' : Hp} {v : V} (k : Kn H v) (e : Same H H') : isT H' v = isT H v := by
  cases k with
  | lst h => rw [isT_lst h, isT_lst (e _ _ h)]
  | tup h => rw [isT_tup h, isT_tup (e _ _ h)]
  | _ => rfl
theorem KnT.same {H H' : Hp} {v : V} (k : KnT H v) (e : Same H H') : KnT H' v := by
  refine ⟨k.1.same e, fun a xs ev h x hx => ?_⟩
  subst ev
  cases k.1 with
  | lst h2 => rw [e _ _ h2] at h; cases h
  | @tup _ ys h2 =>
    rw [e _ _ h2] at h
    cases h
    exact (k.2 a _ rfl h2 x hx).same e
theorem prB_same {H H' : Hp} {v : V} (k : KnT H v) (e : Same H H') : prB H' v = prB H v := by
  have k1 := k.1
  cases k1 with
  | lst h => rw [prB_no (isT_lst h), prB_no (isT_lst (e _ _ h))]
  | @tup a xs h =>
    rw [prB_tup h, prB_tup (e _ _ h)]
    cases xs with
    | nil => rfl
    | cons x r =>
      cases x with
      | str x =>
        show prL H' x r = prL H x r
        unfold prL
        have : hdT H' r = hdT H r := by
          cases r with
          | nil => rfl
          | cons y r => exact isT_same (k.2 a _ rfl h y (by simp)) e
        rw [this]
      | _ => rfl
  | _ => rfl
mutual
theorem Sh.same {H H' : Hp} (e : Same H H') : ∀ (t : T5) (v : V), Sh H v t → Sh H' v t
  | .row its, _, .row h1 h2 l k => .row (e _ _ h1) (e _ _ h2) l fun v hv => ⟨(k v hv).1.same e, (k v hv).2⟩
  | .nd k ks, _, .nd h hk s n l => .nd (e _ _ h) hk (ShL.same e ks _ s) n l
  | .odd v, _, .odd h n => .odd (h.same e) (by rw [prB_same h e]; exact n)
theorem ShL.same {H H' : Hp} (e : Same H H') : ∀ (ts : List T5) (vs : List V), ShL H vs ts → ShL H' vs ts
  | [], _, .nil => .nil
  | t :: ts, _, .cons h r => .cons (Sh.same e t _ h) (ShL.same e ts _ r)
end
def isOdd : T5 → Bool
  | .odd _ => true
  | _ => false
theorem kn_row (k : Nat) : kn k ≠ "row" := by
  rcases k with _ | _ | k
  · decide +kernel
  · decide +kernel
  · show ("either" : Str) ≠ "row"
    decide +kernel
/-- what is_part says of a tree -/
theorem Sh.part {H : Hp} {v : V} {t : T5} (h : Sh H v t) : KnT H v ∧ prB H v = !isOdd t := by
  cases h with
  | @row a b its h1 h2 l k =>
    refine ⟨⟨.tup h1, fun a' xs ev h x hx => ?_⟩, ?_⟩
    · cases ev
      rw [h1] at h
      cases h
      simp only [List.mem_cons, List.not_mem_nil, or_false] at hx
      rcases hx with rfl | rfl
      · exact .str _
      · exact .tup h2
    · rw [prB_tup h1]
      show prL H "row" [.ref b] = true
      unfold prL
      rw [if_pos rfl]
      show (decide (1 = 1) && isT H (.ref b)) = true
      rw [isT_tup h2]
      rfl
  | @nd a k vs ks h hk s n l =>
    have kv : ∀ x ∈ vs, Kn H x := by
      have : ∀ (ts : List T5) (vs : List V), ShL H vs ts → ∀ x ∈ vs, Kn H x := by
        intro ts
        induction ts with
        | nil => intro vs h x hx; cases h; cases hx
        | cons t ts ih =>
          intro vs h x hx
          cases h with
          | cons h r =>
            rcases List.mem_cons.mp hx with rfl | hx
            · cases h with
              | row h1 => exact .tup h1
              | nd h1 => exact .tup h1
              | odd h1 => exact h1.1
            · exact ih _ r x hx
      exact this ks vs s
    refine ⟨⟨.tup h, fun a' xs ev h' x hx => ?_⟩, ?_⟩
    · cases ev
      rw [h] at h'
      cases h'
      rcases List.mem_cons.mp hx with rfl | hx
      · exact .str _
      · exact kv x hx
    · rw [prB_tup h]
      show prL H (kn k) vs = true
      unfold prL
      rw [if_neg (kn_row k)]
      rcases k with _ | _ | k
      · rw [if_pos (show kn 0 = "not" from rfl), s.len, n rfl]
        rfl
      · rw [if_neg (show ¬ (kn (0 + 1) = "not") by decide +kernel)]
        show (decide (("both" : Str) = "both") || decide (("both" : Str) = "either")) = true
        decide +kernel
      · rw [if_neg (show ¬ (kn (k + 1 + 1) = "not") from by show ¬ (("either" : Str) = "not"); decide +kernel)]
        show (decide (("either" : Str) = "both") || decide (("either" : Str) = "either")) = true
        decide +kernel
  | odd h n => exact ⟨h, n⟩
end K05
set_option Elab.async false
set_option linter.all false
set_option maxRecDepth 100001
set_option maxHeartbeats 3999999
namespace K05
open PySem L2
/-! ### the stack -/
/-- the way, the tree, the number above -/
abbrev Ent := List Int × T5 × Option Nat
def fstS (ls : List Nat) : List Ent → Option (List Int)
  | [] => none
  | e :: r => (fst ls e.1 e.2.1).or (fstS ls r)
def cntS : List Ent → Nat
  | [] => 0
  | e :: r => cnt e.2.1 + cntS r
def rwsS : List Ent → List (List V)
  | [] => []
  | e :: r => rws e.2.1 ++ rwsS r
def kids (p : List Int) (m i : Nat) : List T5 → List Ent
  | [] => []
  | t :: ts => (p ++ [(i : Int)], t, some m) :: kids p m (i + 1) ts
theorem fst_kids (ls : List Nat) (p : List Int) (m : Nat) (r : List Ent) : ∀ (ts : List T5) (i : Nat), fstS ls (kids p m i ts ++ r) = (fstL ls p i ts).or (fstS ls r)
  | [], i => by
    show fstS ls r = (fstL ls p i []).or _
    rw [fstL]
    rfl
  | t :: ts, i => by
    show (fst ls (p ++ [(i : Int)]) t).or (fstS ls (kids p m (i + 1) ts ++ r)) = _
    rw [fst_kids ls p m r ts (i + 1), fstL, Option.or_assoc]
theorem cnt_kids (p : List Int) (m : Nat) (r : List Ent) : ∀ (ts : List T5) (i : Nat), cntS (kids p m i ts ++ r) = cntL ts + cntS r
  | [], i => by
    show cntS r = cntL [] + _
    rw [cntL, Nat.zero_add]
  | t :: ts, i => by
    show cnt t + cntS (kids p m (i + 1) ts ++ r) = _
    rw [cnt_kids p m r ts (i + 1), cntL, Nat.add_assoc]
theorem rws_kids (p : List Int) (m : Nat) (r : List Ent) : ∀ (ts : List T5) (i : Nat), rwsS (kids p m i ts ++ r) = rwsL ts ++ rwsS r
  | [], i => by
    show rwsS r = rwsL [] ++ _
    rw [rwsL]
    rfl
  | t :: ts, i => by
    show rws t ++ rwsS (kids p m (i + 1) ts ++ r) = _
    rw [rws_kids p m r ts (i + 1), rwsL, List.append_assoc]
theorem kids_app (p : List Int) (m : Nat) : ∀ (ts us : List T5) (i : Nat), kids p m i (ts ++ us) = kids p m i ts ++ kids p m (i + ts.length) us
  | [], us, i => rfl
  | t :: ts, us, i => by
    show _ :: kids p m (i + 1) (ts ++ us) = _ :: (kids p m (i + 1) ts ++ kids p m (i + (ts.length + 1)) us)
    rw [kids_app p m ts us (i + 1), show i + 1 + ts.length = i + (ts.length + 1) by omega]
/-! ### nodes -/
inductive N5 where
  | row (its : List V)
  | nd (k : Nat) (ps : List Nat)
def nodR : List N5 → List (List V)
  | [] => []
  | .row its :: r => its :: nodR r
  | .nd _ _ :: r => nodR r
theorem nodR_app : ∀ a b : List N5, nodR (a ++ b) = nodR a ++ nodR b
  | [], b => rfl
  | .row its :: a, b => by
    show its :: nodR (a ++ b) = its :: (nodR a ++ nodR b)
    rw [nodR_app a b]
  | .nd _ _ :: a, b => nodR_app a b
def psV (ps : List Nat) : List V := ps.map fun p => .int ((p : Nat) : Int)
/-- the node at v stands in H, with its own list at l -/
def NdAt (H : Hp) (v : V) (l : Addr) : N5 → Prop
  | .row its => ∃ n, v = .ref n ∧ H n = some (.tup [.str "row", .ref l]) ∧ H l = some (.lst its)
  | .nd k ps => ∃ n, v = .ref n ∧ H n = some (.tup [.str (kn k), .ref l]) ∧ H l = some (.lst (psV ps))
theorem NdAt.at_ {H H' : Hp} {v : V} {l : Addr} {n : N5} (h : NdAt H v l n) (e1 : ∀ a xs, H a = some (.tup xs) → H' a = some (.tup xs)) (e2 : ∀ xs, H l = some (.lst xs) → H' l = some (.lst xs)) : NdAt H' v l n := by
  cases n with
  | row its => exact let ⟨n, h1, h2, h3⟩ := h; ⟨n, h1, e1 _ _ h2, e2 _ h3⟩
  | nd k ps => exact let ⟨n, h1, h2, h3⟩ := h; ⟨n, h1, e1 _ _ h2, e2 _ h3⟩
/-- nodes: the values of the list, each one's own list; all unlike -/
structure Nds (H : Hp) (vs : List V) (ad : List Addr) (ns : List N5) : Prop where
  l1 : vs.length = ns.length
  l2 : ad.length = ns.length
  at_ : ∀ (i : Nat) v a n, vs[i]? = some v → ad[i]? = some a → ns[i]? = some n → NdAt H v a n
  nd : ad.Nodup
/-- what the nodes lead to stands behind them, below n -/
structure Goes (n : Nat) (ns : List N5) (st : List Ent) : Prop where
  up : ∀ (i : Nat) k ps, ns[i]? = some (.nd k ps) → ∀ p ∈ ps, i < p ∧ p < n
  no : ∀ (i : Nat) ps, ns[i]? = some (.nd 0 ps) → ps ≠ [] ∨ ∃ e ∈ st, e.2.2 = some i
  ab : ∀ e ∈ st, ∀ i : Nat, e.2.2 = some i → ∃ k ps, ns[i]? = some (.nd k ps)
  few : ∀ (i : Nat) k ps, ns[i]? = some (.nd k ps) → ps.length + 1 ≤ n
theorem Goes.pop {ns : List N5} {e : Ent} {st : List Ent} (g : Goes ns.length ns (e :: st)) (h : e.2.2 = none) : Goes (ns.length + 1) ns st := by
  refine ⟨fun i k ps hi p hp => ?_, fun i ps hi => ?_, fun e' he => g.ab e' (List.mem_cons_of_mem _ he), fun i k ps hi => Nat.le_succ_of_le (g.few i k ps hi)⟩
  · have := g.up i k ps hi p hp
    omega
  · rcases g.no i ps hi with z | ⟨e', he, z⟩
    · exact .inl z
    · rcases List.mem_cons.mp he with rfl | he
      · rw [h] at z
        cases z
      · exact .inr ⟨e', he, z⟩
theorem Goes.app {ns : List N5} {e : Ent} {st : List Ent} {i k : Nat} {ps : List Nat} (g : Goes ns.length ns (e :: st)) (h : e.2.2 = some i) (hi : ns[i]? = some (.nd k ps)) : Goes (ns.length + 1) (ns.set i (.nd k (ps ++ [ns.length]))) st := by
  have li := (List.getElem?_eq_some_iff.mp hi).1
  refine ⟨fun j k' ps' hj p hp => ?_, fun j ps' hj => ?_, fun e' he j hj => ?_, fun j k' ps' hj => ?_⟩
  · by_cases c : i = j
    · subst c
      rw [List.getElem?_set_self li] at hj
      cases hj
      rcases List.mem_append.mp hp with hp | hp
      · have := g.up i k ps hi p hp
        omega
      · rw [List.mem_singleton.mp hp]
        omega
    · rw [List.getElem?_set_ne c] at hj
      have := g.up j k' ps' hj p hp
      omega
  · by_cases c : i = j
    · subst c
      rw [List.getElem?_set_self li] at hj
      cases hj
      exact .inl (by simp)
    · rw [List.getElem?_set_ne c] at hj
      rcases g.no j ps' hj with z | ⟨e', he, z⟩
      · exact .inl z
      · rcases List.mem_cons.mp he with rfl | he
        · rw [h] at z
          cases z
          exact absurd rfl c
        · exact .inr ⟨e', he, z⟩
  · obtain ⟨k', ps', z⟩ := g.ab e' (List.mem_cons_of_mem _ he) j hj
    by_cases c : i = j
    · subst c
      exact ⟨_, _, List.getElem?_set_self li⟩
    · exact ⟨k', ps', by rw [List.getElem?_set_ne c]; exact z⟩
  · by_cases c : i = j
    · subst c
      rw [List.getElem?_set_self li] at hj
      cases hj
      have := g.few i k ps hi
      rw [List.length_append]
      show ps.length + 1 + 1 ≤ _
      omega
    · rw [List.getElem?_set_ne c] at hj
      exact Nat.le_succ_of_le (g.few j k' ps' hj)
theorem get_app {α : Type} {l : List α} {a b : α} {i : Nat} (h : (l ++ [a])[i]? = some b) : l[i]? = some b ∨ (i = l.length ∧ a = b) := by
  have lt := (List.getElem?_eq_some_iff.mp h).1
  rw [List.length_append] at lt
  have lt : i < l.length + 1 := lt
  by_cases c : i < l.length
  · rw [List.getElem?_append_left c] at h
    exact .inl h
  · have : i = l.length := by omega
    subst this
    rw [List.getElem?_append_right (Nat.le_refl _), Nat.sub_self] at h
    exact .inr ⟨rfl, Option.some.inj h⟩
theorem app_get {α : Type} {l : List α} {a b : α} {i : Nat} (h : l[i]? = some b) : (l ++ [a])[i]? = some b := by
  rw [List.getElem?_append_left (List.getElem?_eq_some_iff.mp h).1]
  exact h
theorem Goes.row {ns : List N5} {st : List Ent} {its : List V} (g : Goes (ns.length + 1) ns st) : Goes (ns.length + 1) (ns ++ [.row its]) st := by
  refine ⟨fun i k ps hi p hp => ?_, fun i ps hi => ?_, fun e he i hi => ?_, fun i k ps hi => ?_⟩
  · rcases get_app hi with z | ⟨_, z⟩
    · exact g.up i k ps z p hp
    · cases z
  · rcases get_app hi with z | ⟨_, z⟩
    · exact g.no i ps z
    · cases z
  · obtain ⟨k, ps, z⟩ := g.ab e he i hi
    exact ⟨k, ps, app_get z⟩
  · rcases get_app hi with z | ⟨_, z⟩
    · exact g.few i k ps z
    · cases z
theorem mem_kids {p : List Int} {m : Nat} {e : Ent} : ∀ {ts : List T5} {i : Nat}, e ∈ kids p m i ts → e.2.2 = some m ∧ e.1.length = p.length + 1 ∧ cnt e.2.1 ≤ cntL ts
  | [], i, h => nomatch h
  | t :: ts, i, h => by
    rcases List.mem_cons.mp h with rfl | h
    · refine ⟨rfl, by rw [List.length_append]; rfl, ?_⟩
      rw [cntL]
      exact Nat.le_add_right _ _
    · obtain ⟨h1, h2, h3⟩ := mem_kids h
      refine ⟨h1, h2, ?_⟩
      rw [cntL]
      omega
theorem Goes.nd {ns : List N5} {st : List Ent} {p : List Int} {k : Nat} {ts : List T5} (g : Goes (ns.length + 1) ns st) (n : k = 0 → ts ≠ []) : Goes (ns.length + 1) (ns ++ [.nd k []]) (kids p ns.length 1 ts ++ st) := by
  refine ⟨fun i k ps hi p hp => ?_, fun i ps hi => ?_, fun e he i hi => ?_, fun i k ps hi => ?_⟩
  · rcases get_app hi with z | ⟨_, z⟩
    · exact g.up i k ps z p hp
    · cases z
      cases hp
  · rcases get_app hi with z | ⟨rfl, z⟩
    · rcases g.no i ps z with z | ⟨e, he, z⟩
      · exact .inl z
      · exact .inr ⟨e, List.mem_append_right _ he, z⟩
    · cases z
      have := n rfl
      cases ts with
      | nil => exact absurd rfl this
      | cons t ts => exact .inr ⟨_, List.mem_append_left _ (List.mem_cons_self), rfl⟩
  · rcases List.mem_append.mp he with he | he
    · rw [(mem_kids he).1] at hi
      cases hi
      exact ⟨k, [], by rw [List.getElem?_append_right (Nat.le_refl _), Nat.sub_self]; rfl⟩
    · obtain ⟨k, ps, z⟩ := g.ab e he i hi
      exact ⟨k, ps, app_get z⟩
  · rcases get_app hi with z | ⟨_, z⟩
    · exact g.few i k ps z
    · cases z
      show 0 + 1 ≤ _
      omega
theorem nodR_set {k : Nat} {ps qs : List Nat} : ∀ {ns : List N5} {i : Nat}, ns[i]? = some (.nd k ps) → nodR (ns.set i (.nd k qs)) = nodR ns
  | [], _, h => nomatch h
  | n :: ns, 0, h => by
    cases h
    rfl
  | n :: ns, i + 1, h => by
    have ih := nodR_set (ns := ns) (i := i) (qs := qs) h
    cases n with
    | row its =>
      show its :: nodR (ns.set i (.nd k qs)) = its :: nodR ns
      rw [ih]
    | nd k' ps' => exact ih
theorem Nds.set {H : Hp} {vs : List V} {ad : List Addr} {ns : List N5} {i k : Nat} {ps : List Nat} {l : Addr} (h : Nds H vs ad ns) (hn : ns[i]? = some (.nd k ps)) (ha : ad[i]? = some l) (hl : H l = some (.lst (psV ps))) (n : Nat) : Nds (upd H l (.lst (psV (ps ++ [n])))) vs ad (ns.set i (.nd k (ps ++ [n]))) := by
  have li := (List.getElem?_eq_some_iff.mp hn).1
  refine ⟨by rw [List.length_set]; exact h.l1, by rw [List.length_set]; exact h.l2, fun j v a m hv hj hm => ?_, h.nd⟩
  have kt : ∀ a xs, H a = some (.tup xs) → upd H l (.lst (psV (ps ++ [n]))) a = some (.tup xs) := fun a xs z => (upd_ne (ne_of z hl fun y => nomatch y)).trans z
  by_cases c : i = j
  · subst c
    rw [List.getElem?_set_self li] at hm
    cases hm
    rw [ha] at hj
    cases hj
    obtain ⟨m, h1, h2, h3⟩ := h.at_ i v l _ hv ha hn
    exact ⟨m, h1, kt _ _ h2, upd_same⟩
  · rw [List.getElem?_set_ne c] at hm
    refine (h.at_ j v a m hv hj hm).at_ kt fun xs z => (upd_ne fun e => c ?_).trans z
    subst e
    have l1 := (List.getElem?_eq_some_iff.mp ha)
    have l2 := (List.getElem?_eq_some_iff.mp hj)
    exact (List.getElem_inj h.nd).mp (l1.2.trans l2.2.symm)
theorem Nds.app {H H' : Hp} {vs : List V} {ad : List Addr} {ns : List N5} {v : V} {a : Addr} {n : N5} (h : Nds H vs ad ns) (k1 : ∀ a xs, H a = some (.tup xs) → H' a = some (.tup xs)) (k2 : ∀ a ∈ ad, ∀ xs, H a = some (.lst xs) → H' a = some (.lst xs)) (na : a ∉ ad) (hn : NdAt H' v a n) : Nds H' (vs ++ [v]) (ad ++ [a]) (ns ++ [n]) := by
  refine ⟨by rw [List.length_append, List.length_append, h.l1]; rfl, by rw [List.length_append, List.length_append, h.l2]; rfl, fun j v' a' n' h1 h2 h3 => ?_, List.nodup_append.mpr ⟨h.nd, by simp, fun x hx y hy z => na ?_⟩⟩
  · rcases get_app h1 with z1 | ⟨z1, rfl⟩
    · rcases get_app h2 with z2 | ⟨z2, _⟩
      · rcases get_app h3 with z3 | ⟨z3, _⟩
        · exact (h.at_ j v' a' n' z1 z2 z3).at_ k1 (k2 a' (List.mem_of_getElem? z2))
        · have := (List.getElem?_eq_some_iff.mp z1).1
          have := h.l1
          omega
      · have := (List.getElem?_eq_some_iff.mp z1).1
        have := h.l1
        have := h.l2
        omega
    · rcases get_app h2 with z2 | ⟨_, rfl⟩
      · have := (List.getElem?_eq_some_iff.mp z2).1
        have := h.l1
        have := h.l2
        omega
      · rcases get_app h3 with z3 | ⟨_, rfl⟩
        · have := (List.getElem?_eq_some_iff.mp z3).1
          have := h.l1
          omega
        · exact hn
  · rw [List.mem_singleton.mp hy] at z
    exact z ▸ hx
theorem Nds.at2 {H H' : Hp} {vs : List V} {ad : List Addr} {ns : List N5} (h : Nds H vs ad ns) (k1 : ∀ a xs, H a = some (.tup xs) → H' a = some (.tup xs)) (k2 : ∀ a ∈ ad, ∀ xs, H a = some (.lst xs) → H' a = some (.lst xs)) : Nds H' vs ad ns :=
  ⟨h.l1, h.l2, fun j v a n h1 h2 h3 => (h.at_ j v a n h1 h2 h3).at_ k1 (k2 a (List.mem_of_getElem? h2)), h.nd⟩
end K05
set_option Elab.async false
set_option linter.all false
set_option maxRecDepth 100001
set_option maxHeartbeats 3999999
namespace K05
open PySem L2
/-- an own exception class of the module -/
structure Xc (P : Program) (w : World) (K : PySem.W.Frag) (mg : Str → Option Value) (base : Heap) (k : Nat) (x : Str) (C : Addr) (sp : Sp) : Prop where
  T : OexC K C
  mgC : mg x = some (.ref C)
  ex : ∃ (f : Addr) (fd : FuncData) (ps : List Str), PySem.W.findIn K (.ref C) "__init__" = some (some (.ref f)) ∧ PySem.W.typeIn K (.ref f) = some (.type "function") ∧ FnOk P w K mg base CX0 k f fd ps sp ∧ Binds K fd ps []
section
variable {X : Cx} {k j : Nat} {x : Str} {C : Addr} {sp : Sp} {e : Expr} {es : List Expr} {t : TA} {p pos : Pos}
theorem pmk_x (c : Xc X.prog X.w X.K X.mg X.base k x C sp) (hr : Room j X.A) (ha : PA X (e :: es) t) (hk : k + 1 ≤ j := by decide) (hg : Gl X x := by rfl) (hdb : (x == ("__debug__" : Str)) = false := by decide)
    (he : starEach (e :: es) X.env = (false, eval e X.env) :: starEach es X.env := by rfl) (hpl : (backTo pos (starEach es X.env)).any (·.1) = false := by rfl) : PMk X (.Call (.Name x p) (e :: es) [] pos) (tMkO C sp [] t) := by
  obtain ⟨f, fd, ps, i1, i2, F, b⟩ := c.ex
  exact pmk_oex c.T i1 i2 F (hr.mono hk) b .nil pass0 hg c.mgC ha hdb he hpl
end
theorem cat_tup {K : PySem.W.Frag} {H : Hp} {a b : Addr} {xs ys : List V} {Q : VK} (ha : H a = some (.tup xs)) (hb : H b = some (.tup ys)) (l : xs.length + ys.length ≤ sizeLine) (k : ∀ t H', Same H H' → H' t = some (.tup (xs ++ ys)) → Q (.ref t) H') : rCatA K (.ref a) (.ref b) H Q := by
  refine ⟨a, b, xs, ys, rfl, rfl, SqT.of ha, SqT.of hb, l, fun e => ?_, fun _ e => ?_, fun _ _ p np => ?_⟩
  · subst e
    exact k b H (Same.refl H) hb
  · subst e
    exact k a H (Same.refl H) (by rw [List.append_nil]; exact ha)
  · exact k p _ (same_new np) upd_same
theorem sl_tup {K : PySem.W.Frag} {H : Hp} {a : Addr} {xs : List V} {lo hi : Option Int} {Q : VK} (h : H a = some (.tup xs)) (k : ∀ t H3, Same H H3 → H3 t = some (.tup (cutV xs lo hi)) → Q (.ref t) H3) : rSlA K (.ref a) lo hi H Q := by
  refine ⟨a, xs, rfl, SqT.of h, fun e => ?_, fun _ p np => k p _ (same_new np) upd_same⟩
  refine k a H (Same.refl H) ?_
  unfold cutV
  rw [e.1, e.2, List.drop_zero, Nat.sub_zero, List.take_length]
  exact h
/-- an entry of the stack -/
def EnA (H0 H : Hp) (v : V) (e : Ent) : Prop := ∃ a q x, v = .ref a ∧ H a = some (.tup [.ref q, x, match e.2.2 with | none => .non | some i => .int ((i : Nat) : Int)]) ∧ H q = some (.tup (e.1.map V.int)) ∧ Sh H0 x e.2.1
def EnS (H0 H : Hp) : List V → List Ent → Prop
  | [], [] => True
  | v :: vs, e :: es => EnA H0 H v e ∧ EnS H0 H vs es
  | _, _ => False
theorem EnS.at_ {H0 H H' : Hp} (k : ∀ a xs, H a = some (.tup xs) → H' a = some (.tup xs)) : ∀ {vs : List V} {es : List Ent}, EnS H0 H vs es → EnS H0 H' vs es
  | [], [], _ => True.intro
  | v :: vs, e :: es, ⟨⟨a, q, x, h1, h2, h3, h4⟩, r⟩ => ⟨⟨a, q, x, h1, k _ _ h2, k _ _ h3, h4⟩, EnS.at_ k r⟩
  | [], _ :: _, h => h.elim
  | _ :: _, [], h => h.elim
theorem EnS.len {H0 H : Hp} : ∀ {vs : List V} {es : List Ent}, EnS H0 H vs es → vs.length = es.length
  | [], [], _ => rfl
  | v :: vs, e :: es, ⟨_, r⟩ => by rw [List.length_cons, List.length_cons, EnS.len r]
  | [], _ :: _, h => h.elim
  | _ :: _, [], h => h.elim
theorem cnt_pos (t : T5) : 1 ≤ cnt t := by
  cases t <;> rw [cnt] <;> omega
theorem cntS_len : ∀ st : List Ent, st.length ≤ cntS st
  | [] => Nat.le_refl _
  | e :: r => by
    have := cntS_len r
    have := cnt_pos e.2.1
    show r.length + 1 ≤ cnt e.2.1 + cntS r
    omega
theorem cntL_drop : ∀ (ks : List T5) (n : Nat), cntL (ks.drop n) ≤ cntL ks
  | ks, 0 => Nat.le_refl _
  | [], n + 1 => Nat.le_refl _
  | k :: ks, n + 1 => by
    have := cntL_drop ks n
    rw [cntL]
    show cntL (ks.drop n) ≤ _
    omega
theorem ShL.get {H : Hp} : ∀ {vs : List V} {ts : List T5} {i : Nat} {t : T5}, ShL H vs ts → ts[i]? = some t → ∃ v, vs[i]? = some v ∧ Sh H v t
  | _, _, 0, _, .cons h _, e => by
    cases e
    exact ⟨_, rfl, h⟩
  | _, _, i + 1, _, .cons _ r, e => ShL.get (i := i) r e
  | _, _, 0, _, .nil, e => nomatch e
  | _, _, _ + 1, _, .nil, e => nomatch e
/-- in the walk -/
structure NI (H0 H : Hp) (L T : Addr) (ls : List Nat) (t : T5) (m : Nat) (vs nv : List V) (ad : List Addr) (ns : List N5) (st : List Ent) : Prop where
  same : Same H0 H
  hT : H T = some (.lst vs.reverse)
  hL : H L = some (.lst nv)
  nds : Nds H nv ad ns
  goes : Goes ns.length ns st
  ens : EnS H0 H vs st
  f : fstS ls st = fst ls [] t
  c : m + cntS st = cnt t
  r : nodR ns ++ rwsS st = rws t
  len : ∀ e ∈ st, e.1.length + cnt e.2.1 ≤ cnt t
  nLT : L ≠ T
  nad : ∀ a ∈ ad, a ≠ L ∧ a ≠ T
  old : ∀ b o, H0 b = some o → b ≠ T ∧ b ≠ L ∧ b ∉ ad
  nsl : ns.length ≤ m
  pos : 0 < m → 0 < ns.length
def tmF (w : Str) (n m : Int) : List (Str × V) := [("most", .int m), ("many", .int n), ("what", .str w)]
def pD (p : List Int) : PyData := .tuple (p.map PyData.int)
/-- nodes_of -/
def spNodes (CB CT : Addr) : Sp := fun vs H Q E => ∃ x t ls, vs = [x, .str (S ls)] ∧ Sh H x t ∧ ls.length ≤ 1000 ∧ cnt t ≤ 900 ∧
  ((∃ p, fst ls [] t = some p ∧ ∀ d H', RsO H H' d "path" (pD p) → E (.ref CB) (some d) H') ∨
   (fst ls [] t = none ∧ 60 < cnt t ∧ ∀ d H', Rsd H H' d (tmF "parts" (cnt t : Nat) 60) → E (.ref CT) (some d) H') ∨
   (fst ls [] t = none ∧ cnt t ≤ 60 ∧ ∀ L nv ad ns H', Same H H' → H' L = some (.lst nv) → Nds H' nv ad ns → Goes ns.length ns [] → nodR ns = rws t → ns.length ≤ 60 → 0 < ns.length → (∀ b o, H b = some o → b ≠ L ∧ b ∉ ad) → L ∉ ad → Q (.ref L) H'))
abbrev NNo : List Str := ["shape", "letters", "nodes", "todo", "many", "path", "value", "above", "number", "item", "place"]
section
variable {P : Program} {w : World} {K : PySem.W.Frag} {mg : Str → Option Value} {base : Heap}
theorem scNodes : FnScope NNo ["shape", "letters"] (defScope sNodes) := ⟨rfl, rfl, rfl, by decide +kernel, rfl, by decide +kernel, by decide +kernel⟩
theorem ok_nodes {f CB CT : Addr} {fd : FuncData} (F : Fun K "nodes_of" "nodes_of" sNodes f fd) (B : Bi mg) (M : Cm mg) (cP : Cal CX0 P w K mg base 2 "is_part" spPart) (cI : Cal CX0 P w K mg base 1 "is_item" spItem)
    (xB : Xc P w K mg base 3 "BadPart" CB (spXO K "path")) (nB : PySem.W.findIn K (.ref CB) "path" = some none) (xT : Xc P w K mg base 2 "TooMany" CT (spX3 K "what" "many" "most")) (nT : PySem.W.findIn K (.ref CT) "what" = some none ∧ PySem.W.findIn K (.ref CT) "many" = some none ∧ PySem.W.findIn K (.ref CT) "most" = some none) :
    FnOk P w K mg base (L2.CX P w) 5 f fd ["shape", "letters"] (spNodes CB CT) := by
  refine F.okX scNodes (fun vs H Q E h => ?_) (fun cdv A outer s H vs Q E hr h => ?_)
  · obtain ⟨x, t, ls, rfl, _⟩ := h
    rfl
  · obtain ⟨x, t, ls, rfl, sh, ll, c900, out⟩ := h
    refine ⟨_, pss_cons (ps_set (i := 2) scNodes.nd rfl (Or.inl rfl) (pe_lst pa_nil))
      (pss_cons (ps_set (i := 3) scNodes.nd rfl (Or.inl rfl) (pe_lst (pa_cons (pe_tup (pa_cons (pe_tup pa_nil) (pa_cons (pv 0) (pa_cons pe_non pa_nil)))) pa_nil)))
      (pss_cons (ps_set (i := 4) scNodes.nd rfl (Or.inl rfl) pe_int)
      (pss_cons (ps_while (passes_of rfl) (pt_truth (pv 3) (by intro _; rfl))
        (pss_cons (ps_asg (pe_bm0 PySem.F.plainAttrs_list PySem.F.slot_list_pop PySem.F.type_list_pop mt_pop (pv 3)) (pg_tup rfl (pgs_cons (pg_name (i := 5) scNodes.nd rfl (.inl rfl)) (pgs_cons (pg_name (i := 6) scNodes.nd rfl (.inl rfl)) (pgs_cons (pg_name (i := 7) scNodes.nd rfl (.inl rfl)) pgs_nil)))))
        (pss_cons (ps_aug (i := 4) scNodes.nd rfl (Or.inl rfl) pe_int ip_add (.inl rfl))
        (pss_cons (ps_if (pt_not (pt_val (pe_c cP hr pass0 (pa_cons (pv 6) pa_nil)))) (pss_one (ps_raise rfl (takes_of rfl rfl rfl rfl) (pmk_x xB hr (pa_cons (pv 5) pa_nil)))) pss_nil)
        (C8.pss_cut (ps_if (pt_cmpR op_notN (pv 7) pe_non (nomark _)) (pss_one (ps_expr (pe_bm PySem.F.plainAttrs_list PySem.F.slot_list_append PySem.F.type_list_append mt_append (pe_ix ix_tup (pe_ix ix_list (pv 2) (pv 7) (fun _ _ => rfl)) pe_int (fun _ _ => rfl)) (pa_cons (pe_len B.len (pa_cons (pv 2) pa_nil)) pa_nil)))) pss_nil)
        (pss_one (ps_if (pt_cmpR op_eq (pe_ix ix_tup (pv 6) pe_int (fun _ _ => rfl)) pe_str (nomark _))
          (pss_cons (ps_for (passes_of rfl) rfl (pi_en B.enum (pa_cons (pe_ix ix_tup (pv 6) pe_int (fun _ _ => rfl)) pa_nil)) (pg_tup rfl (pgs_cons (pg_name (i := 8) scNodes.nd rfl (.inl rfl)) (pgs_cons (pg_name (i := 9) scNodes.nd rfl (.inl rfl)) pgs_nil)))
              (pss_one (ps_if (pt_not (pt_val (pe_c cI hr pass0 (pa_cons (pv 9) (pa_cons (pv 1) pa_nil))))) (pss_one (ps_raise rfl (takes_of rfl rfl rfl rfl) (pmk_x xB hr (pa_cons (pe_op op_catA (pv 5) (pe_tup (pa_cons pe_int (pa_cons (pv 8) pa_nil)))) pa_nil)))) pss_nil)))
          (pss_cons (ps_aug (i := 4) scNodes.nd rfl (Or.inl rfl) (pe_len B.len (pa_cons (pe_ix ix_tup (pv 6) pe_int (fun _ _ => rfl)) pa_nil)) ip_add (.inl rfl))
          (pss_one (ps_expr (pe_bm PySem.F.plainAttrs_list PySem.F.slot_list_append PySem.F.type_list_append mt_append (pv 2) (pa_cons (pe_tup (pa_cons pe_str (pa_cons (pe_callTy call_list_of rfl B.list (by decide +kernel) (pa_cons (pe_ix ix_tup (pv 6) pe_int (fun _ _ => rfl)) pa_nil)) pa_nil))) pa_nil))))))
          (pss_cons (ps_expr (pe_bm PySem.F.plainAttrs_list PySem.F.slot_list_append PySem.F.type_list_append mt_append (pv 2) (pa_cons (pe_tup (pa_cons (pe_ix ix_tup (pv 6) pe_int (fun _ _ => rfl)) (pa_cons (pe_lst pa_nil) pa_nil))) pa_nil)))
          (pss_one (ps_for (passes_of rfl) rfl (pi_range3 rfl B.range (pa_cons (pe_op op_sub (pe_len B.len (pa_cons (pv 6) pa_nil)) pe_int) (pa_cons pe_int (pa_cons (pe_un un_neg pe_int) pa_nil)))) (pg_name (i := 10) scNodes.nd rfl (.inl rfl))
            (pss_one (ps_expr (pe_bm PySem.F.plainAttrs_list PySem.F.slot_list_append PySem.F.type_list_append mt_append (pv 3) (pa_cons (pe_tup (pa_cons (pe_op op_catA (pv 5) (pe_tup (pa_cons (pv 10) pa_nil))) (pa_cons (pe_ix ix_tup (pv 6) (pv 10) (fun _ _ => rfl)) (pa_cons (pe_op op_sub (pe_len B.len (pa_cons (pv 2) pa_nil)) pe_int) pa_nil)))) pa_nil))))))))))))))
      (pss_cons (ps_if (pt_cmpR op_gt (pv 4) (C8.pe_gc rfl M.parts) (nomark _)) (pss_one (ps_raise rfl (takes_of rfl rfl rfl rfl) (pmk_x xT hr (pa_cons pe_str (pa_cons (pv 4) (pa_cons (C8.pe_gc rfl M.parts) pa_nil)))))) pss_nil)
      (pss_one (ps_ret (pv 2))))))), ?_⟩
    refine ⟨by decide, fun L nL => ?_⟩
    have e1 := same_new (o := .lst []) nL
    have hL : upd H L (.lst []) L = some (.lst []) := upd_same
    generalize upd H L (.lst []) = H1 at e1 hL ⊢
    refine ⟨by show 0 ≤ sizeLine; decide, fun t0 nt0 => ?_⟩
    have e2 := same_new (o := .tup []) nt0
    have ht0 : upd H1 t0 (.tup []) t0 = some (.tup []) := upd_same
    generalize upd H1 t0 (.tup []) = H2 at e2 ht0 ⊢
    refine ⟨_, rfl, by show 3 ≤ sizeLine; decide, fun t1 nt1 => ⟨by show 1 ≤ sizeLine; decide, fun T nT' => ?_⟩⟩
    have e3 := same_new (o := .tup [.ref t0, x, .non]) nt1
    have ht1 : upd H2 t1 (.tup [.ref t0, x, .non]) t1 = some (.tup [.ref t0, x, .non]) := upd_same
    generalize upd H2 t1 (.tup [.ref t0, x, .non]) = H3 at e3 ht1 nT' ⊢
    have e4 := same_new (o := .lst [.ref t1]) nT'
    have hT : upd H3 T (.lst [.ref t1]) T = some (.lst [.ref t1]) := upd_same
    have ht14 := e4 _ _ ht1
    generalize upd H3 T (.lst [.ref t1]) = H4 at e4 hT ht14 ⊢
    have e04 : Same H H4 := e1.trans (e2.trans (e3.trans e4))
    have start : NI H H4 L T ls t 0 [.ref t1] [] [] [] [([], t, none)] := {
      same := e04
      hT := hT
      hL := e4 _ _ (e3 _ _ (e2 _ _ hL))
      nds := ⟨rfl, rfl, (fun i v a n h => nomatch h), List.nodup_nil⟩
      goes := ⟨(fun i k ps h => nomatch h), (fun i ps h => nomatch h), (fun e he i h => by
        rw [List.mem_singleton.mp he] at h
        exact nomatch h), (fun i k ps h => nomatch h)⟩
      ens := ⟨⟨t1, t0, x, rfl, ht14, e4 _ _ (e3 _ _ ht0), sh⟩, True.intro⟩
      f := by
        show (fst ls [] t).or none = _
        rw [Option.or_none]
      c := by
        show 0 + (cnt t + 0) = _
        omega
      r := by
        show [] ++ (rws t ++ []) = _
        rw [List.append_nil, List.nil_append]
      len := fun e he => by
        rw [List.mem_singleton.mp he]
        show 0 + cnt t ≤ cnt t
        omega
      nLT := ne_of_none (e3 _ _ (e2 _ _ hL)) nT'
      nad := fun a h => nomatch h
      old := fun b o z => ⟨ne_of_none (e3 _ _ (e2 _ _ (e1 _ _ z))) nT', ne_of_none z nL, fun h => nomatch h⟩
      nsl := Nat.le_refl _
      pos := fun h => absurd h (Nat.lt_irrefl _) }
    clear e1 e2 e3 e4 ht1 nT' nt1 nt0 hL hT ht0 ht14 e04
    dsimp only [gName, tSeq, tAsg, tC]
    show tWhile _ _ _ [some x, some (.str (S ls)), some (.ref L), some (.ref T), some (.int 0), none, none, none, none, none, none] H4
    refine while_by (fun σ H' => ∃ (m : Nat) (vs nv : List V) (ad : List Addr) (ns : List N5) (st : List Ent) (x1 x2 x3 x4 x5 x6 : Option V), σ = [some x, some (.str (S ls)), some (.ref L), some (.ref T), some (.int ((m : Nat) : Int)), x1, x2, x3, x4, x5, x6] ∧ NI H H' L T ls t m vs nv ad ns st)
      (fun σ _ => match σ with | [_, _, _, _, some (.int m), _, _, _, _, _, _] => cnt t - m.toNat | _ => 0) ⟨0, _, _, _, _, _, none, none, none, none, none, none, rfl, start⟩ ?_ (fun σ H Q Q' m ⟨x, hx, k, t, q⟩ => ⟨x, hx, k, t, m _ _ q⟩)
    rintro σ H5 ⟨m, vs, nv, ad, ns, st, x1, x2, x3, x4, x5, x6, rfl, I⟩
    cases st with
    | nil =>
      have ev : vs = [] := List.length_eq_zero_iff.mp I.ens.len
      subst ev
      have ec : m = cnt t := I.c
      have ef : fst ls [] t = none := I.f.symm
      refine ⟨_, rfl, false, .inl ⟨_, SqL.of I.hT, rfl⟩, iteF ?_⟩
      refine ⟨_, rfl, _, _, rfl, rfl, _, rfl, ?_⟩
      rcases out with ⟨p, h, _⟩ | ⟨_, h, out⟩ | ⟨_, h, out⟩
      · rw [ef] at h
        cases h
      · rw [decide_eq_true (show (60 : Int) < ((m : Nat) : Int) by omega)]
        refine iteT ⟨_, rfl, raise3 xT.T nT.1 nT.2.1 nT.2.2 (by show PyData.strOk _ = true; decide +kernel) True.intro True.intro fun d H' r => out d H' ⟨I.same.free r.new, I.same.trans r.same, ?_⟩⟩
        rw [← ec]
        exact r.at_
      · rw [decide_eq_false (show ¬ (60 : Int) < ((m : Nat) : Int) by omega)]
        refine iteF ⟨_, rfl, out L nv ad ns H5 I.same I.hL I.nds I.goes ?_ ?_ (I.pos (by have := cnt_pos t; omega)) (fun b o z => (I.old b o z).2) fun z => (I.nad L z).1 rfl⟩
        · have := I.r
          rwa [show rwsS [] = [] from rfl, List.append_nil] at this
        · have := I.nsl
          omega
    | cons e st =>
      have lv := I.ens.len
      cases vs with
      | nil => cases lv
      | cons v vs =>
        obtain ⟨⟨a, q, y, rfl, ha, hq, sy⟩, ens⟩ := I.ens
        refine ⟨_, rfl, true, .inl ⟨_, SqL.of I.hT, ?_⟩, iteT ?_⟩
        · rw [List.reverse_cons]
          cases vs.reverse <;> rfl
        refine ⟨_, rfl, .inl ⟨rfl, _, SqL.of I.hT⟩, T, _, (.ref a), rfl, rfl, I.hT, ?_, ?_⟩
        · rw [List.reverse_cons]
          simp
        rw [show ((V.ref a :: vs).reverse).dropLast = vs.reverse from by rw [List.reverse_cons, List.dropLast_concat]]
        have kt6 : ∀ b xs, H5 b = some (.tup xs) → upd H5 T (.lst vs.reverse) b = some (.tup xs) := fun b xs z => (upd_ne (ne_of z I.hT fun w => nomatch w)).trans z
        have s6 : Same H (upd H5 T (.lst vs.reverse)) := fun b o z => (upd_ne (I.old b o z).1).trans (I.same _ _ z)
        have hT6 : upd H5 T (.lst vs.reverse) T = some (.lst vs.reverse) := upd_same
        have hL6 : upd H5 T (.lst vs.reverse) L = some (.lst nv) := (upd_ne I.nLT).trans I.hL
        have nds6 : Nds (upd H5 T (.lst vs.reverse)) nv ad ns := I.nds.at2 kt6 fun b hb xs z => (upd_ne (I.nad b hb).2).trans z
        have ens6 : EnS H (upd H5 T (.lst vs.reverse)) vs st := ens.at_ kt6
        have ha6 := kt6 _ _ ha
        have hq6 := kt6 _ _ hq
        generalize upd H5 T (.lst vs.reverse) = H6 at s6 hT6 hL6 nds6 ens6 ha6 hq6 ⊢
        clear kt6 ens ha hq
        refine ⟨a, _, rfl, SqT.of ha6, rfl, _, _, rfl, _, _, rfl, _, _, rfl, rfl, ?_⟩
        refine ⟨_, rfl, _, _, rfl, rfl, ?_⟩
        obtain ⟨e1, e2, e3⟩ := e
        have If := I.f
        have Ic := I.c
        have Ir := I.r
        have Il := I.len
        have Ig := I.goes
        have Iz := I.nsl
        have Ina := I.nad
        have Iold := I.old
        have nLT := I.nLT
        clear I lv ha6
        dsimp only at sy hq6
        obtain ⟨kt, pt⟩ := sy.part
        refine ⟨_, rfl, y, rfl, kt.same s6, fun H7 e7 => ⟨!isOdd e2, congrArg V.bl ((prB_same kt s6).trans pt), ?_⟩⟩
        have s7 := s6.trans e7
        have hT7 := e7 _ _ hT6
        have hL7 := e7 _ _ hL6
        have nds7 : Nds H7 nv ad ns := nds6.at2 (fun b xs z => e7 _ _ z) fun b hb xs z => e7 _ _ z
        have ens7 : EnS H H7 vs st := ens6.at_ fun b xs z => e7 _ _ z
        have hq7 := e7 _ _ hq6
        clear s6 hT6 hL6 nds6 ens6 hq6 e7 H6
        have If : (fst ls e1 e2).or (fstS ls st) = fst ls [] t := If
        have Ic : m + (cnt e2 + cntS st) = cnt t := Ic
        have Ir : nodR ns ++ (rws e2 ++ rwsS st) = rws t := Ir
        have Ilen : e1.length + cnt e2 ≤ cnt t := Il _ List.mem_cons_self
        have Il2 : ∀ e ∈ st, e.1.length + cnt e.2.1 ≤ cnt t := fun e he => Il _ (List.mem_cons_of_mem _ he)
        clear Il
        have epD : ∀ p : List Int, PyData.tuple ((p.map V.int).map dOf) = pD p := fun p => by
          unfold pD
          rw [List.map_map]
          rfl
        have flI : ∀ p : List Int, ∀ v ∈ p.map V.int, Flat v := fun p v hv => by
          obtain ⟨i, _, rfl⟩ := List.mem_map.mp hv
          exact True.intro
        cases eo : isOdd e2 with
        | true =>
          have ef : fst ls [] t = some e1 := by
            cases e2 with
            | odd w =>
              rw [← If, fst]
              rfl
            | _ => cases eo
          rcases out with ⟨p, h, out⟩ | ⟨h, _⟩ | ⟨h, _⟩
          · rw [ef] at h
            cases h
            refine iteT ⟨_, rfl, raiseO xB.T nB (.tup hq7 (flI _) (by rw [List.length_map]; omega)) fun d H' r => out d H' ?_⟩
            rw [← epD]
            exact r.back s7
          · rw [ef] at h
            cases h
          · rw [ef] at h
            cases h
        | false =>
          refine iteF ?_
          refine ⟨fun σ H8 => ∃ ab, σ = [some x, some (.str (S ls)), some (.ref L), some (.ref T), some (.int (((m : Nat) : Int) + 1)), some (.ref q), some y, ab, x4, x5, x6] ∧ ∃ ns2, Same H H8 ∧ H8 T = some (.lst vs.reverse) ∧ H8 L = some (.lst nv) ∧ Nds H8 nv ad ns2 ∧ EnS H H8 vs st ∧ H8 q = some (.tup (e1.map V.int)) ∧ Goes (ns2.length + 1) ns2 st ∧ nodR ns2 = nodR ns ∧ ns2.length = ns.length, ?_, ?_⟩
          · cases e3 with
            | none => exact ⟨_, rfl, rfl, _, rfl, iteF ⟨_, rfl, ns, s7, hT7, hL7, nds7, ens7, hq7, Ig.pop rfl, rfl, rfl⟩⟩
            | some i =>
              obtain ⟨k, ps, hi⟩ := Ig.ab _ List.mem_cons_self i rfl
              have li := (List.getElem?_eq_some_iff.mp hi).1
              obtain ⟨v, hv⟩ : ∃ v, nv[i]? = some v := ⟨_, List.getElem?_eq_getElem (by have := nds7.l1; omega)⟩
              obtain ⟨l, hl⟩ : ∃ l, ad[i]? = some l := ⟨_, List.getElem?_eq_getElem (by have := nds7.l2; omega)⟩
              obtain ⟨n, rfl, hn, hp⟩ := nds7.at_ i _ _ _ hv hl hi
              have ml := List.mem_of_getElem? hl
              have lps : ps.length ≤ 900 := by
                have := Ig.few i k ps hi
                omega
              refine ⟨_, rfl, rfl, _, rfl, iteT ⟨_, rfl, _, rfl, L, _, _, _, rfl, rfl, SqL.of hL7, atI_nat hv, n, _, _, _, rfl, rfl, SqT.of hn, atI_nat (j := 1) rfl, .inl ⟨rfl, _, SqL.of hp⟩, _, rfl, L, _, rfl, .inl (SqL.of hL7), l, _, _, rfl, rfl, hp, ?_, ?_⟩⟩
              · unfold psV
                rw [List.length_map]
                exact small10 (by omega)
              have eps : psV ps ++ [V.int ((nv.length : Nat) : Int)] = psV (ps ++ [ns.length]) := by
                unfold psV
                rw [List.map_append, nds7.l1]
                rfl
              rw [eps]
              have nold : ∀ b o, H b = some o → b ≠ l := fun b o z e => (Iold b o z).2.2 (e ▸ ml)
              have kt : ∀ b xs, H7 b = some (.tup xs) → upd H7 l (.lst (psV (ps ++ [ns.length]))) b = some (.tup xs) := fun b xs z => (upd_ne (ne_of z hp fun w => nomatch w)).trans z
              exact ⟨_, rfl, ns.set i (.nd k (ps ++ [ns.length])), fun b o z => (upd_ne (nold b o z)).trans (s7 _ _ z), (upd_ne (Ina l ml).2.symm).trans hT7, (upd_ne (Ina l ml).1.symm).trans hL7, nds7.set hi hl hp _, ens7.at_ kt, kt _ _ hq7, by rw [List.length_set]; exact Ig.app rfl hi, nodR_set hi, List.length_set ..⟩
          rintro σ H8 ⟨ab, rfl, ns2, s8, hT8, hL8, nds8, ens8, hq8, g8, en, el⟩
          have nsT : ∀ b o, H b = some o → b ≠ T := fun b o z => (Iold b o z).1
          have nsL : ∀ b o, H b = some o → b ≠ L := fun b o z => (Iold b o z).2.1
          have nsA : ∀ b o, H b = some o → b ∉ ad := fun b o z => (Iold b o z).2.2
          rw [← en] at Ir
          rw [← el] at Iz
          clear en el Ig s7 hT7 hL7 nds7 ens7 hq7 Iold
          cases sy with
          | odd => cases eo
          | @row ya b its h1 h2 l100 kx =>
            have ha8 := s8 _ _ h1
            have hb8 := s8 _ _ h2
            refine ⟨_, rfl, ya, _, _, _, rfl, rfl, SqT.of ha8, atI_nat (j := 0) rfl, rfl, _, rfl, ?_⟩
            rw [decide_eq_true rfl]
            refine iteT ?_
            refine ⟨_, rfl, ya, _, _, _, rfl, rfl, SqT.of ha8, atI_nat (j := 1) rfl, b, _, rfl, .inr (SqT.of hb8), fun J G wk hG => for_it wk (fun i σ H' => ∃ y1 y2 : Option V, σ = [some x, some (.str (S ls)), some (.ref L), some (.ref T), some (.int (((m : Nat) : Int) + 1)), some (.ref q), some (.ref ya), ab, y1, y2, x6] ∧ Same H8 H' ∧ ∀ j v, j < i → its[j]? = some v → itB ls v = true) ⟨_, _, rfl, Same.refl _, fun j v h => absurd h (Nat.not_lt_zero _)⟩ (fun i σ H' _ ⟨_, _, _, e, _⟩ => hG H' fun o z => e _ _ z) ?_ ?_⟩
            · rintro i y σ H9 H10 hi ⟨y1, y2, rfl, e9, good⟩ ⟨T0, y', v, rfl, nT0, rfl, ey, hv⟩
              cases ey
              have hv : its[i]? = some v := hv
              obtain ⟨kv, lv⟩ := kx v (List.mem_of_getElem? hv)
              have e10 := same_new (o := .tup [.int (i : Nat), v]) nT0
              have ht10 : upd H9 T0 (.tup [.int (i : Nat), v]) T0 = some (.tup [.int (i : Nat), v]) := upd_same
              show gTup _ _ _ (.ref T0) _ (upd H9 T0 (.tup [.int (i : Nat), v])) _
              generalize upd H9 T0 (.tup [.int (i : Nat), v]) = H10 at e10 ht10 ⊢
              refine ⟨T0, _, rfl, SqT.of ht10, rfl, _, _, rfl, _, _, rfl, rfl, ?_⟩
              have s10 : Same H H10 := s8.trans (e9.trans e10)
              refine ⟨_, rfl, _, rfl, v, ls, rfl, kv.same s10, lv, ll, fun H11 e11 => ⟨_, rfl, ?_⟩⟩
              cases ei : itB ls v with
              | true => exact iteF ⟨_, _, rfl, e9.trans (e10.trans e11), fun j w hj hw => by
                  by_cases c : j = i
                  · subst c
                    rw [hv] at hw
                    cases hw
                    exact ei
                  · exact good j w (by omega) hw⟩
              | false =>
                have ef : fst ls [] t = some (e1 ++ [1, ((i : Nat) : Int)]) := by
                  have : its.findIdx? (fun v => !itB ls v) = some i := by
                    rw [List.findIdx?_eq_some_iff_getElem]
                    obtain ⟨li, gi⟩ := List.getElem?_eq_some_iff.mp hv
                    refine ⟨li, by rw [gi, ei]; rfl, fun j hj => ?_⟩
                    rw [good j its[j] hj (List.getElem?_eq_getElem (by omega))]
                    simp
                  rw [← If, fst, this]
                  rfl
                refine iteT ?_
                rcases out with ⟨p, h, out⟩ | ⟨h, _⟩ | ⟨h, _⟩
                · rw [ef] at h
                  cases h
                  refine ⟨_, rfl, _, rfl, by show 2 ≤ sizeLine; decide, fun u nu => ?_⟩
                  have e12 := same_new (o := .tup [.int 1, .int (i : Nat)]) nu
                  refine cat_tup (e12 _ _ (e11 _ _ (e10 _ _ (e9 _ _ hq8)))) upd_same ?_ fun w H13 e13 hw => ?_
                  · rw [List.length_map]
                    show _ + 2 ≤ _
                    exact Nat.le_of_lt (small10 (by omega))
                  have ew : e1.map V.int ++ [V.int 1, V.int (i : Nat)] = (e1 ++ [1, ((i : Nat) : Int)]).map V.int := by
                    rw [List.map_append]
                    rfl
                  rw [ew] at hw
                  refine raiseO xB.T nB (.tup hw (flI _) (by rw [List.length_map, List.length_append]; show _ + 2 ≤ _; omega)) fun d H' r => out d H' ?_
                  rw [← epD]
                  exact r.back (s10.trans (e11.trans (e12.trans e13)))
                · rw [ef] at h
                  cases h
                · rw [ef] at h
                  cases h
            · rintro σ H9 ⟨y1, y2, rfl, e9, good⟩
              have s9 := s8.trans e9
              refine ⟨_, rfl, _, rfl, ya, _, _, _, rfl, rfl, SqT.of (e9 _ _ ha8), atI_nat (j := 1) rfl, b, _, rfl, .inr (SqT.of (e9 _ _ hb8)), _, _, rfl, rfl, ?_⟩
              have hL9 := e9 _ _ hL8
              have hT9 := e9 _ _ hT8
              refine ⟨_, rfl, .inl ⟨rfl, _, SqL.of hL9⟩, _, rfl, ya, _, _, _, rfl, rfl, SqT.of (e9 _ _ ha8), atI_nat (j := 1) rfl, b, _, rfl, .inr (SqT.of (e9 _ _ hb8)), fun l nl => ⟨by show 2 ≤ sizeLine; decide, fun n nn => ?_⟩⟩
              have e10 := same_new (o := .lst its) nl
              have hl10 : upd H9 l (.lst its) l = some (.lst its) := upd_same
              generalize upd H9 l (.lst its) = H10 at e10 hl10 nn ⊢
              have e11 := same_new (o := .tup [.str "row", .ref l]) nn
              have hn11 : upd H10 n (.tup [.str "row", .ref l]) n = some (.tup [.str "row", .ref l]) := upd_same
              generalize upd H10 n (.tup [.str "row", .ref l]) = H11 at e11 hn11 ⊢
              have e911 := e10.trans e11
              have hL11 := e911 _ _ hL9
              have hT11 := e911 _ _ hT9
              have hl11 := e11 _ _ hl10
              have lnv : nv.length ≤ 900 := by
                have := nds8.l1
                omega
              refine ⟨L, _, _, rfl, rfl, hL11, small10 (by omega), ?_⟩
              have nlL : l ≠ L := (ne_of_none hL9 nl).symm
              have nlT : l ≠ T := (ne_of_none hT9 nl).symm
              have nla : l ∉ ad := fun z => by
                obtain ⟨i, hi⟩ := List.getElem?_of_mem z
                obtain ⟨v, hv⟩ : ∃ v, nv[i]? = some v := ⟨_, List.getElem?_eq_getElem (by have := nds8.l1; have := nds8.l2; have := (List.getElem?_eq_some_iff.mp hi).1; omega)⟩
                obtain ⟨nn, hn⟩ : ∃ n, ns2[i]? = some n := ⟨_, List.getElem?_eq_getElem (by have := nds8.l2; have := (List.getElem?_eq_some_iff.mp hi).1; omega)⟩
                have := nds8.at_ i v l nn hv hi hn
                cases nn with
                | row its => obtain ⟨_, _, _, h⟩ := this; rw [e9 _ _ h] at nl; cases nl
                | nd k ps => obtain ⟨_, _, _, h⟩ := this; rw [e9 _ _ h] at nl; cases nl
              have kt : ∀ b xs, H8 b = some (.tup xs) → upd H11 L (.lst (nv ++ [.ref n])) b = some (.tup xs) := fun b xs z => (upd_ne (ne_of (e911 _ _ (e9 _ _ z)) hL11 fun w => nomatch w)).trans (e911 _ _ (e9 _ _ z))
              have em : ((m : Nat) : Int) + 1 + ((its.length : Nat) : Int) = ((m + (1 + its.length) : Nat) : Int) := by omega
              have ec : cnt (.row its) = 1 + its.length := by rw [cnt]
              rw [ec] at Ic Ilen
              refine ⟨⟨m + (1 + its.length), vs, nv ++ [.ref n], ad ++ [l], ns2 ++ [.row its], st, some (.ref q), some (.ref ya), ab, y1, y2, x6, by
                show [_, _, _, _, some (V.int (((m : Nat) : Int) + 1 + ((its.length : Nat) : Int))), _, _, _, _, _, _] = _
                rw [em], ?_⟩, ?_⟩
              · exact {
                  same := fun b o z => (upd_ne (nsL b o z)).trans (e911 _ _ (s9 _ _ z))
                  hT := (upd_ne nLT.symm).trans hT11
                  hL := upd_same
                  nds := nds8.app kt (fun b hb xs z => (upd_ne (Ina b hb).1).trans (e911 _ _ (e9 _ _ z))) nla ⟨n, rfl, (upd_ne (ne_of hn11 hL11 fun w => nomatch w)).trans hn11, (upd_ne nlL).trans hl11⟩
                  goes := by rw [List.length_append]; exact g8.row
                  ens := ens8.at_ kt
                  f := by
                    rw [← If, fst]
                    have : its.findIdx? (fun v => !itB ls v) = none := by
                      rw [List.findIdx?_eq_none_iff]
                      intro v hv
                      obtain ⟨j, hj⟩ := List.getElem?_of_mem hv
                      rw [good j v (List.getElem?_eq_some_iff.mp hj).1 hj]
                      rfl
                    rw [this]
                    rfl
                  c := by rw [← Ic]; omega
                  r := by
                    rw [← Ir, nodR_app, rws]
                    simp [nodR]
                  len := Il2
                  nLT := nLT
                  nad := fun a ha => by
                    rcases List.mem_append.mp ha with ha | ha
                    · exact Ina a ha
                    · rw [List.mem_singleton.mp ha]
                      exact ⟨nlL, nlT⟩
                  old := fun b o z => ⟨nsT b o z, nsL b o z, fun w => by
                    rcases List.mem_append.mp w with w | w
                    · exact nsA b o z w
                    · exact ne_of_none (s9 _ _ z) nl (List.mem_singleton.mp w)⟩
                  nsl := by
                    rw [List.length_append]
                    show ns2.length + 1 ≤ _
                    omega
                  pos := fun _ => by
                    rw [List.length_append]
                    exact Nat.succ_pos _ }
              · show cnt t - (((m : Nat) : Int) + 1 + ((its.length : Nat) : Int)).toNat < cnt t - (((m : Nat) : Int)).toNat
                rw [em, Int.toNat_natCast, Int.toNat_natCast]
                omega
          | @nd ya k zs ks h hk sl n l100 =>
            have ha8 := s8 _ _ h
            have lz := sl.len
            refine ⟨_, rfl, ya, _, _, _, rfl, rfl, SqT.of ha8, atI_nat (j := 0) rfl, rfl, _, rfl, ?_⟩
            rw [decide_eq_false (show ¬ V.str (kn k) = V.str "row" from fun z => kn_row k (V.str.inj z))]
            refine iteF ?_
            refine ⟨_, rfl, .inl ⟨rfl, _, SqL.of hL8⟩, _, rfl, ya, _, _, _, rfl, rfl, SqT.of ha8, atI_nat (j := 0) rfl, by show 0 ≤ sizeLine; decide, fun l nl => ⟨by show 2 ≤ sizeLine; decide, fun nn' nn => ?_⟩⟩
            have e10 := same_new (o := .lst []) nl
            have hl10 : upd H8 l (.lst []) l = some (.lst []) := upd_same
            generalize upd H8 l (.lst []) = H10 at e10 hl10 nn ⊢
            have e11 := same_new (o := .tup [.str (kn k), .ref l]) nn
            have hn11 : upd H10 nn' (.tup [.str (kn k), .ref l]) nn' = some (.tup [.str (kn k), .ref l]) := upd_same
            generalize upd H10 nn' (.tup [.str (kn k), .ref l]) = H11 at e11 hn11 ⊢
            have e811 := e10.trans e11
            have hL11 := e811 _ _ hL8
            have hT11 := e811 _ _ hT8
            have hl11 := e11 _ _ hl10
            have lnv : nv.length ≤ 900 := by
              have := nds8.l1
              omega
            refine ⟨L, _, _, rfl, rfl, hL11, small10 (by omega), ?_⟩
            have nlL : l ≠ L := (ne_of_none hL8 nl).symm
            have nlT : l ≠ T := (ne_of_none hT8 nl).symm
            have nla : l ∉ ad := fun z => by
              obtain ⟨i, hi⟩ := List.getElem?_of_mem z
              obtain ⟨v, hv⟩ : ∃ v, nv[i]? = some v := ⟨_, List.getElem?_eq_getElem (by have := nds8.l1; have := nds8.l2; have := (List.getElem?_eq_some_iff.mp hi).1; omega)⟩
              obtain ⟨nn, hn⟩ : ∃ n, ns2[i]? = some n := ⟨_, List.getElem?_eq_getElem (by have := nds8.l2; have := (List.getElem?_eq_some_iff.mp hi).1; omega)⟩
              have := nds8.at_ i v l nn hv hi hn
              cases nn with
              | row its => obtain ⟨_, _, _, h⟩ := this; rw [h] at nl; cases nl
              | nd k ps => obtain ⟨_, _, _, h⟩ := this; rw [h] at nl; cases nl
            have kt : ∀ b xs, H8 b = some (.tup xs) → upd H11 L (.lst (nv ++ [.ref nn'])) b = some (.tup xs) := fun b xs z => (upd_ne (ne_of (e811 _ _ z) hL11 fun w => nomatch w)).trans (e811 _ _ z)
            have s12 : Same H (upd H11 L (.lst (nv ++ [.ref nn']))) := fun b o z => (upd_ne (nsL b o z)).trans (e811 _ _ (s8 _ _ z))
            have hT12 : upd H11 L (.lst (nv ++ [.ref nn'])) T = some (.lst vs.reverse) := (upd_ne nLT.symm).trans hT11
            have hL12 : upd H11 L (.lst (nv ++ [.ref nn'])) L = some (.lst (nv ++ [.ref nn'])) := upd_same
            have nds12 : Nds (upd H11 L (.lst (nv ++ [.ref nn']))) (nv ++ [.ref nn']) (ad ++ [l]) (ns2 ++ [.nd k []]) := nds8.app kt (fun b hb xs z => (upd_ne (Ina b hb).1).trans (e811 _ _ z)) nla ⟨nn', rfl, (upd_ne (ne_of hn11 hL11 fun w => nomatch w)).trans hn11, (upd_ne nlL).trans hl11⟩
            have ens12 := ens8.at_ kt
            have hq12 := kt _ _ hq8
            have nla2 : ∀ b o, H b = some o → b ∉ ad ++ [l] := fun b o z w => by
              rcases List.mem_append.mp w with w | w
              · exact nsA b o z w
              · exact ne_of_none (s8 _ _ z) nl (List.mem_singleton.mp w)
            generalize upd H11 L (.lst (nv ++ [.ref nn'])) = H12 at s12 hT12 hL12 nds12 ens12 hq12 ⊢
            clear kt e10 hl10 e11 hn11 e811 hL11 hT11 hl11 nn nl ens8 hq8 hT8 hL8 nds8 s8
            have ha12 := s12 _ _ h
            have eRg : RgC (((((V.str (kn k) :: zs).length : Nat) : Int)) - 1) 0 (-1) ks.length := by
              have := RgC.neg (i := ((((V.str (kn k) :: zs).length : Nat) : Int)) - 1) (j := 0) (by rw [List.length_cons]; omega) (by rw [List.length_cons]; omega) (by decide) (by decide)
              rwa [show (((((V.str (kn k) :: zs).length : Nat) : Int)) - 1 - 0).toNat = ks.length by rw [List.length_cons]; omega] at this
            refine ⟨_, rfl, ya, _, rfl, .inr (SqT.of ha12), _, _, rfl, rfl, _, rfl, _, _, _, ks.length, rfl, eRg, ?_⟩
            have ec : cnt (.nd k ks) = 1 + cntL ks := by rw [cnt]
            rw [ec] at Ic Ilen
            refine for_it walk_rangeC (fun i σ H' => ∃ (y6 : Option V) (vs' : List V), σ = [some x, some (.str (S ls)), some (.ref L), some (.ref T), some (.int (((m : Nat) : Int) + 1)), some (.ref q), some (.ref ya), ab, x4, x5, y6] ∧ H' T = some (.lst vs'.reverse) ∧ EnS H H' vs' (kids e1 ns2.length (ks.length - i + 1) (ks.drop (ks.length - i)) ++ st) ∧ ∀ b o, b ≠ T → H12 b = some o → H' b = some o)
              ⟨_, vs, rfl, hT12, by rw [Nat.sub_zero, List.drop_length]; exact ens12, fun b o _ z => z⟩ (fun _ _ _ _ _ => True.intro) ?_ ?_
            · rintro i y σ H13 H14 hi ⟨y6, vs', rfl, hT13, ens13, k13⟩ ⟨rfl, hx⟩
              have hx2 : y = .int ((ks.length - i : Nat) : Int) := by
                cases hx
                show V.int (((zs.length + 1 : Nat) : Int) - 1 + (i : Int) * -1) = V.int ((ks.length - i : Nat) : Int)
                congr 1
                omega
              subst hx2
              obtain ⟨w, hw⟩ : ∃ w, ks[ks.length - i - 1]? = some w := ⟨_, List.getElem?_eq_getElem (by omega)⟩
              obtain ⟨z, hz, sz⟩ : ∃ z, zs[ks.length - i - 1]? = some z ∧ Sh H z w := sl.get hw
              have hq13 : H14 q = some (.tup (e1.map V.int)) := k13 _ _ (ne_of hq12 hT12 fun y => nomatch y) hq12
              have hL13 := k13 _ _ nLT hL12
              have ha13 := k13 _ _ (ne_of ha12 hT12 fun y => nomatch y) ha12
              refine ⟨_, rfl, .inl ⟨rfl, _, SqL.of hT13⟩, _, rfl, _, rfl, by show 1 ≤ sizeLine; decide, fun u nu => ?_⟩
              have e14 := same_new (o := .tup [.int ((ks.length - i : Nat) : Int)]) nu
              refine cat_tup (e14 _ _ hq13) upd_same ?_ fun w2 H15 e15 hw15 => ?_
              · rw [List.length_map]
                show _ + 1 ≤ _
                exact Nat.le_of_lt (small10 (by omega))
              have ew : e1.map V.int ++ [V.int ((ks.length - i : Nat) : Int)] = (e1 ++ [((ks.length - i : Nat) : Int)]).map V.int := by
                rw [List.map_append]
                rfl
              rw [ew] at hw15
              have e1415 := e14.trans e15
              have hz2 : (V.str (kn k) :: zs)[ks.length - i]? = some z := by
                obtain ⟨j, ej⟩ : ∃ j, ks.length - i = j + 1 := ⟨ks.length - i - 1, by omega⟩
                rw [ej] at hz ⊢
                exact hz
              refine ⟨_, rfl, _, rfl, ya, _, _, _, rfl, rfl, SqT.of (e1415 _ _ ha13), atI_nat hz2, _, rfl, L, _, rfl, .inl (SqL.of (e1415 _ _ hL13)), _, _, rfl, rfl, by show 3 ≤ sizeLine; decide, fun tt ntt => ?_⟩
              have el2 : (((nv ++ [V.ref nn']).length : Nat) : Int) - 1 = ((ns2.length : Nat) : Int) := by
                have := nds12.l1
                rw [List.length_append] at this
                rw [List.length_append]
                have h2 : (ns2 ++ [N5.nd k []]).length = ns2.length + 1 := by rw [List.length_append]; rfl
                rw [h2] at this
                omega
              have e16 := same_new (o := .tup [.ref w2, z, .int ((((nv ++ [V.ref nn']).length : Nat) : Int) - 1)]) ntt
              have htt : upd H15 tt (.tup [.ref w2, z, .int ((((nv ++ [V.ref nn']).length : Nat) : Int) - 1)]) tt = some (.tup [.ref w2, z, .int ((ns2.length : Nat) : Int)]) := by
                rw [el2]
                exact upd_same
              generalize upd H15 tt (.tup [.ref w2, z, .int ((((nv ++ [V.ref nn']).length : Nat) : Int) - 1)]) = H16 at e16 htt ⊢
              have e1416 := e1415.trans e16
              have hT16 := e1416 _ _ hT13
              have lvs : vs'.length ≤ 1900 := by
                have h1 := ens13.len
                have h2 := cntS_len (kids e1 ns2.length (ks.length - i + 1) (ks.drop (ks.length - i)) ++ st)
                rw [cnt_kids] at h2
                have h3 : cntL (ks.drop (ks.length - i)) ≤ cntL ks := cntL_drop ks _
                omega
              refine ⟨T, _, _, rfl, rfl, hT16, by rw [List.length_reverse]; exact small10 (by omega), ?_⟩
              have kt : ∀ b xs, H14 b = some (.tup xs) → upd H16 T (.lst (vs'.reverse ++ [.ref tt])) b = some (.tup xs) := fun b xs z => (upd_ne (ne_of (e1416 _ _ z) hT16 fun w => nomatch w)).trans (e1416 _ _ z)
              refine ⟨_, .ref tt :: vs', rfl, by rw [upd_same, List.reverse_cons], ?_, fun b o h1 h2 => (upd_ne h1).trans (e1416 _ _ (k13 _ _ h1 h2))⟩
              have ed : ks.drop (ks.length - (i + 1)) = w :: ks.drop (ks.length - i) := by
                have li : ks.length - (i + 1) < ks.length := by omega
                rw [List.drop_eq_getElem_cons li, show ks.length - (i + 1) + 1 = ks.length - i by omega]
                congr 1
                obtain ⟨_, h2⟩ := List.getElem?_eq_some_iff.mp hw
                exact h2
              rw [ed, show ks.length - (i + 1) + 1 = ks.length - i by omega]
              exact ⟨⟨tt, w2, z, rfl, (upd_ne (ne_of htt hT16 fun w => nomatch w)).trans htt, (upd_ne (ne_of (e16 _ _ hw15) hT16 fun w => nomatch w)).trans (e16 _ _ hw15), sz⟩, ens13.at_ kt⟩
            · rintro σ H13 ⟨y6, vs', rfl, hT13, ens13, k13⟩
              rw [Nat.sub_self, List.drop_zero] at ens13
              have em : ((m : Nat) : Int) + 1 = ((m + 1 : Nat) : Int) := by omega
              refine ⟨⟨m + 1, vs', nv ++ [.ref nn'], ad ++ [l], ns2 ++ [.nd k []], kids e1 ns2.length 1 ks ++ st, some (.ref q), some (.ref ya), ab, x4, x5, y6, by rw [em], ?_⟩, ?_⟩
              · exact {
                  same := fun b o z => k13 _ _ (nsT b o z) (s12 _ _ z)
                  hT := hT13
                  hL := k13 _ _ nLT hL12
                  nds := nds12.at2 (fun b xs z => k13 _ _ (ne_of z hT12 fun w => nomatch w) z) fun b hb xs z => k13 _ _ (by
                    rcases List.mem_append.mp hb with hb | hb
                    · exact (Ina b hb).2
                    · rw [List.mem_singleton.mp hb]
                      exact nlT) z
                  goes := by
                    rw [List.length_append]
                    exact g8.nd fun z w => by
                      have := n z
                      rw [w] at this
                      cases this
                  ens := ens13
                  f := by rw [fst_kids, ← If, fst]
                  c := by rw [cnt_kids, ← Ic]; omega
                  r := by
                    rw [rws_kids, ← Ir, nodR_app, rws]
                    simp [nodR]
                  len := fun e he => by
                    rcases List.mem_append.mp he with he | he
                    · obtain ⟨_, h1, h2⟩ := mem_kids he
                      omega
                    · exact Il2 e he
                  nLT := nLT
                  nad := fun a ha => by
                    rcases List.mem_append.mp ha with ha | ha
                    · exact Ina a ha
                    · rw [List.mem_singleton.mp ha]
                      exact ⟨nlL, nlT⟩
                  old := fun b o z => ⟨nsT b o z, nsL b o z, nla2 b o z⟩
                  nsl := by
                    rw [List.length_append]
                    show ns2.length + 1 ≤ _
                    omega
                  pos := fun _ => by
                    rw [List.length_append]
                    exact Nat.succ_pos _ }
              · show cnt t - (((m : Nat) : Int) + 1).toNat < cnt t - (((m : Nat) : Int)).toNat
                rw [em, Int.toNat_natCast, Int.toNat_natCast]
                omega
end
end K05
set_option Elab.async false
set_option linter.all false
set_option maxRecDepth 100001
set_option maxHeartbeats 3999999
namespace K05
open PySem L2
/-! ### bits -/
def mask (p : Nat → Bool) : Nat → Nat
  | 0 => 0
  | n + 1 => mask p n ||| (if p n = true then 2 ^ n else 0)
theorem testBit_one (n i : Nat) : (2 ^ n).testBit i = decide (i = n) := by
  rw [Nat.testBit_two_pow]
  exact decide_eq_decide.mpr eq_comm
theorem testBit_mask (p : Nat → Bool) : ∀ n i, (mask p n).testBit i = (decide (i < n) && p i)
  | 0, i => by simp [mask]
  | n + 1, i => by
    unfold mask
    rw [Nat.testBit_or, testBit_mask p n i]
    by_cases c : i = n
    · subst c
      cases h : p i with
      | true => rw [if_pos rfl, testBit_one]; simp
      | false => rw [if_neg (by simp)]; simp
    · have e : (if p n = true then 2 ^ n else 0).testBit i = false := by
        split
        · rw [testBit_one, decide_eq_false c]
        · exact Nat.zero_testBit i
      rw [e, Bool.or_false]
      congr 1
      exact decide_eq_decide.mpr ⟨fun h => by omega, fun h => by omega⟩
theorem mask_lt (p : Nat → Bool) (n : Nat) : mask p n < 2 ^ n := by
  refine Nat.lt_pow_two_of_testBit _ fun i hi => ?_
  rw [testBit_mask, decide_eq_false (by omega), Bool.false_and]
theorem mask_congr {p q : Nat → Bool} {n : Nat} (h : ∀ i, i < n → p i = q i) : mask p n = mask q n := Nat.eq_of_testBit_eq fun i => by
  rw [testBit_mask, testBit_mask]
  by_cases c : i < n
  · rw [h i c]
  · rw [decide_eq_false c, Bool.false_and, Bool.false_and]
theorem bitAnd_nat (m n : Nat) : Builtin.bitAnd (m : Int) (n : Int) = ((m &&& n : Nat) : Int) := by
  unfold Builtin.bitAnd
  rw [decide_eq_true (show (0 : Int) ≤ (m : Int) by omega), decide_eq_true (show (0 : Int) ≤ (n : Int) by omega)]
  rfl
theorem bitOr_nat (m n : Nat) : Builtin.bitOr (m : Int) (n : Int) = ((m ||| n : Nat) : Int) := by
  rw [bitOr_nn (by omega) (by omega)]
  rfl
section
variable {X : Cx}
def rBit (g : Nat → Nat → Nat) : R2 := fun x y H Q => ∃ m n : Nat, x = .int (m : Nat) ∧ y = .int (n : Nat) ∧ Q (.int ((g m n : Nat) : Int)) H
theorem op_orS : OpR X (binaryOp .BitOr) (rBit (· ||| ·)) := by
  intro pins s σ H x y v u Q I rx ry ⟨m, n, ex, ey, q⟩
  refine op_or pins s σ H x y v u Q I rx ry ⟨_, _, ex, ey, ?_⟩
  show Q (.int (Builtin.bitOr (m : Int) (n : Int))) H
  rw [bitOr_nat]
  exact q
theorem op_andS : OpR X (binaryOp .BitAnd) (rBit (· &&& ·)) := by
  intro pins s σ H x y v u Q I rx ry ⟨m, n, ex, ey, q⟩
  refine op_and pins s σ H x y v u Q I rx ry ⟨_, _, ex, ey, ?_⟩
  show Q (.int (Builtin.bitAnd (m : Int) (n : Int))) H
  rw [bitAnd_nat]
  exact q
theorem ip_orS : PIp X .BitOr (rBit (· ||| ·)) := by
  intro pins s σ H x y v u Q I rx ry ⟨m, n, ex, ey, q⟩
  refine iop_or pins s σ H x y v u Q I rx ry ⟨_, _, ex, ey, ?_⟩
  show Q (.int (Builtin.bitOr (m : Int) (n : Int))) H
  rw [bitOr_nat]
  exact q
def rShl : R2 := fun x y H Q => ∃ m k : Nat, x = .int (m : Nat) ∧ y = .int (k : Nat) ∧ m < 2 ^ 60 ∧ k ≤ 1000 ∧ Q (.int ((m * 2 ^ k : Nat) : Int)) H
theorem op_shlS : OpR X (binaryOp .LShift) rShl := by
  intro pins s σ H x y v u Q I rx ry ⟨m, k, ex, ey, hm, hk, q⟩
  refine op_shl pins s σ H x y v u Q I rx ry ⟨_, _, ex, ey, ⟨by omega, by omega, by omega⟩, ?_⟩
  show Q (.int ((m : Int) * 2 ^ ((k : Nat) : Int).toNat)) H
  rw [Int.toNat_natCast, show (m : Int) * 2 ^ k = ((m * 2 ^ k : Nat) : Int) by rw [Int.natCast_mul, PySem.W.kbt_cast]]
  exact q
/-- xs[k], for a change in place -/
def rGetL : V → V → Hp → VK → Prop := fun x y H Q => ∃ p xs k v, x = .ref p ∧ y = .int ((k : Nat) : Int) ∧ H p = some (.lst xs) ∧ xs[k]? = some v ∧ Q v H
theorem get_list : PGet X rGetL := by
  intro pins s σ H x y v u Q I rx ry ⟨p, xs, k, z, ex, ey, hp, hv, q⟩
  subst ex ey
  cases rx
  obtain ⟨t, rfl⟩ := ry
  obtain ⟨its, r, pl, hz⟩ := I.list (SqL.of hp)
  obtain ⟨w, ew, rw'⟩ := r.get hv
  have hl := r.length
  have hn := line63
  have lt := (List.getElem?_eq_some_iff.mp hv).1
  exact wpAny_getItem_list pl.isList (by omega) (by omega) (by rw [Int.toNat_natCast]; simpa using ew) ⟨z, H, I, rw', q⟩
end
/-! ### rows of items -/
def isStar (it : List Nat) : Bool := decide (it = [42])
def isTk (it : List Nat) (c : Nat) : Bool := !isStar it && (decide (it = [63]) || decide (c ∈ it))
def starF (its : List (List Nat)) (j : Nat) : Bool := isStar (its.getD j [])
def tkF (its : List (List Nat)) (c j : Nat) : Bool := isTk (its.getD j []) c
/-- the fields of a reading -/
structure RF (fs : List (Str × V)) (ls : List Nat) (N : Addr) (st : Nat) (Tk : Addr) (sa : Nat) (En : Addr) : Prop where
  l : fs.lookup ("letters" : Str) = some (.str (S ls))
  n : fs.lookup ("nodes" : Str) = some (.ref N)
  s : fs.lookup ("stars" : Str) = some (.int (st : Nat))
  t : fs.lookup ("takes" : Str) = some (.ref Tk)
  a : fs.lookup ("start" : Str) = some (.int (sa : Nat))
  e : fs.lookup ("ends" : Str) = some (.ref En)
  no : ∀ x, x ∉ (["letters", "nodes", "stars", "takes", "start", "ends"] : List Str) → fs.lookup x = none
  len : fs.length ≤ 6
theorem len_putF {f : Str} {v w : V} : ∀ {fs : List (Str × V)}, fs.lookup f = some w → (putF f v fs).length = fs.length
  | [], h => by cases h
  | (g, x) :: r, h => by
    unfold putF
    by_cases c : g = f
    · rw [if_pos c]
      rfl
    · rw [if_neg c]
      have h2 : r.lookup f = some w := by
        rw [List.lookup_cons, show (f == g) = false from by simpa using fun z : f = g => c z.symm] at h
        exact h
      rw [List.length_cons, List.length_cons, len_putF h2]
theorem RF.stars {fs : List (Str × V)} {ls : List Nat} {N : Addr} {st : Nat} {Tk : Addr} {sa : Nat} {En : Addr} (r : RF fs ls N st Tk sa En) (st2 : Nat) : RF (putF "stars" (.int (st2 : Nat)) fs) ls N st2 Tk sa En :=
  ⟨by rw [lookup_putF, if_neg (by decide +kernel)]; exact r.l, by rw [lookup_putF, if_neg (by decide +kernel)]; exact r.n, by rw [lookup_putF, if_pos rfl], by rw [lookup_putF, if_neg (by decide +kernel)]; exact r.t,
   by rw [lookup_putF, if_neg (by decide +kernel)]; exact r.a, by rw [lookup_putF, if_neg (by decide +kernel)]; exact r.e, fun x h => by rw [lookup_putF, if_neg fun z : x = "stars" => h (by rw [z]; decide +kernel)]; exact r.no x h, by rw [len_putF r.s]; exact r.len⟩
theorem RF.start {fs : List (Str × V)} {ls : List Nat} {N : Addr} {st : Nat} {Tk : Addr} {sa : Nat} {En : Addr} (r : RF fs ls N st Tk sa En) (sa2 : Nat) : RF (putF "start" (.int (sa2 : Nat)) fs) ls N st Tk sa2 En :=
  ⟨by rw [lookup_putF, if_neg (by decide +kernel)]; exact r.l, by rw [lookup_putF, if_neg (by decide +kernel)]; exact r.n, by rw [lookup_putF, if_neg (by decide +kernel)]; exact r.s, by rw [lookup_putF, if_neg (by decide +kernel)]; exact r.t,
   by rw [lookup_putF, if_pos rfl], by rw [lookup_putF, if_neg (by decide +kernel)]; exact r.e, fun x h => by rw [lookup_putF, if_neg fun z : x = "start" => h (by rw [z]; decide +kernel)]; exact r.no x h, by rw [len_putF r.a]; exact r.len⟩
/-- a reading at p, in the making: its stars, what it takes, its start -/
def IsRp (C : Addr) (H : Hp) (p : Addr) (ls : List Nat) (N : Addr) (st : Nat) (Tk : Addr) (tv : Nat → Nat) (sa : Nat) (En : Addr) : Prop := ∃ dx fs, H p = some (.ins C dx fs) ∧ RF fs ls N st Tk sa En ∧ H Tk = some (.lst (ls.map fun c => .int ((tv c : Nat) : Int)))
structure TxR (K : PySem.W.Frag) (C : Addr) : Prop where
  cl : Cls K C
  l : NoAttr K C "letters"
  n : NoAttr K C "nodes"
  s : NoAttr K C "stars"
  t : NoAttr K C "takes"
  a : NoAttr K C "start"
  e : NoAttr K C "ends"
/-- all but two stay -/
def But2 (p d : Addr) (H H' : Hp) : Prop := ∀ b o, b ≠ p → b ≠ d → H b = some o → H' b = some o
def spLay (C : Addr) : Sp := fun vs H Q _ => ∃ p it j ls N st Tk tv sa En, vs = [.ref p, .str (S it), .int ((2 ^ j : Nat) : Int)] ∧ IsRp C H p ls N st Tk tv sa En ∧ ls.length ≤ 1000 ∧ it.length ≤ 100 ∧ ls.Nodup ∧
  ∀ H', But2 p Tk H H' → IsRp C H' p ls N (if isStar it = true then st ||| 2 ^ j else st) Tk (fun c => if isTk it c = true then tv c ||| 2 ^ j else tv c) sa En → Q .non H'
section
variable {P : Program} {w : World} {K : PySem.W.Frag} {mg : Str → Option Value} {base : Heap}
abbrev sLay : Stmt := sR 1
theorem scLay : FnScope ["self", "item", "bit", "column", "letter"] ["self", "item", "bit"] (defScope sLay) := ⟨rfl, rfl, rfl, by decide +kernel, rfl, by decide +kernel, by decide +kernel⟩
theorem ok_lay {f C : Addr} {fd : FuncData} (F : Fun K "lay_item" "Readings.lay_item" sLay f fd) (B : Bi mg) (T : TxR K C) : FnOk P w K mg base CX0 1 f fd ["self", "item", "bit"] (spLay C) := by
  refine F.ok scLay (fun vs H Q E h => ?_) (fun cdv A outer s H vs Q E hr h => ?_)
  · obtain ⟨p, it, j, ls, N, st, Tk, tv, sa, En, rfl, _⟩ := h
    rfl
  · obtain ⟨p, it, j, ls, N, st, Tk, tv, sa, En, rfl, ⟨dx, fs, hp, rf, hT⟩, l1, l2, nd, q⟩ := h
    refine ⟨_, pss_one (ps_if (pt_cmpR op_eq (pv 1) pe_str (nomark _)) (pss_one (ps_fldaug (pv 0) (pv 2) ip_orS))
      (pss_one (ps_for PassesOwn.never rfl (pi_enS rfl B.enum (pa_cons (pe_fld (pv 0) rfl) pa_nil)) (pg_tup rfl (pgs_cons (pg_name (i := 3) scLay.nd rfl (.inl rfl)) (pgs_cons (pg_name (i := 4) scLay.nd rfl (.inl rfl)) pgs_nil)))
        (pss_one (ps_if (PW.pt (pw_or (pt_cmpR op_eq (pv 1) pe_str (nomark _)) (pw_or1 (pt_cmpR op_in_sign (pv 4) (pv 1) rfl))))
          (pss_one (ps_augS (pe_fld (pv 0) rfl) (pv 3) get_list (pv 2) ip_orS set_list)) pss_nil))))), ?_⟩
    refine ⟨_, rfl, rfl, _, rfl, ?_⟩
    rw [star_S, decS]
    have eS : decide (it = [42]) = isStar it := rfl
    rw [eS]
    have npT : Tk ≠ p := ne_of hT hp fun z => nomatch z
    cases hs : isStar it with
    | true =>
      refine iteT ?_
      refine ⟨_, rfl, p, C, dx, fs, _, rfl, hp, T.cl, T.s, rf.s, _, rfl, st, 2 ^ j, rfl, rfl, dx, fs, hp, by have := rf.len; omega, ?_⟩
      refine q _ (fun b o h1 _ z => (upd_ne h1).trans z) ⟨dx, _, upd_same, by rw [hs, if_pos rfl]; exact rf.stars _, (upd_ne npT).trans ?_⟩
      rw [hT]
      have : (fun c => V.int ((tv c : Nat) : Int)) = fun c => V.int (((if isTk it c = true then tv c ||| 2 ^ j else tv c) : Nat) : Int) := funext fun c => by
        rw [show isTk it c = false by unfold isTk; rw [hs]; rfl]
        rfl
      rw [this]
    | false =>
      refine iteF ?_
      have ftk : ∀ c, isTk it c = (decide (it = [63]) || decide (c ∈ it)) := fun c => by
        unfold isTk
        rw [hs]
        rfl
      refine ⟨_, rfl, p, C, dx, _, _, rfl, hp, T.cl, T.l, rf.l, S ls, rfl, for_it walk_enS (fun i σ H' => ∃ y1 y2 : Option V, σ = [some (.ref p), some (.str (S it)), some (.int ((2 ^ j : Nat) : Int)), y1, y2] ∧ But2 p Tk H H' ∧ H' p = some (.ins C dx fs) ∧ H' Tk = some (.lst ((ls.take i).map (fun c => V.int (((if isTk it c = true then tv c ||| 2 ^ j else tv c) : Nat) : Int)) ++ (ls.drop i).map fun c => V.int ((tv c : Nat) : Int)))) ⟨none, none, rfl, fun _ _ _ _ z => z, hp, by simpa using hT⟩ (fun _ _ _ _ _ => True.intro) ?_ ?_⟩
      · rintro i x σ H1 H2 hi ⟨y1, y2, rfl, bt, hp1, hT1⟩ ⟨T0, y, v, rfl, nT0, rfl, ey, hv⟩
        rw [S_size] at hi
        cases ey
        have hv : ((S ls).cps[i]?).map (fun c => V.str ⟨#[c]⟩) = some v := hv
        rw [S_get, List.getElem?_eq_getElem hi] at hv
        cases hv
        have e2 := same_new (o := .tup [.int (i : Nat), .str (S [ls[i]])]) nT0
        have ht0 : upd H1 T0 (.tup [.int (i : Nat), .str (S [ls[i]])]) T0 = some (.tup [.int (i : Nat), .str (S [ls[i]])]) := upd_same
        have hp2 := e2 _ _ hp1
        have hT2 := e2 _ _ hT1
        have bt2 : But2 p Tk H (upd H1 T0 (.tup [.int (i : Nat), .str (S [ls[i]])])) := fun b o h1 h2 z => e2 _ _ (bt b o h1 h2 z)
        show gTup _ _ _ (.ref T0) _ (upd H1 T0 (.tup [.int (i : Nat), .str (S [ls[i]])])) _
        generalize upd H1 T0 (.tup [.int (i : Nat), .str (S [ls[i]])]) = H2 at ht0 hp2 hT2 bt2 ⊢
        refine ⟨T0, _, rfl, SqT.of ht0, rfl, _, _, rfl, _, _, rfl, rfl, ?_⟩
        have dr : ls.drop i = ls[i] :: ls.drop (i + 1) := List.drop_eq_getElem_cons hi
        have tk : ls.take (i + 1) = ls.take i ++ [ls[i]] := by rw [List.take_add_one, List.getElem?_eq_getElem hi]; rfl
        have lt : ((ls.take i).map fun c => V.int (((if isTk it c = true then tv c ||| 2 ^ j else tv c) : Nat) : Int)).length = i := by rw [List.length_map, List.length_take]; omega
        have fin0 : isTk it ls[i] = false → H2 Tk = some (.lst ((ls.take (i + 1)).map (fun c => V.int (((if isTk it c = true then tv c ||| 2 ^ j else tv c) : Nat) : Int)) ++ (ls.drop (i + 1)).map fun c => V.int ((tv c : Nat) : Int))) := fun h => by
          have e : V.int (((if isTk it ls[i] = true then tv ls[i] ||| 2 ^ j else tv ls[i]) : Nat) : Int) = V.int ((tv ls[i] : Nat) : Int) := by rw [if_neg (by rw [h]; simp)]
          rw [hT2, dr, tk, List.map_append, List.append_assoc, List.map_cons, List.map_cons, e]
          rfl
        have fin1 : isTk it ls[i] = true → (((ls.take i).map fun c => V.int (((if isTk it c = true then tv c ||| 2 ^ j else tv c) : Nat) : Int)) ++ (ls.drop i).map fun c => V.int ((tv c : Nat) : Int)).set i (.int ((tv ls[i] ||| 2 ^ j : Nat) : Int)) = (ls.take (i + 1)).map (fun c => V.int (((if isTk it c = true then tv c ||| 2 ^ j else tv c) : Nat) : Int)) ++ (ls.drop (i + 1)).map fun c => V.int ((tv c : Nat) : Int) := fun h => by
          have e : V.int (((if isTk it ls[i] = true then tv ls[i] ||| 2 ^ j else tv ls[i]) : Nat) : Int) = V.int ((tv ls[i] ||| 2 ^ j : Nat) : Int) := by rw [if_pos h]
          rw [List.set_append_right _ _ (by omega), lt, Nat.sub_self, dr, tk, List.map_append, List.append_assoc, List.map_cons, List.map_cons, e]
          rfl
        have get1 : (((ls.take i).map fun c => V.int (((if isTk it c = true then tv c ||| 2 ^ j else tv c) : Nat) : Int)) ++ (ls.drop i).map fun c => V.int ((tv c : Nat) : Int))[i]? = some (.int ((tv ls[i] : Nat) : Int)) := by
          rw [List.getElem?_append_right (by omega), lt, Nat.sub_self, dr]
          rfl
        have ixn : ixN (((ls.take i).map fun c => V.int (((if isTk it c = true then tv c ||| 2 ^ j else tv c) : Nat) : Int)) ++ (ls.drop i).map fun c => V.int ((tv c : Nat) : Int)).length ((i : Nat) : Int) = some i := by
          have l3 := (List.getElem?_eq_some_iff.mp get1).1
          unfold ixN
          rw [if_pos (by omega), if_pos (by omega), Int.toNat_natCast]
        refine ⟨_, rfl, rfl, _, rfl, ?_⟩
        rw [any_S, decS]
        have upd2 : ∀ zz, But2 p Tk H (upd H2 Tk zz) := fun zz b o h1 h2 z => (upd_ne h2).trans (bt2 b o h1 h2 z)
        cases c1 : decide (it = [63]) with
        | true =>
          have h : isTk it ls[i] = true := by rw [ftk, c1]; rfl
          refine iteT ⟨_, rfl, p, C, dx, fs, _, rfl, hp2, T.cl, T.t, rf.t, _, rfl, Tk, _, i, _, rfl, rfl, hT2, get1, _, rfl, tv ls[i], 2 ^ j, rfl, rfl, Tk, _, ((i : Nat) : Int), i, rfl, rfl, hT2, ixn, _, _, rfl, upd2 _, (upd_ne npT.symm).trans hp2, ?_⟩
          rw [upd_same]
          exact congrArg (fun z => some (HO.lst z)) (fin1 h)
        | false =>
          refine iteF ⟨_, rfl, _, rfl, ls[i], S it, rfl, rfl, _, rfl, ?_⟩
          rw [S_list]
          cases c2 : decide (ls[i] ∈ it) with
          | true =>
            have h : isTk it ls[i] = true := by rw [ftk, c1, c2]; rfl
            refine iteT ⟨_, rfl, p, C, dx, fs, _, rfl, hp2, T.cl, T.t, rf.t, _, rfl, Tk, _, i, _, rfl, rfl, hT2, get1, _, rfl, tv ls[i], 2 ^ j, rfl, rfl, Tk, _, ((i : Nat) : Int), i, rfl, rfl, hT2, ixn, _, _, rfl, upd2 _, (upd_ne npT.symm).trans hp2, ?_⟩
            rw [upd_same]
            exact congrArg (fun z => some (HO.lst z)) (fin1 h)
          | false =>
            have h : isTk it ls[i] = false := by rw [ftk, c1, c2]; rfl
            exact iteF ⟨_, _, rfl, bt2, hp2, fin0 h⟩
      · rintro σ H1 ⟨y1, y2, rfl, bt, hp1, hT1⟩
        rw [S_size, List.take_length, List.drop_length, List.map_nil, List.append_nil] at hT1
        exact q H1 bt ⟨dx, fs, hp1, by rw [hs, if_neg (by simp)]; exact rf, hT1⟩
end
end K05
set_option Elab.async false
set_option linter.all false
set_option maxRecDepth 100001
set_option maxHeartbeats 3999999
namespace K05
open PySem L2
/-- what is reached by a star more -/
def mo (st s : Nat) : Nat := s ||| (s &&& st) * 2 ^ 1
theorem testBit_two (x : Nat) : ∀ i, (x * 2 ^ 1).testBit i = (decide (0 < i) && x.testBit (i - 1))
  | 0 => by
    rw [Nat.pow_one, Nat.testBit_zero, Nat.mul_mod_left]
    rfl
  | i + 1 => by
    rw [Nat.pow_one, Nat.testBit_succ, Nat.mul_div_cancel _ (by decide : 0 < 2)]
    rw [decide_eq_true (Nat.succ_pos i), Bool.true_and]
    rfl
theorem testBit_mo (st s i : Nat) : (mo st s).testBit i = (s.testBit i || (decide (0 < i) && (s.testBit (i - 1) && st.testBit (i - 1)))) := by
  unfold mo
  rw [Nat.testBit_or, testBit_two, Nat.testBit_and]
theorem mo_le (st s : Nat) : s ≤ mo st s := Nat.left_le_or
theorem mo_lt {st s n : Nat} (hs : s < 2 ^ (n + 1)) (ht : st < 2 ^ n) : mo st s < 2 ^ (n + 1) := by
  refine Nat.or_lt_two_pow hs ?_
  have : s &&& st ≤ st := Nat.and_le_right
  rw [Nat.pow_succ]
  omega
/-- the bits of what is reached by stars -/
def cb (st s : Nat) : Nat → Bool
  | 0 => s.testBit 0
  | i + 1 => s.testBit (i + 1) || (st.testBit i && cb st s i)
def itr (st s : Nat) : Nat → Nat
  | 0 => s
  | i + 1 => mo st (itr st s i)
theorem high {x n i : Nat} (h : x < 2 ^ n) (hi : n ≤ i) : x.testBit i = false := Nat.testBit_lt_two_pow (Nat.lt_of_lt_of_le h (Nat.pow_le_pow_right (by decide) hi))
theorem cb_high {st s n : Nat} (hs : s < 2 ^ (n + 1)) (ht : st < 2 ^ n) : ∀ i, n + 1 ≤ i → cb st s i = false
  | 0, h => absurd h (by omega)
  | i + 1, h => by
    unfold cb
    rw [high hs h, high ht (by omega)]
    rfl
theorem cb_rec {st s n : Nat} (hs : s < 2 ^ (n + 1)) (ht : st < 2 ^ n) (i : Nat) : (mask (cb st s) (n + 1)).testBit i = (s.testBit i || (decide (0 < i) && (st.testBit (i - 1) && (mask (cb st s) (n + 1)).testBit (i - 1)))) := by
  have e : ∀ i, (mask (cb st s) (n + 1)).testBit i = cb st s i := fun i => by
    rw [testBit_mask]
    by_cases c : i < n + 1
    · rw [decide_eq_true c, Bool.true_and]
    · rw [cb_high hs ht i (by omega), Bool.and_false]
  rw [e, e]
  cases i with
  | zero =>
    show s.testBit 0 = _
    simp
  | succ i =>
    show (s.testBit (i + 1) || (st.testBit i && cb st s i)) = _
    rw [decide_eq_true (Nat.succ_pos i), Bool.true_and]
    rfl
theorem itr_sub {st s T : Nat} (hT : ∀ i, T.testBit i = (s.testBit i || (decide (0 < i) && (st.testBit (i - 1) && T.testBit (i - 1))))) : ∀ k i, (itr st s k).testBit i = true → T.testBit i = true
  | 0, i, h => by
    have h : s.testBit i = true := h
    rw [hT, h]
    rfl
  | k + 1, i, h => by
    have h : (mo st (itr st s k)).testBit i = true := h
    rw [testBit_mo] at h
    rcases (Bool.or_eq_true _ _).mp h with h | h
    · exact itr_sub hT k i h
    · obtain ⟨h1, h2⟩ := (Bool.and_eq_true _ _).mp h
      obtain ⟨h2, h3⟩ := (Bool.and_eq_true _ _).mp h2
      rw [hT, h1, h3, itr_sub hT k _ h2]
      simp
theorem itr_base {st s : Nat} : ∀ k i, s.testBit i = true → (itr st s k).testBit i = true
  | 0, i, h => h
  | k + 1, i, h => by
    show (mo st (itr st s k)).testBit i = true
    rw [testBit_mo, itr_base k i h]
    rfl
theorem clo_eq {st s n r k : Nat} (hs : s < 2 ^ (n + 1)) (ht : st < 2 ^ n) (h1 : mo st r = r) (h2 : r = itr st s k) : r = mask (cb st s) (n + 1) := by
  have hT := cb_rec hs ht
  refine Nat.eq_of_testBit_eq fun i => Bool.eq_iff_iff.mpr ⟨fun h => itr_sub hT k i (h2 ▸ h), ?_⟩
  induction i with
  | zero =>
    intro h
    rw [hT] at h
    have : s.testBit 0 = true := by simpa using h
    rw [h2]
    exact itr_base k 0 this
  | succ i ih =>
    intro h
    rw [hT, decide_eq_true (Nat.succ_pos i), Bool.true_and] at h
    rcases (Bool.or_eq_true _ _).mp h with h | h
    · rw [h2]
      exact itr_base k _ h
    · obtain ⟨h3, h4⟩ := (Bool.and_eq_true _ _).mp h
      rw [← h1, testBit_mo, decide_eq_true (Nat.succ_pos i)]
      have h4 : (mask (cb st s) (n + 1)).testBit i = true := h4
      have h3 : st.testBit i = true := h3
      show (_ || (true && (r.testBit i && st.testBit i))) = true
      rw [ih h4, h3]
      simp
theorem pigeon : ∀ (n : Nat) (l : List Nat), l.Nodup → (∀ x ∈ l, x < n) → l.length ≤ n
  | 0, [], _, _ => Nat.le_refl _
  | 0, a :: l, _, h => absurd (h a List.mem_cons_self) (Nat.not_lt_zero _)
  | n + 1, l, nd, h => by
    have sub : (l.erase n).Sublist l := List.erase_sublist
    have h2 := pigeon n (l.erase n) (sub.nodup nd) fun x m => by
      have h3 := h x (sub.mem m)
      have : x ≠ n := fun z => by
        rw [z] at m
        exact (List.Nodup.mem_erase_iff nd).mp m |>.1 rfl
      omega
    by_cases c : n ∈ l
    · rw [List.length_erase_of_mem c] at h2
      omega
    · rw [List.erase_of_not_mem c] at h2
      omega
abbrev sPassed : Stmt := sR 2
abbrev sFits : Stmt := sR 3
abbrev sMvf : Stmt := sR 4
abbrev sAll : Stmt := sR 5
def spPassed (C : Addr) : Sp := fun vs H Q _ => ∃ p s ls N st Tk tv sa En n, vs = [.ref p, .int ((s : Nat) : Int)] ∧ IsRp C H p ls N st Tk tv sa En ∧ s < 2 ^ (n + 1) ∧ st < 2 ^ n ∧ n ≤ 60 ∧ Q (.int ((mask (cb st s) (n + 1) : Nat) : Int)) H
section
variable {P : Program} {w : World} {K : PySem.W.Frag} {mg : Str → Option Value} {base : Heap}
theorem scPassed : FnScope ["self", "standing", "more"] ["self", "standing"] (defScope sPassed) := ⟨rfl, rfl, rfl, by decide +kernel, rfl, by decide +kernel, by decide +kernel⟩
theorem ok_passed {f C : Addr} {fd : FuncData} (F : Fun K "passed" "Readings.passed" sPassed f fd) (T : TxR K C) : FnOk P w K mg base CX0 1 f fd ["self", "standing"] (spPassed C) := by
  refine F.ok scPassed (fun vs H Q E h => ?_) (fun cdv A outer s H vs Q E hr h => ?_)
  · obtain ⟨p, s, ls, N, st, Tk, tv, sa, En, n, rfl, _⟩ := h
    rfl
  · obtain ⟨p, s0, ls, N, st, Tk, tv, sa, En, n, rfl, ⟨dx, fs, hp, rf, hT⟩, hs, ht, n50, q⟩ := h
    refine ⟨_, pss_cons (ps_set (i := 2) scPassed.nd rfl (Or.inl rfl) (pe_op op_orS (pv 1) (pe_op op_shlS (pe_op op_andS (pv 1) (pe_fld (pv 0) rfl)) pe_int)))
      (pss_cons (ps_while PassesOwn.never (pt_cmpR op_ne (pv 2) (pv 1) (nomark _))
        (pss_cons (ps_set (i := 1) scPassed.nd rfl (Or.inl rfl) (pv 2))
        (pss_one (ps_set (i := 2) scPassed.nd rfl (Or.inl rfl) (pe_op op_orS (pv 1) (pe_op op_shlS (pe_op op_andS (pv 1) (pe_fld (pv 0) rfl)) pe_int))))))
      (pss_one (ps_ret (pv 1)))), ?_⟩
    have p60 : (2 : Nat) ^ n ≤ 2 ^ 60 := Nat.pow_le_pow_right (by decide) (by omega)
    have land : ∀ r : Nat, r < 2 ^ (n + 1) → r &&& st < 2 ^ 60 := fun r h => by
      have : r &&& st ≤ st := Nat.and_le_right
      omega
    refine ⟨_, rfl, _, rfl, _, rfl, p, C, dx, fs, _, rfl, hp, T.cl, T.s, rf.s, s0, st, rfl, rfl, s0 &&& st, 1, rfl, rfl, land s0 hs, by decide, s0, (s0 &&& st) * 2 ^ 1, rfl, rfl, ?_⟩
    dsimp only [gName, tSeq, tAsg, tC]
    show tWhile _ _ _ [some (.ref p), some (.int ((s0 : Nat) : Int)), some (.int ((mo st s0 : Nat) : Int))] H
    refine while_by (fun σ H' => ∃ r k : Nat, σ = [some (.ref p), some (.int ((r : Nat) : Int)), some (.int ((mo st r : Nat) : Int))] ∧ H' = H ∧ r < 2 ^ (n + 1) ∧ r = itr st s0 k)
      (fun σ _ => match σ with | [_, some (.int r), _] => (2 ^ (n + 1) - r.toNat) | _ => 0) ⟨s0, 0, rfl, rfl, hs, rfl⟩ ?_ (fun σ H Q Q' m ⟨x, hx, y, hy, k, b, e, q⟩ => ⟨x, hx, y, hy, k, b, e, m _ _ q⟩)
    rintro σ H1 ⟨r, k, rfl, rfl, hr2, ek⟩
    have hm := mo_lt hr2 ht
    have hle := mo_le st r
    refine ⟨_, rfl, _, rfl, rfl, _, rfl, ?_⟩
    by_cases c : mo st r = r
    · rw [show (!decide (V.int ((mo st r : Nat) : Int) = V.int ((r : Nat) : Int))) = false by rw [c]; simp]
      refine iteF ⟨_, rfl, ?_⟩
      rw [clo_eq hs ht c ek]
      exact q
    · have ne : ¬ V.int ((mo st r : Nat) : Int) = V.int ((r : Nat) : Int) := fun z => c (by have := V.int.inj z; omega)
      rw [show (!decide (V.int ((mo st r : Nat) : Int) = V.int ((r : Nat) : Int))) = true by rw [decide_eq_false ne]; rfl]
      refine iteT ⟨_, rfl, ?_⟩
      refine ⟨_, rfl, _, rfl, _, rfl, p, C, dx, fs, _, rfl, hp, T.cl, T.s, rf.s, mo st r, st, rfl, rfl, mo st r &&& st, 1, rfl, rfl, land _ hm, by decide, mo st r, (mo st r &&& st) * 2 ^ 1, rfl, rfl, ⟨mo st r, k + 1, rfl, rfl, hm, ?_⟩, ?_⟩
      · rw [ek]
        rfl
      · show 2 ^ (n + 1) - ((mo st r : Nat) : Int).toNat < 2 ^ (n + 1) - ((r : Nat) : Int).toNat
        rw [Int.toNat_natCast, Int.toNat_natCast]
        omega
end
end K05
set_option Elab.async false
set_option linter.all false
set_option maxRecDepth 100001
set_option maxHeartbeats 3999999
namespace K05
open PySem L2
/-! ### bits of a list -/
def bitL {α : Type} (f : α → Bool) (l : List α) (i : Nat) : Bool := (l[i]?.map f).getD false
def mskL {α : Type} (f : α → Bool) (l : List α) : Nat := mask (bitL f l) l.length
theorem bitL_app {α : Type} (f : α → Bool) (a b : List α) (i : Nat) : bitL f (a ++ b) i = if i < a.length then bitL f a i else bitL f b (i - a.length) := by
  unfold bitL
  by_cases c : i < a.length
  · rw [if_pos c, List.getElem?_append_left c]
  · rw [if_neg c, List.getElem?_append_right (by omega)]
theorem bitL_out {α : Type} {f : α → Bool} {l : List α} {i : Nat} (h : l.length ≤ i) : bitL f l i = false := by
  unfold bitL
  rw [List.getElem?_eq_none h]
  rfl
theorem tb_mskL {α : Type} (f : α → Bool) (l : List α) (i : Nat) : (mskL f l).testBit i = bitL f l i := by
  unfold mskL
  rw [testBit_mask]
  by_cases c : i < l.length
  · rw [decide_eq_true c, Bool.true_and]
  · rw [decide_eq_false c, Bool.false_and, bitL_out (by omega)]
theorem mskL_lt {α : Type} (f : α → Bool) (l : List α) : mskL f l < 2 ^ l.length := mask_lt _ _
theorem mskL_snoc {α : Type} (f : α → Bool) (l : List α) (x : α) : mskL f (l ++ [x]) = if f x = true then mskL f l ||| 2 ^ l.length else mskL f l := by
  refine Nat.eq_of_testBit_eq fun i => ?_
  rw [tb_mskL, bitL_app]
  have e : (if f x = true then mskL f l ||| 2 ^ l.length else mskL f l).testBit i = ((mskL f l).testBit i || (f x && decide (i = l.length))) := by
    cases f x with
    | true => rw [if_pos rfl, Nat.testBit_or, testBit_one, Bool.true_and]
    | false => rw [if_neg (by simp), Bool.false_and, Bool.or_false]
  rw [e, tb_mskL]
  by_cases c : i < l.length
  · rw [if_pos c, decide_eq_false (by omega), Bool.and_false, Bool.or_false]
  · rw [if_neg c, bitL_out (l := l) (by omega), Bool.false_or]
    by_cases d : i = l.length
    · subst d
      rw [Nat.sub_self, decide_eq_true rfl, Bool.and_true]
      rfl
    · rw [decide_eq_false d, Bool.and_false, bitL_out (l := [x]) (by show 1 ≤ i - l.length; omega)]
theorem mskL_map {α β : Type} (f : β → Bool) (g : α → β) (l : List α) : mskL f (l.map g) = mskL (fun a => f (g a)) l := by
  refine Nat.eq_of_testBit_eq fun i => ?_
  rw [tb_mskL, tb_mskL]
  unfold bitL
  rw [List.getElem?_map]
  cases l[i]? <;> rfl
theorem mskL_congr {α : Type} {f g : α → Bool} {l : List α} (h : ∀ a ∈ l, f a = g a) : mskL f l = mskL g l := by
  refine Nat.eq_of_testBit_eq fun i => ?_
  rw [tb_mskL, tb_mskL]
  unfold bitL
  cases e : l[i]? with
  | none => rfl
  | some a => exact h a (List.mem_of_getElem? e)
/-! ### rows, one behind the other -/
abbrev Row := List (List Nat)
abbrev Slot := Option (List Nat)
def rSl (its : Row) : List Slot := its.map some ++ [none]
def slots (rs : List Row) : List Slot := rs.flatMap rSl
def stO : Slot → Bool
  | some it => isStar it
  | none => false
def tkO (c : Nat) : Slot → Bool
  | some it => isTk it c
  | none => false
def ST (rs : List Row) : Nat := mskL stO (slots rs)
def TK (rs : List Row) (c : Nat) : Nat := mskL (tkO c) (slots rs)
def NN (rs : List Row) : Nat := (slots rs).length
def flg (its : Row) : List Bool := true :: its.map fun _ => false
def S0 (rs : List Row) : Nat := mskL id (rs.flatMap flg)
/-- where a standing leads -/
def gS (st n s t : Nat) : Nat := mask (cb st ((s &&& t) * 2 ^ 1 ||| (s &&& st))) (n + 1)
def GG (rs : List Row) (s c : Nat) : Nat := gS (ST rs) (NN rs) s (TK rs c)
def SS (rs : List Row) : Nat := mask (cb (ST rs) (S0 rs)) (NN rs + 1)
theorem slots_cons (its : Row) (rs : List Row) : slots (its :: rs) = rSl its ++ slots rs := by simp [slots]
theorem rSl_len (its : Row) : (rSl its).length = its.length + 1 := by simp [rSl]
theorem flg_len (its : Row) : (flg its).length = its.length + 1 := by simp [flg]
theorem NN_cons (its : Row) (rs : List Row) : NN (its :: rs) = its.length + 1 + NN rs := by
  unfold NN
  rw [slots_cons, List.length_append, rSl_len]
theorem flgs_len : ∀ rs : List Row, (rs.flatMap flg).length = NN rs
  | [] => rfl
  | its :: rs => by
    rw [List.flatMap_cons, List.length_append, flg_len, flgs_len rs, NN_cons]
/-- of one row -/
def gR (its : Row) (s c : Nat) : Nat := mask (cb (mskL stO (rSl its)) ((s &&& mskL (tkO c) (rSl its)) * 2 ^ 1 ||| (s &&& mskL stO (rSl its)))) (its.length + 1)
def sR0 (its : Row) : Nat := mask (cb (mskL stO (rSl its)) 1) (its.length + 1)
/-- bits of two numbers put together -/
structure Jn (m z a b : Nat) : Prop where
  lo : ∀ i, i < m → z.testBit i = a.testBit i
  hi : ∀ i, z.testBit (m + i) = b.testBit i
theorem Jn.of {m a b : Nat} (h : a < 2 ^ m) : Jn m (2 ^ m * b + a) a b :=
  ⟨fun i hi => by rw [Nat.testBit_two_pow_mul_add _ h, if_pos hi], fun i => by rw [Nat.testBit_two_pow_mul_add _ h, if_neg (by omega), Nat.add_sub_cancel_left]⟩
theorem Jn.eq {m z a b : Nat} (j : Jn m z a b) (h : a < 2 ^ m) : z = 2 ^ m * b + a := Nat.eq_of_testBit_eq fun i => by
  by_cases c : i < m
  · rw [j.lo i c, (Jn.of h).lo i c]
  · obtain ⟨k, rfl⟩ : ∃ k, i = m + k := ⟨i - m, by omega⟩
    rw [j.hi, (Jn.of h).hi]
theorem Jn.and {m z a b z' a' b' : Nat} (j : Jn m z a b) (k : Jn m z' a' b') : Jn m (z &&& z') (a &&& a') (b &&& b') :=
  ⟨fun i h => by rw [Nat.testBit_and, Nat.testBit_and, j.lo i h, k.lo i h], fun i => by rw [Nat.testBit_and, Nat.testBit_and, j.hi, k.hi]⟩
theorem Jn.or {m z a b z' a' b' : Nat} (j : Jn m z a b) (k : Jn m z' a' b') : Jn m (z ||| z') (a ||| a') (b ||| b') :=
  ⟨fun i h => by rw [Nat.testBit_or, Nat.testBit_or, j.lo i h, k.lo i h], fun i => by rw [Nat.testBit_or, Nat.testBit_or, j.hi, k.hi]⟩
theorem Jn.two {m z a b : Nat} (j : Jn (m + 1) z a b) (h : a.testBit m = false) : Jn (m + 1) (z * 2 ^ 1) (a * 2 ^ 1) (b * 2 ^ 1) := by
  refine ⟨fun i hi => ?_, fun i => ?_⟩
  · rw [testBit_two, testBit_two, j.lo (i - 1) (by omega)]
  · rw [testBit_two, testBit_two, decide_eq_true (show 0 < m + 1 + i by omega), Bool.true_and]
    cases i with
    | zero =>
      show z.testBit m = _
      rw [j.lo m (by omega), h]
      rfl
    | succ i =>
      show z.testBit (m + 1 + i) = _
      rw [j.hi, decide_eq_true (Nat.succ_pos i)]
      rfl
theorem cb_jn {m st a b s x y : Nat} (j : Jn (m + 1) st a b) (k : Jn (m + 1) s x y) (h : a.testBit m = false) : (∀ i, i < m + 1 → cb st s i = cb a x i) ∧ ∀ i, cb st s (m + 1 + i) = cb b y i := by
  have lo : ∀ i, i < m + 1 → cb st s i = cb a x i := fun i => by
    induction i with
    | zero =>
      intro hi
      show s.testBit 0 = x.testBit 0
      exact k.lo 0 hi
    | succ i ih =>
      intro hi
      show (s.testBit (i + 1) || (st.testBit i && cb st s i)) = (x.testBit (i + 1) || (a.testBit i && cb a x i))
      rw [k.lo _ hi, j.lo i (by omega), ih (by omega)]
  refine ⟨lo, fun i => ?_⟩
  induction i with
  | zero =>
    show (s.testBit (m + 1 + 0) || (st.testBit m && cb st s m)) = y.testBit 0
    rw [k.hi, j.lo m (by omega), h, Bool.false_and, Bool.or_false]
  | succ i ih =>
    show (s.testBit (m + 1 + (i + 1)) || (st.testBit (m + 1 + i) && cb st s (m + 1 + i))) = (y.testBit (i + 1) || (b.testBit i && cb b y i))
    rw [k.hi, j.hi, ih]
theorem mask_jn {m n : Nat} {p q r : Nat → Bool} (h1 : ∀ i, i < m → p i = q i) (h2 : ∀ i, p (m + i) = r i) : Jn m (mask p (m + n)) (mask q m) (mask r n) := by
  refine ⟨fun i hi => ?_, fun i => ?_⟩
  · rw [testBit_mask, testBit_mask, decide_eq_true hi, decide_eq_true (show i < m + n by omega), h1 i hi]
  · rw [testBit_mask, testBit_mask, h2]
    congr 1
    exact decide_eq_decide.mpr (by omega)
theorem mskL_jn {α : Type} (f : α → Bool) (a b : List α) : Jn a.length (mskL f (a ++ b)) (mskL f a) (mskL f b) := by
  refine ⟨fun i hi => ?_, fun i => ?_⟩
  · rw [tb_mskL, tb_mskL, bitL_app, if_pos hi]
  · rw [tb_mskL, tb_mskL, bitL_app, if_neg (by omega), Nat.add_sub_cancel_left]
theorem st_end (its : Row) : (mskL stO (rSl its)).testBit its.length = false := by
  rw [tb_mskL]
  unfold rSl
  rw [bitL_app, List.length_map, if_neg (by omega), Nat.sub_self]
  rfl
theorem tk_end (its : Row) (c : Nat) : (mskL (tkO c) (rSl its)).testBit its.length = false := by
  rw [tb_mskL]
  unfold rSl
  rw [bitL_app, List.length_map, if_neg (by omega), Nat.sub_self]
  rfl
/-- the first row's standing apart -/
theorem GG_cons (its : Row) (rs : List Row) {x y c : Nat} (hx : x < 2 ^ (its.length + 1)) : GG (its :: rs) (2 ^ (its.length + 1) * y + x) c = 2 ^ (its.length + 1) * GG rs y c + gR its x c := by
  have j1 := mskL_jn stO (rSl its) (slots rs)
  have j2 := mskL_jn (tkO c) (rSl its) (slots rs)
  rw [rSl_len, ← slots_cons] at j1 j2
  have j3 : Jn (its.length + 1) (2 ^ (its.length + 1) * y + x) x y := Jn.of hx
  have j4 := (j3.and j2).two (by rw [Nat.testBit_and, tk_end, Bool.and_false])
  have j5 := j4.or (j3.and j1)
  have c1 := cb_jn j1 j5 (st_end its)
  refine (Jn.eq ?_ (mask_lt _ _))
  have := mask_jn (n := NN rs + 1) c1.1 c1.2
  unfold GG gS gR
  rw [NN_cons]
  exact this
theorem SS_cons (its : Row) (rs : List Row) : SS (its :: rs) = 2 ^ (its.length + 1) * SS rs + sR0 its := by
  have j1 := mskL_jn stO (rSl its) (slots rs)
  have j2 := mskL_jn id (flg its) (rs.flatMap flg)
  rw [rSl_len, ← slots_cons] at j1
  rw [flg_len, ← List.flatMap_cons] at j2
  have e : mskL id (flg its) = 1 := Nat.eq_of_testBit_eq fun i => by
    rw [tb_mskL]
    cases i with
    | zero => rfl
    | succ i =>
      have : bitL id (flg its) (i + 1) = false := by
        show (((its.map fun _ => false)[i]?).map id).getD false = false
        rw [List.getElem?_map]
        cases its[i]? <;> rfl
      rw [this, show (1 : Nat) = 2 ^ 0 from rfl, testBit_one]
      rfl
  rw [e] at j2
  have c1 := cb_jn j1 j2 (st_end its)
  refine (Jn.eq ?_ (mask_lt _ _))
  have := mask_jn (n := NN rs + 1) c1.1 c1.2
  unfold SS sR0
  rw [NN_cons]
  exact this
end K05
set_option Elab.async false
set_option linter.all false
set_option maxRecDepth 100001
set_option maxHeartbeats 3999999
namespace K05
open PySem L2
/-! ### sets of standings that nothing leads out of -/
def RowC (its : Row) (ls R : List Nat) : Prop := sR0 its ∈ R ∧ (∀ x ∈ R, x < 2 ^ (its.length + 1)) ∧ ∀ x ∈ R, ∀ c ∈ ls, gR its x c ∈ R
def AllC (rs : List Row) (ls Q : List Nat) : Prop := SS rs ∈ Q ∧ ∀ s ∈ Q, ∀ c ∈ ls, GG rs s c ∈ Q
theorem clo_all {ls : List Nat} {B : Nat} : ∀ rs : List Row, (∀ its ∈ rs, ∃ R, RowC its ls R ∧ R.length ≤ B) → ∃ Q, AllC rs ls Q ∧ Q.length ≤ B ^ rs.length
  | [], _ => ⟨[0], ⟨List.mem_singleton.mpr (by rfl), fun s hs c _ => List.mem_singleton.mpr (by
      rw [List.mem_singleton.mp hs]
      show gS 0 0 0 0 = 0
      decide +kernel)⟩, Nat.le_refl _⟩
  | its :: rs, h => by
    obtain ⟨Q, ⟨q1, q2⟩, q3⟩ := clo_all rs fun i hi => h i (List.mem_cons_of_mem _ hi)
    obtain ⟨R, ⟨r1, r2, r3⟩, r4⟩ := h its List.mem_cons_self
    refine ⟨Q.flatMap fun y => R.map fun x => 2 ^ (its.length + 1) * y + x, ⟨?_, fun s hs c hc => ?_⟩, ?_⟩
    · rw [SS_cons]
      exact List.mem_flatMap.mpr ⟨_, q1, List.mem_map.mpr ⟨_, r1, rfl⟩⟩
    · obtain ⟨y, hy, hs⟩ := List.mem_flatMap.mp hs
      obtain ⟨x, hx, rfl⟩ := List.mem_map.mp hs
      rw [GG_cons its rs (r2 x hx)]
      exact List.mem_flatMap.mpr ⟨_, q2 y hy c hc, List.mem_map.mpr ⟨_, r3 x hx c hc, rfl⟩⟩
    · have e : (Q.flatMap fun y => R.map fun x => 2 ^ (its.length + 1) * y + x).length = Q.length * R.length := by
        have : ∀ Q : List Nat, (Q.flatMap fun y => R.map fun x => 2 ^ (its.length + 1) * y + x).length = Q.length * R.length := fun Q => by
          induction Q with
          | nil => simp
          | cons y Q ih => rw [List.flatMap_cons, List.length_append, ih, List.length_map, List.length_cons, Nat.add_mul, Nat.one_mul, Nat.add_comm]
        exact this Q
      rw [e, List.length_cons, Nat.pow_succ]
      exact Nat.mul_le_mul q3 r4
/-! ### short rows, by kinds of items -/
def kStar (k : Nat) : Bool := k == 0
def kTk (i k : Nat) : Bool := k == 1 || ((k == 2 && decide (i < 2)) || k == i + 3)
def kG (ks : List Nat) (s i : Nat) : Nat := mask (cb (mskL kStar ks) ((s &&& mskL (kTk i) ks) * 2 ^ 1 ||| (s &&& mskL kStar ks))) (ks.length + 1)
def k0 (ks : List Nat) : Nat := mask (cb (mskL kStar ks) 1) (ks.length + 1)
def kAdd (R : List Nat) (x : Nat) : List Nat := if R.contains x then R else R ++ [x]
def kStep (ks R : List Nat) : List Nat := R.foldl (fun R x => kAdd (kAdd (kAdd R (kG ks x 0)) (kG ks x 1)) (kG ks x 2)) R
def kClo (ks : List Nat) : List Nat := kStep ks (kStep ks (kStep ks (kStep ks [k0 ks])))
def kOk (ks : List Nat) : Bool := Nat.ble (kClo ks).length 5 && ((kClo ks).contains (k0 ks) && (kClo ks).all fun x => Nat.blt x (2 ^ (ks.length + 1)) && ((kClo ks).contains (kG ks x 0) && ((kClo ks).contains (kG ks x 1) && (kClo ks).contains (kG ks x 2))))
theorem ok0 : kOk [] = true := by decide +kernel
theorem ok1 : ((List.range 6).all fun a => kOk [a]) = true := by decide +kernel
theorem ok2 : ((List.range 6).all fun a => (List.range 6).all fun b => kOk [a, b]) = true := by decide +kernel
theorem ok3 : ((List.range 6).all fun a => (List.range 6).all fun b => (List.range 6).all fun c => kOk [a, b, c]) = true := by decide +kernel
theorem kOk_all {ks : List Nat} (l : ks.length ≤ 3) (h : ∀ k ∈ ks, k < 6) : kOk ks = true := by
  have g : ∀ k ∈ ks, k ∈ List.range 6 := fun k hk => List.mem_range.mpr (h _ hk)
  match ks, l, g with
  | [], _, _ => exact ok0
  | [a], _, g => exact List.all_eq_true.mp ok1 a (g _ (by simp))
  | [a, b], _, g => exact List.all_eq_true.mp (List.all_eq_true.mp ok2 a (g _ (by simp))) b (g _ (by simp))
  | [a, b, c], _, g => exact List.all_eq_true.mp (List.all_eq_true.mp (List.all_eq_true.mp ok3 a (g _ (by simp))) b (g _ (by simp))) c (g _ (by simp))
  | _ :: _ :: _ :: _ :: _, l, _ => exact absurd l (by simp)
/-- the item of a kind -/
def kW (ls : List Nat) (k : Nat) : List Nat := if k = 0 then [42] else if k = 1 then [63] else if k = 2 then [ls.getD 1 0, ls.getD 0 0] else [ls.getD (k - 3) 0]
theorem mskL_end {f : Slot → Bool} (h : f none = false) (its : Row) : mskL f (rSl its) = mskL (fun it => f (some it)) its := by
  unfold rSl
  rw [mskL_snoc, h, if_neg (by simp), mskL_map]
theorem getD_mem {ls : List Nat} {i : Nat} (h : i < ls.length) : ls.getD i 0 ∈ ls := by
  rw [List.getD_eq_getElem?_getD, List.getElem?_eq_getElem h]
  exact List.getElem_mem h
theorem kW_star {ls : List Nat} {k : Nat} (L : ∀ c ∈ ls, 90 < c) (h : k < ls.length + 3) : isStar (kW ls k) = kStar k := by
  unfold isStar kW kStar
  by_cases c0 : k = 0
  · rw [if_pos c0, c0]
    rfl
  by_cases c1 : k = 1
  · rw [if_neg c0, if_pos c1, c1]
    rfl
  by_cases c2 : k = 2
  · rw [if_neg c0, if_neg c1, if_pos c2, c2, decide_eq_false (fun z => by have := congrArg List.length z; simp at this)]
    rfl
  rw [if_neg c0, if_neg c1, if_neg c2]
  have m := L _ (getD_mem (ls := ls) (i := k - 3) (by omega))
  rw [decide_eq_false (fun z => by have := (List.cons.inj z).1; omega)]
  exact (beq_false_of_ne c0).symm
theorem kW_tk {ls : List Nat} {k i : Nat} (L : ∀ c ∈ ls, 90 < c) (nd : ls.Nodup) (two : 2 ≤ ls.length) (h : k < ls.length + 3) (hi : i < ls.length) : isTk (kW ls k) (ls.getD i 0) = kTk i k := by
  unfold isTk
  rw [kW_star L h]
  have inj : ∀ a b, a < ls.length → b < ls.length → ls.getD a 0 = ls.getD b 0 → a = b := fun a b ha hb e => nd_at nd ha hb e
  unfold kW kStar kTk
  by_cases c0 : k = 0
  · subst c0
    rfl
  rw [beq_false_of_ne c0, if_neg c0]
  by_cases c1 : k = 1
  · subst c1
    rw [if_pos rfl]
    simp
  rw [beq_false_of_ne c1, if_neg c1]
  by_cases c2 : k = 2
  · subst c2
    rw [if_pos rfl, decide_eq_false (fun z => by have := congrArg List.length z; simp at this)]
    rw [show ((2 : Nat) == i + 3) = false from beq_false_of_ne (by omega)]
    simp only [Bool.not_false, Bool.true_and, Bool.false_or, beq_self_eq_true, Bool.or_false]
    refine decide_eq_decide.mpr ⟨fun z => ?_, fun z => ?_⟩
    · rcases List.mem_cons.mp z with z | z
      · have := inj i 1 hi (by omega) z
        omega
      · have := inj i 0 hi (by omega) (List.mem_singleton.mp z)
        omega
    · have : i = 0 ∨ i = 1 := by omega
      rcases this with rfl | rfl
      · exact List.mem_cons_of_mem _ List.mem_cons_self
      · exact List.mem_cons_self
  rw [beq_false_of_ne c2, if_neg c2]
  have m := L _ (getD_mem (ls := ls) (i := k - 3) (by omega))
  rw [decide_eq_false (fun z => by have := (List.cons.inj z).1; omega)]
  simp only [Bool.not_false, Bool.true_and, Bool.false_or, Bool.false_and]
  rw [Bool.eq_iff_iff, decide_eq_true_iff, beq_iff_eq]
  constructor
  · intro z
    have := inj i (k - 3) hi (by omega) (List.mem_singleton.mp z)
    omega
  · intro z
    rw [z]
    exact List.mem_cons_self
theorem row_kinds {ls ks : List Nat} (L : ∀ c ∈ ls, 90 < c) (nd : ls.Nodup) (two : 2 ≤ ls.length) (three : ls.length ≤ 3) (l : ks.length ≤ 3) (h : ∀ k ∈ ks, k < ls.length + 3) : ∃ R, RowC (ks.map (kW ls)) ls R ∧ R.length ≤ 5 := by
  have ok := kOk_all l fun k hk => by have := h k hk; omega
  unfold kOk at ok
  rw [Bool.and_eq_true, Bool.and_eq_true] at ok
  obtain ⟨o1, o2, o3⟩ := ok
  have eS : mskL stO (rSl (ks.map (kW ls))) = mskL kStar ks := by
    rw [mskL_end rfl, mskL_map]
    exact mskL_congr fun k hk => kW_star L (h k hk)
  have eT : ∀ i, i < ls.length → mskL (tkO (ls.getD i 0)) (rSl (ks.map (kW ls))) = mskL (kTk i) ks := fun i hi => by
    rw [mskL_end rfl, mskL_map]
    exact mskL_congr fun k hk => kW_tk L nd two (h k hk) hi
  refine ⟨kClo ks, ⟨?_, fun x hx => ?_, fun x hx c hc => ?_⟩, Nat.le_of_ble_eq_true o1⟩
  · unfold sR0
    rw [eS, List.length_map]
    exact List.contains_iff_mem.mp o2
  · have := List.all_eq_true.mp o3 x hx
    rw [Bool.and_eq_true] at this
    rw [List.length_map]
    exact Nat.le_of_ble_eq_true this.1
  · obtain ⟨i, hi, rfl⟩ := List.getElem_of_mem hc
    have e : ls.getD i 0 = ls[i] := by rw [List.getD_eq_getElem?_getD, List.getElem?_eq_getElem hi]; rfl
    have := List.all_eq_true.mp o3 x hx
    rw [Bool.and_eq_true, Bool.and_eq_true, Bool.and_eq_true] at this
    obtain ⟨_, g0, g1, g2⟩ := this
    unfold gR
    rw [eS, ← e, eT i hi, List.length_map]
    have : i = 0 ∨ i = 1 ∨ i = 2 := by omega
    rcases this with rfl | rfl | rfl
    · exact List.contains_iff_mem.mp g0
    · exact List.contains_iff_mem.mp g1
    · exact List.contains_iff_mem.mp g2
/-! ### rows without stars -/
theorem cb_zero (s : Nat) : ∀ i, cb 0 s i = s.testBit i
  | 0 => rfl
  | i + 1 => by
    show (s.testBit (i + 1) || (Nat.testBit 0 i && cb 0 s i)) = _
    rw [Nat.zero_testBit, Bool.false_and, Bool.or_false]
theorem row_plain {its : Row} {ls : List Nat} (h : ∀ it ∈ its, isStar it = false) : RowC its ls (0 :: (List.range (its.length + 1)).map (2 ^ ·)) := by
  have eS : mskL stO (rSl its) = 0 := by
    rw [mskL_end rfl]
    refine Nat.eq_of_testBit_eq fun i => ?_
    rw [tb_mskL, Nat.zero_testBit]
    unfold bitL
    cases e : its[i]? with
    | none => rfl
    | some a => exact h a (List.mem_of_getElem? e)
  refine ⟨?_, fun x hx => ?_, fun x hx c hc => ?_⟩
  · refine List.mem_cons_of_mem _ (List.mem_map.mpr ⟨0, List.mem_range.mpr (by omega), ?_⟩)
    unfold sR0
    rw [eS]
    refine Nat.eq_of_testBit_eq fun i => ?_
    rw [testBit_mask, cb_zero]
    show (2 ^ 0).testBit i = (_ && (2 ^ 0).testBit i)
    rw [testBit_one]
    by_cases c : i = 0
    · subst c
      rw [decide_eq_true (show 0 < its.length + 1 by omega)]
      rfl
    · rw [decide_eq_false c, Bool.and_false]
  · rcases List.mem_cons.mp hx with rfl | hx
    · exact Nat.two_pow_pos _
    · obtain ⟨j, hj, rfl⟩ := List.mem_map.mp hx
      exact Nat.pow_lt_pow_right (by decide) (List.mem_range.mp hj)
  · have e : ∀ i, (gR its x c).testBit i = (decide (i < its.length + 1) && (decide (0 < i) && (x.testBit (i - 1) && (mskL (tkO c) (rSl its)).testBit (i - 1)))) := fun i => by
      unfold gR
      rw [eS, testBit_mask, cb_zero, Nat.testBit_or, testBit_two, Nat.testBit_and, Nat.and_zero, Nat.zero_testBit, Bool.or_false]
    rcases List.mem_cons.mp hx with rfl | hx
    · have : gR its 0 c = 0 := Nat.eq_of_testBit_eq fun i => by
        rw [e, Nat.zero_testBit, Nat.zero_testBit]
        simp
      rw [this]
      exact List.mem_cons_self
    · obtain ⟨j, hj, rfl⟩ := List.mem_map.mp hx
      have hj := List.mem_range.mp hj
      cases et : (mskL (tkO c) (rSl its)).testBit j with
      | false =>
        have : gR its (2 ^ j) c = 0 := Nat.eq_of_testBit_eq fun i => by
          rw [e, Nat.zero_testBit, testBit_one]
          by_cases c1 : i - 1 = j
          · rw [c1, et]
            simp
          · rw [decide_eq_false c1]
            simp
        rw [this]
        exact List.mem_cons_self
      | true =>
        have lj : j < its.length := by
          refine Nat.lt_of_not_le fun z => ?_
          have : j = its.length := by omega
          rw [this, tk_end] at et
          cases et
        have : gR its (2 ^ j) c = 2 ^ (j + 1) := Nat.eq_of_testBit_eq fun i => by
          rw [e, testBit_one, testBit_one]
          by_cases c1 : i = j + 1
          · subst c1
            rw [Nat.add_sub_cancel, et, decide_eq_true (show j + 1 < its.length + 1 by omega)]
            simp
          · rw [decide_eq_false c1]
            by_cases c2 : i = 0
            · rw [c2]
              simp
            · rw [decide_eq_false (show ¬ i - 1 = j by omega)]
              simp
        rw [this]
        exact List.mem_cons_of_mem _ (List.mem_map.mpr ⟨j + 1, List.mem_range.mpr (by omega), rfl⟩)
end K05
set_option Elab.async false
set_option linter.all false
set_option maxRecDepth 100001
set_option maxHeartbeats 3999999
namespace K05
open PySem L2
/-- a reading of a tree with these rows -/
def IsR (C : Addr) (H : Hp) (p : Addr) (ls : List Nat) (rs : List Row) : Prop := ∃ N Tk En dx fs nv ad ns kvE, H p = some (.ins C dx fs) ∧ RF fs ls N (ST rs) Tk (SS rs) En ∧ H Tk = some (.lst (ls.map fun c => .int ((TK rs c : Nat) : Int))) ∧ H N = some (.lst nv) ∧ Nds H nv ad ns ∧ Goes ns.length ns [] ∧ 0 < ns.length ∧ ns.length ≤ 60 ∧ H En = some (.dK kvE) ∧ ∀ (i : Nat) its, ns[i]? = some (.row its) → ∃ n : Nat, valV kvE (.inl ((i : Nat) : Int)) = some (.int ((n : Nat) : Int))
theorem IsR.same {C : Addr} {H H' : Hp} {p : Addr} {ls : List Nat} {rs : List Row} (r : IsR C H p ls rs) (e : Same H H') : IsR C H' p ls rs :=
  let ⟨N, Tk, En, dx, fs, nv, ad, ns, kvE, h1, h2, h3, h4, h5, h6, h7, h8, h9, h10⟩ := r
  ⟨N, Tk, En, dx, fs, nv, ad, ns, kvE, e _ _ h1, h2, e _ _ h3, e _ _ h4, h5.at2 (fun a xs z => e _ _ z) (fun a _ xs z => e _ _ z), h6, h7, h8, e _ _ h9, h10⟩
theorem gS_lt (st n s t : Nat) : gS st n s t < 2 ^ (n + 1) := mask_lt _ _
section
variable {P : Program} {w : World} {K : PySem.W.Frag} {mg : Str → Option Value} {base : Heap}
end
section
variable {X : Cx}
theorem pe_any {a : Expr} {es : List Expr} {t : TA} {p pos : Pos} (hc : X.calm = true) (hm : X.mg "any" = none) (ha : PA X (a :: es) t) (hg : Gl X "any" := by rfl) (he : starEach (a :: es) X.env = (false, eval a X.env) :: starEach es X.env := by rfl)
    (hpl : (backTo pos (starEach es X.env)).any (·.1) = false := by rfl) :
    PE X (.Call (.Name "any" p) (a :: es) [] pos) (tCB (rAny X.K) t) := pe_callB (cr_any hc) hg hm (by decide +kernel) ha (he := he) (hpl := hpl)
end
section
variable {P : Program} {w : World} {K : PySem.W.Frag} {mg : Str → Option Value} {base : Heap}
def spMvf (C : Addr) : Sp := fun vs H Q _ => ∃ p s ls rs, vs = [.ref p, .int ((s : Nat) : Int)] ∧ IsR C H p ls rs ∧ (NN rs) ≤ 60 ∧ ls.length ≤ 1000 ∧ s < 2 ^ ((NN rs) + 1) ∧
  ∀ L H', (∀ b o, H b = some o → b ≠ L) → Same H H' → H' L = some (.lst (ls.map fun c => .int ((gS (ST rs) (NN rs) s (TK rs c) : Nat) : Int))) → Q (.ref L) H'
abbrev NMv : List Str := ["self", "standing", "behind", "moves", "taken"]
theorem scMvf : FnScope NMv ["self", "standing"] (defScope sMvf) := ⟨rfl, rfl, rfl, by decide +kernel, rfl, by decide +kernel, by decide +kernel⟩
theorem ok_mvf {f C : Addr} {fd : FuncData} (F : Fun K "moves_from" "Readings.moves_from" sMvf f fd) (T : TxR K C) (mP : Met CX0 P w K mg base 1 C "passed" (spPassed C)) : FnOk P w K mg base CX0 2 f fd ["self", "standing"] (spMvf C) := by
  refine F.ok scMvf (fun vs H Q E h => ?_) (fun cdv A outer s H vs Q E hr h => ?_)
  · obtain ⟨p, s, ls, rs, rfl, _⟩ := h
    rfl
  · obtain ⟨p, s0, ls, rs, rfl, R, l50, ll, hs, q⟩ := h
    obtain ⟨N, Tk, En, dx, fs, nv, ad, ns, kvE, hp, rf, hTk, hN, nds, goes, np, n60, hEn, gE⟩ := id R
    refine ⟨_, pss_cons (ps_set (i := 2) scMvf.nd rfl (Or.inl rfl) pe_dnewK)
      (pss_cons (ps_set (i := 3) scMvf.nd rfl (Or.inl rfl) (pe_lst pa_nil))
      (pss_cons (ps_for PassesOwn.never rfl (pi_sqA (pe_fld (pv 0) rfl)) (pg_name (i := 4) scMvf.nd rfl (.inl rfl))
        (pss_cons (ps_if (pt_cmp (pc_dnotin (hu_of hr) (pv 4) (pv 2))) (pss_one (ps_dput (hu_of hr) (pv 2) (pv 4) (pe_mt mP hr pass0 (pv 0) (pa_cons (pe_op op_orS (pe_op op_shlS (pe_op op_andS (pv 1) (pv 4)) pe_int) (pe_op op_andS (pv 1) (pe_fld (pv 0) rfl))) pa_nil)) rfl)) pss_nil)
        (pss_one (ps_expr (pe_bm PySem.F.plainAttrs_list PySem.F.slot_list_append PySem.F.type_list_append mt_append (pv 3) (pa_cons (pe_dget (hu_of hr) (pv 2) (pv 4) (fun _ _ => rfl)) pa_nil))))))
      (pss_one (ps_ret (pv 3))))), ?_⟩
    refine fun D nD => ?_
    have e1 := same_new (o := .dK []) nD
    have hD1 : upd H D (.dK []) D = some (.dK []) := upd_same
    generalize upd H D (.dK []) = H1 at e1 hD1 ⊢
    refine ⟨by decide, fun L nL => ?_⟩
    have e2 := same_new (o := .lst []) nL
    have hL2 : upd H1 L (.lst []) L = some (.lst []) := upd_same
    have hD2 := e2 _ _ hD1
    have nDL : D ≠ L := ne_of_none hD1 nL
    have nLo : ∀ b o, H b = some o → b ≠ L := fun b o z => ne_of_none (e1 _ _ z) nL
    have nDo : ∀ b o, H b = some o → b ≠ D := fun b o z => ne_of_none z nD
    have e12 := e1.trans e2
    generalize upd H1 L (.lst []) = H2 at e2 hL2 hD2 e12 ⊢
    clear e1 e2 hD1 nL
    have st_lt : ST rs < 2 ^ (NN rs) := mskL_lt _ _
    have tk_lt : ∀ c, TK rs c < 2 ^ (NN rs) := fun c => mskL_lt _ _
    have p60 : (2 : Nat) ^ (NN rs) ≤ 2 ^ 60 := Nat.pow_le_pow_right (by decide) l50
    refine ⟨_, rfl, p, C, dx, fs, _, rfl, e12 _ _ hp, T.cl, T.t, rf.t, Tk, _, rfl, .inl (SqL.of (e12 _ _ hTk)), fun J G wk hG => for_it wk (fun i σ H' => ∃ (a : Option V) (kvs : List (Key × V)), σ = [some (.ref p), some (.int ((s0 : Nat) : Int)), some (.ref D), some (.ref L), a] ∧ Same H H' ∧ H' D = some (.dK kvs) ∧ kvs.length ≤ i ∧ (∀ (t : Int) v, valV kvs (.inl t) = some v → ∃ tn : Nat, t = (tn : Nat) ∧ v = .int ((gS (ST rs) (NN rs) s0 tn : Nat) : Int)) ∧
        H' L = some (.lst ((ls.take i).map fun c => .int ((gS (ST rs) (NN rs) s0 (TK rs c) : Nat) : Int)))) ⟨none, [], rfl, e12, hD2, Nat.le_refl _, (fun t v z => by cases z), hL2⟩ (fun i σ H' _ ⟨_, _, _, e, _⟩ => hG H' fun o z => ?_) ?_ ?_⟩
    · rw [e12 _ _ hTk] at z
      cases z
      exact e _ _ hTk
    · rintro i x σ H3 H4 hi ⟨a, kvs, rfl, e3, hD3, lk, gp, hL3⟩ ⟨rfl, hx⟩
      have hi2 : i < ls.length := by simpa using hi
      rw [List.getElem?_map, List.getElem?_eq_getElem hi2] at hx
      cases hx
      have tk : ls.take (i + 1) = ls.take i ++ [ls[i]] := by rw [List.take_add_one, List.getElem?_eq_getElem hi2]; rfl
      refine ⟨_, rfl, _, rfl, D, _, rfl, DGet.k (k := Sum.inl ((TK rs ls[i] : Nat) : Int)) hD3, ?_⟩
      cases ev : valV kvs (.inl ((TK rs ls[i] : Nat) : Int)) with
      | some v =>
        obtain ⟨tn, et, ev2⟩ := gp _ _ ev
        obtain rfl : TK rs ls[i] = tn := by omega
        subst ev2
        refine ⟨_, rfl, iteF ?_⟩
        refine ⟨_, rfl, .inl ⟨rfl, _, SqL.of hL3⟩, _, rfl, _, rfl, D, _, rfl, (by
          have := DGet.k (k := Sum.inl ((TK rs ls[i] : Nat) : Int)) hD3
          rw [ev] at this
          exact this), L, _, _, rfl, rfl, hL3, by rw [List.length_map, List.length_take]; exact small10 (by omega), ?_⟩
        refine ⟨_, kvs, rfl, fun b o z => (upd_ne (nLo b o z)).trans (e3 _ _ z), (upd_ne nDL).trans hD3, by omega, gp, ?_⟩
        rw [upd_same, tk, List.map_append]
        rfl
      | none =>
        refine ⟨_, rfl, iteT ?_⟩
        have h3p := e3 _ _ hp
        have la : s0 &&& TK rs ls[i] < 2 ^ (NN rs) := Nat.lt_of_le_of_lt Nat.and_le_right (tk_lt _)
        refine ⟨_, rfl, p, dx, fs, rfl, h3p, rf.no _ (by decide +kernel), _, rfl, _, rfl, s0, TK rs ls[i], rfl, rfl, s0 &&& TK rs ls[i], 1, rfl, rfl, by omega, by decide, _, rfl, _, rfl, p, C, dx, fs, _, rfl, h3p, T.cl, T.s, rf.s, s0, ST rs, rfl, rfl, _, _, rfl, rfl, ?_⟩
        refine ⟨p, _, ls, N, ST rs, Tk, TK rs, SS rs, En, (NN rs), rfl, ⟨dx, fs, h3p, rf, e3 _ _ hTk⟩, Nat.or_lt_two_pow (by rw [Nat.pow_one, Nat.pow_succ]; omega) (Nat.lt_of_le_of_lt Nat.and_le_left hs), st_lt, l50, ?_⟩
        rw [show mask (cb (ST rs) ((s0 &&& TK rs ls[i]) * 2 ^ 1 ||| (s0 &&& ST rs))) ((NN rs) + 1) = gS (ST rs) (NN rs) s0 (TK rs ls[i]) from rfl]
        refine ⟨_, rfl, _, rfl, D, _, rfl, DPut.k (k := Sum.inl ((TK rs ls[i] : Nat) : Int)) hD3 (small10 (by omega)), ?_⟩
        have vput : valV (putK kvs (.inl ((TK rs ls[i] : Nat) : Int)) (.int ((gS (ST rs) (NN rs) s0 (TK rs ls[i]) : Nat) : Int))) (.inl ((TK rs ls[i] : Nat) : Int)) = some (.int ((gS (ST rs) (NN rs) s0 (TK rs ls[i]) : Nat) : Int)) := by rw [valV_put, if_pos rfl]
        have gp2 : ∀ (t : Int) v, valV (putK kvs (.inl ((TK rs ls[i] : Nat) : Int)) (.int ((gS (ST rs) (NN rs) s0 (TK rs ls[i]) : Nat) : Int))) (.inl t) = some v → ∃ tn : Nat, t = (tn : Nat) ∧ v = .int ((gS (ST rs) (NN rs) s0 tn : Nat) : Int) := fun t v h => by
          rw [valV_put] at h
          split at h
          · rename_i c
            cases h
            exact ⟨_, Sum.inl.inj c, rfl⟩
          · exact gp t v h
        have hD5 : upd H4 D (.dK (putK kvs (.inl ((TK rs ls[i] : Nat) : Int)) (.int ((gS (ST rs) (NN rs) s0 (TK rs ls[i]) : Nat) : Int)))) D = some (.dK (putK kvs (.inl ((TK rs ls[i] : Nat) : Int)) (.int ((gS (ST rs) (NN rs) s0 (TK rs ls[i]) : Nat) : Int)))) := upd_same
        have hL5 : upd H4 D (.dK (putK kvs (.inl ((TK rs ls[i] : Nat) : Int)) (.int ((gS (ST rs) (NN rs) s0 (TK rs ls[i]) : Nat) : Int)))) L = _ := (upd_ne nDL.symm).trans hL3
        have e5 : Same H (upd H4 D (.dK (putK kvs (.inl ((TK rs ls[i] : Nat) : Int)) (.int ((gS (ST rs) (NN rs) s0 (TK rs ls[i]) : Nat) : Int))))) := fun b o z => (upd_ne (nDo b o z)).trans (e3 _ _ z)
        have lk2 := length_putK kvs (.inl ((TK rs ls[i] : Nat) : Int)) (.int ((gS (ST rs) (NN rs) s0 (TK rs ls[i]) : Nat) : Int))
        dsimp only
        generalize upd H4 D (.dK (putK kvs (.inl ((TK rs ls[i] : Nat) : Int)) (.int ((gS (ST rs) (NN rs) s0 (TK rs ls[i]) : Nat) : Int)))) = H5 at hD5 hL5 e5 ⊢
        refine ⟨_, rfl, .inl ⟨rfl, _, SqL.of hL5⟩, _, rfl, _, rfl, D, _, rfl, (by
          have := DGet.k (k := Sum.inl ((TK rs ls[i] : Nat) : Int)) hD5
          rw [vput] at this
          exact this), L, _, _, rfl, rfl, hL5, by rw [List.length_map, List.length_take]; exact small10 (by omega), ?_⟩
        refine ⟨_, _, rfl, fun b o z => (upd_ne (nLo b o z)).trans (e5 _ _ z), (upd_ne nDL).trans hD5, by omega, gp2, ?_⟩
        rw [upd_same, tk, List.map_append]
        rfl
    · rintro σ H3 ⟨a, kvs, rfl, e3, hD3, lk, gp, hL3⟩
      rw [List.length_map, List.take_length] at hL3
      exact ⟨_, rfl, q L H3 nLo e3 hL3⟩
end
end K05
set_option Elab.async false
set_option linter.all false
set_option maxRecDepth 100001
set_option maxHeartbeats 3999999
namespace K05
open PySem L2
def spFits (C : Addr) : Sp := fun vs H Q _ => ∃ p s ls rs, vs = [.ref p, .int ((s : Nat) : Int)] ∧ IsR C H p ls rs ∧ ∀ b H', Same H H' → Q (.bl b) H'
section
variable {P : Program} {w : World} {K : PySem.W.Frag} {mg : Str → Option Value} {base : Heap}
abbrev NFt : List Str := ["self", "standing", "told", "node", "kind", "parts", "part"]
theorem scFits : FnScope NFt ["self", "standing"] (defScope sFits) := ⟨rfl, rfl, rfl, by decide +kernel, rfl, by decide +kernel, by decide +kernel⟩
theorem ok_fits {f C : Addr} {fd : FuncData} (F : Fun K "fits" "Readings.fits" sFits f fd) (B : Bi mg) (Bz : Bs mg) (hany : mg "any" = none) (T : TxR K C) : FnOk P w K mg base CX0 1 f fd ["self", "standing"] (spFits C) := by
  refine F.ok scFits (fun vs H Q E h => ?_) (fun cdv A outer s H vs Q E hr h => ?_)
  · obtain ⟨p, s, ls, rs, rfl, _⟩ := h
    rfl
  · obtain ⟨p, s0, ls, rs, rfl, R, q⟩ := h
    obtain ⟨N, Tk, En, dx, fs, nv, ad, ns, kvE, hp, rf, hTk, hN, nds, goes, np, n60, hEn, gE⟩ := id R
    refine ⟨_, pss_cons (ps_set (i := 2) scFits.nd rfl (Or.inr rfl) pe_dnewK)
      (pss_cons (ps_for PassesOwn.never rfl (pi_range3 rfl B.range (pa_cons (pe_op op_sub (pe_len B.len (pa_cons (pe_fld (pv 0) rfl) pa_nil)) pe_int) (pa_cons (pe_un un_neg pe_int) (pa_cons (pe_un un_neg pe_int) pa_nil)))) (pg_name (i := 3) scFits.nd rfl (.inl rfl))
        (pss_cons (ps_asg (pe_ix ix_list (pe_fld (pv 0) rfl) (pv 3) (fun _ _ => rfl)) (pg_tup rfl (pgs_cons (pg_name (i := 4) scFits.nd rfl (.inl rfl)) (pgs_cons (pg_name (i := 5) scFits.nd rfl (.inl rfl)) pgs_nil))))
        (pss_one (ps_if (pt_cmpR op_eq (pv 4) pe_str (nomark _)) (pss_one (ps_dput (hu_of hr) (pv 2) (pv 3) (pe_cmpR op_ne (pe_op op_andS (pv 1) (pe_dget (hu_of hr) (pe_fld (pv 0) rfl) (pv 3) (fun _ _ => rfl))) pe_int (nomark _)) rfl))
          (pss_one (ps_if (pt_cmpR op_eq (pv 4) pe_str (nomark _)) (pss_one (ps_dput (hu_of hr) (pv 2) (pv 3) (pe_not (pe_dget (hu_of hr) (pv 2) (pe_ix ix_list (pv 5) pe_int (fun _ _ => rfl)) (fun _ _ => rfl))) rfl))
          (pss_one (ps_if (pt_cmpR op_eq (pv 4) pe_str (nomark _))
            (pss_one (ps_dput (hu_of hr) (pv 2) (pv 3) (pe_all rfl Bz.all (pa_cons (pe_lc (own := [("part", 6)]) rfl scFits.nd (pi_sqA (pv 5)) (blkOk_by (N := NFt) (sc := defScope sFits) (by decide +kernel))
              (fun _ _ _ _ _ => pg_name (i := 6) scFits.nd rfl (Or.inl rfl)) (fun _ _ _ _ _ => pts_nil) (fun _ _ _ _ _ => pe_dget (hu_of hr) (pv 2) (pv 6) (fun _ _ => rfl))) pa_nil)) rfl))
            (pss_one (ps_dput (hu_of hr) (pv 2) (pv 3) (pe_any rfl hany (pa_cons (pe_lc (own := [("part", 6)]) rfl scFits.nd (pi_sqA (pv 5)) (blkOk_by (N := NFt) (sc := defScope sFits) (by decide +kernel))
              (fun _ _ _ _ _ => pg_name (i := 6) scFits.nd rfl (Or.inl rfl)) (fun _ _ _ _ _ => pts_nil) (fun _ _ _ _ _ => pe_dget (hu_of hr) (pv 2) (pv 6) (fun _ _ => rfl))) pa_nil)) rfl))))))))))
      (pss_one (ps_ret (pe_dget (hu_of hr) (pv 2) pe_int (fun _ _ => rfl))))), ?_⟩
    refine fun D nD => ?_
    have e1 := same_new (o := .dK []) nD
    have hD1 : upd H D (.dK []) D = some (.dK []) := upd_same
    generalize upd H D (.dK []) = H1 at e1 hD1 ⊢
    have hp1 := e1 _ _ hp
    have nd : ∀ b o, H b = some o → b ≠ D := fun b o z => ne_of_none z nD
    have lnv := nds.l1
    have eRg : RgC (((nv.length : Nat) : Int) - 1) (-1) (-1) ns.length := by
      have := RgC.neg (i := ((nv.length : Nat) : Int) - 1) (j := -1) (by omega) (by omega) (by decide) (by decide)
      rwa [show (((nv.length : Nat) : Int) - 1 - -1).toNat = ns.length by omega] at this
    refine ⟨_, rfl, p, C, dx, fs, _, rfl, hp1, T.cl, T.n, rf.n, N, _, rfl, .inl (SqL.of (e1 _ _ hN)), _, _, rfl, rfl, _, rfl, _, rfl, _, _, _, ns.length, rfl, eRg, ?_⟩
    refine for_it walk_rangeC (fun i σ H' => ∃ (a b c : Option V) (kvs : List (Key × V)), σ = [some (.ref p), some (.int ((s0 : Nat) : Int)), some (.ref D), a, b, c, none] ∧ Same H H' ∧ H' D = some (.dK kvs) ∧ kvs.length ≤ i ∧ ∀ j, j < ns.length → ns.length ≤ i + j → ∃ b, valV kvs (.inl ((j : Nat) : Int)) = some (.bl b)) ⟨none, none, none, [], rfl, e1, hD1, Nat.le_refl _, fun j h1 h2 => absurd h2 (by omega)⟩ (fun _ _ _ _ _ => True.intro) ?_ ?_
    · rintro i x σ H2 H3 hi ⟨a, b, c, kvs, rfl, e2, hD2, lk, told⟩ ⟨rfl, hx⟩
      obtain ⟨j, ej⟩ : ∃ j, j + i + 1 = ns.length := ⟨ns.length - 1 - i, by omega⟩
      have hx2 : x = .int ((j : Nat) : Int) := by
        cases hx
        show V.int (((nv.length : Nat) : Int) - 1 + (i : Int) * -1) = V.int ((j : Nat) : Int)
        congr 1
        omega
      subst hx2
      obtain ⟨v, hv⟩ : ∃ v, nv[j]? = some v := ⟨_, List.getElem?_eq_getElem (by omega)⟩
      obtain ⟨l, hl⟩ : ∃ l, ad[j]? = some l := ⟨_, List.getElem?_eq_getElem (by have := nds.l2; omega)⟩
      obtain ⟨n, hn⟩ : ∃ n, ns[j]? = some n := ⟨_, List.getElem?_eq_getElem (by omega)⟩
      have hp2 := e2 _ _ hp
      -- what a step leaves
      have fin : ∀ (H4 : Hp) (b : Bool) (x4 x5 : Option V), Same H H4 → H4 D = some (.dK kvs) → ∃ (a b' c : Option V) (kvs' : List (Key × V)), [some (.ref p), some (.int ((s0 : Nat) : Int)), some (.ref D), some (.int ((j : Nat) : Int)), x4, x5, none] = [some (.ref p), some (.int ((s0 : Nat) : Int)), some (.ref D), a, b', c, none] ∧ Same H (upd H4 D (.dK (putK kvs (.inl ((j : Nat) : Int)) (.bl b)))) ∧ upd H4 D (.dK (putK kvs (.inl ((j : Nat) : Int)) (.bl b))) D = some (.dK kvs') ∧ kvs'.length ≤ i + 1 ∧ ∀ j, j < ns.length → ns.length ≤ i + 1 + j → ∃ b, valV kvs' (.inl ((j : Nat) : Int)) = some (.bl b) := fun H4 b x4 x5 e4 hD4 => by
        refine ⟨_, _, _, _, rfl, fun b o z => (upd_ne (nd b o z)).trans (e4 _ _ z), upd_same, ?_, fun k h1 h2 => ?_⟩
        · have := length_putK kvs (.inl ((j : Nat) : Int)) (.bl b)
          omega
        · rw [valV_put]
          by_cases c : k = j
          · subst c
            exact ⟨b, if_pos rfl⟩
          · rw [if_neg (fun z => c (by have := Sum.inl.inj z; omega))]
            exact told k h1 (by omega)
      have nda := nds.at_ j v l n hv hl hn
      cases n with
      | row its =>
        obtain ⟨n, rfl, h1, h2⟩ := nda
        obtain ⟨en, gn⟩ := gE j its hn
        refine ⟨_, rfl, p, C, dx, fs, _, rfl, hp2, T.cl, T.n, rf.n, _, rfl, N, _, _, _, rfl, rfl, SqL.of (e2 _ _ hN), atI_nat hv, n, _, rfl, SqT.of (e2 _ _ h1), rfl, _, _, rfl, _, _, rfl, rfl, ?_⟩
        refine ⟨_, rfl, rfl, _, rfl, ?_⟩
        rw [decide_eq_true rfl]
        refine iteT ⟨_, rfl, _, rfl, p, C, dx, fs, _, rfl, hp2, T.cl, T.e, rf.e, _, rfl, En, _, rfl, (by
          have := DGet.k (k := Sum.inl ((j : Nat) : Int)) (e2 _ _ hEn)
          rw [gn] at this
          exact this), s0, en, rfl, rfl, rfl, ?_⟩
        exact ⟨_, rfl, _, rfl, D, _, rfl, DPut.k (k := Sum.inl ((j : Nat) : Int)) hD2 (small10 (by omega)), fin _ _ _ _ e2 hD2⟩
      | nd k ps =>
        obtain ⟨n, rfl, h1, h2⟩ := nda
        have up := goes.up j k ps hn
        refine ⟨_, rfl, p, C, dx, fs, _, rfl, hp2, T.cl, T.n, rf.n, _, rfl, N, _, _, _, rfl, rfl, SqL.of (e2 _ _ hN), atI_nat hv, n, _, rfl, SqT.of (e2 _ _ h1), rfl, _, _, rfl, _, _, rfl, rfl, ?_⟩
        refine ⟨_, rfl, rfl, _, rfl, ?_⟩
        rw [decide_eq_false (show ¬ V.str (kn k) = V.str "row" from fun z => kn_row k (V.str.inj z))]
        refine iteF ⟨_, rfl, rfl, _, rfl, ?_⟩
        have lps : ps.length ≤ 900 := by
          have := goes.few j k ps hn
          omega
        have hl3 := e2 _ _ h2
        have tp : ∀ p ∈ ps, ∃ b, valV kvs (.inl ((p : Nat) : Int)) = some (.bl b) := fun p hp => by
          have := up p hp
          exact told p this.2 (by omega)
        by_cases k0 : k = 0
        · subst k0
          rw [decide_eq_true (show V.str (kn 0) = V.str "not" from rfl)]
          have pne : ps ≠ [] := by
            rcases goes.no j ps hn with z | ⟨e, he, _⟩
            · exact z
            · cases he
          cases ps with
          | nil => exact absurd rfl pne
          | cons p0 ps =>
            obtain ⟨b0, hb0⟩ := tp p0 List.mem_cons_self
            refine iteT ⟨_, rfl, _, rfl, l, _, _, _, rfl, rfl, SqL.of hl3, atI_nat (j := 0) rfl, D, _, rfl, (by
              have := DGet.k (k := Sum.inl ((p0 : Nat) : Int)) hD2
              rw [hb0] at this
              exact this), _, rfl, ?_⟩
            exact ⟨_, rfl, _, rfl, D, _, rfl, DPut.k (k := Sum.inl ((j : Nat) : Int)) hD2 (small10 (by omega)), fin _ _ _ _ e2 hD2⟩
        · have nn : ¬ V.str (kn k) = V.str "not" := fun z => by
            have := V.str.inj z
            rcases k with _ | _ | k
            · exact k0 rfl
            · exact absurd this (by decide +kernel)
            · exact absurd (show ("either" : Str) = "not" from this) (by decide +kernel)
          rw [decide_eq_false nn]
          refine iteF ⟨_, rfl, rfl, _, rfl, ?_⟩
          by_cases k1 : k = 1
          · subst k1
            rw [decide_eq_true (show V.str (kn 1) = V.str "both" from rfl)]
            refine iteT ?_
            refine ⟨_, rfl, l, _, rfl, .inl (SqL.of hl3), fun J G wk hG L nL => lc_it wk (fun m H' => Same H3 H' ∧ ∃ bs : List Bool, bs.length = m ∧ H' L = some (.lst (bs.map V.bl))) ⟨same_new nL, [], rfl, upd_same⟩ (fun m H' _ z => hG H' fun o z' => z.1 _ _ z') ?_ ?_⟩
            · rintro m x H4 H5 hm ⟨e4, bs, lb, hL4⟩ ⟨rfl, hx⟩
              have hx : (ps.map fun p => V.int ((p : Nat) : Int))[m]? = some x := hx
              rw [List.getElem?_map] at hx
              cases ep : ps[m]? with
              | none => rw [ep] at hx; cases hx
              | some p0 =>
                rw [ep] at hx
                cases hx
                obtain ⟨b0, hb0⟩ := tp p0 (List.mem_of_getElem? ep)
                refine ⟨rfl, yesT ⟨_, rfl, _, rfl, D, _, rfl, (by
                  have := DGet.k (k := Sum.inl ((p0 : Nat) : Int)) (e4 _ _ hD2)
                  rw [hb0] at this
                  exact this), _, hL4, ?_, fun b o z => (upd_ne (ne_of_none z nL)).trans (e4 _ _ z), bs ++ [b0], by rw [List.length_append, lb]; rfl, by rw [upd_same, List.map_append]; rfl⟩⟩
                rw [List.length_map]
                have := (List.getElem?_eq_some_iff.mp ep).1
                exact small10 (by omega)
            · rintro H4 ⟨e4, bs, lb, hL4⟩
              exact ⟨L, bs, rfl, SqL.of hL4, _, rfl, _, rfl, D, _, rfl, DPut.k (k := Sum.inl ((j : Nat) : Int)) (e4 _ _ hD2) (small10 (by omega)), fin _ _ _ _ (e2.trans e4) (e4 _ _ hD2)⟩
          · have nb : ¬ V.str (kn k) = V.str "both" := fun z => by
              have := V.str.inj z
              rcases k with _ | _ | k
              · exact k0 rfl
              · exact k1 rfl
              · exact absurd (show ("either" : Str) = "both" from this) (by decide +kernel)
            rw [decide_eq_false nb]
            refine iteF ?_
            refine ⟨_, rfl, l, _, rfl, .inl (SqL.of hl3), fun J G wk hG L nL => lc_it wk (fun m H' => Same H3 H' ∧ ∃ bs : List Bool, bs.length = m ∧ H' L = some (.lst (bs.map V.bl))) ⟨same_new nL, [], rfl, upd_same⟩ (fun m H' _ z => hG H' fun o z' => z.1 _ _ z') ?_ ?_⟩
            · rintro m x H4 H5 hm ⟨e4, bs, lb, hL4⟩ ⟨rfl, hx⟩
              have hx : (ps.map fun p => V.int ((p : Nat) : Int))[m]? = some x := hx
              rw [List.getElem?_map] at hx
              cases ep : ps[m]? with
              | none => rw [ep] at hx; cases hx
              | some p0 =>
                rw [ep] at hx
                cases hx
                obtain ⟨b0, hb0⟩ := tp p0 (List.mem_of_getElem? ep)
                refine ⟨rfl, yesT ⟨_, rfl, _, rfl, D, _, rfl, (by
                  have := DGet.k (k := Sum.inl ((p0 : Nat) : Int)) (e4 _ _ hD2)
                  rw [hb0] at this
                  exact this), _, hL4, ?_, fun b o z => (upd_ne (ne_of_none z nL)).trans (e4 _ _ z), bs ++ [b0], by rw [List.length_append, lb]; rfl, by rw [upd_same, List.map_append]; rfl⟩⟩
                rw [List.length_map]
                have := (List.getElem?_eq_some_iff.mp ep).1
                exact small10 (by omega)
            · rintro H4 ⟨e4, bs, lb, hL4⟩
              exact ⟨L, bs, rfl, SqL.of hL4, _, rfl, _, rfl, D, _, rfl, DPut.k (k := Sum.inl ((j : Nat) : Int)) (e4 _ _ hD2) (small10 (by omega)), fin _ _ _ _ (e2.trans e4) (e4 _ _ hD2)⟩
    · rintro σ H2 ⟨a, b, c, kvs, rfl, e2, hD2, lk, told⟩
      obtain ⟨b, hb⟩ := told 0 np (Nat.le_refl _)
      refine ⟨_, rfl, D, _, rfl, (by
        have := DGet.k (k := Sum.inl ((0 : Nat) : Int)) hD2
        rw [hb] at this
        exact this), q b H2 e2⟩
end
end K05
set_option Elab.async false
set_option linter.all false
set_option maxRecDepth 100001
set_option maxHeartbeats 3999999
namespace K05
open PySem L2
theorem idx_app {α : Type} [BEq α] [LawfulBEq α] {xs ys : List α} {x : α} (h : x ∈ xs) : (xs ++ ys).idxOf x = xs.idxOf x := by
  rw [List.idxOf_append, if_pos h]
def intsN (xs : List Nat) : List V := xs.map fun s => .int ((s : Nat) : Int)
theorem intsN_len (xs : List Nat) : (intsN xs).length = xs.length := List.length_map ..
/-- numbers of the standings -/
def numD (sts : List Nat) : List (Key × V) := asc (fun i => Sum.inl ((sts.getD i 0 : Nat) : Int)) (fun i => .int ((i : Nat) : Int)) sts.length
theorem numD_at {sts : List Nat} (nd : sts.Nodup) {s : Nat} (h : s ∈ sts) : valV (numD sts) (.inl ((s : Nat) : Int)) = some (.int ((sts.idxOf s : Nat) : Int)) := by
  have li := List.idxOf_lt_length_of_mem h
  have g : sts.getD (sts.idxOf s) 0 = s := by
    rw [List.getD_eq_getElem?_getD, List.getElem?_eq_getElem li, List.getElem_idxOf li]
    rfl
  have := asc_at (kf := fun i => Sum.inl ((sts.getD i 0 : Nat) : Int)) (vf := fun i => V.int ((i : Nat) : Int)) (n := sts.length) li fun i l hi hl e => nd_at (d := 0) nd hi hl (by have := Sum.inl.inj e; omega)
  simp only [g] at this
  exact this
theorem numD_none {sts : List Nat} {s : Nat} (h : s ∉ sts) : valV (numD sts) (.inl ((s : Nat) : Int)) = none := asc_none fun j hj e => h (by
  have e2 : sts.getD j 0 = s := by have := Sum.inl.inj e; omega
  rw [List.getD_eq_getElem?_getD, List.getElem?_eq_getElem hj] at e2
  have e3 : sts[j] = s := e2
  exact e3 ▸ List.getElem_mem hj)
theorem numD_put {sts : List Nat} {s : Nat} (h : s ∉ sts) : putK (numD sts) (.inl ((s : Nat) : Int)) (.int ((sts.length : Nat) : Int)) = numD (sts ++ [s]) := by
  have gl : ∀ i, i < sts.length → (sts ++ [s]).getD i 0 = sts.getD i 0 := fun i hi => by
    rw [List.getD_eq_getElem?_getD, List.getD_eq_getElem?_getD, List.getElem?_append_left hi]
  have gr : (sts ++ [s]).getD sts.length 0 = s := by
    rw [List.getD_eq_getElem?_getD, List.getElem?_append_right (Nat.le_refl _), Nat.sub_self]
    rfl
  have e : numD sts = asc (fun i => Sum.inl (((sts ++ [s]).getD i 0 : Nat) : Int)) (fun i => V.int ((i : Nat) : Int)) sts.length := by
    unfold numD asc
    refine List.map_congr_left fun i hi => ?_
    show (Sum.inl ((sts.getD i 0 : Nat) : Int), V.int ((i : Nat) : Int)) = (Sum.inl (((sts ++ [s]).getD i 0 : Nat) : Int), V.int ((i : Nat) : Int))
    rw [gl i (List.mem_range.mp hi)]
  have := asc_put (kf := fun i => Sum.inl (((sts ++ [s]).getD i 0 : Nat) : Int)) (vf := fun i => V.int ((i : Nat) : Int)) (n := sts.length) fun j hj z => h (by
    have e2 := Sum.inl.inj z
    rw [gl j hj, gr] at e2
    have e3 : sts.getD j 0 = s := by omega
    rw [List.getD_eq_getElem?_getD, List.getElem?_eq_getElem hj] at e3
    have e4 : sts[j] = s := e3
    exact e4 ▸ List.getElem_mem hj)
  rw [e]
  simp only [gr] at this
  rw [this]
  unfold numD
  rw [List.length_append]
  rfl
theorem sub_len : ∀ {xs ys : List Nat}, xs.Nodup → (∀ x ∈ xs, x ∈ ys) → xs.length ≤ ys.length
  | [], _, _, _ => Nat.zero_le _
  | x :: xs, ys, nd, h => by
    obtain ⟨n1, n2⟩ := List.nodup_cons.mp nd
    have hx := h x List.mem_cons_self
    have := sub_len (xs := xs) (ys := ys.erase x) n2 fun y hy => by
      refine (List.mem_erase_of_ne fun z => ?_).mpr (h y (List.mem_cons_of_mem _ hy))
      exact n1 (z ▸ hy)
    rw [List.length_erase_of_mem hx] at this
    have := List.length_pos_of_mem hx
    rw [List.length_cons]
    omega
def spAll (C CT : Addr) : Sp := fun vs H Q E => ∃ p ls rs, vs = [.ref p] ∧ IsR C H p ls rs ∧ NN rs ≤ 60 ∧ ls.length ≤ 1000 ∧
  ((∃ Qs, AllC rs ls Qs ∧ Qs.length ≤ 2000 ∧ ∀ tt M Kk H', Same H H' → H' tt = some (.tup [.ref M, .ref Kk]) → Q (.ref tt) H') ∨
   ((∀ sts : List Nat, SS rs ∈ sts → (∀ s ∈ sts, ∀ c ∈ ls, GG rs s c ∈ sts) → 2000 < sts.length) ∧ ∀ d H', Rsd H H' d (tmF "standings" 2001 2000) → E (.ref CT) (some d) H'))
section
variable {P : Program} {w : World} {K : PySem.W.Frag} {mg : Str → Option Value} {base : Heap}
abbrev NAl : List Str := ["self", "numbers", "order", "moves", "row", "standing"]
theorem scAll : FnScope NAl ["self"] (defScope sAll) := ⟨rfl, rfl, rfl, by decide +kernel, rfl, by decide +kernel, by decide +kernel⟩
theorem ok_all {f C CT : Addr} {fd : FuncData} (F : Fun K "all_moves" "Readings.all_moves" sAll f fd) (B : Bi mg) (M : Cm mg) (T : TxR K C) (mM : Met CX0 P w K mg base 2 C "moves_from" (spMvf C)) (mF : Met CX0 P w K mg base 1 C "fits" (spFits C))
    (xT : Xc P w K mg base 2 "TooMany" CT (spX3 K "what" "many" "most")) (nT : PySem.W.findIn K (.ref CT) "what" = some none ∧ PySem.W.findIn K (.ref CT) "many" = some none ∧ PySem.W.findIn K (.ref CT) "most" = some none) : FnOk P w K mg base (L2.CX P w) 4 f fd ["self"] (spAll C CT) := by
  refine F.okX scAll (fun vs H Q E h => ?_) (fun cdv A outer s H vs Q E hr h => ?_)
  · obtain ⟨p, ls, rs, rfl, _⟩ := h
    rfl
  · obtain ⟨p, ls, rs, rfl, R, l3, ll, out⟩ := h
    obtain ⟨N, Tk, En, dx, fs, nv, ad, ns, kvE, hp, rf, hTk, hN, nds, goes, np, n60, hEn, gE⟩ := id R
    refine ⟨_, pss_cons (ps_set (i := 1) scAll.nd rfl (Or.inl rfl) (pe_disp (pps_cons (pe_fld (pv 0) rfl) pe_int pps_nil) rfl rfl (by simp) (by decide)))
      (pss_cons (ps_set (i := 2) scAll.nd rfl (Or.inl rfl) (pe_lst (pa_cons (pe_fld (pv 0) rfl) pa_nil)))
      (pss_cons (ps_set (i := 3) scAll.nd rfl (Or.inl rfl) (pe_lst pa_nil))
      (pss_cons (ps_while (passes_of rfl) (pt_cmpR op_lt (pe_len B.len (pa_cons (pv 3) pa_nil)) (pe_len B.len (pa_cons (pv 2) pa_nil)) (nomark _))
        (pss_cons (ps_set (i := 4) scAll.nd rfl (Or.inl rfl) (pe_lst pa_nil))
        (pss_cons (ps_for (passes_of rfl) rfl (pi_sqA (pe_mt mM hr pass0 (pv 0) (pa_cons (pe_ix ix_list (pv 2) (pe_len B.len (pa_cons (pv 3) pa_nil)) (fun _ _ => rfl)) pa_nil))) (pg_name (i := 5) scAll.nd rfl (.inl rfl))
          (pss_cons (ps_if (pt_cmp (pc_dnotin (hu_of hr) (pv 5) (pv 1)))
              (pss_cons (ps_if (pt_cmpR op_eq (pe_len B.len (pa_cons (pv 2) pa_nil)) (C8.pe_gc rfl M.stand) (nomark _)) (pss_one (ps_raise rfl (takes_of rfl rfl rfl rfl) (pmk_x xT hr (pa_cons pe_str (pa_cons (pe_op op_add (C8.pe_gc rfl M.stand) pe_int) (pa_cons (C8.pe_gc rfl M.stand) pa_nil)))))) pss_nil)
              (pss_cons (ps_dput (hu_of hr) (pv 1) (pv 5) (pe_len B.len (pa_cons (pv 2) pa_nil)) rfl)
              (pss_one (ps_expr (pe_bm PySem.F.plainAttrs_list PySem.F.slot_list_append PySem.F.type_list_append mt_append (pv 2) (pa_cons (pv 5) pa_nil)))))) pss_nil)
          (pss_one (ps_expr (pe_bm PySem.F.plainAttrs_list PySem.F.slot_list_append PySem.F.type_list_append mt_append (pv 4) (pa_cons (pe_dget (hu_of hr) (pv 1) (pv 5) (fun _ _ => rfl)) pa_nil))))))
        (pss_one (ps_expr (pe_bm PySem.F.plainAttrs_list PySem.F.slot_list_append PySem.F.type_list_append mt_append (pv 3) (pa_cons (pe_tupleOf rfl B.tuple (pv 4)) pa_nil))))))
      )
      (pss_one (ps_ret (pe_tup (pa_cons (pv 3) (pa_cons (pe_lc (own := [("standing", 5)]) rfl scAll.nd (pi_sqA (pv 2)) (blkOk_by (N := NAl) (sc := defScope sAll) (by decide +kernel))
          (fun _ _ _ _ _ => pg_name (i := 5) scAll.nd rfl (Or.inl rfl)) (fun _ _ _ _ _ => pts_nil) (fun _ _ _ _ _ => pe_mt mF hr pass0 (pv 0) (pa_cons (pv 5) pa_nil))) pa_nil)))))))), ?_⟩
    refine fun Dn nDn => ?_
    have e1 := same_new (o := .dK []) nDn
    have hDn1 : upd H Dn (.dK []) Dn = some (.dK []) := upd_same
    generalize upd H Dn (.dK []) = H1 at e1 hDn1 ⊢
    refine ⟨_, rfl, p, C, dx, fs, _, rfl, e1 _ _ hp, T.cl, T.a, rf.a, hDn1, [(.inl ((SS rs : Nat) : Int), .int 0)], rfl, by show 1 ≤ 15; decide, ?_⟩
    have nDo : ∀ b o, H b = some o → b ≠ Dn := fun b o z => ne_of_none z nDn
    have e2 : Same H (upd H1 Dn (.dK (mergeK [] [(.inl ((SS rs : Nat) : Int), .int 0)]))) := fun b o z => (upd_ne (nDo b o z)).trans (e1 _ _ z)
    have hDn2 : upd H1 Dn (.dK (mergeK [] [(.inl ((SS rs : Nat) : Int), .int 0)])) Dn = some (.dK (numD [SS rs])) := upd_same
    generalize upd H1 Dn (.dK (mergeK [] [(.inl ((SS rs : Nat) : Int), .int 0)])) = H2 at e2 hDn2 ⊢
    refine ⟨_, rfl, p, C, dx, fs, _, rfl, e2 _ _ hp, T.cl, T.a, rf.a, by show 1 ≤ sizeLine; decide, fun Lo nLo => ?_⟩
    have nLoo : ∀ b o, H b = some o → b ≠ Lo := fun b o z => ne_of_none (e2 _ _ z) nLo
    have nDLo : Dn ≠ Lo := ne_of_none hDn2 nLo
    have e3 := same_new (o := .lst [.int ((SS rs : Nat) : Int)]) nLo
    have hLo3 : upd H2 Lo (.lst [.int ((SS rs : Nat) : Int)]) Lo = some (.lst (intsN [SS rs])) := upd_same
    have hDn3 := e3 _ _ hDn2
    have e13 := e2.trans e3
    generalize upd H2 Lo (.lst [.int ((SS rs : Nat) : Int)]) = H3 at e3 hLo3 hDn3 e13 ⊢
    refine ⟨by decide, fun Lm nLm => ?_⟩
    have nLmo : ∀ b o, H b = some o → b ≠ Lm := fun b o z => ne_of_none (e13 _ _ z) nLm
    have nDLm : Dn ≠ Lm := ne_of_none hDn3 nLm
    have nLoLm : Lo ≠ Lm := ne_of_none hLo3 nLm
    have e4 := same_new (o := .lst []) nLm
    have hLm4 : upd H3 Lm (.lst []) Lm = some (.lst []) := upd_same
    have hDn4 := e4 _ _ hDn3
    have hLo4 := e4 _ _ hLo3
    have e14 := e13.trans e4
    dsimp only [gName, tSeq, tAsg, tC]
    generalize upd H3 Lm (.lst []) = H4 at e4 hLm4 hDn4 hLo4 e14 ⊢
    clear e1 e2 e3 e13 e4 hDn1 hDn2 hDn3 hLo3 nDn nLo nLm
    show tWhile _ _ _ [some (.ref p), some (.ref Dn), some (.ref Lo), some (.ref Lm), none, none] H4
    have sl : SS rs < 2 ^ ((NN rs) + 1) := mask_lt _ _
    refine while_by (fun σ H' => ∃ (sts : List Nat) (mv : List V) (a b : Option V), σ = [some (.ref p), some (.ref Dn), some (.ref Lo), some (.ref Lm), a, b] ∧ Same H H' ∧ H' Dn = some (.dK (numD sts)) ∧ H' Lo = some (.lst (intsN sts)) ∧ H' Lm = some (.lst mv) ∧ mv.length ≤ sts.length ∧ (∀ (i : Nat) s, i < mv.length → sts[i]? = some s → ∀ c ∈ ls, GG rs s c ∈ sts) ∧ sts.Nodup ∧ (∀ s ∈ sts, s < 2 ^ (NN rs + 1)) ∧ SS rs ∈ sts ∧ sts.length ≤ 2000 ∧ ∀ Qs, AllC rs ls Qs → ∀ s ∈ sts, s ∈ Qs)
      (fun _ H' => match H' Lm with | some (.lst xs) => 2001 - xs.length | _ => 0)
      ⟨[SS rs], [], none, none, rfl, e14, hDn4, hLo4, hLm4, Nat.zero_le _, (fun i s h => absurd h (Nat.not_lt_zero _)), by simp, (fun s h => by rw [List.mem_singleton.mp h]; exact sl), List.mem_singleton.mpr rfl, by show 1 ≤ 2000; decide, fun Qs hQ s h => by rw [List.mem_singleton.mp h]; exact hQ.1⟩ ?_
      (fun σ H Q Q' m ⟨x, hx, y, ys, ey, sy, z, hz, w, ws, ew, sw, i, j, ei, ej, b, eb, q⟩ => ⟨x, hx, y, ys, ey, sy, z, hz, w, ws, ew, sw, i, j, ei, ej, b, eb, m _ _ q⟩)
    rintro σ H5 ⟨sts, mv, a, b, rfl, e5, hDn5, hLo5, hLm5, lmv, rows, nd, bd, s0, l2000, sub⟩
    refine ⟨_, rfl, Lm, _, rfl, .inl (SqL.of hLm5), _, rfl, Lo, _, rfl, .inl (SqL.of hLo5), _, _, rfl, rfl, _, rfl, ?_⟩
    rw [intsN_len]
    by_cases c : mv.length < sts.length
    · rw [decide_eq_true (show (mv.length : Int) < ((sts.length : Nat) : Int) by omega)]
      refine iteT ?_
      have hc := List.getElem?_eq_getElem c
      have mc : sts[mv.length] ∈ sts := List.getElem_mem c
      generalize sts[mv.length] = sc at hc mc
      have hcV : (intsN sts)[mv.length]? = some (.int ((sc : Nat) : Int)) := by
        unfold intsN
        rw [List.getElem?_map, hc]
        rfl
      refine ⟨by decide, fun Rw nRw => ?_⟩
      have nDR : Dn ≠ Rw := ne_of_none hDn5 nRw
      have nLoR : Lo ≠ Rw := ne_of_none hLo5 nRw
      have nLmR : Lm ≠ Rw := ne_of_none hLm5 nRw
      have nRo : ∀ b o, H b = some o → b ≠ Rw := fun b o z => ne_of_none (e5 _ _ z) nRw
      have e6 := same_new (o := .lst []) nRw
      have hR6 : upd H5 Rw (.lst []) Rw = some (.lst []) := upd_same
      generalize upd H5 Rw (.lst []) = H6 at e6 hR6 ⊢
      refine ⟨_, rfl, p, dx, fs, rfl, e6 _ _ (e5 _ _ hp), rf.no _ (by decide +kernel), _, rfl, _, rfl, Lm, _, rfl, .inl (SqL.of (e6 _ _ hLm5)), Lo, _, _, _, rfl, rfl, SqL.of (e6 _ _ hLo5), atI_nat hcV, ?_⟩
      refine ⟨p, sc, ls, rs, rfl, (R.same e5).same e6, l3, ll, bd sc mc, fun L2 H7 nL2 e7 hL2 => ⟨L2, _, rfl, .inl (SqL.of hL2), ?_⟩⟩
      have nR2' : L2 ≠ Rw := (nL2 _ _ hR6).symm
      have nDL2 : L2 ≠ Dn := (nL2 _ _ (e6 _ _ hDn5)).symm
      have nLoL2 : L2 ≠ Lo := (nL2 _ _ (e6 _ _ hLo5)).symm
      have e57 := e6.trans e7
      have hR7 := e7 _ _ hR6
      have hDn7 := e57 _ _ hDn5
      have hLo7 := e57 _ _ hLo5
      have hLm7 := e57 _ _ hLm5
      have e07 := e5.trans e57
      clear e6 hR6 e57 e7 hDn5 hLo5
      refine fun J G wk hG => for_it wk (fun i σ H' => ∃ (ys : List Nat) (b : Option V), σ = [some (.ref p), some (.ref Dn), some (.ref Lo), some (.ref Lm), some (.ref Rw), b] ∧ Same H H' ∧ (∀ a xs, H7 a = some (.tup xs) → H' a = some (.tup xs)) ∧ H' Dn = some (.dK (numD (sts ++ ys))) ∧ H' Lo = some (.lst (intsN (sts ++ ys))) ∧ H' Lm = some (.lst mv) ∧
          H' L2 = some (.lst (ls.map fun c => .int ((GG rs sc c : Nat) : Int))) ∧ H' Rw = some (.lst ((ls.take i).map fun c => .int (((sts ++ ys).idxOf (GG rs sc c) : Nat) : Int))) ∧ (∀ c ∈ ls.take i, GG rs sc c ∈ sts ++ ys) ∧ (sts ++ ys).Nodup ∧ (∀ s ∈ sts ++ ys, s < 2 ^ ((NN rs) + 1)) ∧ (sts ++ ys).length ≤ 2000 ∧ ∀ Qs, AllC rs ls Qs → ∀ s ∈ sts ++ ys, s ∈ Qs)
        ⟨[], _, rfl, e07, (fun a xs z => z), by rw [List.append_nil]; exact hDn7, by rw [List.append_nil]; exact hLo7, hLm7, hL2, hR7, (fun c h => by cases h), by rw [List.append_nil]; exact nd, by rw [List.append_nil]; exact bd, by rw [List.append_nil]; exact l2000, by rw [List.append_nil]; exact sub⟩
        (fun i σ H' _ ⟨_, _, _, _, _, _, _, _, h, _⟩ => hG H' fun o z => by
          rw [hL2] at z
          cases z
          exact h) ?_ ?_
      · rintro i x σ H8 H9 hi ⟨ys, b, rfl, e8, kt8, hDn8, hLo8, hLm8, hL28, hR8, mem8, nd8, bd8, l8, sub8⟩ ⟨rfl, hx⟩
        have hi2 : i < ls.length := by simpa using hi
        rw [List.getElem?_map, List.getElem?_eq_getElem hi2] at hx
        cases hx
        have tk : ls.take (i + 1) = ls.take i ++ [ls[i]] := by rw [List.take_add_one, List.getElem?_eq_getElem hi2]; rfl
        have glt : GG rs sc ls[i] < 2 ^ (NN rs + 1) := gS_lt _ _ _ _
        have mt : ∀ zs : List Nat, (∀ c ∈ ls.take i, GG rs sc c ∈ zs) → GG rs sc ls[i] ∈ zs → ∀ c ∈ ls.take (i + 1), GG rs sc c ∈ zs := fun zs h1 h2 c hc => by
          rw [tk] at hc
          rcases List.mem_append.mp hc with hc | hc
          · exact h1 c hc
          · rw [List.mem_singleton.mp hc]
            exact h2
        have nR2 : L2 ≠ Rw := nR2'
        refine ⟨_, rfl, _, rfl, Dn, _, rfl, DGet.k (k := Sum.inl ((GG rs sc ls[i] : Nat) : Int)) hDn8, ?_⟩
        by_cases g : GG rs sc ls[i] ∈ sts ++ ys
        · rw [numD_at nd8 g]
          refine ⟨_, rfl, iteF ?_⟩
          refine ⟨_, rfl, .inl ⟨rfl, _, SqL.of hR8⟩, _, rfl, _, rfl, Dn, _, rfl, (by
            have := DGet.k (k := Sum.inl ((GG rs sc ls[i] : Nat) : Int)) hDn8
            rw [numD_at nd8 g] at this
            exact this), Rw, _, _, rfl, rfl, hR8, by rw [List.length_map, List.length_take]; exact small10 (by omega), ?_⟩
          refine ⟨ys, _, rfl, fun b o z => (upd_ne (nRo b o z)).trans (e8 _ _ z), fun a xs z => (upd_ne (ne_of (kt8 a xs z) hR8 fun y => nomatch y)).trans (kt8 a xs z), (upd_ne nDR).trans hDn8, (upd_ne nLoR).trans hLo8, (upd_ne nLmR).trans hLm8, (upd_ne nR2).trans hL28, ?_, mt _ mem8 g, nd8, bd8, l8, sub8⟩
          rw [upd_same, tk, List.map_append]
          rfl
        · rw [numD_none g]
          have ndg : (sts ++ ys ++ [GG rs sc ls[i]]).Nodup := List.nodup_append.mpr ⟨nd8, by simp, fun a ha b hb z => by
            rw [List.mem_singleton.mp hb] at z
            exact g (z ▸ ha)⟩
          have subg : ∀ Qs, AllC rs ls Qs → ∀ s ∈ sts ++ ys ++ [GG rs sc ls[i]], s ∈ Qs := fun Qs hQ s hs => by
            rcases List.mem_append.mp hs with hs | hs
            · exact sub8 Qs hQ s hs
            · rw [List.mem_singleton.mp hs]
              exact hQ.2 sc (sub Qs hQ sc mc) _ (List.getElem_mem hi2)
          have lng : (sts ++ ys ++ [GG rs sc ls[i]]).length = (sts ++ ys).length + 1 := by rw [List.length_append]; rfl
          refine ⟨_, rfl, iteT ?_⟩
          refine ⟨_, rfl, Lo, _, rfl, .inl (SqL.of hLo8), rfl, _, rfl, ?_⟩
          rw [intsN_len]
          by_cases full : (sts ++ ys).length = 2000
          · rw [decide_eq_true (show V.int (((sts ++ ys).length : Nat) : Int) = V.int 2000 by rw [full]; rfl)]
            rcases out with ⟨Qs, hQ, lQ, _⟩ | ⟨_, out⟩
            · have := sub_len ndg (subg Qs hQ)
              omega
            · exact iteT ⟨_, _, rfl, rfl, raise3 xT.T nT.1 nT.2.1 nT.2.2 (by show PyData.strOk _ = true; decide +kernel) True.intro True.intro fun d H' r => out d H' ⟨e8.free r.new, e8.trans r.same, r.at_⟩⟩
          rw [decide_eq_false (fun z => by have := V.int.inj z; omega)]
          refine iteF ?_
          refine ⟨_, rfl, Lo, _, rfl, .inl (SqL.of hLo8), _, rfl, _, rfl, Dn, _, rfl, DPut.k (k := Sum.inl ((GG rs sc ls[i] : Nat) : Int)) hDn8 (by unfold numD; rw [asc_len]; exact small10 (by omega)), ?_⟩
          rw [intsN_len, numD_put g]
          generalize egn : GG rs sc ls[i] = gn at g glt ndg subg lng ⊢
          have hD9 : upd H9 Dn (.dK (numD (sts ++ ys ++ [gn]))) Dn = some (.dK (numD (sts ++ ys ++ [gn]))) := upd_same
          have hLo9 : upd H9 Dn (.dK (numD (sts ++ ys ++ [gn]))) Lo = some (.lst (intsN (sts ++ ys))) := (upd_ne nDLo.symm).trans hLo8
          have hLm9 : upd H9 Dn (.dK (numD (sts ++ ys ++ [gn]))) Lm = some (.lst mv) := (upd_ne nDLm.symm).trans hLm8
          have hL29 : upd H9 Dn (.dK (numD (sts ++ ys ++ [gn]))) L2 = _ := (upd_ne nDL2).trans hL28
          have hR9 : upd H9 Dn (.dK (numD (sts ++ ys ++ [gn]))) Rw = _ := (upd_ne nDR.symm).trans hR8
          have e9 : Same H (upd H9 Dn (.dK (numD (sts ++ ys ++ [gn])))) := fun b o z => (upd_ne (nDo b o z)).trans (e8 _ _ z)
          have kt9 : ∀ a xs, H7 a = some (.tup xs) → upd H9 Dn (.dK (numD (sts ++ ys ++ [gn]))) a = some (.tup xs) := fun a xs z => (upd_ne (ne_of (kt8 a xs z) hDn8 fun y => nomatch y)).trans (kt8 a xs z)
          generalize upd H9 Dn (.dK (numD (sts ++ ys ++ [gn]))) = H10 at hD9 hLo9 hLm9 hL29 hR9 e9 kt9 ⊢
          refine ⟨_, rfl, .inl ⟨rfl, _, SqL.of hLo9⟩, _, rfl, Lo, _, _, rfl, rfl, hLo9, by rw [intsN_len]; exact small10 (by omega), ?_⟩
          have ei : intsN (sts ++ ys) ++ [V.int ((gn : Nat) : Int)] = intsN (sts ++ ys ++ [gn]) := by
            simp [intsN]
          dsimp only
          have egn2 : gS (ST rs) (NN rs) sc (TK rs ls[i]) = gn := egn
          rw [egn2, ei]
          have hDa : upd H10 Lo (.lst (intsN (sts ++ ys ++ [gn]))) Dn = _ := (upd_ne nDLo).trans hD9
          have hLoa : upd H10 Lo (.lst (intsN (sts ++ ys ++ [gn]))) Lo = some (.lst (intsN (sts ++ ys ++ [gn]))) := upd_same
          have hLma : upd H10 Lo (.lst (intsN (sts ++ ys ++ [gn]))) Lm = _ := (upd_ne nLoLm.symm).trans hLm9
          have hL2a : upd H10 Lo (.lst (intsN (sts ++ ys ++ [gn]))) L2 = _ := (upd_ne nLoL2).trans hL29
          have hRa : upd H10 Lo (.lst (intsN (sts ++ ys ++ [gn]))) Rw = _ := (upd_ne nLoR.symm).trans hR9
          have ea : Same H (upd H10 Lo (.lst (intsN (sts ++ ys ++ [gn])))) := fun b o z => (upd_ne (nLoo b o z)).trans (e9 _ _ z)
          have kta : ∀ a xs, H7 a = some (.tup xs) → upd H10 Lo (.lst (intsN (sts ++ ys ++ [gn]))) a = some (.tup xs) := fun a xs z => (upd_ne (ne_of (kt9 a xs z) hLo9 fun y => nomatch y)).trans (kt9 a xs z)
          generalize upd H10 Lo (.lst (intsN (sts ++ ys ++ [gn]))) = H11 at hDa hLoa hLma hL2a hRa ea kta ⊢
          have nda : (sts ++ ys ++ [gn]).Nodup := List.nodup_append.mpr ⟨nd8, by simp, fun a ha b hb z => by
            rw [List.mem_singleton.mp hb] at z
            exact g (z ▸ ha)⟩
          have mga : gn ∈ sts ++ ys ++ [gn] := List.mem_append_right _ List.mem_cons_self
          refine ⟨_, rfl, .inl ⟨rfl, _, SqL.of hRa⟩, _, rfl, _, rfl, Dn, _, rfl, (by
            have := DGet.k (k := Sum.inl ((gn : Nat) : Int)) hDa
            rw [numD_at nda mga] at this
            exact this), Rw, _, _, rfl, rfl, hRa, by rw [List.length_map, List.length_take]; exact small10 (by omega), ?_⟩
          refine ⟨ys ++ [gn], _, rfl, fun b o z => (upd_ne (nRo b o z)).trans (ea _ _ z), fun a xs z => (upd_ne (ne_of (kta a xs z) hRa fun y => nomatch y)).trans (kta a xs z), ?_, ?_, (upd_ne nLmR).trans hLma, (upd_ne nR2).trans hL2a, ?_, ?_, ?_, ?_, ?_, ?_⟩
          · rw [← List.append_assoc]
            exact (upd_ne nDR).trans hDa
          · rw [← List.append_assoc]
            exact (upd_ne nLoR).trans hLoa
          · rw [upd_same, tk, List.map_append, ← List.append_assoc]
            congr 3
            · refine List.map_congr_left fun c hc => ?_
              rw [idx_app (mem8 c hc)]
            · show [V.int (((sts ++ ys ++ [gn]).idxOf gn : Nat) : Int)] = [V.int (((sts ++ ys ++ [gn]).idxOf (GG rs sc ls[i]) : Nat) : Int)]
              rw [egn]
          · rw [← List.append_assoc]
            exact mt _ (fun c hc => List.mem_append_left _ (mem8 c hc)) (by rw [egn]; exact mga)
          · rw [← List.append_assoc]
            exact nda
          · rw [← List.append_assoc]
            intro s hs
            rcases List.mem_append.mp hs with hs | hs
            · exact bd8 s hs
            · rw [List.mem_singleton.mp hs]
              exact glt
          · rw [← List.append_assoc, lng]
            omega
          · rw [← List.append_assoc]
            exact subg
      · rintro σ H8 ⟨ys, b, rfl, e8, kt8, hDn8, hLo8, hLm8, hL28, hR8, mem8, nd8, bd8, l8, sub8⟩
        rw [List.length_map, List.take_length] at hR8 mem8
        refine ⟨_, rfl, .inl ⟨rfl, _, SqL.of hLm8⟩, _, rfl, .inl ⟨Rw, _, rfl, SqL.of hR8, fun tt ntt => ?_⟩⟩
        have e9 := same_new (o := .tup (ls.map fun c => .int (((sts ++ ys).idxOf (GG rs sc c) : Nat) : Int))) ntt
        have htt : upd H8 tt (.tup (ls.map fun c => .int (((sts ++ ys).idxOf (GG rs sc c) : Nat) : Int))) tt = some (.tup (ls.map fun c => .int (((sts ++ ys).idxOf (GG rs sc c) : Nat) : Int))) := upd_same
        generalize upd H8 tt (.tup (ls.map fun c => .int (((sts ++ ys).idxOf (GG rs sc c) : Nat) : Int))) = H9 at e9 htt ⊢
        have hLm9 := e9 _ _ hLm8
        have kt : ∀ xs, ∀ a zs, H9 a = some (.tup zs) → upd H9 Lm (.lst xs) a = some (.tup zs) := fun xs a zs z => (upd_ne (ne_of z hLm9 fun y => nomatch y)).trans z
        refine ⟨Lm, _, _, rfl, rfl, hLm9, small10 (by omega), ⟨sts ++ ys, mv ++ [.ref tt], _, _, rfl, fun b' o z => (upd_ne (nLmo b' o z)).trans (e9 _ _ (e8 _ _ z)), (upd_ne nDLm).trans (e9 _ _ hDn8), (upd_ne nLoLm).trans (e9 _ _ hLo8), upd_same, ?_, ?_, nd8, bd8, List.mem_append_left _ s0, l8, sub8⟩, ?_⟩
        · rw [List.length_append, List.length_append]
          show mv.length + 1 ≤ _
          omega
        · intro i v hi hv c' hc'
          rw [List.length_append] at hi
          have hi : i < mv.length + 1 := hi
          by_cases d : i < mv.length
          · rw [List.getElem?_append_left (by omega)] at hv
            exact List.mem_append_left _ (rows i v d hv c' hc')
          · have di : i = mv.length := by omega
            subst di
            rw [List.getElem?_append_left c, hc] at hv
            cases hv
            exact mem8 c' hc'
        · show (match upd H9 Lm (.lst (mv ++ [.ref tt])) Lm with | some (.lst xs) => 2001 - xs.length | _ => 0) < (match H5 Lm with | some (.lst xs) => 2001 - xs.length | _ => 0)
          rw [upd_same, hLm5]
          show 2001 - (mv ++ [V.ref tt]).length < 2001 - mv.length
          rw [List.length_append]
          show 2001 - (mv.length + 1) < _
          omega
    · rw [decide_eq_false (show ¬ (mv.length : Int) < ((sts.length : Nat) : Int) by omega)]
      refine iteF ?_
      have em : mv.length = sts.length := by omega
      have closed : ∀ s ∈ sts, ∀ c ∈ ls, GG rs s c ∈ sts := fun s hs c hc => by
        obtain ⟨i, hi, e⟩ := List.getElem_of_mem hs
        exact rows i s (by omega) (by rw [List.getElem?_eq_getElem hi, e]) c hc
      refine ⟨_, rfl, _, rfl, Lo, _, rfl, .inl (SqL.of hLo5), fun J G wk hG Kk nK => lc_it wk (fun i H' => Same H5 H' ∧ ∃ bs : List V, bs.length = i ∧ H' Kk = some (.lst bs)) ⟨same_new nK, [], rfl, upd_same⟩ (fun i H' _ z => hG H' fun o z' => z.1 _ _ z') ?_ ?_⟩
      · rintro i x H6 H7 hi ⟨e6, bs, lb, hK6⟩ ⟨rfl, hx⟩
        have hi2 : i < sts.length := by rwa [intsN_len] at hi
        have hx : (sts.map fun s => V.int ((s : Nat) : Int))[i]? = some x := hx
        rw [List.getElem?_map, List.getElem?_eq_getElem hi2] at hx
        cases hx
        refine ⟨rfl, yesT ⟨_, rfl, p, dx, fs, rfl, e6 _ _ (e5 _ _ hp), rf.no _ (by decide +kernel), _, rfl, p, sts[i], ls, rs, rfl, (R.same e5).same e6, fun b H8 e8 => ⟨_, e8 _ _ hK6, small10 (by omega), fun b o z => ?_, bs ++ [.bl b], by rw [List.length_append, lb]; rfl, upd_same⟩⟩⟩
        exact (upd_ne (ne_of_none z nK)).trans (e8 _ _ (e6 _ _ z))
      · rintro H6 ⟨e6, bs, lb, hK6⟩
        refine ⟨by show 2 ≤ sizeLine; decide, fun tt ntt => ?_⟩
        have e7 := same_new (o := .tup [.ref Lm, .ref Kk]) ntt
        rcases out with ⟨Qs, hQ, lQ, out⟩ | ⟨big, _⟩
        · exact out tt Lm Kk _ (e5.trans (e6.trans e7)) upd_same
        · have := big sts s0 closed
          omega
end
end K05
set_option Elab.async false
set_option linter.all false
set_option maxRecDepth 100001
set_option maxHeartbeats 3999999
namespace K05
open PySem L2
/-! ### a row with too many standings -/
def lastK : List Nat := 0 :: 3 :: List.replicate 11 1
theorem last_steps : ((List.range 1024).all fun x => Nat.beq (kG lastK (3 + 4 * x) 0) (3 + 4 * (2 * x + 1)) && Nat.beq (kG lastK (3 + 4 * x) 1) (3 + 4 * (2 * x))) = true := by decide +kernel
theorem last_start : k0 lastK = 3 := by decide +kernel
theorem row_kG {ls ks : List Nat} (L : ∀ c ∈ ls, 90 < c) (nd : ls.Nodup) (two : 2 ≤ ls.length) (h : ∀ k ∈ ks, k < ls.length + 3) : sR0 (ks.map (kW ls)) = k0 ks ∧ ∀ i, i < ls.length → ∀ s, gR (ks.map (kW ls)) s (ls.getD i 0) = kG ks s i := by
  have eS : mskL stO (rSl (ks.map (kW ls))) = mskL kStar ks := by
    rw [mskL_end rfl, mskL_map]
    exact mskL_congr fun k hk => kW_star L (h k hk)
  have eT : ∀ i, i < ls.length → mskL (tkO (ls.getD i 0)) (rSl (ks.map (kW ls))) = mskL (kTk i) ks := fun i hi => by
    rw [mskL_end rfl, mskL_map]
    exact mskL_congr fun k hk => kW_tk L nd two (h k hk) hi
  refine ⟨?_, fun i hi s => ?_⟩
  · unfold sR0 k0
    rw [eS, List.length_map]
  · unfold gR kG
    rw [eS, eT i hi, List.length_map]
theorem SS_one (its : Row) : SS [its] = sR0 its := by
  rw [SS_cons, show SS [] = 0 from rfl, Nat.mul_zero, Nat.zero_add]
theorem GG_one {its : Row} {s : Nat} (h : s < 2 ^ (its.length + 1)) (c : Nat) : GG [its] s c = gR its s c := by
  have := GG_cons its [] (y := 0) (c := c) h
  rw [Nat.mul_zero, Nat.zero_add, show GG [] 0 c = 0 from by show gS 0 0 0 0 = 0; decide +kernel, Nat.mul_zero, Nat.zero_add] at this
  exact this
theorem last_big {ls : List Nat} (L : ∀ c ∈ ls, 90 < c) (nd : ls.Nodup) (two : 2 ≤ ls.length) (sts : List Nat) (h0 : SS [lastK.map (kW ls)] ∈ sts) (h1 : ∀ s ∈ sts, ∀ c ∈ ls, GG [lastK.map (kW ls)] s c ∈ sts) : 2000 < sts.length := by
  have hk : ∀ k ∈ lastK, k < ls.length + 3 := by
    intro k hk
    have : k ≤ 3 := by
      revert k
      decide
    omega
  obtain ⟨r0, rG⟩ := row_kG L nd two hk
  rw [SS_one, r0, last_start] at h0
  have all : ∀ n x, x ≤ n → x < 2048 → 3 + 4 * x ∈ sts := by
    intro n
    induction n with
    | zero =>
      intro x hx _
      obtain rfl : x = 0 := by omega
      exact h0
    | succ n ih =>
      intro x hx lt
      by_cases c : x = 0
      · subst c
        exact h0
      have hy := ih (x / 2) (by omega) (by omega)
      have st := List.all_eq_true.mp last_steps (x / 2) (List.mem_range.mpr (by omega))
      rw [Bool.and_eq_true] at st
      have s0 := Nat.eq_of_beq_eq_true st.1
      have s1 := Nat.eq_of_beq_eq_true st.2
      have bd : 3 + 4 * (x / 2) < 2 ^ ((lastK.map (kW ls)).length + 1) := by
        rw [List.length_map]
        show 3 + 4 * (x / 2) < 2 ^ 14
        omega
      have g0 := h1 _ hy _ (getD_mem (ls := ls) (i := 0) (by omega))
      have g1 := h1 _ hy _ (getD_mem (ls := ls) (i := 1) (by omega))
      rw [GG_one bd, rG 0 (by omega), s0] at g0
      rw [GG_one bd, rG 1 (by omega), s1] at g1
      by_cases p : x % 2 = 1
      · rwa [show 2 * (x / 2) + 1 = x by omega] at g0
      · rwa [show 2 * (x / 2) = x by omega] at g1
  have := sub_len (xs := (List.range 2048).map fun x => 3 + 4 * x) (ys := sts) ?_ fun y hy => ?_
  · rw [List.length_map, List.length_range] at this
    omega
  · exact List.pairwise_map.mpr ((List.nodup_range (n := 2048)).imp fun h z => h (by omega))
  · obtain ⟨x, hx, rfl⟩ := List.mem_map.mp hy
    exact all x x (Nat.le_refl _) (List.mem_range.mp hx)
end K05
set_option Elab.async false
set_option linter.all false
set_option maxRecDepth 100001
set_option maxHeartbeats 3999999
namespace K05
open PySem L2
/-- behind a raise within an object at p -/
structure RsB (p : Addr) (H H' : Hp) (d : Addr) (f : Str) (dd : PyData) : Prop where
  new : H d = none
  same : ButI p H H'
  at_ : ∃ v', H' d = some (.xd [(f, v')]) ∧ Odd H' v' dd
structure RsC (p : Addr) (H H' : Hp) (d : Addr) (fs : List (Str × V)) : Prop where
  new : H d = none
  same : ButI p H H'
  at_ : H' d = some (.xd fs)
abbrev sRInit : Stmt := sR 0
def spRInit (C CB CT : Addr) : Sp := fun vs H Q E => ∃ p dx x t ls, vs = [.ref p, x, .str (S ls)] ∧ H p = some (.ins C dx []) ∧ Sh H x t ∧ ls.length ≤ 1000 ∧ ls.Nodup ∧ cnt t ≤ 900 ∧
  ((∃ q, fst ls [] t = some q ∧ ∀ d H', RsB p H H' d "path" (pD q) → E (.ref CB) (some d) H') ∨
   (fst ls [] t = none ∧ 60 < cnt t ∧ ∀ d H', RsC p H H' d (tmF "parts" (cnt t : Nat) 60) → E (.ref CT) (some d) H') ∨
   (fst ls [] t = none ∧ cnt t ≤ 60 ∧ ∃ rs : List Row, rws t = rs.map txs ∧ NN rs ≤ 60 ∧ (∀ its ∈ rs, ∀ it ∈ its, it.length ≤ 100) ∧ ∀ H', ButI p H H' → IsR C H' p ls rs → Q .non H'))
theorem RF.first {ls : List Nat} {N Tk En : Addr} : RF (putF "ends" (.ref En) (putF "start" (.int 0) (putF "takes" (.ref Tk) (putF "stars" (.int 0) (putF "nodes" (.ref N) (putF "letters" (.str (S ls)) [])))))) ls N 0 Tk 0 En := by
  refine ⟨?_, ?_, ?_, ?_, ?_, ?_, fun x h => ?_, ?_⟩
  · rw [lookup_putF, if_neg (by decide +kernel), lookup_putF, if_neg (by decide +kernel), lookup_putF, if_neg (by decide +kernel), lookup_putF, if_neg (by decide +kernel), lookup_putF, if_neg (by decide +kernel), lookup_putF, if_pos rfl]
  · rw [lookup_putF, if_neg (by decide +kernel), lookup_putF, if_neg (by decide +kernel), lookup_putF, if_neg (by decide +kernel), lookup_putF, if_neg (by decide +kernel), lookup_putF, if_pos rfl]
  · rw [lookup_putF, if_neg (by decide +kernel), lookup_putF, if_neg (by decide +kernel), lookup_putF, if_neg (by decide +kernel), lookup_putF, if_pos rfl]
    rfl
  · rw [lookup_putF, if_neg (by decide +kernel), lookup_putF, if_neg (by decide +kernel), lookup_putF, if_pos rfl]
  · rw [lookup_putF, if_neg (by decide +kernel), lookup_putF, if_pos rfl]
    rfl
  · rw [lookup_putF, if_pos rfl]
  · simp only [List.mem_cons, List.not_mem_nil, not_or] at h
    obtain ⟨h1, h2, h3, h4, h5, h6, _⟩ := h
    rw [lookup_putF, if_neg h6, lookup_putF, if_neg h5, lookup_putF, if_neg h4, lookup_putF, if_neg h3, lookup_putF, if_neg h2, lookup_putF, if_neg h1]
    rfl
  · exact Nat.le_refl 6
theorem Nds.ins {H H' : Hp} {C p dx : Addr} {fs : List (Str × V)} {nv : List V} {ad : List Addr} {ns : List N5} (h : Nds H nv ad ns) (hp : H p = some (.ins C dx fs)) (u : ButI p H H') : Nds H' nv ad ns :=
  h.at2 (fun a xs z => u _ _ (ne_of z hp fun y => nomatch y) z) fun a _ xs z => u _ _ (ne_of z hp fun y => nomatch y) z
theorem Nds.lst {H : Hp} {nv : List V} {ad : List Addr} {ns : List N5} (h : Nds H nv ad ns) {a : Addr} (ha : a ∈ ad) : ∃ xs, H a = some (.lst xs) := by
  obtain ⟨i, hi⟩ := List.getElem?_of_mem ha
  have li := (List.getElem?_eq_some_iff.mp hi).1
  obtain ⟨v, hv⟩ : ∃ v, nv[i]? = some v := ⟨_, List.getElem?_eq_getElem (by have := h.l1; have := h.l2; omega)⟩
  obtain ⟨n, hn⟩ : ∃ n, ns[i]? = some n := ⟨_, List.getElem?_eq_getElem (by have := h.l2; omega)⟩
  have := h.at_ i v a n hv hi hn
  cases n with
  | row its => obtain ⟨_, _, _, z⟩ := this; exact ⟨_, z⟩
  | nd k ps => obtain ⟨_, _, _, z⟩ := this; exact ⟨_, z⟩
theorem slots_snoc (ra : List Row) (r : Row) : slots (ra ++ [r]) = slots ra ++ (r.map some ++ [none]) := by
  unfold slots
  rw [List.flatMap_append]
  simp [rSl]
theorem NN_snoc (ra : List Row) (r : Row) : NN (ra ++ [r]) = NN ra + (r.length + 1) := by
  unfold NN
  rw [slots_snoc]
  simp
theorem S0_snoc (ra : List Row) (r : Row) : S0 (ra ++ [r]) = S0 ra ||| 2 ^ NN ra := by
  unfold S0
  rw [List.flatMap_append, show [r].flatMap flg = true :: r.map fun _ => false by simp [flg]]
  refine Nat.eq_of_testBit_eq fun i => ?_
  rw [Nat.testBit_or, testBit_one, tb_mskL, tb_mskL, bitL_app, flgs_len]
  by_cases c : i < NN ra
  · rw [if_pos c, decide_eq_false (by omega), Bool.or_false]
  · rw [if_neg c, bitL_out (l := ra.flatMap flg) (by rw [flgs_len]; omega), Bool.false_or]
    cases e : i - NN ra with
    | zero => rw [decide_eq_true (show i = NN ra by omega)]; rfl
    | succ k =>
      rw [decide_eq_false (show ¬ i = NN ra by omega)]
      show (((r.map fun _ => false)[k]?).map id).getD false = false
      rw [List.getElem?_map]
      cases r[k]? <;> rfl
/-- lists and tuples stay -/
structure TL (H H' : Hp) : Prop where
  l : ∀ a xs, H a = some (.lst xs) → H' a = some (.lst xs)
  t : ∀ a xs, H a = some (.tup xs) → H' a = some (.tup xs)
theorem TL.but {H H' : Hp} {C p dx : Addr} {fs : List (Str × V)} (hp : H p = some (.ins C dx fs)) (u : ButI p H H') : TL H H' := ⟨fun a xs z => u _ _ (ne_of z hp fun y => nomatch y) z, fun a xs z => u _ _ (ne_of z hp fun y => nomatch y) z⟩
theorem Kn.tl {H H' : Hp} {v : V} (k : Kn H v) (e : TL H H') : Kn H' v := by
  cases k with
  | non => exact .non
  | bl b => exact .bl b
  | int i => exact .int i
  | str x => exact .str x
  | lst h => exact .lst (e.l _ _ h)
  | tup h => exact .tup (e.t _ _ h)
theorem isT_tl {H H' : Hp} {v : V} (k : Kn H v) (e : TL H H') : isT H' v = isT H v := by
  cases k with
  | lst h => rw [isT_lst h, isT_lst (e.l _ _ h)]
  | tup h => rw [isT_tup h, isT_tup (e.t _ _ h)]
  | _ => rfl
theorem KnT.tl {H H' : Hp} {v : V} (k : KnT H v) (e : TL H H') : KnT H' v := by
  refine ⟨k.1.tl e, fun a xs ev h x hx => ?_⟩
  subst ev
  cases k.1 with
  | lst h2 => rw [e.l _ _ h2] at h; cases h
  | @tup _ ys h2 =>
    rw [e.t _ _ h2] at h
    cases h
    exact (k.2 a _ rfl h2 x hx).tl e
theorem prB_tl {H H' : Hp} {v : V} (k : KnT H v) (e : TL H H') : prB H' v = prB H v := by
  have k1 := k.1
  cases k1 with
  | lst h => rw [prB_no (isT_lst h), prB_no (isT_lst (e.l _ _ h))]
  | @tup a xs h =>
    rw [prB_tup h, prB_tup (e.t _ _ h)]
    cases xs with
    | nil => rfl
    | cons x r =>
      cases x with
      | str x =>
        show prL H' x r = prL H x r
        unfold prL
        have : hdT H' r = hdT H r := by
          cases r with
          | nil => rfl
          | cons y r => exact isT_tl (k.2 a _ rfl h y (by simp)) e
        rw [this]
      | _ => rfl
  | _ => rfl
mutual
theorem Sh.tl {H H' : Hp} (e : TL H H') : ∀ (t : T5) (v : V), Sh H v t → Sh H' v t
  | .row its, _, .row h1 h2 l k => .row (e.t _ _ h1) (e.t _ _ h2) l fun v hv => ⟨(k v hv).1.tl e, (k v hv).2⟩
  | .nd k ks, _, .nd h hk s n l => .nd (e.t _ _ h) hk (ShL.tl e ks _ s) n l
  | .odd v, _, .odd h n => .odd (h.tl e) (by rw [prB_tl h e]; exact n)
theorem ShL.tl {H H' : Hp} (e : TL H H') : ∀ (ts : List T5) (vs : List V), ShL H vs ts → ShL H' vs ts
  | [], _, .nil => .nil
  | t :: ts, _, .cons h r => .cons (Sh.tl e t _ h) (ShL.tl e ts _ r)
end
theorem NN_app (a b : List Row) : NN (a ++ b) = NN a + NN b := by
  unfold NN slots
  rw [List.flatMap_append, List.length_append]
theorem drop_get {α : Type} {l : List α} {i : Nat} {a : α} (h : l[i]? = some a) : l.drop i = a :: l.drop (i + 1) := by
  obtain ⟨lt, e⟩ := List.getElem?_eq_some_iff.mp h
  rw [List.drop_eq_getElem_cons lt, e]
theorem txs_injV {its : List V} {r : Row} (h : its = txs r) : its = txs r := h
theorem S0_lt (rs : List Row) : S0 rs < 2 ^ (NN rs + 1) := by
  refine Nat.lt_of_lt_of_le (mskL_lt _ _) ?_
  rw [flgs_len]
  exact Nat.pow_le_pow_right (by decide) (Nat.le_succ _)
def stA (ra : List Row) (r : Row) : Nat := mskL stO (slots ra ++ r.map some)
def tkA (ra : List Row) (r : Row) (c : Nat) : Nat := mskL (tkO c) (slots ra ++ r.map some)
theorem stA_nil (ra : List Row) : stA ra [] = ST ra := by unfold stA ST; simp
theorem tkA_nil (ra : List Row) (c : Nat) : tkA ra [] c = TK ra c := by unfold tkA TK; simp
theorem stA_snoc (ra : List Row) (r : Row) (it : List Nat) : stA ra (r ++ [it]) = if isStar it = true then stA ra r ||| 2 ^ (NN ra + r.length) else stA ra r := by
  unfold stA
  rw [List.map_append, ← List.append_assoc, show [it].map some = [some it] from rfl, mskL_snoc, List.length_append, List.length_map]
  rfl
theorem tkA_snoc (ra : List Row) (r : Row) (it : List Nat) (c : Nat) : tkA ra (r ++ [it]) c = if isTk it c = true then tkA ra r c ||| 2 ^ (NN ra + r.length) else tkA ra r c := by
  unfold tkA
  rw [List.map_append, ← List.append_assoc, show [it].map some = [some it] from rfl, mskL_snoc, List.length_append, List.length_map]
  rfl
theorem stA_end (ra : List Row) (r : Row) : stA ra r = ST (ra ++ [r]) := by
  unfold stA ST
  rw [slots_snoc, ← List.append_assoc, mskL_snoc, if_neg (by simp [stO])]
theorem tkA_end (ra : List Row) (r : Row) (c : Nat) : tkA ra r c = TK (ra ++ [r]) c := by
  unfold tkA TK
  rw [slots_snoc, ← List.append_assoc, mskL_snoc, if_neg (by simp [tkO])]
section
variable {P : Program} {w : World} {K : PySem.W.Frag} {mg : Str → Option Value} {base : Heap}
abbrev NRI : List Str := ["self", "shape", "letters", "place", "node", "kind", "items", "item", "_"]
theorem scRInit : FnScope NRI ["self", "shape", "letters"] (defScope sRInit) := ⟨rfl, rfl, rfl, by decide +kernel, rfl, by decide +kernel, by decide +kernel⟩
theorem ok_rinit {f C CB CT : Addr} {fd : FuncData} (F : Fun K "__init__" "Readings.__init__" sRInit f fd) (B : Bi mg) (T : TxR K C) (cN : Cal (L2.CX P w) P w K mg base 5 "nodes_of" (spNodes CB CT)) (mL : Met CX0 P w K mg base 1 C "lay_item" (spLay C)) (mP : Met CX0 P w K mg base 1 C "passed" (spPassed C)) : FnOk P w K mg base (L2.CX P w) 6 f fd ["self", "shape", "letters"] (spRInit C CB CT) := by
  refine F.okX scRInit (fun vs H Q E h => ?_) (fun cdv A outer s H vs Q E hr h => ?_)
  · obtain ⟨p, dx, x, t, ls, rfl, _⟩ := h
    rfl
  · obtain ⟨p, dx, x, t, ls, rfl, hp, sh, ll, nd, c900, out⟩ := h
    refine ⟨_, pss_cons (ps_fld (pv 0) (pv 2) rfl)
      (pss_cons (ps_fld (pv 0) (pe_c cN hr (passes_call (takes_of rfl rfl rfl rfl) fun _ _ _ _ h => h) (pa_cons (pv 1) (pa_cons (pv 2) pa_nil))) rfl)
      (pss_cons (ps_fld (pv 0) pe_int rfl)
      (pss_cons (ps_fld (pv 0) (pe_lc (own := [("_", 8)]) rfl scRInit.nd (pi_str (pv 2)) (blkOk_by (N := NRI) (sc := defScope sRInit) (by decide +kernel))
          (fun _ _ _ _ _ => pg_name (i := 8) scRInit.nd rfl (Or.inl rfl)) (fun _ _ _ _ _ => pts_nil) (fun _ _ _ _ _ => pe_int)) rfl)
      (pss_cons (ps_fld (pv 0) pe_int rfl)
      (pss_cons (ps_fld (pv 0) pe_dnewK rfl)
      (pss_cons (ps_set (i := 3) scRInit.nd rfl (Or.inl rfl) pe_int)
      (pss_cons (ps_for (passes_of rfl) rfl (pi_en B.enum (pa_cons (pe_fld (pv 0) rfl) pa_nil)) (pg_tup rfl (pgs_cons (pg_name (i := 4) scRInit.nd rfl (.inl rfl)) (pgs_cons (pg_tup rfl (pgs_cons (pg_name (i := 5) scRInit.nd rfl (.inl rfl)) (pgs_cons (pg_name (i := 6) scRInit.nd rfl (.inl rfl)) pgs_nil))) pgs_nil)))
        (pss_one (ps_if (pt_cmpR op_eq (pv 5) pe_str (nomark _))
          (pss_cons (ps_fldaug (pv 0) (pe_op op_shlS pe_int (pv 3)) ip_orS)
          (pss_cons (ps_for (passes_of rfl) rfl (pi_sqA (pv 6)) (pg_name (i := 7) scRInit.nd rfl (.inl rfl))
            (pss_cons (ps_expr (pe_mt mL hr pass0 (pv 0) (pa_cons (pv 7) (pa_cons (pe_op op_shlS pe_int (pv 3)) pa_nil))))
            (pss_one (ps_aug (i := 3) scRInit.nd rfl (Or.inl rfl) pe_int ip_add (.inl rfl)))))
          (pss_cons (ps_dput (hu_of hr) (pe_fld (pv 0) rfl) (pv 4) (pe_op op_shlS pe_int (pv 3)) rfl)
          (pss_one (ps_aug (i := 3) scRInit.nd rfl (Or.inl rfl) pe_int ip_add (.inl rfl)))))) pss_nil)))
      (pss_one (ps_fld (pv 0) (pe_mt mP hr pass0 (pv 0) (pa_cons (pe_fld (pv 0) rfl) pa_nil)) rfl))))))))), ?_⟩
    -- letters
    refine ⟨_, rfl, _, rfl, p, C, dx, [], rfl, hp, T.cl, T.l, by decide, ?_⟩
    have b1 : ButI p H (upd H p (.ins C dx (putF "letters" (.str (S ls)) []))) := fun b o n z => (upd_ne n).trans z
    have hp1 : upd H p (.ins C dx (putF "letters" (.str (S ls)) [])) p = some (.ins C dx (putF "letters" (.str (S ls)) [])) := upd_same
    have sh1 : Sh (upd H p (.ins C dx (putF "letters" (.str (S ls)) []))) x t := Sh.tl (TL.but hp b1) _ _ sh
    have back : ∀ {d}, upd H p (.ins C dx (putF "letters" (.str (S ls)) [])) d = none → H d = none := fun {d} z => by
      cases e : H d with
      | none => rfl
      | some o =>
        by_cases c : d = p
        · rw [c] at z
          rw [hp1] at z
          cases z
        · rw [b1 _ _ c e] at z
          cases z
    generalize upd H p (.ins C dx (putF "letters" (.str (S ls)) [])) = H1 at b1 hp1 sh1 back ⊢
    refine ⟨_, rfl, _, rfl, x, t, ls, rfl, sh1, ll, c900, ?_⟩
    rcases out with ⟨q, h, out⟩ | ⟨h, h2, out⟩ | ⟨h, h2, rs, er, n60, l100, out⟩
    · exact .inl ⟨q, h, fun d H' r => out d H' ⟨back r.new, fun b o n z => r.same _ _ (b1 b o n z), r.at_⟩⟩
    · exact .inr (.inl ⟨h, h2, fun d H' r => out d H' ⟨back r.new, fun b o n z => r.same _ _ (b1 b o n z), r.at_⟩⟩)
    refine .inr (.inr ⟨h, h2, fun N nv ad ns H2 e2 hN2 nds2 goes enr ln np nfr nad => ?_⟩)
    clear back
    have hp2 := e2 _ _ hp1
    have b2 : ButI p H H2 := fun b o n z => e2 _ _ (b1 b o n z)
    refine ⟨_, rfl, p, C, dx, _, rfl, hp2, T.cl, T.n, by show 1 < 1000; decide, ?_⟩
    have u3 : ButI p H2 (upd H2 p (.ins C dx (putF "nodes" (.ref N) (putF "letters" (.str (S ls)) [])))) := fun b o n z => (upd_ne n).trans z
    have hp3 : upd H2 p (.ins C dx (putF "nodes" (.ref N) (putF "letters" (.str (S ls)) []))) p = some (.ins C dx (putF "nodes" (.ref N) (putF "letters" (.str (S ls)) []))) := upd_same
    generalize upd H2 p (.ins C dx (putF "nodes" (.ref N) (putF "letters" (.str (S ls)) []))) = H3 at u3 hp3 ⊢
    have npN : N ≠ p := ne_of hN2 hp2 fun z => nomatch z
    have b3 : ButI p H H3 := fun b o n z => u3 b o n (b2 b o n z)
    have hN3 := u3 _ _ npN hN2
    have nds3 := nds2.ins hp2 u3
    clear b1 hp1 e2 b2 hp2 hN2 nds2 u3 sh1 nfr
    -- stars
    refine ⟨_, rfl, p, C, dx, _, rfl, hp3, T.cl, T.s, by show 2 < 1000; decide, ?_⟩
    have u4 : ButI p H3 (upd H3 p (.ins C dx (putF "stars" (.int 0) (putF "nodes" (.ref N) (putF "letters" (.str (S ls)) []))))) := fun b o n z => (upd_ne n).trans z
    have hp4 : upd H3 p (.ins C dx (putF "stars" (.int 0) (putF "nodes" (.ref N) (putF "letters" (.str (S ls)) [])))) p = some (.ins C dx (putF "stars" (.int 0) (putF "nodes" (.ref N) (putF "letters" (.str (S ls)) [])))) := upd_same
    generalize upd H3 p (.ins C dx (putF "stars" (.int 0) (putF "nodes" (.ref N) (putF "letters" (.str (S ls)) [])))) = H4 at u4 hp4 ⊢
    have b4 : ButI p H H4 := fun b o n z => u4 b o n (b3 b o n z)
    have hN4 := u4 _ _ npN hN3
    have nds4 := nds3.ins hp3 u4
    clear b3 hp3 hN3 nds3 u4
    -- takes
    refine ⟨_, rfl, _, rfl, fun Tk nTk => lcS (fun _ => .int 0) (by rw [S_size]; omega) nTk (fun c H1 Q N hc e q => ⟨rfl, yesT q⟩) fun H5 e5 hTk5 => ?_⟩
    have hp5 := e5 _ _ hp4
    have nTo : ∀ b o, H4 b = some o → b ≠ Tk := fun b o z => ne_of_none z nTk
    refine ⟨_, rfl, p, C, dx, _, rfl, hp5, T.cl, T.t, by show 3 < 1000; decide, ?_⟩
    have npT : Tk ≠ p := ne_of hTk5 hp5 fun z => nomatch z
    have u6 : ButI p H5 (upd H5 p (.ins C dx (putF "takes" (.ref Tk) (putF "stars" (.int 0) (putF "nodes" (.ref N) (putF "letters" (.str (S ls)) [])))))) := fun b o n z => (upd_ne n).trans z
    have hp6 : upd H5 p (.ins C dx (putF "takes" (.ref Tk) (putF "stars" (.int 0) (putF "nodes" (.ref N) (putF "letters" (.str (S ls)) []))))) p = some (.ins C dx (putF "takes" (.ref Tk) (putF "stars" (.int 0) (putF "nodes" (.ref N) (putF "letters" (.str (S ls)) []))))) := upd_same
    generalize upd H5 p (.ins C dx (putF "takes" (.ref Tk) (putF "stars" (.int 0) (putF "nodes" (.ref N) (putF "letters" (.str (S ls)) []))))) = H6 at u6 hp6 ⊢
    have b6 : ButI p H H6 := fun b o n z => u6 b o n (e5 _ _ (b4 b o n z))
    have hN6 := u6 _ _ npN (e5 _ _ hN4)
    have nds5 : Nds H5 nv ad ns := nds4.at2 (fun a xs z => e5 _ _ z) fun a _ xs z => e5 _ _ z
    have nds6 := nds5.ins hp5 u6
    have hTk6 := u6 _ _ npT hTk5
    have nTN := nTo _ _ hN4
    have nTa : ∀ a ∈ ad, a ≠ Tk := fun a ha => let ⟨_, z⟩ := nds4.lst ha; nTo _ _ z
    have nTb : ∀ b o, b ≠ p → H b = some o → b ≠ Tk := fun b o n z => nTo _ _ (b4 b o n z)
    clear b4 hp4 hN4 nds4 e5 hp5 hTk5 u6 nTk nTo nds5
    -- start
    refine ⟨_, rfl, p, C, dx, _, rfl, hp6, T.cl, T.a, by show 4 < 1000; decide, ?_⟩
    have u7 : ButI p H6 (upd H6 p (.ins C dx (putF "start" (.int 0) (putF "takes" (.ref Tk) (putF "stars" (.int 0) (putF "nodes" (.ref N) (putF "letters" (.str (S ls)) []))))))) := fun b o n z => (upd_ne n).trans z
    have hp7 : upd H6 p (.ins C dx (putF "start" (.int 0) (putF "takes" (.ref Tk) (putF "stars" (.int 0) (putF "nodes" (.ref N) (putF "letters" (.str (S ls)) [])))))) p = some (.ins C dx (putF "start" (.int 0) (putF "takes" (.ref Tk) (putF "stars" (.int 0) (putF "nodes" (.ref N) (putF "letters" (.str (S ls)) [])))))) := upd_same
    generalize upd H6 p (.ins C dx (putF "start" (.int 0) (putF "takes" (.ref Tk) (putF "stars" (.int 0) (putF "nodes" (.ref N) (putF "letters" (.str (S ls)) [])))))) = H7 at u7 hp7 ⊢
    have hN7 := u7 _ _ npN hN6
    have nds7 := nds6.ins hp6 u7
    have hTk7 := u7 _ _ npT hTk6
    have b7 : ButI p H H7 := fun b o n z => u7 b o n (b6 b o n z)
    clear b6 hp6 hN6 nds6 u7 hTk6
    -- ends
    refine fun En nEn => ?_
    have e8 := same_new (o := .dK []) nEn
    have hEn8 : upd H7 En (.dK []) En = some (.dK []) := upd_same
    have npE : En ≠ p := (ne_of_none hp7 nEn).symm
    have nEo : ∀ b o, H7 b = some o → b ≠ En := fun b o z => ne_of_none z nEn
    generalize upd H7 En (.dK []) = H8 at e8 hEn8 ⊢
    have hp8 := e8 _ _ hp7
    have nds8 : Nds H8 nv ad ns := nds7.at2 (fun a xs z => e8 _ _ z) fun a _ xs z => e8 _ _ z
    refine ⟨_, rfl, p, C, dx, _, rfl, hp8, T.cl, T.e, by show 5 < 1000; decide, ?_⟩
    have u9 : ButI p H8 (upd H8 p (.ins C dx (putF "ends" (.ref En) (putF "start" (.int 0) (putF "takes" (.ref Tk) (putF "stars" (.int 0) (putF "nodes" (.ref N) (putF "letters" (.str (S ls)) [])))))))) := fun b o n z => (upd_ne n).trans z
    have hp9 : upd H8 p (.ins C dx (putF "ends" (.ref En) (putF "start" (.int 0) (putF "takes" (.ref Tk) (putF "stars" (.int 0) (putF "nodes" (.ref N) (putF "letters" (.str (S ls)) []))))))) p = some (.ins C dx (putF "ends" (.ref En) (putF "start" (.int 0) (putF "takes" (.ref Tk) (putF "stars" (.int 0) (putF "nodes" (.ref N) (putF "letters" (.str (S ls)) []))))))) := upd_same
    generalize upd H8 p (.ins C dx (putF "ends" (.ref En) (putF "start" (.int 0) (putF "takes" (.ref Tk) (putF "stars" (.int 0) (putF "nodes" (.ref N) (putF "letters" (.str (S ls)) []))))))) = H9 at u9 hp9 ⊢
    have rf9 : RF (putF "ends" (.ref En) (putF "start" (.int 0) (putF "takes" (.ref Tk) (putF "stars" (.int 0) (putF "nodes" (.ref N) (putF "letters" (.str (S ls)) [])))))) ls N 0 Tk 0 En := RF.first
    generalize putF "ends" (.ref En) (putF "start" (.int 0) (putF "takes" (.ref Tk) (putF "stars" (.int 0) (putF "nodes" (.ref N) (putF "letters" (.str (S ls)) [])))))  = fs9 at hp9 rf9
    have b9 : ButI p H H9 := fun b o n z => u9 b o n (e8 _ _ (b7 b o n z))
    have hN9 := u9 _ _ npN (e8 _ _ hN7)
    have nds9 := nds8.ins hp8 u9
    have hTk9 := u9 _ _ npT (e8 _ _ hTk7)
    have hEn9 := u9 _ _ npE hEn8
    have nEN := nEo _ _ hN7
    have nET := nEo _ _ hTk7
    have nEa : ∀ a ∈ ad, a ≠ En := fun a ha => let ⟨_, z⟩ := nds7.lst ha; nEo _ _ z
    have nEb : ∀ b o, b ≠ p → H b = some o → b ≠ En := fun b o n z => nEo _ _ (b7 b o n z)
    clear b7 hN7 nds7 hTk7 hp7 nEo nEn e8 hp8 u9 hEn8 nds8
    rw [S_list] at hTk9
    dsimp only [gName, tSeq, tAsg, tC]
    refine ⟨_, rfl, p, C, dx, _, _, rfl, hp9, T.cl, T.n, rf9.n, N, _, rfl, .inl (SqL.of hN9), fun J G wk hG => for_it wk (fun i σ H' => ∃ (ra rb : List Row) (kvs : List (Key × V)) (x4 x5 x6 x7 x8 : Option V), σ = [some (.ref p), some x, some (.str (S ls)), some (.int ((NN ra : Nat) : Int)), x4, x5, x6, x7, x8] ∧ rs = ra ++ rb ∧ nodR (ns.drop i) = rb.map txs ∧ ButI p H H' ∧ IsRp C H' p ls N (ST ra) Tk (TK ra) (S0 ra) En ∧ H' N = some (.lst nv) ∧ Nds H' nv ad ns ∧ H' En = some (.dK kvs) ∧ kvs.length ≤ i ∧ ∀ (k : Nat) its, k < i → ns[k]? = some (.row its) → ∃ n : Nat, valV kvs (.inl ((k : Nat) : Int)) = some (.int ((n : Nat) : Int)))
      ⟨[], rs, [], none, none, none, none, none, rfl, rfl, by rw [List.drop_zero, enr, er], b9, ⟨dx, _, hp9, rf9, hTk9⟩, hN9, nds9, hEn9, Nat.le_refl _, fun k its h => absurd h (Nat.not_lt_zero _)⟩ (fun i σ H' _ h => hG H' fun o z => ?_) ?_ ?_⟩
    · rw [hN9] at z
      cases z
      obtain ⟨_, _, _, _, _, _, _, _, _, _, _, _, _, h, _⟩ := h
      exact h
    · rintro i y σ H10 H11 hi ⟨ra, rb, kvs, x4, x5, x6, x7, x8, rfl, ers, edr, b10, R10, hN10, nds10, hEn10, lk, gk⟩ ⟨T0, y', v, rfl, nT0, rfl, ey, hv⟩
      cases ey
      have hv : nv[i]? = some v := hv
      have lnv := nds10.l1
      have lad := nds10.l2
      obtain ⟨l, hl⟩ : ∃ l, ad[i]? = some l := ⟨_, List.getElem?_eq_getElem (by omega)⟩
      obtain ⟨n, hn⟩ : ∃ n, ns[i]? = some n := ⟨_, List.getElem?_eq_getElem (by omega)⟩
      have ml := List.mem_of_getElem? hl
      have nda := nds10.at_ i v l n hv hl hn
      rw [drop_get hn] at edr
      have e11 := same_new (o := .tup [.int ((i : Nat) : Int), v]) nT0
      have ht11 : upd H10 T0 (.tup [.int ((i : Nat) : Int), v]) T0 = some (.tup [.int ((i : Nat) : Int), v]) := upd_same
      show gTup _ _ _ (.ref T0) _ (upd H10 T0 (.tup [.int ((i : Nat) : Int), v])) _
      generalize upd H10 T0 (.tup [.int ((i : Nat) : Int), v]) = H11 at e11 ht11 ⊢
      have b11 : ButI p H H11 := fun b o n z => e11 _ _ (b10 b o n z)
      obtain ⟨dx1, fs1, hp1, rf1, hTk1⟩ := R10
      have hp11 := e11 _ _ hp1
      have hTk11 := e11 _ _ hTk1
      have hN11 := e11 _ _ hN10
      have hEn11 := e11 _ _ hEn10
      have nds11 : Nds H11 nv ad ns := nds10.at2 (fun a xs z => e11 _ _ z) fun a _ xs z => e11 _ _ z
      refine ⟨T0, _, rfl, SqT.of ht11, rfl, _, _, rfl, _, _, rfl, ?_⟩
      cases n with
      | nd k ps =>
        obtain ⟨n, rfl, h1, h2⟩ := nda
        refine ⟨n, _, rfl, SqT.of (e11 _ _ h1), rfl, _, _, rfl, _, _, rfl, rfl, rfl, ?_⟩
        refine ⟨_, rfl, rfl, _, rfl, ?_⟩
        rw [decide_eq_false (show ¬ V.str (kn k) = V.str "row" from fun z => kn_row k (V.str.inj z))]
        refine iteF ⟨ra, rb, kvs, _, _, _, _, _, rfl, ers, edr, b11, ⟨dx1, fs1, hp11, rf1, hTk11⟩, hN11, nds11, hEn11, by omega, fun k' its hk h => ?_⟩
        by_cases c : k' = i
        · subst c
          rw [hn] at h
          cases h
        · exact gk k' its (by omega) h
      | row its =>
        obtain ⟨n, rfl, h1, h2⟩ := nda
        cases rb with
        | nil => cases edr
        | cons r0 rb =>
        obtain ⟨eit, edr2⟩ := List.cons.inj edr
        subst eit
        have h2 : H10 l = some (.lst (txs r0)) := h2
        have hl11 := e11 _ _ h2
        have n2 : NN ra + (r0.length + 1) + NN rb ≤ 60 := by
          rw [ers, NN_app, NN_cons] at n60
          omega
        refine ⟨n, _, rfl, SqT.of (e11 _ _ h1), rfl, _, _, rfl, _, _, rfl, rfl, rfl, ?_⟩
        refine ⟨_, rfl, rfl, _, rfl, ?_⟩
        rw [decide_eq_true rfl]
        refine iteT ⟨_, rfl, p, C, dx1, fs1, _, rfl, hp11, T.cl, T.a, rf1.a, _, rfl, 1, NN ra, rfl, rfl, by decide, by omega, S0 ra, 1 * 2 ^ NN ra, rfl, rfl, dx1, fs1, hp11, by have := rf1.len; omega, ?_⟩
        dsimp only
        rw [Nat.one_mul, ← S0_snoc ra r0]
        have rf12 := rf1.start (S0 (ra ++ [r0]))
        have hp12 : upd H11 p (.ins C dx1 (putF "start" (.int ((S0 (ra ++ [r0]) : Nat) : Int)) fs1)) p = some (.ins C dx1 (putF "start" (.int ((S0 (ra ++ [r0]) : Nat) : Int)) fs1)) := upd_same
        have u12 : ButI p H11 (upd H11 p (.ins C dx1 (putF "start" (.int ((S0 (ra ++ [r0]) : Nat) : Int)) fs1))) := fun b o n z => (upd_ne n).trans z
        generalize upd H11 p (.ins C dx1 (putF "start" (.int ((S0 (ra ++ [r0]) : Nat) : Int)) fs1)) = H12 at hp12 u12 ⊢
        generalize putF "start" (.int ((S0 (ra ++ [r0]) : Nat) : Int)) fs1 = fs12 at rf12 hp12
        have b12 : ButI p H H12 := fun b o n z => u12 b o n (b11 b o n z)
        have hN12 := u12 _ _ npN hN11
        have hl12 := u12 _ _ (ne_of hl11 hp11 fun z => nomatch z) hl11
        have hTk12 := u12 _ _ npT hTk11
        have hEn12 := u12 _ _ npE hEn11
        have nds12 := nds11.ins hp11 u12
        have npl : l ≠ p := ne_of hl11 hp11 fun z => nomatch z
        clear u12 e11 ht11 hp11 hp1 hTk1 rf1 hTk11 hN11 hEn11 nds11 hl11 nds10 hN10 hEn10 h1 h2 b10 b11
        have eTk : (fun c => V.int ((TK ra c : Nat) : Int)) = fun c => V.int ((tkA ra (r0.take 0) c : Nat) : Int) := funext fun c => by rw [List.take_zero, tkA_nil]
        rw [eTk] at hTk12
        refine ⟨_, rfl, l, _, rfl, .inl (SqL.of hl12), fun J2 G2 wk2 hG2 => for_it wk2 (fun j σ H' => ∃ (x7 : Option V), σ = [some (.ref p), some x, some (.str (S ls)), some (.int ((NN ra + j : Nat) : Int)), some (.int ((i : Nat) : Int)), some (.str "row"), some (.ref l), x7, x8] ∧ ButI p H H' ∧ IsRp C H' p ls N (stA ra (r0.take j)) Tk (tkA ra (r0.take j)) (S0 (ra ++ [r0])) En ∧ H' N = some (.lst nv) ∧ Nds H' nv ad ns ∧ H' l = some (.lst (txs r0)) ∧ H' En = some (.dK kvs))
          ⟨_, rfl, b12, ⟨dx1, fs12, hp12, by rw [List.take_zero, stA_nil]; exact rf12, hTk12⟩, hN12, nds12, hl12, hEn12⟩ (fun j σ H' _ ⟨_, _, _, _, _, _, h, _⟩ => hG2 H' fun o z => by
            rw [hl12] at z
            cases z
            exact h) ?_ ?_⟩
        · rintro j y σ H13 H14 hj ⟨x7, rfl, b13, R13, hN13, nds13, hl13, hEn13⟩ ⟨rfl, hx⟩
          have hj2 : j < r0.length := by rwa [strs_len] at hj
          have ej := List.getElem?_eq_getElem hj2
          have hx : (r0.map fun w => V.str (S w))[j]? = some y := hx
          rw [List.getElem?_map, ej] at hx
          cases hx
          obtain ⟨dx', fs', hp', rf', hTk'⟩ := id R13
          have o2 := l100 r0 (by rw [ers]; simp) r0[j] (List.getElem_mem hj2)
          refine ⟨_, rfl, p, dx', fs', rfl, hp', rf'.no _ (by decide +kernel), _, rfl, _, rfl, 1, NN ra + j, rfl, rfl, by decide, by omega, ?_⟩
          rw [Nat.one_mul]
          refine ⟨p, r0[j], NN ra + j, ls, N, _, Tk, _, S0 (ra ++ [r0]), En, rfl, R13, ll, o2, nd, fun H15 bt15 R15 => ?_⟩
          have tk : r0.take (j + 1) = r0.take j ++ [r0[j]] := by rw [List.take_add_one, ej]; rfl
          have lt : (r0.take j).length = j := by rw [List.length_take]; omega
          have eS : (if isStar r0[j] = true then stA ra (r0.take j) ||| 2 ^ (NN ra + j) else stA ra (r0.take j)) = stA ra (r0.take (j + 1)) := by rw [tk, stA_snoc, lt]
          have eT : (fun c => if isTk r0[j] c = true then tkA ra (r0.take j) c ||| 2 ^ (NN ra + j) else tkA ra (r0.take j) c) = tkA ra (r0.take (j + 1)) := funext fun c => by rw [tk, tkA_snoc, lt]
          rw [eS, eT] at R15
          have nds15 : Nds H15 nv ad ns := nds13.at2 (fun a xs z => bt15 _ _ (ne_of z hp' fun y => nomatch y) (ne_of z hTk' fun y => nomatch y) z) fun a ha xs z => bt15 _ _ (ne_of z hp' fun y => nomatch y) (nTa a ha) z
          exact ⟨_, rfl, _, _, rfl, rfl, some (.str (S r0[j])), rfl, fun b o n z => bt15 b o n (nTb b o n z) (b13 b o n z), R15, bt15 _ _ npN nTN hN13, nds15, bt15 _ _ npl (nTa l ml) hl13, bt15 _ _ npE nET.symm hEn13⟩
        · rintro σ H13 ⟨x7, rfl, b13, R13, hN13, nds13, hl13, hEn13⟩
          rw [strs_len] at R13 ⊢
          rw [List.take_length] at R13
          obtain ⟨dx3, fs3, hp3, rf3, hTk3⟩ := R13
          have eT : tkA ra r0 = TK (ra ++ [r0]) := funext fun c => tkA_end ra r0 c
          rw [stA_end] at rf3
          rw [eT] at hTk3
          refine ⟨_, rfl, 1, NN ra + r0.length, rfl, rfl, by decide, by omega, ?_⟩
          refine ⟨_, rfl, p, C, dx3, fs3, _, rfl, hp3, T.cl, T.e, rf3.e, _, rfl, En, _, rfl, DPut.k (k := Sum.inl ((i : Nat) : Int)) hEn13 (small10 (by omega)), ?_⟩
          have en : ((NN ra + r0.length : Nat) : Int) + 1 = ((NN (ra ++ [r0]) : Nat) : Int) := by
            rw [NN_snoc]
            omega
          have kt : ∀ zz b xs, H13 b = some (.tup xs) → upd H13 En (.dK zz) b = some (.tup xs) := fun zz b xs z => (upd_ne (ne_of z hEn13 fun w => nomatch w)).trans z
          refine ⟨_, rfl, _, _, rfl, rfl, ra ++ [r0], rb, _, some (.int ((i : Nat) : Int)), some (.str "row"), some (.ref l), x7, x8, ?_, by rw [ers, List.append_assoc]; rfl, edr2, fun b o n z => (upd_ne (nEb b o n z)).trans (b13 b o n z), ⟨dx3, fs3, (upd_ne npE.symm).trans hp3, rf3, (upd_ne nET).trans hTk3⟩, (upd_ne nEN).trans hN13, nds13.at2 (kt _) (fun a _ xs z => (upd_ne (ne_of z hEn13 fun w => nomatch w)).trans z), upd_same, ?_, fun k' its hk h => ?_⟩
          · show [_, _, _, some (V.int (((NN ra + r0.length : Nat) : Int) + 1)), _, _, _, _, _] = _
            rw [en]
          · have := length_putK kvs (.inl ((i : Nat) : Int)) (.int ((1 * 2 ^ (NN ra + r0.length) : Nat) : Int))
            omega
          · rw [valV_put]
            by_cases c : k' = i
            · subst c
              exact ⟨_, if_pos rfl⟩
            · rw [if_neg (fun z => c (by have := Sum.inl.inj z; omega))]
              exact gk k' its (by omega) h
    · rintro σ H10 ⟨ra, rb, kvs, x4, x5, x6, x7, x8, rfl, ers, edr, b10, R10, hN10, nds10, hEn10, lk, gk⟩
      have lnv := nds10.l1
      rw [lnv, List.drop_length] at edr
      have erb : rb = [] := by
        cases rb with
        | nil => rfl
        | cons r rb => cases edr
      subst erb
      rw [List.append_nil] at ers
      subst ers
      obtain ⟨dx, fs, hp10, rf, hTk10⟩ := R10
      refine ⟨_, rfl, p, dx, fs, rfl, hp10, rf.no _ (by decide +kernel), _, rfl, p, C, dx, fs, _, rfl, hp10, T.cl, T.a, rf.a, p, S0 rs, ls, N, ST rs, Tk, TK rs, S0 rs, En, NN rs, rfl, ⟨dx, fs, hp10, rf, hTk10⟩, S0_lt rs, mskL_lt _ _, n60, ?_⟩
      refine ⟨_, rfl, p, C, dx, fs, rfl, hp10, T.cl, T.a, by have := rf.len; omega, ?_⟩
      have u : ButI p H10 (upd H10 p (.ins C dx (putF "start" (.int ((SS rs : Nat) : Int)) fs))) := fun b o n z => (upd_ne n).trans z
      refine out _ (fun b o n z => (upd_ne n).trans (b10 b o n z)) ⟨N, Tk, En, dx, _, nv, ad, ns, kvs, upd_same, rf.start (SS rs), (upd_ne npT).trans hTk10, (upd_ne npN).trans hN10, nds10.ins hp10 u, goes, np, ln, (upd_ne npE).trans hEn10, fun k its h => gk k its (by have := (List.getElem?_eq_some_iff.mp h).1; omega) h⟩
end
end K05
set_option Elab.async false
set_option linter.all false
set_option maxRecDepth 100001
set_option maxHeartbeats 3999999
namespace K05
open PySem L2
section
variable {X : Cx} {o : Expr} {f : Str} {pos : Pos} {ta : TE}
/-- o.f, as a target -/
def gFld (K : PySem.W.Frag) (ta : TE) (f : Str) : TG := fun y σ H Q => ta σ H fun x H2 => ∃ a C dx fs, x = .ref a ∧ H2 a = some (.ins C dx fs) ∧ Cls K C ∧ NoAttr K C f ∧ fs.length < 1000 ∧ Q σ (upd H2 a (.ins C dx (putF f y fs)))
theorem pg_fld (ha : PE X o ta)
    (he : ∀ v, assign (.Attribute o f pos) X.env v = (do
      let ov ← holding [v] (eval o X.env)
      standAt pos.atName
      holding [v, ov] (setAttr ov f v)
      release [v, ov] []) := by intro _; rfl) : PG X (.Attribute o f pos) (gFld X.K ta f) := by
  refine ⟨fun pins s σ H v u Q I r h => ?_⟩
  rw [he]
  refine wpAny_bind (wpAny_holding (thn (ha.run pins s σ H _ I h) fun ov s1 ⟨x, H1, I1, rx, a, C, dx, fs, ex, ea, c, n, l, q⟩ => ?_))
  subst ex
  obtain rfl : ov = Value.ref a := rx
  refine wpAny_bind (wpAny_standAt (wpAny_bind (wpAny_holding (setattr_ok I1 ea c n l r fun s2 I2 => ?_))))
  exact wpAny_release ⟨σ, _, I2, q⟩
end
theorem isLs_of {ls : List Nat} (L : Lets ls) : isLs (.str (S ls)) = true := by
  show ((decide (2 ≤ (S ls).length ∧ (S ls).length ≤ 26)) && (((S ls).cps.toList.all fun c => decide (c ∈ abc)) && decide (SetAny.news (S ls) (S ls).cps.size = (S ls).cps.size))) = true
  rw [Bool.and_eq_true, Bool.and_eq_true]
  refine ⟨decide_eq_true ?_, List.all_eq_true.mpr fun c m => decide_eq_true (L.abc c m), decide_eq_true ((SetAny.news_nd (Nat.le_refl _)).mpr ?_)⟩
  · rw [S_len]
    exact ⟨L.lo, L.hi⟩
  · unfold SetAny.firsts
    rw [S_size, S_list, List.take_length]
    exact L.nd
abbrev sPInit : Stmt := inClass (topS 21) 0
def colF (ls : List Nat) (j : Nat) : Key := .inr (S [ls.getD j 0])
structure TxP (K : PySem.W.Frag) (C : Addr) : Prop where
  cl : Cls K C
  l : NoAttr K C "letters"
  s : NoAttr K C "shape"
  m : NoAttr K C "moves"
  k : NoAttr K C "kinds"
  c : NoAttr K C "_columns"
/-- a pattern that keeps its shape -/
def IsP (C : Addr) (H : Hp) (p : Addr) (x : V) : Prop := ∃ dx fs, H p = some (.ins C dx fs) ∧ fs.lookup ("shape" : Str) = some x
/-- Pattern(letters, shape): what comes of it -/
def spPInit (C CL CB CT : Addr) : Sp := fun vs H Q E => ∃ p dx x l0, vs = [.ref p, .str (S l0), x] ∧ H p = some (.ins C dx []) ∧ l0.length ≤ 200 ∧ Nch l0 ∧
  ((isLs (.str (S l0)) = false ∧ ∀ d H', RsO H H' d "letters" (.str (S l0)) → E (.ref CL) (some d) H') ∨
   (Lets l0 ∧ ∃ t, Sh H x t ∧ cnt t ≤ 900 ∧
    ((∃ q, fst l0 [] t = some q ∧ ∀ d H', RsB p H H' d "path" (pD q) → E (.ref CB) (some d) H') ∨
     (fst l0 [] t = none ∧ 60 < cnt t ∧ ∀ d H', RsC p H H' d (tmF "parts" (cnt t : Nat) 60) → E (.ref CT) (some d) H') ∨
     (fst l0 [] t = none ∧ cnt t ≤ 60 ∧ ∃ rs : List Row, rws t = rs.map txs ∧ NN rs ≤ 60 ∧ (∀ its ∈ rs, ∀ it ∈ its, it.length ≤ 100) ∧
       (((∀ sts : List Nat, SS rs ∈ sts → (∀ s ∈ sts, ∀ c ∈ l0, GG rs s c ∈ sts) → 2000 < sts.length) ∧ ∀ d H', RsC p H H' d (tmF "standings" 2001 2000) → E (.ref CT) (some d) H') ∨
        (∃ Qs, AllC rs l0 Qs ∧ Qs.length ≤ 2000 ∧ ∀ H', ButI p H H' → IsP C H' p x → Q .non H'))))))
section
variable {P : Program} {w : World} {K : PySem.W.Frag} {mg : Str → Option Value} {base : Heap}
abbrev NPI : List Str := ["self", "letters", "shape", "letter", "column"]
theorem scPInit : FnScope NPI ["self", "letters", "shape"] (defScope sPInit) := ⟨rfl, rfl, rfl, by decide +kernel, rfl, by decide +kernel, by decide +kernel⟩
theorem ok_pinit {f C CR CL CB CT : Addr} {fd : FuncData} (F : Fun K "__init__" "Pattern.__init__" sPInit f fd) (B : Bi mg) (T : TxP K C) (TR : TxR K CR) (cL : Cal CX0 P w K mg base 1 "are_letters" spLetsV)
    (xL : Xc P w K mg base 3 "BadLetters" CL (spXO K "letters")) (nL : PySem.W.findIn K (.ref CL) "letters" = some none)
    (mkR : Mak (L2.CX P w) P w K mg base 6 "Readings" CR (spRInit CR CB CT)) (mA : Met (L2.CX P w) P w K mg base 4 CR "all_moves" (spAll CR CT)) : FnOk P w K mg base (L2.CX P w) 8 f fd ["self", "letters", "shape"] (spPInit C CL CB CT) := by
  refine F.okX scPInit (fun vs H Q E h => ?_) (fun cdv A outer s H vs Q E hr h => ?_)
  · obtain ⟨p, dx, x, l0, rfl, _⟩ := h
    rfl
  · obtain ⟨p, dx, xv, ls, rfl, hp, l200, nch, out⟩ := h
    refine ⟨_, pss_cons (ps_if (pt_not (pt_val (pe_c cL hr pass0 (pa_cons (pv 1) pa_nil)))) (pss_one (ps_raise rfl (takes_of rfl rfl rfl rfl) (pmk_x xL hr (pa_cons (pv 1) pa_nil)))) pss_nil)
      (pss_cons (ps_fld (pv 0) (pv 1) rfl)
      (pss_cons (ps_fld (pv 0) (pv 2) rfl)
      (pss_cons (ps_asg (pe_mt0 mA hr (passes_call (takes_of rfl rfl rfl rfl) fun _ _ _ _ h => h) (pe_mk mkR hr (passes_call (takes_of rfl rfl rfl rfl) fun _ _ _ _ h => h) (pa_cons (pv 2) (pa_cons (pv 1) pa_nil)))) (pg_tup rfl (pgs_cons (pg_fld (pv 0)) (pgs_cons (pg_fld (pv 0)) pgs_nil))))
      (pss_one (ps_fld (pv 0) (pe_dc (own := [("column", 4), ("letter", 3)]) rfl scPInit.nd (pi_enS rfl B.enum (pa_cons (pv 1) pa_nil)) (blkOk_by (N := NPI) (sc := defScope sPInit) (by decide +kernel))
          (fun _ _ _ _ _ => pg_pairK K rfl rfl (pg_name (i := 4) scPInit.nd rfl (Or.inl rfl) (.inr rfl)) (pg_name (i := 3) scPInit.nd rfl (Or.inl rfl) (.inr rfl))) (fun _ _ _ _ _ => pts_nil) (fun _ _ _ _ _ => pv 3) (fun _ _ _ _ _ => pv 4)) rfl))))), ?_⟩
    refine ⟨_, rfl, _, rfl, .str _, (fun x e => by cases e; rw [S_len]; exact l200), fun H1 e1 => ⟨_, rfl, ?_⟩⟩
    rcases out with ⟨h, out⟩ | ⟨L, t, sh, c900, out⟩
    · rw [h]
      exact iteT ⟨_, rfl, raiseO xL.T nL (.flat (flat_S nch)) fun d H' r => out d H' (r.back e1)⟩
    rw [isLs_of L]
    have ll : ls.length ≤ 1000 := by have := L.hi; omega
    refine iteF ?_
    have hp1 := e1 _ _ hp
    refine ⟨_, rfl, _, rfl, p, C, dx, [], rfl, hp1, T.cl, T.l, by decide, ?_⟩
    have u2 : ButI p H1 (upd H1 p (.ins C dx (putF "letters" (.str (S ls)) []))) := fun b o n z => (upd_ne n).trans z
    have hp2 : upd H1 p (.ins C dx (putF "letters" (.str (S ls)) [])) p = some (.ins C dx (putF "letters" (.str (S ls)) [])) := upd_same
    generalize upd H1 p (.ins C dx (putF "letters" (.str (S ls)) [])) = H2 at u2 hp2 ⊢
    have b2 : ButI p H H2 := fun b o n z => u2 b o n (e1 _ _ z)
    refine ⟨_, rfl, _, rfl, p, C, dx, _, rfl, hp2, T.cl, T.s, by show 1 < 1000; decide, ?_⟩
    have u3 : ButI p H2 (upd H2 p (.ins C dx (putF "shape" xv (putF "letters" (.str (S ls)) [])))) := fun b o n z => (upd_ne n).trans z
    have hp3 : upd H2 p (.ins C dx (putF "shape" xv (putF "letters" (.str (S ls)) []))) p = some (.ins C dx (putF "shape" xv (putF "letters" (.str (S ls)) []))) := upd_same
    generalize upd H2 p (.ins C dx (putF "shape" xv (putF "letters" (.str (S ls)) []))) = H3 at u3 hp3 ⊢
    have b3 : ButI p H H3 := fun b o n z => u3 b o n (b2 b o n z)
    clear u2 hp2 b2 u3 hp1 e1
    have sh3 := Sh.tl (TL.but hp b3) _ _ sh
    -- the reading
    refine ⟨_, rfl, _, rfl, fun x dz nx nd ne => ?_⟩
    have e4 : Same H3 (upd (upd H3 dz (.own x)) x (.ins CR dz [])) := fun b o z => by
      rw [upd_ne (ne_of_none z nx), upd_ne (ne_of_none z nd)]
      exact z
    have hx4 : upd (upd H3 dz (.own x)) x (.ins CR dz []) x = some (.ins CR dz []) := upd_same
    generalize upd (upd H3 dz (.own x)) x (.ins CR dz []) = H4 at e4 hx4 ⊢
    have nxo : ∀ b o, H3 b = some o → b ≠ x := fun b o z => ne_of_none z nx
    have hnone : ∀ {d}, H3 d = none → H d = none := fun {d} z => by
      cases e : H d with
      | none => rfl
      | some o =>
        by_cases c : d = p
        · rw [c, hp3] at z
          cases z
        · rw [b3 _ _ c e] at z
          cases z
    refine ⟨x, dz, xv, t, ls, rfl, hx4, Sh.same e4 _ _ sh3, ll, L.nd, c900, ?_⟩
    rcases out with ⟨q, h, out⟩ | ⟨h, h2, out⟩ | ⟨h, h2, rs, er, n60, l100, out⟩
    · exact .inl ⟨q, h, fun d H' r => out d H' ⟨hnone (e4.free r.new), fun b o n z => r.same _ _ (nxo _ _ (b3 b o n z)) (e4 _ _ (b3 b o n z)), r.at_⟩⟩
    · exact .inr (.inl ⟨h, h2, fun d H' r => out d H' ⟨hnone (e4.free r.new), fun b o n z => r.same _ _ (nxo _ _ (b3 b o n z)) (e4 _ _ (b3 b o n z)), r.at_⟩⟩)
    refine .inr (.inr ⟨h, h2, rs, er, n60, l100, fun H5 b5 R5 => ⟨rfl, ?_⟩⟩)
    have e5 : Same H3 H5 := fun b o z => b5 b o (nxo b o z) (e4 _ _ z)
    obtain ⟨N, Tk, En, dx5, fs5, _, _, _, _, h51, rf5, _⟩ := id R5
    refine ⟨x, dx5, fs5, rfl, h51, rf5.no _ (by decide +kernel), ?_⟩
    refine ⟨x, ls, rs, rfl, R5, n60, ll, ?_⟩
    rcases out with ⟨big, out⟩ | ⟨Qs, hQ, lQ, out⟩
    · exact .inr ⟨big, fun d H' r => out d H' ⟨hnone (e5.free r.new), fun b o n z => r.same _ _ (e5 _ _ (b3 b o n z)), r.at_⟩⟩
    refine .inl ⟨Qs, hQ, lQ, fun tt M Kk H6 e6 htt => ?_⟩
    have e36 := e5.trans e6
    have hp6 := e36 _ _ hp3
    refine ⟨tt, _, rfl, SqT.of htt, rfl, _, _, rfl, _, rfl, p, C, dx, _, rfl, hp6, T.cl, T.m, by show 2 < 1000; decide, ?_⟩
    have u7 : ButI p H6 (upd H6 p (.ins C dx (putF "moves" (.ref M) (putF "shape" xv (putF "letters" (.str (S ls)) []))))) := fun b o n z => (upd_ne n).trans z
    have hp7 : upd H6 p (.ins C dx (putF "moves" (.ref M) (putF "shape" xv (putF "letters" (.str (S ls)) [])))) p = some (.ins C dx (putF "moves" (.ref M) (putF "shape" xv (putF "letters" (.str (S ls)) [])))) := upd_same
    generalize upd H6 p (.ins C dx (putF "moves" (.ref M) (putF "shape" xv (putF "letters" (.str (S ls)) [])))) = H7 at u7 hp7 ⊢
    refine ⟨_, _, rfl, _, rfl, p, C, dx, _, rfl, hp7, T.cl, T.k, by show 3 < 1000; decide, rfl, ?_⟩
    have u8 : ButI p H7 (upd H7 p (.ins C dx (putF "kinds" (.ref Kk) (putF "moves" (.ref M) (putF "shape" xv (putF "letters" (.str (S ls)) [])))))) := fun b o n z => (upd_ne n).trans z
    have hp8 : upd H7 p (.ins C dx (putF "kinds" (.ref Kk) (putF "moves" (.ref M) (putF "shape" xv (putF "letters" (.str (S ls)) []))))) p = some (.ins C dx (putF "kinds" (.ref Kk) (putF "moves" (.ref M) (putF "shape" xv (putF "letters" (.str (S ls)) []))))) := upd_same
    generalize upd H7 p (.ins C dx (putF "kinds" (.ref Kk) (putF "moves" (.ref M) (putF "shape" xv (putF "letters" (.str (S ls)) []))))) = H8 at u8 hp8 ⊢
    have b8 : ButI p H H8 := fun b o n z => u8 b o n (u7 b o n (e36 _ _ (b3 b o n z)))
    clear u7 hp7 u8 hp6 e36 htt e6 R5 e5 b5 h51 rf5 hx4 e4 nxo
    -- columns
    refine ⟨_, rfl, _, rfl, fun D nD => dcA walk_enS (colF ls) (fun j => .int ((j : Nat) : Int)) (by rw [S_size]; have := L.hi; omega) (fun i l hi hl => plain_inj L.nd i l (by rwa [S_size] at hi) (by rwa [S_size] at hl)) (fun _ _ => True.intro) nD ?_ ?_⟩
    · intro i T0 a' b' H9 R N3 hi ea eb e9 hT r
      rw [S_size] at hi
      cases ea
      rw [S_get, List.getElem?_eq_getElem hi] at eb
      cases eb
      refine ⟨T0, _, rfl, SqT.of hT, rfl, _, _, rfl, _, _, rfl, rfl, rfl, ?_⟩
      unfold tYes
      have ek : colF ls i = .inr (S [ls[i]]) := by
        unfold colF
        rw [List.getD_eq_getElem?_getD, List.getElem?_eq_getElem hi]
        rfl
      rw [ek] at r
      exact iteT ⟨_, rfl, _, rfl, r⟩
    intro H9 e9 hD9
    have hp9 := e9 _ _ hp8
    refine ⟨_, rfl, p, C, dx, _, rfl, hp9, T.cl, T.c, by show 4 < 1000; decide, ?_⟩
    refine out _ (fun b o n z => (upd_ne n).trans (e9 _ _ (b8 b o n z))) ⟨dx, _, upd_same, ?_⟩
    rw [lookup_putF, if_neg (by decide +kernel), lookup_putF, if_neg (by decide +kernel), lookup_putF, if_neg (by decide +kernel), lookup_putF, if_pos rfl]
end
end K05
set_option Elab.async false
set_option linter.all false
set_option maxRecDepth 100001
set_option maxHeartbeats 3999999
namespace K05
open PySem L2
abbrev sCau : Stmt := topS 31
/-! ### a class called where what is let out depends on the slots -/
section
variable {X : Cx} {CX : CXT} {k j : Nat} {C f : Addr} {fd : FuncData} {ps : List Str} {sp : Sp} {E : L2.St → XK} {x : Str} {p pos : Pos} {e : Expr} {es : List Expr} {t : TA}
theorem run_mkS {pins : List (Addr × Obj)} {σ : L2.St} {H : Hp} {s : Shared} {Q : VK} {us : List Value} {vs : List V} (M : Mk X.K C f) (F : FnOk X.prog X.w X.K X.mg X.base CX k f fd ps sp) (hr : Room (k + 1) X.A) (hb : Binds X.K fd ps []) (hx : PassesAt CX X σ (E σ)) (I : Inv X pins σ H s) (r : Vals vs us)
    (h : ∀ x dx, H x = none → H dx = none → dx ≠ x → sp (.ref x :: vs) (upd (upd H dx (.own x)) x (.ins C dx [])) (fun v H2 => v = .non ∧ Q (.ref x) H2) (E σ)) : wpAny (model X.prog X.w) X.A (call (.ref C) us) (EP X pins σ Q) X.xe s := by
  have J := Inv.made (C := C) I
  have hq := h (s.heap.objs.size + 1) s.heap.objs.size
    (I.hok.fresh (Nat.le_succ _)) (I.hok.fresh (Nat.le_refl _)) (Nat.ne_of_lt (Nat.lt_succ_self _))
  have rr : Vals (V.ref (s.heap.objs.size + 1) :: vs) (Value.ref (s.heap.objs.size + 1) :: us) := .cons rfl r
  have hl : (Value.ref (s.heap.objs.size + 1) :: us).length = ps.length := by rw [← rr.length]; exact F.len _ _ _ _ hq
  have bb := hb _ (Value.ref (s.heap.objs.size + 1) :: us) J.kIn (by rw [List.append_nil]; exact hl)
  rw [List.append_nil] at bb
  have run := F.run _ X.stack _ _ ⟨Value.ref (s.heap.objs.size + 1) :: us, []⟩ (Value.ref (s.heap.objs.size + 1) :: us) _ _ (E σ) (hr.make C us []) (J.env0.make C us []) bb rr hq
  refine wpAny_call (make_map (f := f) I.kIn M.makes M.init (beq_iff_eq.mp M.fn) (codeAny_mono run fun z s' hz => ?_))
  cases z with
  | error er => exact hx pins _ _ er s' J hz
  | ok fl =>
    cases fl with
    | ret u =>
      obtain ⟨v, H', J3, rv, ev, q3⟩ := J.after hz
      subst ev
      exact ⟨rv, V.ref (s.heap.objs.size + 1), H', J3, rfl, q3⟩
    | next => exact hz.elim
    | brk => exact hz.elim
    | cont => exact hz.elim
def tMakeS (C : Addr) (sp : Sp) (E : L2.St → XK) (t : TA) : TE := fun σ H Q => t σ H fun vs H1 => ∀ x dx, H1 x = none → H1 dx = none → dx ≠ x → sp (.ref x :: vs) (upd (upd H1 dx (.own x)) x (.ins C dx [])) (fun v H2 => v = .non ∧ Q (.ref x) H2) (E σ)
theorem pe_mkS (c : Mak CX X.prog X.w X.K X.mg X.base k x C sp) (hr : Room j X.A) (hx : ∀ σ, PassesAt CX X σ (E σ)) (ha : PA X (e :: es) t) (hk : k + 1 ≤ j := by decide) (hg : Gl X x := by rfl) (hdb : (x == ("__debug__" : Str)) = false := by decide)
    (he : starEach (e :: es) X.env = (false, eval e X.env) :: starEach es X.env := by rfl) (hpl : (backTo pos (starEach es X.env)).any (·.1) = false := by rfl) : PE X (.Call (.Name x p) (e :: es) [] pos) (tMakeS C sp E t) := by
  obtain ⟨f, fd, ps, M, F, hm, b⟩ := c.ex
  constructor
  intro pins s σ H Q I h
  refine wpAny_Call_Name_kw (ld_glob I hg hm (PySem.W.callWith_K (h₀ := X.base) I.ok.mod.kin M.kp (thn (ha.run pos pins s σ H _ I h) fun us s1 hh => ?_) he hpl) hdb)
  obtain ⟨vs, H1, I1, r, q⟩ := hh
  exact ⟨I1.kIn, run_mkS M F (hr.mono hk) b (hx σ) I1 r q⟩
end
/-- an exception class, caught -/
structure Ct (K : PySem.W.Frag) (mg : Str → Option Value) (x : Str) (C : Addr) : Prop where
  g : mg x = some (.ref C)
  T : XfC K C
  me : PySem.W.exmOne K (.ref C) (.ref C) = some true
/-! ### trees as data -/
mutual
def dT : T5 → PyData
  | .row its => .tuple [.str "row", .tuple (its.map dOf)]
  | .nd k ks => .tuple (.str (kn k) :: dTL ks)
  | .odd _ => .none
def dTL : List T5 → List PyData
  | [] => []
  | t :: ts => dT t :: dTL ts
end
/-- trees of flat items, at most so deep -/
inductive WT : Nat → T5 → Prop
  | row {d : Nat} {its : List V} (h : ∀ v ∈ its, Flat v) : WT d (.row its)
  | nd {d k : Nat} {ks : List T5} (h : ∀ t ∈ ks, WT d t) : WT (d + 1) (.nd k ks)
theorem WT.up {d : Nat} : ∀ {e : Nat} {t : T5}, WT d t → d ≤ e → WT e t := by
  induction d with
  | zero =>
    intro e t h le
    cases h with
    | row h => exact .row h
  | succ d ih =>
    intro e t h le
    cases h with
    | row h => exact .row h
    | nd h =>
      obtain ⟨e', rfl⟩ : ∃ e', e = e' + 1 := ⟨e - 1, by omega⟩
      exact .nd fun t ht => ih (h t ht) (by omega)
theorem dT_dp {K : PySem.W.Frag} {H : Hp} {d : Nat} : ∀ {v : V} {t : T5}, Sh H v t → WT d t → Dp K H v (dT t) := by
  induction d with
  | zero =>
    intro v t s w
    cases w with
    | row h =>
      cases s with
      | row h1 h2 l k =>
        rw [dT]
        exact .tup (SqT.of h1) (.cons (.str _) (.cons (.tup (SqT.of h2) (dpAll_flat h)) .nil))
  | succ d ih =>
    intro v t s w
    cases w with
    | row h =>
      cases s with
      | row h1 h2 l k =>
        rw [dT]
        exact .tup (SqT.of h1) (.cons (.str _) (.cons (.tup (SqT.of h2) (dpAll_flat h)) .nil))
    | @nd _ k ks h =>
      cases s with
      | nd h1 hk sl n l =>
        rw [dT]
        have : ∀ (ts : List T5) (vs : List V), ShL H vs ts → (∀ t ∈ ts, WT d t) → DpAll K H vs (dTL ts) := by
          intro ts
          induction ts with
          | nil =>
            intro vs s _
            cases s
            rw [dTL]
            exact .nil
          | cons t ts ih2 =>
            intro vs s w
            cases s with
            | cons s r =>
              rw [dTL]
              exact .cons (ih s (w t List.mem_cons_self)) (ih2 _ r fun t ht => w t (List.mem_cons_of_mem _ ht))
        exact .tup (SqT.of h1) (.cons (.str _) (this ks _ sl h))
theorem kn_ok (k : Nat) : PyData.strOk (kn k) = true := by
  rcases k with _ | _ | k
  · decide +kernel
  · decide +kernel
  · show PyData.strOk ("either" : Str) = true
    decide +kernel
theorem dT_lay {d : Nat} : ∀ {t : T5}, WT d t → PyData.canLay0 (dT t) = true ∧ PyData.depth (dT t) ≤ d + 3 := by
  have row : ∀ its : List V, (∀ v ∈ its, Flat v) → PyData.canLay0 (dT (.row its)) = true ∧ PyData.depth (dT (.row its)) ≤ 3 := fun its h => by
    have h1 := lay_flat h
    have h2 := depth_flat its
    rw [dT]
    refine ⟨?_, ?_⟩
    · simp only [PyData.canLay0, PyData.canLayAll0, h1, Bool.and_true]
      decide +kernel
    · simp only [PyData.depth, PyData.depthAll]
      omega
  induction d with
  | zero =>
    intro t w
    cases w with
    | row h => exact row _ h
  | succ d ih =>
    intro t w
    cases w with
    | row h => exact ⟨(row _ h).1, by have := (row _ h).2; omega⟩
    | @nd _ k ks h =>
      have : ∀ ts : List T5, (∀ t ∈ ts, WT d t) → PyData.canLayAll0 (dTL ts) = true ∧ PyData.depthAll (dTL ts) ≤ d + 3 := by
        intro ts
        induction ts with
        | nil =>
          intro _
          rw [dTL]
          simp [PyData.canLayAll0, PyData.depthAll]
        | cons t ts ih2 =>
          intro w
          obtain ⟨a1, a2⟩ := ih (w t List.mem_cons_self)
          obtain ⟨b1, b2⟩ := ih2 fun t ht => w t (List.mem_cons_of_mem _ ht)
          rw [dTL]
          refine ⟨?_, ?_⟩
          · simp only [PyData.canLayAll0, a1, b1, Bool.and_true]
          · simp only [PyData.depthAll]
            omega
      obtain ⟨h1, h2⟩ := this ks h
      rw [dT]
      refine ⟨?_, ?_⟩
      · simp only [PyData.canLay0, PyData.canLayAll0, h1, Bool.and_true]
        exact kn_ok k
      · simp only [PyData.depth, PyData.depthAll]
        omega
theorem dT_shaped {d : Nat} {t : T5} (w : WT d t) (l : d ≤ 40) : SeqAt.shaped (dT t) = true := by
  obtain ⟨h1, h2⟩ := dT_lay w
  show (PyData.canLay0 (dT t) && decide (PyData.depth (dT t) ≤ 64)) = true
  rw [h1, Bool.true_and]
  exact decide_eq_true (by omega)
/-- the same data on both sides -/
def rSmE (K : PySem.W.Frag) : R2 := fun x y H Q => ∃ d, Dp K H x d ∧ Dp K H y d ∧ SeqAt.shaped d = true ∧ Q (.bl true) H
section
variable {X : Cx}
theorem op_eqSmD (hu : X.A.units + 64 < cLine) : OpR X (compareOp .Eq) (rSmE X.K) := by
  intro pins s σ H x y v u Q I rx ry ⟨d, d1, d2, sh, q⟩
  refine op_eqD hu pins s σ H _ _ v u Q I rx ry ⟨d, d, d1, d2, sh, sh, ?_⟩
  rw [SeqAt.eqv_refl _ (Bool.and_eq_true_iff.mp sh).1]
  exact q
end
def tMd (K : PySem.W.Frag) (C : Addr) (sp : Sp) (W : WX) : TS := tAsg (tTup (tCons (tC (.str "made")) (tCons (tOp (rSmE K) (tFld K (tMakeS C sp (WE W) (tCons (tVar 0) (tCons (tVar 1) tNil))) "shape") (tVar 1)) tNil))) (gName 2)
def tC1 (C : Addr) (n f : Str) (o i : Nat) : Addr → Value → Option Addr → TS := fun a cls d => tAsg (tTup (tCons (tC (.str n)) (tCons (tXf a cls d C f (tVar o)) tNil))) (gName i)
def tC3 (C : Addr) (n f g h : Str) (o i : Nat) : Addr → Value → Option Addr → TS := fun a cls d => tAsg (tTup (tCons (tC (.str n)) (tCons (tXf a cls d C f (tVar o)) (tCons (tXf a cls d C g (tVar o)) (tCons (tXf a cls d C h (tVar o)) tNil))))) (gName i)
/-- _law_caught: what comes of a pattern, as data -/
def spCau (K : PySem.W.Frag) : Sp := fun vs H Q _ => ∃ (l0 : List Nat) (x : V) (D : PyData), vs = [.str (S l0), x] ∧ l0.length ≤ 200 ∧ Nch l0 ∧
  ((isLs (.str (S l0)) = false ∧ D = .tuple [.str "letters", .str (S l0)]) ∨
   (Lets l0 ∧ ∃ t, Sh H x t ∧ cnt t ≤ 900 ∧
    ((∃ q, fst l0 [] t = some q ∧ D = .tuple [.str "part", pD q]) ∨
     (fst l0 [] t = none ∧ 60 < cnt t ∧ D = .tuple [.str "many", .str "parts", .int (cnt t : Nat), .int 60]) ∨
     (fst l0 [] t = none ∧ cnt t ≤ 60 ∧ ∃ rs : List Row, rws t = rs.map txs ∧ NN rs ≤ 60 ∧ (∀ its ∈ rs, ∀ it ∈ its, it.length ≤ 100) ∧
       (((∀ sts : List Nat, SS rs ∈ sts → (∀ s ∈ sts, ∀ c ∈ l0, GG rs s c ∈ sts) → 2000 < sts.length) ∧ D = .tuple [.str "many", .str "standings", .int 2001, .int 2000]) ∨
        (∃ Qs, AllC rs l0 Qs ∧ Qs.length ≤ 2000 ∧ ∃ d, d ≤ 40 ∧ WT d t ∧ D = .tuple [.str "made", .bool true])))))) ∧
  ∀ r H', Same H H' → Dp K H' r D → Q r H'
section
variable {P : Program} {w : World} {K : PySem.W.Frag} {mg : Str → Option Value} {base : Heap}
theorem scCau : FnScope ["_law_letters_here", "_law_shape_here", "_law_told", "e"] ["_law_letters_here", "_law_shape_here"] (defScope sCau) := ⟨rfl, rfl, rfl, by decide +kernel, rfl, by decide +kernel, by decide +kernel⟩
theorem ok_cau {f C CL CB CT : Addr} {fd : FuncData} (F : Fun K "_law_caught" "_law_caught" sCau f fd) (T : TxP K C) (mk : Mak (L2.CX P w) P w K mg base 8 "Pattern" C (spPInit C CL CB CT)) (xL : Ct K mg "BadLetters" CL) (xB : Ct K mg "BadPart" CB) (xT : Ct K mg "TooMany" CT)
    (nL : PySem.W.findIn K (.ref CL) "letters" = some none) (nB : PySem.W.findIn K (.ref CB) "path" = some none) (nT : PySem.W.findIn K (.ref CT) "what" = some none ∧ PySem.W.findIn K (.ref CT) "many" = some none ∧ PySem.W.findIn K (.ref CT) "most" = some none)
    (e1 : PySem.W.exmOne K (.ref CB) (.ref CL) = some false) (e2 : PySem.W.exmOne K (.ref CT) (.ref CL) = some false) (e3 : PySem.W.exmOne K (.ref CT) (.ref CB) = some false) : FnOk P w K mg base CX0 10 f fd ["_law_letters_here", "_law_shape_here"] (spCau K) := by
  refine F.ok scCau (fun vs H Q E h => ?_) (fun cdv A outer s H vs Q E hr h => ?_)
  · obtain ⟨l0, x, D, rfl, _⟩ := h
    rfl
  · obtain ⟨l0, xv, D, rfl, l200, nch, out, q⟩ := h
    refine ⟨_, pss_cons (ps_set (i := 2) scCau.nd rfl (Or.inl rfl) pe_non) (pss_cons (ps_try_clauses (tb := tMd K C (spPInit C CL CB CT)) (Wout := fun _ _ _ _ => False)
        (l := [(.ref CL, some 3, tC1 CL "letters" "letters" 3 2), (.ref CB, some 3, tC1 CB "part" "path" 3 2), (.ref CT, some 3, tC3 CT "many" "what" "many" "most" 3 2)]) rfl rfl scCau.nd LamX.takes0
        (fun W pn xe tk _ => pss_one (ps_set (i := 2) scCau.nd rfl (Or.inl rfl) (pe_tup (pa_cons pe_str (pa_cons (pe_cmpR (op_eqSmD (hu64 hr)) (pe_fld (pe_mkS mk hr (fun σ => passAt tk σ) (pa_cons (pv 0) (pa_cons (pv 1) pa_nil))) rfl) (pv 1) (nomark _)) pa_nil)))))
        (.named ⟨rfl, by decide, .inl xL.g⟩ rfl rfl (fun a oe cls d pn hz hf => pss_one (ps_set (i := 2) scCau.nd rfl (Or.inl rfl) (pe_tup (pa_cons pe_str (pa_cons (pe_xf xL.T nL hz hf (pv 3)) pa_nil)))))
        (.named ⟨rfl, by decide, .inl xB.g⟩ rfl rfl (fun a oe cls d pn hz hf => pss_one (ps_set (i := 2) scCau.nd rfl (Or.inl rfl) (pe_tup (pa_cons pe_str (pa_cons (pe_xf xB.T nB hz hf (pv 3)) pa_nil)))))
        (.named ⟨rfl, by decide, .inl xT.g⟩ rfl rfl (fun a oe cls d pn hz hf => pss_one (ps_set (i := 2) scCau.nd rfl (Or.inl rfl) (pe_tup (pa_cons pe_str (pa_cons (pe_xf xT.T nT.1 hz hf (pv 3)) (pa_cons (pe_xf xT.T nT.2.1 hz hf (pv 3)) (pa_cons (pe_xf xT.T nT.2.2 hz hf (pv 3)) pa_nil)))))))
        .nil))))
      (pss_one (ps_ret (pv 2)))), ?_⟩
    refine ⟨_, rfl, _, rfl, fun x dx nx nd ne => ?_⟩
    have s1 : Same H (upd (upd H dx (.own x)) x (.ins C dx [])) := fun b o e => by
      rw [upd_ne (ne_of_none e nx), upd_ne (ne_of_none e nd)]
      exact e
    have nxo : ∀ b o, H b = some o → b ≠ x := fun b o z => ne_of_none z nx
    have hx1 : upd (upd H dx (.own x)) x (.ins C dx []) x = some (.ins C dx []) := upd_same
    generalize upd (upd H dx (.own x)) x (.ins C dx []) = H1 at s1 hx1 ⊢
    have sB : ∀ H', ButI x H1 H' → Same H H' := fun H' b c o z => b _ _ (nxo c o z) (s1 _ _ z)
    refine ⟨x, dx, xv, l0, rfl, hx1, l200, nch, ?_⟩
    rcases out with ⟨h, rfl⟩ | ⟨L, t, sh, c900, out⟩
    · refine .inl ⟨h, fun d H' r => ⟨true, xL.me, fun _ a na => ?_, fun z => nomatch z⟩⟩
      obtain ⟨v', hv, od⟩ := r.at_
      exact ⟨_, rfl, rfl, rfl, d, _, _, rfl, hv, rfl, by show 2 ≤ sizeLine; decide, fun t nt => ⟨_, rfl, q _ _ ((s1.trans r.same).trans (same_new nt)) (.tup (SqT.of upd_same) (.cons (.str _) (.cons (od.same (same_new nt)).dp .nil)))⟩⟩
    refine .inr ⟨L, t, Sh.same s1 _ _ sh, c900, ?_⟩
    rcases out with ⟨qq, h, rfl⟩ | ⟨h, h2, rfl⟩ | ⟨h, h2, rs, er, n60, l100, out⟩
    · refine .inl ⟨qq, h, fun d H' r => ⟨false, e1, (fun z => nomatch z), fun _ => ⟨true, xB.me, fun _ a na => ?_, fun z => nomatch z⟩⟩⟩
      obtain ⟨v', hv, od⟩ := r.at_
      exact ⟨_, rfl, rfl, rfl, d, _, _, rfl, hv, rfl, by show 2 ≤ sizeLine; decide, fun t nt => ⟨_, rfl, q _ _ ((sB _ r.same).trans (same_new nt)) (.tup (SqT.of upd_same) (.cons (.str _) (.cons (od.same (same_new nt)).dp .nil)))⟩⟩
    · refine .inr (.inl ⟨h, h2, fun d H' r => ⟨false, e2, (fun z => nomatch z), fun _ => ⟨false, e3, (fun z => nomatch z), fun _ => ⟨true, xT.me, fun _ a na => ?_, fun z => nomatch z⟩⟩⟩⟩)
      exact ⟨_, rfl, rfl, rfl, d, _, _, rfl, r.at_, rfl, _, rfl, rfl, rfl, d, _, _, rfl, r.at_, rfl, _, rfl, rfl, rfl, d, _, _, rfl, r.at_, rfl, by show 4 ≤ sizeLine; decide, fun t nt => ⟨_, rfl, q _ _ ((sB _ r.same).trans (same_new nt)) (.tup (SqT.of upd_same) (.cons (.str _) (.cons (.str _) (.cons (.int _) (.cons (.int _) .nil)))))⟩⟩
    refine .inr (.inr ⟨h, h2, rs, er, n60, l100, ?_⟩)
    rcases out with ⟨big, rfl⟩ | ⟨Qs, hQ, lQ, d, d40, wt, rfl⟩
    · refine .inl ⟨big, fun d H' r => ⟨false, e2, (fun z => nomatch z), fun _ => ⟨false, e3, (fun z => nomatch z), fun _ => ⟨true, xT.me, fun _ a na => ?_, fun z => nomatch z⟩⟩⟩⟩
      exact ⟨_, rfl, rfl, rfl, d, _, _, rfl, r.at_, rfl, _, rfl, rfl, rfl, d, _, _, rfl, r.at_, rfl, _, rfl, rfl, rfl, d, _, _, rfl, r.at_, rfl, by show 4 ≤ sizeLine; decide, fun t nt => ⟨_, rfl, q _ _ ((sB _ r.same).trans (same_new nt)) (.tup (SqT.of upd_same) (.cons (.str _) (.cons (.str _) (.cons (.int _) (.cons (.int _) .nil)))))⟩⟩
    · refine .inr ⟨Qs, hQ, lQ, fun H' b ⟨dx', fs, hx', hs⟩ => ⟨rfl, ?_⟩⟩
      have s2 := sB _ b
      have dp := dT_dp (K := K) (Sh.same s2 _ _ sh) wt
      refine ⟨x, C, dx', fs, _, rfl, hx', T.cl, T.s, hs, _, rfl, _, dp, dp, dT_shaped wt d40, ?_⟩
      exact ⟨by show 2 ≤ sizeLine; decide, fun t nt => ⟨_, rfl, q _ _ (s2.trans (same_new nt)) (.tup (SqT.of upd_same) (.cons (.str _) (.cons (.bl _) .nil)))⟩⟩
end
end K05
set_option Elab.async false
set_option linter.all false
set_option maxRecDepth 100001
set_option maxHeartbeats 3999999
namespace K05
open PySem L2
abbrev sLRow : Stmt := topS 27
/-- the rows that the law draws -/
def GR (ls : List Nat) (r : Row) : Prop := ∃ ks : List Nat, r = ks.map (kW ls) ∧ ks.length ≤ 3 ∧ ∀ k ∈ ks, k < ls.length + 3
theorem abc90 : ∀ c ∈ abc, 90 < c ∧ c < 123 := by decide
theorem LLet.l90 {ls : List Nat} (L : LLet ls) : ∀ c ∈ ls, 90 < c := fun c h => (abc90 c (L.L.abc c h)).1
theorem kW_mem {ls : List Nat} (two : 2 ≤ ls.length) {k : Nat} (h : k < ls.length + 3) : (kW ls k).length ≤ 2 ∧ ∀ c ∈ kW ls k, c = 42 ∨ c = 63 ∨ c ∈ ls := by
  unfold kW
  by_cases c0 : k = 0
  · rw [if_pos c0]
    exact ⟨by decide, fun c h => .inl (List.mem_singleton.mp h)⟩
  by_cases c1 : k = 1
  · rw [if_neg c0, if_pos c1]
    exact ⟨by decide, fun c h => .inr (.inl (List.mem_singleton.mp h))⟩
  by_cases c2 : k = 2
  · rw [if_neg c0, if_neg c1, if_pos c2]
    refine ⟨Nat.le_refl _, fun c h => .inr (.inr ?_)⟩
    rcases List.mem_cons.mp h with rfl | h
    · exact getD_mem (by omega)
    · rw [List.mem_singleton.mp h]
      exact getD_mem (by omega)
  rw [if_neg c0, if_neg c1, if_neg c2]
  refine ⟨by simp, fun c h => .inr (.inr ?_)⟩
  rw [List.mem_singleton.mp h]
  exact getD_mem (by omega)
theorem kW_item {ls : List Nat} (L : LLet ls) {k : Nat} (h : k < ls.length + 3) : itW ls (kW ls k) = true := by
  have two := L.L.lo
  have nd := L.L.nd
  unfold itW kW
  by_cases c0 : k = 0
  · rw [if_pos c0]
    rfl
  by_cases c1 : k = 1
  · rw [if_neg c0, if_pos c1]
    rfl
  by_cases c2 : k = 2
  · rw [if_neg c0, if_neg c1, if_pos c2]
    have h1 := getD_mem (ls := ls) (i := 1) (by omega)
    have h0 := getD_mem (ls := ls) (i := 0) (by omega)
    have ne : ls.getD 1 0 ≠ ls.getD 0 0 := fun z => by
      have := nd_at nd (by omega) (by omega) z
      omega
    have e1 : (([ls.getD 1 0, ls.getD 0 0] : List Nat).all fun c => decide (c ∈ ls)) = true := by
      rw [List.all_cons, List.all_cons, decide_eq_true h1, decide_eq_true h0]
      rfl
    have e2 : ([ls.getD 1 0, ls.getD 0 0] : List Nat).Nodup := List.nodup_cons.mpr ⟨fun z => ne (List.mem_singleton.mp z), by simp⟩
    rw [e1, decide_eq_true e2, decide_eq_true (show ([ls.getD 1 0, ls.getD 0 0] : List Nat) ≠ [] from fun z => nomatch z)]
    simp
  rw [if_neg c0, if_neg c1, if_neg c2]
  have h1 := getD_mem (ls := ls) (i := k - 3) (by omega)
  have e1 : (([ls.getD (k - 3) 0] : List Nat).all fun c => decide (c ∈ ls)) = true := by
    rw [List.all_cons, decide_eq_true h1]
    rfl
  rw [e1, decide_eq_true (show ([ls.getD (k - 3) 0] : List Nat).Nodup by simp), decide_eq_true (show ([ls.getD (k - 3) 0] : List Nat) ≠ [] from fun z => nomatch z)]
  simp
theorem GR.item {ls : List Nat} (L : LLet ls) {r : Row} (g : GR ls r) : ∀ it ∈ r, itW ls it = true ∧ it.length ≤ 2 ∧ Nch it := fun it h => by
  obtain ⟨ks, rfl, l, hk⟩ := g
  obtain ⟨k, m, rfl⟩ := List.mem_map.mp h
  obtain ⟨h1, h2⟩ := kW_mem L.L.lo (hk k m)
  refine ⟨kW_item L (hk k m), h1, fun c hc => ?_⟩
  rcases h2 c hc with rfl | rfl | hc
  · decide
  · decide
  · have := (abc90 c (L.L.abc c hc)).2
    omega
theorem GR.len {ls : List Nat} {r : Row} (g : GR ls r) : r.length ≤ 3 := by
  obtain ⟨ks, rfl, l, _⟩ := g
  rw [List.length_map]
  exact l
theorem sh_row {H : Hp} {a b : Addr} {r : Row} (h1 : H a = some (.tup [.str "row", .ref b])) (h2 : H b = some (.tup (txs r))) (l : r.length ≤ 100) (k : ∀ it ∈ r, it.length ≤ 100) : Sh H (.ref a) (.row (txs r)) :=
  .row h1 h2 (by rw [strs_len]; exact l) fun v hv => by
    obtain ⟨it, hi, rfl⟩ := List.mem_map.mp hv
    refine ⟨.str _, fun x e => ?_⟩
    cases e
    rw [S_len]
    exact k it hi
theorem revS_S (l : List Nat) : revS (S l) = S l.reverse := by
  unfold revS
  rw [S_list]
  rfl
theorem take2_rev {ls : List Nat} (h : 2 ≤ ls.length) : (ls.take 2).reverse = [ls.getD 1 0, ls.getD 0 0] := by
  match ls, h with
  | [a], h => exact absurd h (by simp)
  | a :: b :: r, _ => rfl
def spLRow : Sp := fun vs H Q _ => ∃ (pn cl : Addr) (ls : List Nat) (b : Nat), vs = [.ref pn, .str (S ls)] ∧ Pen H pn cl b ∧ b ≤ 900000 ∧ LLet ls ∧ ∀ x r H', GR ls r → But pn H H' → Pen H' pn cl (b + 8) → Sh H' x (.row (txs r)) → Q x H'
section
variable {P : Program} {w : World} {K : PySem.W.Frag} {mg : Str → Option Value} {base : Heap}
theorem scLRow : FnScope ["_law_pen_here", "_law_letters_here", "_law_items", "_law_k", "_law_kind"] ["_law_pen_here", "_law_letters_here"] (defScope sLRow) := ⟨rfl, rfl, rfl, by decide +kernel, rfl, by decide +kernel, by decide +kernel⟩
theorem ok_lrow {f : Addr} {fd : FuncData} (F : Fun K "_law_row" "_law_row" sLRow f fd) (B : Bi mg) (cD : Cal CX0 P w K mg base 1 "_law_draw" spDraw) (cK : Cal CX0 P w K mg base 2 "_law_pick" spPickS) : FnOk P w K mg base CX0 3 f fd ["_law_pen_here", "_law_letters_here"] spLRow := by
  refine F.ok scLRow (fun vs H Q E h => ?_) (fun cdv A outer s H vs Q E hr h => ?_)
  · obtain ⟨pn, cl, ls, b, rfl, _⟩ := h
    rfl
  · obtain ⟨pn, cl, ls, b, rfl, pen, hb, L, q⟩ := h
    refine ⟨_, pss_cons (ps_set (i := 2) scLRow.nd rfl (Or.inl rfl) (pe_lst pa_nil))
      (pss_cons (ps_for PassesOwn.never rfl (pi_range1 rfl B.range (pa_cons (pe_c cD hr pass0 (pa_cons (pv 0) (pa_cons pe_int pa_nil))) pa_nil)) (pg_name (i := 3) scLRow.nd rfl (.inl rfl))
        (pss_cons (ps_set (i := 4) scLRow.nd rfl (Or.inl rfl) (pe_c cD hr pass0 (pa_cons (pv 0) (pa_cons pe_int pa_nil))))
        (pss_one (ps_if (pt_cmpR op_lt (pv 4) pe_int (nomark _)) (pss_one (ps_expr (pe_bm PySem.F.plainAttrs_list PySem.F.slot_list_append PySem.F.type_list_append mt_append (pv 2) (pa_cons pe_str pa_nil))))
          (pss_one (ps_if (pt_cmpR op_eq (pv 4) pe_int (nomark _)) (pss_one (ps_expr (pe_bm PySem.F.plainAttrs_list PySem.F.slot_list_append PySem.F.type_list_append mt_append (pv 2) (pa_cons pe_str pa_nil))))
          (pss_one (ps_if (pt_cmpR op_eq (pv 4) pe_int (nomark _)) (pss_one (ps_expr (pe_bm PySem.F.plainAttrs_list PySem.F.slot_list_append PySem.F.type_list_append mt_append (pv 2) (pa_cons (pe_revS (pe_slice sl_str (pv 1) po_none (po_some pe_int))) pa_nil))))
          (pss_one (ps_expr (pe_bm PySem.F.plainAttrs_list PySem.F.slot_list_append PySem.F.type_list_append mt_append (pv 2) (pa_cons (pe_c cK hr pass0 (pa_cons (pv 0) (pa_cons (pv 1) pa_nil))) pa_nil))))))))))))
      (pss_one (ps_ret (pe_tup (pa_cons pe_str (pa_cons (pe_tupleOf rfl B.tuple (pv 2)) pa_nil)))))), ?_⟩
    have two := L.L.lo
    have few := L.few
    refine ⟨by decide, fun Lr nL => ?_⟩
    have e1 := same_new (o := .lst []) nL
    have hL1 : upd H Lr (.lst []) Lr = some (.lst []) := upd_same
    have npL : pn ≠ Lr := (pen.off nL).1
    have nLo : ∀ c o, H c = some o → c ≠ Lr := fun c o z => ne_of_none z nL
    have pen1 := pen.same e1
    generalize upd H Lr (.lst []) = H1 at e1 hL1 pen1 ⊢
    refine ⟨_, rfl, pn, cl, _, b, rfl, pen1, by omega, by decide, by decide, fun m H2 m0 m1 e2 pen2 => ?_⟩
    obtain ⟨m, rfl⟩ := Int.eq_ofNat_of_zero_le m0
    have hL2 := e2 _ _ npL.symm hL1
    have b2 : But pn H H2 := fun c o n z => e2 _ _ n (e1 _ _ z)
    refine ⟨_, rfl, by omega, by omega, for_range (lo := 0) (n := ((m : Nat) : Int).toNat) (fun i σ H' => ∃ (k x4 : Option V) (ks : List Nat), σ = [some (.ref pn), some (.str (S ls)), some (.ref Lr), k, x4] ∧ But pn H H' ∧ Pen H' pn cl (b + 1 + 2 * i) ∧ H' Lr = some (.lst (txs (ks.map (kW ls)))) ∧ ks.length = i ∧ ∀ k ∈ ks, k < ls.length + 3)
      ⟨none, none, [], rfl, b2, pen2, hL2, rfl, fun k h => nomatch h⟩ ?_ ?_⟩
    · rintro i σ H3 hi ⟨k, x4, ks, rfl, e3, pen3, hL3, lk, hk⟩
      have hi3 : i < 3 := by omega
      refine ⟨_, rfl, pn, cl, _, _, rfl, pen3, by omega, by decide, by decide, fun d H4 d0 d1 e4 pen4 => ?_⟩
      obtain ⟨d, rfl⟩ := Int.eq_ofNat_of_zero_le d0
      have hL4 := e4 _ _ npL.symm hL3
      have b4 : But pn H H4 := fun c o n z => e4 _ _ n (e3 _ _ n z)
      have lt : (txs (ks.map (kW ls))).length < sizeLine := by
        rw [strs_len, List.length_map]
        exact small10 (by omega)
      have fin : ∀ (H5 : Hp) (z : Nat) (x3 x4 : Option V), z < ls.length + 3 → But pn H H5 → Pen H5 pn cl (b + 1 + 2 * i + 2) → H5 Lr = some (.lst (txs (ks.map (kW ls)))) → ∃ (k' x4' : Option V) (ks' : List Nat), [some (.ref pn), some (.str (S ls)), some (.ref Lr), x3, x4] = [some (.ref pn), some (.str (S ls)), some (.ref Lr), k', x4'] ∧ But pn H (upd H5 Lr (.lst (txs (ks.map (kW ls)) ++ [.str (S (kW ls z))]))) ∧ Pen (upd H5 Lr (.lst (txs (ks.map (kW ls)) ++ [.str (S (kW ls z))]))) pn cl (b + 1 + 2 * (i + 1)) ∧ upd H5 Lr (.lst (txs (ks.map (kW ls)) ++ [.str (S (kW ls z))])) Lr = some (.lst (txs (ks'.map (kW ls)))) ∧ ks'.length = i + 1 ∧ ∀ k ∈ ks', k < ls.length + 3 := fun H5 z x3 x4 hz b5 pen5 hL5 => by
        have ncl : cl ≠ Lr := (pen.off nL).2
        refine ⟨_, _, ks ++ [z], rfl, fun c o n y => (upd_ne (nLo c o y)).trans (b5 _ _ n y), pen5.upd npL ncl, ?_, by rw [List.length_append, lk]; rfl, fun k h => ?_⟩
        · rw [upd_same]
          unfold txs
          rw [List.map_append, List.map_append]
          rfl
        · rcases List.mem_append.mp h with h | h
          · exact hk k h
          · rw [List.mem_singleton.mp h]
            exact hz
      refine ⟨_, rfl, _, _, rfl, rfl, _, rfl, ?_⟩
      refine ite2 (fun c => ?_) fun c => ?_
      · exact ⟨_, rfl, .inl ⟨rfl, _, SqL.of hL4⟩, Lr, _, _, rfl, rfl, hL4, lt, fin H4 0 _ _ (by omega) b4 (pen4.mono (by omega)) hL4⟩
      refine ⟨_, rfl, rfl, _, rfl, ?_⟩
      refine ite2 (fun c => ?_) fun c => ?_
      · exact ⟨_, rfl, .inl ⟨rfl, _, SqL.of hL4⟩, Lr, _, _, rfl, rfl, hL4, lt, fin H4 1 _ _ (by omega) b4 (pen4.mono (by omega)) hL4⟩
      refine ⟨_, rfl, rfl, _, rfl, ?_⟩
      refine ite2 (fun c => ?_) fun c => ?_
      · refine ⟨_, rfl, .inl ⟨rfl, _, SqL.of hL4⟩, _, rfl, 2, rfl, S ls, rfl, by rw [S_len]; exact Nat.le_of_lt (small10 (by omega)), ?_⟩
        have ec : cutS (S ls) none (some 2) = S (ls.take 2) := cut_S (k := 2) two
        rw [ec]
        refine ⟨_, rfl, by rw [S_len, List.length_take]; exact Nat.le_of_lt (small10 (by omega)), ?_⟩
        rw [revS_S, take2_rev two]
        exact ⟨Lr, _, _, rfl, rfl, hL4, lt, fin H4 2 _ _ (by omega) b4 (pen4.mono (by omega)) hL4⟩
      · refine ⟨_, rfl, .inl ⟨rfl, _, SqL.of hL4⟩, _, rfl, _, rfl, pn, cl, ls, _, rfl, pen4, by omega, by omega, by omega, fun c5 H5 hc e5 pen5 => ?_⟩
        have li := List.idxOf_lt_length_of_mem hc
        have ek : kW ls (ls.idxOf c5 + 3) = [c5] := by
          unfold kW
          rw [if_neg (by omega), if_neg (by omega), if_neg (by omega), Nat.add_sub_cancel, List.getD_eq_getElem?_getD, List.getElem?_eq_getElem li, List.getElem_idxOf li]
          rfl
        have hL5 := e5 _ _ npL.symm hL4
        have := fin H5 (ls.idxOf c5 + 3) (some (.int (0 + ((i : Nat) : Int)))) (some (.int ((d : Nat) : Int))) (by omega) (fun c o n z => e5 _ _ n (b4 c o n z)) (pen5.mono (by omega)) hL5
        rw [ek] at this
        exact ⟨Lr, _, _, rfl, rfl, hL5, lt, this⟩
    · rintro σ H3 ⟨k, x4, ks, rfl, e3, pen3, hL3, lk, hk⟩
      have hi3 : ks.length ≤ 3 := by omega
      refine ⟨_, rfl, .inl ⟨Lr, _, rfl, SqL.of hL3, fun tb ntb => ⟨by show 2 ≤ sizeLine; decide, fun ta nta => ?_⟩⟩⟩
      have e4 := same_new (o := .tup (txs (ks.map (kW ls)))) ntb
      have hb4 : upd H3 tb (.tup (txs (ks.map (kW ls)))) tb = some (.tup (txs (ks.map (kW ls)))) := upd_same
      generalize upd H3 tb (.tup (txs (ks.map (kW ls)))) = H4 at e4 hb4 nta ⊢
      have e5 := same_new (o := .tup [.str "row", .ref tb]) nta
      have g : GR ls (ks.map (kW ls)) := ⟨ks, rfl, hi3, hk⟩
      exact q _ _ _ g (fun c o n z => e5 _ _ (e4 _ _ (e3 _ _ n z))) (((pen3.same e4).same e5).mono (by omega)) (sh_row upd_same (e5 _ _ hb4) (by have := g.len; omega) fun it h => by have := (g.item L it h).2.1; omega)
end
end K05
set_option Elab.async false
set_option linter.all false
set_option maxRecDepth 100001
set_option maxHeartbeats 3999999
namespace K05
open PySem L2
abbrev sShape : Stmt := topS 28
abbrev sRowsIn : Stmt := topS 29
abbrev sSmall : Stmt := topS 30
/-- the trees that the law draws -/
inductive GT (ls : List Nat) : Nat → T5 → Prop
  | row {d : Nat} {r : Row} (g : GR ls r) : GT ls d (.row (txs r))
  | nd {d k : Nat} {ts : List T5} (hk : k ≤ 2) (n : k = 0 → ts.length = 1) (l : ts.length ≤ 3) (h : ∀ t ∈ ts, GT ls d t) : GT ls (d + 1) (.nd k ts)
theorem itB_S (ls w : List Nat) : itB ls (.str (S w)) = itW ls w := by
  show itW ls (S w).cps.toList = _
  rw [S_list]
theorem fst_row {ls : List Nat} {r : Row} (h : ∀ it ∈ r, itW ls it = true) (p : List Int) : fst ls p (.row (txs r)) = none := by
  have : (txs r).findIdx? (fun v => !itB ls v) = none := by
    rw [List.findIdx?_eq_none_iff]
    intro v hv
    obtain ⟨it, hi, rfl⟩ := List.mem_map.mp hv
    rw [itB_S, h it hi]
    rfl
  rw [fst, this]
def cB : Nat → Nat
  | 0 => 4
  | d + 1 => 1 + 3 * cB d
theorem GT.facts {ls : List Nat} (L : LLet ls) {d : Nat} : ∀ {t : T5}, GT ls d t → WT d t ∧ (∀ p, fst ls p t = none) ∧ cnt t ≤ cB d ∧ ∃ rs : List Row, rws t = rs.map txs ∧ (∀ its ∈ rs, GR ls its) ∧ NN rs ≤ cnt t := by
  have row : ∀ {r : Row} (d : Nat), GR ls r → WT d (.row (txs r)) ∧ (∀ p, fst ls p (.row (txs r)) = none) ∧ cnt (.row (txs r)) ≤ 4 ∧ ∃ rs : List Row, rws (.row (txs r)) = rs.map txs ∧ (∀ its ∈ rs, GR ls its) ∧ NN rs ≤ cnt (.row (txs r)) := fun {r} d g => by
    have it := g.item L
    have gl := g.len
    refine ⟨.row fun v hv => ?_, fst_row fun i hi => (it i hi).1, by rw [cnt, strs_len]; omega, [r], by rw [rws]; rfl, fun i hi => by rw [List.mem_singleton.mp hi]; exact g, ?_⟩
    · obtain ⟨i, hi, rfl⟩ := List.mem_map.mp hv
      exact flat_S (it i hi).2.2
    · rw [NN_cons, cnt, strs_len, show NN [] = 0 from rfl]
      omega
  induction d with
  | zero =>
    intro t g
    cases g with
    | row g => exact row 0 g
  | succ d ih =>
    intro t g
    cases g with
    | row g =>
      obtain ⟨h1, h2, h3, h4⟩ := row (d + 1) g
      refine ⟨h1, h2, ?_, h4⟩
      have : 1 ≤ cB d := by cases d <;> simp [cB]
      show _ ≤ 1 + 3 * cB d
      omega
    | @nd _ k ts hk n l h =>
      have all : ∀ us : List T5, (∀ t ∈ us, GT ls d t) → (∀ t ∈ us, WT d t) ∧ (∀ p i, fstL ls p i us = none) ∧ cntL us ≤ us.length * cB d ∧ ∃ rs : List Row, rwsL us = rs.map txs ∧ (∀ its ∈ rs, GR ls its) ∧ NN rs ≤ cntL us := by
        intro us
        induction us with
        | nil =>
          intro _
          refine ⟨(fun t h => nomatch h), (fun p i => by rw [fstL]), by rw [cntL]; omega, [], by rw [rwsL]; rfl, (fun t h => nomatch h), by rw [cntL]; exact Nat.le_refl _⟩
        | cons u us ih2 =>
          intro hu
          obtain ⟨a1, a2, a3, rs, a4, a5, a6⟩ := ih (hu u List.mem_cons_self)
          obtain ⟨b1, b2, b3, qs, b4, b5, b6⟩ := ih2 fun t ht => hu t (List.mem_cons_of_mem _ ht)
          refine ⟨fun t ht => ?_, fun p i => by rw [fstL, a2, b2]; rfl, ?_, rs ++ qs, by rw [rwsL, a4, b4, List.map_append], fun i hi => ?_, by rw [cntL, NN_app]; omega⟩
          · rcases List.mem_cons.mp ht with rfl | ht
            · exact a1
            · exact b1 t ht
          · rw [cntL, List.length_cons, Nat.add_mul, Nat.one_mul]
            omega
          · rcases List.mem_append.mp hi with hi | hi
            · exact a5 i hi
            · exact b5 i hi
      obtain ⟨h1, h2, h3, rs, h4, h5, h6⟩ := all ts h
      refine ⟨.nd h1, fun p => by rw [fst, h2], ?_, rs, by rw [rws, h4], h5, by rw [cnt]; omega⟩
      rw [cnt]
      have : ts.length * cB d ≤ 3 * cB d := Nat.mul_le_mul_right _ l
      show _ ≤ 1 + 3 * cB d
      omega
theorem TL.pen {H H' : Hp} {pn cl : Addr} {b : Nat} (pen : Pen H pn cl b) (u : But pn H H') : TL H H' := by
  obtain ⟨k, l, cs, h1, _⟩ := pen
  exact ⟨fun a xs z => u _ _ (ne_of z h1 fun y => nomatch y) z, fun a xs z => u _ _ (ne_of z h1 fun y => nomatch y) z⟩
theorem TL.trans {H H1 H2 : Hp} (a : TL H H1) (b : TL H1 H2) : TL H H2 := ⟨fun c xs z => b.l _ _ (a.l _ _ z), fun c xs z => b.t _ _ (a.t _ _ z)⟩
theorem TL.same {H H' : Hp} (e : Same H H') : TL H H' := ⟨fun a xs z => e _ _ z, fun a xs z => e _ _ z⟩
/-- a drawn tree stands while tuples stand -/
theorem GT.sh {ls : List Nat} {H H' : Hp} (e : ∀ a xs, H a = some (.tup xs) → H' a = some (.tup xs)) {d : Nat} : ∀ {t : T5} {v : V}, GT ls d t → Sh H v t → Sh H' v t := by
  have row : ∀ {r : Row} {v : V}, Sh H v (.row (txs r)) → Sh H' v (.row (txs r)) := fun {r v} s => by
    cases s with
    | row h1 h2 l k =>
      refine .row (e _ _ h1) (e _ _ h2) l fun v hv => ⟨?_, (k v hv).2⟩
      obtain ⟨it, _, rfl⟩ := List.mem_map.mp hv
      exact .str _
  induction d with
  | zero =>
    intro t v g s
    cases g with
    | row g => exact row s
  | succ d ih =>
    intro t v g s
    cases g with
    | row g => exact row s
    | @nd _ k ts hk n l h =>
      cases s with
      | nd h1 hk' sl n' l' =>
        have all : ∀ (us : List T5) (vs : List V), (∀ t ∈ us, GT ls d t) → ShL H vs us → ShL H' vs us := by
          intro us
          induction us with
          | nil =>
            intro vs _ s
            cases s
            exact .nil
          | cons u us ih2 =>
            intro vs g s
            cases s with
            | cons s r => exact .cons (ih (g u List.mem_cons_self) s) (ih2 _ (fun t ht => g t (List.mem_cons_of_mem _ ht)) r)
        exact .nd (e _ _ h1) hk' (all ts _ h sl) n' l'
theorem GT.shL {ls : List Nat} {H H' : Hp} (e : ∀ a xs, H a = some (.tup xs) → H' a = some (.tup xs)) {d : Nat} : ∀ (us : List T5) (vs : List V), (∀ t ∈ us, GT ls d t) → ShL H vs us → ShL H' vs us
  | [], _, _, .nil => .nil
  | u :: us, _, g, .cons s r => .cons ((g u List.mem_cons_self).sh e s) (GT.shL e us _ (fun t ht => g t (List.mem_cons_of_mem _ ht)) r)
theorem ShL.app {H : Hp} : ∀ {vs ws : List V} {ts us : List T5}, ShL H vs ts → ShL H ws us → ShL H (vs ++ ws) (ts ++ us)
  | _, _, _, _, .nil, h => h
  | _, _, _, _, .cons s r, h => .cons s (ShL.app r h)
/-- how many draws -/
def pC (d : Nat) : Nat := 10 * 3 ^ d - 1
theorem pC_succ (d : Nat) : 2 + 3 * pC d = pC (d + 1) := by
  unfold pC
  have : 1 ≤ 3 ^ d := Nat.one_le_pow d 3 (by decide)
  rw [Nat.pow_succ]
  omega
def spShape (d : Nat) : Sp := fun vs H Q _ => ∃ (pn cl : Addr) (ls : List Nat) (b : Nat), vs = [.ref pn, .str (S ls), .int ((d : Nat) : Int)] ∧ Pen H pn cl b ∧ b + pC d ≤ 900000 ∧ LLet ls ∧ ∀ x t H', GT ls d t → But pn H H' → Pen H' pn cl (b + pC d) → Sh H' x t → Q x H'
section
variable {P : Program} {w : World} {K : PySem.W.Frag} {mg : Str → Option Value} {base : Heap}
abbrev NSh : List Str := ["_law_pen_here", "_law_letters_here", "_law_depth", "_law_kind", "_law_inner", "_law_k"]
theorem scShape : FnScope NSh ["_law_pen_here", "_law_letters_here", "_law_depth"] (defScope sShape) := ⟨rfl, rfl, rfl, by decide +kernel, rfl, by decide +kernel, by decide +kernel⟩
theorem ok_shape0 {f : Addr} {fd : FuncData} (F : Fun K "_law_shape" "_law_shape" sShape f fd) (B : Bi mg) (cD : Cal CX0 P w K mg base 1 "_law_draw" spDraw) (cR : Cal CX0 P w K mg base 3 "_law_row" spLRow) : FnOk P w K mg base CX0 4 f fd ["_law_pen_here", "_law_letters_here", "_law_depth"] (spShape 0) := by
  refine F.ok scShape (fun vs H Q E h => ?_) (fun cdv A outer s H vs Q E hr h => ?_)
  · obtain ⟨pn, cl, ls, b, rfl, _⟩ := h
    rfl
  · obtain ⟨pn, cl, ls, b, rfl, pen, hb, L, q⟩ := h
    refine ⟨_, pss_cons (ps_set (i := 3) scShape.nd rfl (Or.inl rfl) (pe_c cD hr pass0 (pa_cons (pv 0) (pa_cons pe_int pa_nil))))
      (pss_cons (ps_if (PW.pt (pw_or (pt_cmpR op_eq (pv 2) pe_int (nomark _)) (pw_or1 (pt_cmpR op_lt (pv 3) pe_int (nomark _))))) (pss_one (ps_ret (pe_c cR hr pass0 (pa_cons (pv 0) (pa_cons (pv 1) pa_nil))))) pss_nil) pss_never), ?_⟩
    have hb : b + 9 ≤ 900000 := hb
    refine ⟨_, rfl, pn, cl, _, b, rfl, pen, by omega, by decide, by decide, fun m H1 m0 m1 e1 pen1 => ?_⟩
    refine ⟨_, rfl, rfl, _, rfl, ?_⟩
    rw [decide_eq_true (show V.int ((0 : Nat) : Int) = V.int 0 from rfl)]
    refine iteT ⟨_, rfl, _, rfl, pn, cl, ls, b + 1, rfl, pen1, by omega, L, fun x r H' g bt pen2 sh => ?_⟩
    exact q x _ H' (.row g) (e1.trans bt) pen2 sh
theorem ok_shapeS {f : Addr} {fd : FuncData} {d k : Nat} (F : Fun K "_law_shape" "_law_shape" sShape f fd) (B : Bi mg) (cD : Cal CX0 P w K mg base 1 "_law_draw" spDraw) (cK : Cal CX0 P w K mg base 2 "_law_pick" spPick) (cR : Cal CX0 P w K mg base 3 "_law_row" spLRow) (hk : 4 ≤ k) (cS : Cal CX0 P w K mg base k "_law_shape" (spShape d)) : FnOk P w K mg base CX0 (k + 1) f fd ["_law_pen_here", "_law_letters_here", "_law_depth"] (spShape (d + 1)) := by
  refine F.ok scShape (fun vs H Q E h => ?_) (fun cdv A outer s H vs Q E hr h => ?_)
  · obtain ⟨pn, cl, ls, b, rfl, _⟩ := h
    rfl
  · obtain ⟨pn, cl, ls, b, rfl, pen, hb, L, q⟩ := h
    refine ⟨_, pss_cons (ps_set (i := 3) scShape.nd rfl (Or.inl rfl) (pe_c cD hr pass0 (pa_cons (pv 0) (pa_cons pe_int pa_nil)) (by omega)))
      (pss_cons (ps_if (PW.pt (pw_or (pt_cmpR op_eq (pv 2) pe_int (nomark _)) (pw_or1 (pt_cmpR op_lt (pv 3) pe_int (nomark _))))) (pss_one (ps_ret (pe_c cR hr pass0 (pa_cons (pv 0) (pa_cons (pv 1) pa_nil)) (by omega)))) pss_nil)
      (pss_cons (ps_if (pt_cmpR op_eq (pv 3) pe_int (nomark _)) (pss_one (ps_ret (pe_tup (pa_cons pe_str (pa_cons (pe_c cS hr pass0 (pa_cons (pv 0) (pa_cons (pv 1) (pa_cons (pe_op op_sub (pv 2) pe_int) pa_nil))) (Nat.le_refl _)) pa_nil))))) pss_nil)
      (pss_cons (ps_setLc (i := 4) (own := [("_law_k", 5)]) rfl scShape.nd rfl rfl (sw_true rfl rfl rfl (by decide +kernel)) (pi_range1 rfl B.range (pa_cons (pe_c cK hr pass0 (pa_cons (pv 0) (pa_cons (pe_lst (pa_cons pe_int (pa_cons pe_int (pa_cons pe_int (pa_cons pe_int (pa_cons pe_int pa_nil)))))) pa_nil)) (by omega)) pa_nil)) (blkOk_by (N := NSh) (sc := defScope sShape) (by decide +kernel))
          (fun _ _ _ _ _ => pg_name (i := 5) scShape.nd rfl (Or.inl rfl)) (fun _ _ _ _ _ => pts_nil) (fun _ _ _ _ _ => pe_c cS hr pass0 (pa_cons (pv 0) (pa_cons (pv 1) (pa_cons (pe_op op_sub (pv 2) pe_int) pa_nil))) (Nat.le_refl _)))
      (pss_one (ps_ret (pe_tupleOf rfl B.tuple (pe_op op_cat (pe_lst (pa_cons (pe_ix ix_list (pe_lst (pa_cons pe_str (pa_cons pe_str pa_nil))) (pe_op op_mod (pe_int1 B.int (pa_cons (pv 3) pa_nil)) pe_int) (fun _ _ => rfl)) pa_nil)) (pv 4)))))))), ?_⟩
    have pc := pC_succ d
    have p9 : 9 ≤ pC d := by
      unfold pC
      have : 1 ≤ 3 ^ d := Nat.one_le_pow d 3 (by decide)
      omega
    refine ⟨_, rfl, pn, cl, _, b, rfl, pen, by omega, by decide, by decide, fun m H1 m0 m1 e1 pen1 => ?_⟩
    obtain ⟨m, rfl⟩ := Int.eq_ofNat_of_zero_le m0
    refine ⟨_, rfl, rfl, _, rfl, ?_⟩
    rw [decide_eq_false (show ¬ V.int ((d + 1 : Nat) : Int) = V.int 0 from fun z => by have := V.int.inj z; omega)]
    refine iteF ?_
    have ed : ((d + 1 : Nat) : Int) - 1 = ((d : Nat) : Int) := by omega
    refine ⟨_, rfl, _, _, rfl, rfl, _, rfl, ?_⟩
    refine ite2 (fun c => ?_) fun c => ?_
    · refine ⟨_, rfl, _, rfl, pn, cl, ls, b + 1, rfl, pen1, by omega, L, fun x r H' g bt pen2 sh => ?_⟩
      exact q x _ H' (.row g) (e1.trans bt) (pen2.mono (by omega)) sh
    refine ⟨_, rfl, rfl, _, rfl, ?_⟩
    refine ite2 (fun c2 => ?_) fun c2 => ?_
    · refine ⟨_, rfl, _, rfl, _, rfl, _, _, rfl, rfl, pn, cl, ls, b + 1, by
        show [V.ref pn, V.str (S ls), V.int (((d + 1 : Nat) : Int) - 1)] = _
        rw [ed], pen1, by omega, L, fun x t H2 g bt pen2 sh => ⟨by show 2 ≤ sizeLine; decide, fun a na => ?_⟩⟩
      have e3 := same_new (o := .tup [.str "not", x]) na
      exact q _ _ _ (.nd (k := 0) (ts := [t]) (by omega) (fun _ => rfl) (by simp) fun u hu => by rw [List.mem_singleton.mp hu]; exact g) (fun c o n z => e3 _ _ (bt _ _ n (e1 _ _ n z))) ((pen2.same e3).mono (by omega)) (.nd upd_same (by omega) (.cons (Sh.same e3 _ _ sh) .nil) (fun _ => rfl) (by simp))
    · refine ⟨_, rfl, by show 5 ≤ sizeLine; decide, fun l0 n0 => ?_⟩
      have e2 := same_new (o := .lst [.int 2, .int 2, .int 1, .int 3, .int 0]) n0
      have hl2 : upd H1 l0 (.lst [.int 2, .int 2, .int 1, .int 3, .int 0]) l0 = some (.lst [.int 2, .int 2, .int 1, .int 3, .int 0]) := upd_same
      have pen2 := pen1.same e2
      generalize upd H1 l0 (.lst [.int 2, .int 2, .int 1, .int 3, .int 0]) = H2 at e2 hl2 pen2 ⊢
      refine ⟨pn, cl, l0, _, b + 1, rfl, pen2, by omega, hl2, by decide, by decide, fun x H3 hx e3 pen3 => ?_⟩
      obtain ⟨n, rfl, n3⟩ : ∃ n : Nat, x = .int ((n : Nat) : Int) ∧ n ≤ 3 := by
        simp only [List.mem_cons, List.not_mem_nil, or_false] at hx
        rcases hx with rfl | rfl | rfl | rfl | rfl
        · exact ⟨2, rfl, by decide⟩
        · exact ⟨2, rfl, by decide⟩
        · exact ⟨1, rfl, by decide⟩
        · exact ⟨3, rfl, by decide⟩
        · exact ⟨0, rfl, by decide⟩
      have b3 : But pn H H3 := fun c o n z => e3 _ _ n (e2 _ _ (e1 _ _ n z))
      refine ⟨_, rfl, by omega, by omega, fun D nD => ?_⟩
      have npD : pn ≠ D := (pen3.off nD).1
      have ncD : cl ≠ D := (pen3.off nD).2
      have nDo : ∀ c o, c ≠ pn → H c = some o → c ≠ D := fun c o n z => ne_of_none (b3 _ _ n z) nD
      refine lc_it walk_range (fun i H' => ∃ (vs : List V) (ts : List T5), But pn H H' ∧ Pen H' pn cl (b + 2 + i * pC d) ∧ ShL H' vs ts ∧ (∀ t ∈ ts, GT ls d t) ∧ ts.length = i ∧ H' D = some (.lst vs)) ⟨[], [], fun c o n z => (upd_ne (nDo c o n z)).trans (b3 _ _ n z), (pen3.upd npD ncD).mono (by omega), .nil, (fun t h => nomatch h), rfl, upd_same⟩ (fun _ _ _ _ => True.intro) ?_ ?_
      · rintro i x H4 H5 hi ⟨vs, ts, b4, pen4, sl, g4, lt, hD⟩ ⟨rfl, hx⟩
        have hi3 : i < n := by omega
        have em : (i + 1) * pC d = i * pC d + pC d := by rw [Nat.add_mul, Nat.one_mul]
        have em3 : i * pC d ≤ 2 * pC d := Nat.mul_le_mul_right _ (by omega)
        refine ⟨rfl, yesT ⟨_, rfl, _, rfl, _, rfl, _, _, rfl, rfl, pn, cl, ls, _, by
          show [V.ref pn, V.str (S ls), V.int (((d + 1 : Nat) : Int) - 1)] = _
          rw [ed], pen4, by omega, L, fun x t H6 g bt pen6 sh => ⟨vs, bt _ _ npD.symm hD, ?_, vs ++ [x], ts ++ [t], ?_, ?_, ?_, ?_, by rw [List.length_append, lt]; rfl, upd_same⟩⟩⟩
        · have := sl.len
          exact small10 (by omega)
        · exact fun c o n z => (upd_ne (nDo c o n z)).trans (bt _ _ n (b4 _ _ n z))
        · rw [em, ← Nat.add_assoc]
          exact pen6.upd npD ncD
        · have hD6 := bt _ _ npD.symm hD
          have kt : ∀ a xs, H6 a = some (.tup xs) → upd H6 D (.lst (vs ++ [x])) a = some (.tup xs) := fun a xs z => (upd_ne (ne_of z hD6 fun y => nomatch y)).trans z
          have tl := TL.pen pen4 bt
          exact ShL.app (GT.shL (fun a xs z => kt _ _ (tl.t _ _ z)) ts vs g4 sl) (.cons (g.sh kt sh) .nil)
        · intro u hu
          rcases List.mem_append.mp hu with hu | hu
          · exact g4 u hu
          · rw [List.mem_singleton.mp hu]
            exact g
      · rintro H4 ⟨vs, ts, b4, pen4, sl, g4, lt, hD⟩
        have lv := sl.len
        have n3' : ts.length ≤ 3 := by omega
        refine ⟨by show 2 ≤ sizeLine; decide, fun l5 n5 => ?_⟩
        have e5 := same_new (o := .lst [.str "both", .str "either"]) n5
        have hl5 : upd H4 l5 (.lst [.str "both", .str "either"]) l5 = some (.lst [.str "both", .str "either"]) := upd_same
        generalize upd H4 l5 (.lst [.str "both", .str "either"]) = H5 at e5 hl5 ⊢
        obtain ⟨k, hk1, hk2, hk⟩ : ∃ k : Nat, (k = 1 ∨ k = 2) ∧ atI [V.str ("both" : Str), V.str ("either" : Str)] (((m : Nat) : Int) % 2) = some (.str (kn k)) ∧ k ≤ 2 := by
          by_cases c : m % 2 = 0
          · rw [show ((m : Nat) : Int) % 2 = ((0 : Nat) : Int) by omega]
            exact ⟨1, .inl rfl, atI_nat rfl, by omega⟩
          · rw [show ((m : Nat) : Int) % 2 = ((1 : Nat) : Int) by omega]
            exact ⟨2, .inr rfl, atI_nat rfl, by omega⟩
        refine ⟨_, rfl, .inl ⟨_, rfl, _, _, rfl, rfl, (by show (0 : Int) < 2; decide), l5, _, _, _, rfl, rfl, SqL.of hl5, hk2, by show 1 ≤ sizeLine; decide, fun l6 n6 => ?_⟩⟩
        have e6 := same_new (o := .lst [.str (kn k)]) n6
        have hl6 : upd H5 l6 (.lst [.str (kn k)]) l6 = some (.lst [.str (kn k)]) := upd_same
        generalize upd H5 l6 (.lst [.str (kn k)]) = H6 at e6 hl6 ⊢
        refine ⟨_, rfl, l6, D, _, _, rfl, rfl, hl6, e6 _ _ (e5 _ _ hD), ?_, fun l7 n7 => ?_⟩
        · show 1 + _ ≤ _
          exact Nat.le_of_lt (small10 (by omega))
        have e7 := same_new (o := .lst ([.str (kn k)] ++ vs)) n7
        have hl7 : upd H6 l7 (.lst ([.str (kn k)] ++ vs)) l7 = some (.lst ([.str (kn k)] ++ vs)) := upd_same
        generalize upd H6 l7 (.lst ([.str (kn k)] ++ vs)) = H7 at e7 hl7 ⊢
        refine .inl ⟨l7, _, rfl, SqL.of hl7, fun a na => ?_⟩
        have e8 := same_new (o := .tup ([.str (kn k)] ++ vs)) na
        have e48 := e5.trans (e6.trans (e7.trans e8))
        have b8 : b + 2 + n * pC d ≤ b + pC (d + 1) := by
          have : n * pC d ≤ 3 * pC d := Nat.mul_le_mul_right _ n3
          omega
        have en : (((n : Nat) : Int)).toNat = n := Int.toNat_natCast n
        rw [en] at pen4 lt
        exact q _ _ _ (.nd (k := k) (ts := ts) hk (fun z => by omega) (by omega) g4) (fun c o n z => e48 _ _ (b4 _ _ n z)) ((pen4.same e48).mono b8) (.nd upd_same hk (ShL.same e48 _ _ sl) (fun z => by omega) (by omega))
end
end K05
set_option Elab.async false
set_option linter.all false
set_option maxRecDepth 100001
set_option maxHeartbeats 3999999
namespace K05
open PySem L2
theorem GT.up {ls : List Nat} {d : Nat} : ∀ {e : Nat} {t : T5}, GT ls d t → d ≤ e → GT ls e t := by
  induction d with
  | zero =>
    intro e t g h
    cases g with
    | row g => exact .row g
  | succ d ih =>
    intro e t g h
    cases g with
    | row g => exact .row g
    | nd hk n l hh =>
      obtain ⟨e', rfl⟩ : ∃ e', e = e' + 1 := ⟨e - 1, by omega⟩
      exact .nd hk n l fun t ht => ih (hh t ht) (by omega)
theorem rwsL_sum : ∀ ts : List T5, ((rwsL ts).length : Int) = (ts.map fun t => ((rws t).length : Int)).sum
  | [] => by rw [rwsL]; rfl
  | t :: ts => by
    rw [rwsL, List.length_append, List.map_cons, List.sum_cons, ← rwsL_sum ts]
    omega
def spRowsIn (d : Nat) : Sp := fun vs H Q _ => ∃ (v : V) (ls : List Nat) (t : T5), vs = [v] ∧ GT ls d t ∧ Sh H v t ∧ ∀ H', Same H H' → Q (.int (((rws t).length : Nat) : Int)) H'
section
variable {P : Program} {w : World} {K : PySem.W.Frag} {mg : Str → Option Value} {base : Heap}
section
variable {X : Cx}
theorem pe_sum {a : Expr} {es : List Expr} {t : TA} {p pos : Pos} (hc : X.calm = true) (hm : X.mg "sum" = none) (ha : PA X (a :: es) t) (hg : Gl X "sum" := by rfl) (he : starEach (a :: es) X.env = (false, eval a X.env) :: starEach es X.env := by rfl)
    (hpl : (backTo pos (starEach es X.env)).any (·.1) = false := by rfl) :
    PE X (.Call (.Name "sum" p) (a :: es) [] pos) (tCB (rSum X.K) t) := pe_callB (cr_sum hc) hg hm (by decide +kernel) ha (he := he) (hpl := hpl)
end
theorem scRowsIn : FnScope ["_law_shape_here", "_law_part"] ["_law_shape_here"] (defScope sRowsIn) := ⟨rfl, rfl, rfl, by decide +kernel, rfl, by decide +kernel, by decide +kernel⟩
theorem ok_rowsIn0 {f : Addr} {fd : FuncData} (F : Fun K "_law_rows_in" "_law_rows_in" sRowsIn f fd) : FnOk P w K mg base CX0 1 f fd ["_law_shape_here"] (spRowsIn 0) := by
  refine F.ok scRowsIn (fun vs H Q E h => ?_) (fun cdv A outer s H vs Q E hr h => ?_)
  · obtain ⟨v, ls, t, rfl, _⟩ := h
    rfl
  · obtain ⟨v, ls, t, rfl, g, sh, q⟩ := h
    refine ⟨_, pss_cons (ps_if (pt_cmpR op_eq (pe_ix ix_tup (pv 0) pe_int (fun _ _ => rfl)) pe_str (nomark _)) (pss_one (ps_ret pe_int)) pss_nil) pss_never, ?_⟩
    cases g with
    | row g =>
      cases sh with
      | row h1 h2 l k =>
        refine ⟨_, rfl, _, _, _, _, rfl, rfl, SqT.of h1, atI_nat (j := 0) rfl, rfl, _, rfl, ?_⟩
        rw [decide_eq_true rfl]
        have := q H (Same.refl H)
        rw [rws] at this
        exact iteT this
theorem ok_rowsInS {f : Addr} {fd : FuncData} {d k : Nat} (F : Fun K "_law_rows_in" "_law_rows_in" sRowsIn f fd) (hs : mg "sum" = none) (cR : Cal CX0 P w K mg base k "_law_rows_in" (spRowsIn d)) : FnOk P w K mg base CX0 (k + 1) f fd ["_law_shape_here"] (spRowsIn (d + 1)) := by
  refine F.ok scRowsIn (fun vs H Q E h => ?_) (fun cdv A outer s H vs Q E hr h => ?_)
  · obtain ⟨v, ls, t, rfl, _⟩ := h
    rfl
  · obtain ⟨v, ls, t, rfl, g, sh, q⟩ := h
    refine ⟨_, pss_cons (ps_if (pt_cmpR op_eq (pe_ix ix_tup (pv 0) pe_int (fun _ _ => rfl)) pe_str (nomark _)) (pss_one (ps_ret pe_int)) pss_nil)
      (pss_one (ps_ret (pe_sum rfl hs (pa_cons (pe_lc (own := [("_law_part", 1)]) rfl scRowsIn.nd (pi_sqA (pe_slice sl_tupA (pv 0) (po_some pe_int) po_none)) (blkOk_by (N := ["_law_shape_here", "_law_part"]) (sc := defScope sRowsIn) (by decide +kernel))
          (fun _ _ _ _ _ => pg_name (i := 1) scRowsIn.nd rfl (Or.inl rfl)) (fun _ _ _ _ _ => pts_nil) (fun _ _ _ _ _ => pe_c cR hr pass0 (pa_cons (pv 1) pa_nil) (Nat.le_refl _))) pa_nil)))), ?_⟩
    cases g with
    | row g =>
      cases sh with
      | row h1 h2 l k =>
        refine ⟨_, rfl, _, _, _, _, rfl, rfl, SqT.of h1, atI_nat (j := 0) rfl, rfl, _, rfl, ?_⟩
        rw [decide_eq_true rfl]
        have := q H (Same.refl H)
        rw [rws] at this
        exact iteT this
    | @nd _ k ts hk n l hg =>
      cases sh with
      | @nd a _ zs _ h1 hk' sl n' l' =>
        refine ⟨_, rfl, _, _, _, _, rfl, rfl, SqT.of h1, atI_nat (j := 0) rfl, rfl, _, rfl, ?_⟩
        rw [decide_eq_false (show ¬ V.str (kn k) = V.str "row" from fun z => kn_row k (V.str.inj z))]
        refine iteF ?_
        have lz := sl.len
        refine ⟨_, rfl, 1, rfl, ?_⟩
        simp only [tNoPart]
        refine sl_tup h1 fun tt H1 e1 htt => ?_
        rw [show (some (1 : Int)) = some ((1 : Nat) : Int) from rfl, cut_from (by rw [List.length_cons]; omega)] at htt
        have htt : H1 tt = some (.tup zs) := htt
        refine ⟨tt, zs, rfl, .inr (SqT.of htt), fun J G wk hG L nL => lc_it wk (fun i H' => Same H1 H' ∧ H' L = some (.lst (((ts.take i).map fun t => ((rws t).length : Int)).map V.int))) ⟨same_new nL, upd_same⟩ (fun i H' _ z => hG H' fun o z' => z.1 _ _ z') ?_ ?_⟩
        · rintro i x H2 H3 hi ⟨e2, hL⟩ ⟨rfl, hx⟩
          have hi2 : i < ts.length := by omega
          have ht := List.getElem?_eq_getElem hi2
          obtain ⟨v, hv, sv⟩ := sl.get ht
          rw [hx] at hv
          cases hv
          refine ⟨rfl, yesT ⟨_, rfl, x, ls, ts[i], rfl, hg _ (List.getElem_mem hi2), Sh.same (e1.trans e2) _ _ sv, fun H4 e4 => ⟨_, e4 _ _ hL, by rw [List.length_map, List.length_map, List.length_take]; exact small10 (by omega), fun b o z => (upd_ne (ne_of_none z nL)).trans (e4 _ _ (e2 _ _ z)), ?_⟩⟩⟩
          rw [upd_same, List.take_add_one, ht, List.map_append, List.map_append]
          rfl
        · rintro H2 ⟨e2, hL⟩
          rw [lz, List.take_length] at hL
          refine ⟨L, _, rfl, SqL.of hL, ?_⟩
          have := q H2 (e1.trans e2)
          rw [rws, rwsL_sum] at this
          exact this
def spSmall : Sp := fun vs H Q _ => ∃ (pn cl : Addr) (ls : List Nat) (b : Nat), vs = [.ref pn, .str (S ls), .int 2] ∧ Pen H pn cl b ∧ b ≤ 100000 ∧ LLet ls ∧ ∀ x t H', GT ls 2 t → (rws t).length ≤ 4 → But pn H H' → Pen H' pn cl (b + 89) → Sh H' x t → Q x H'
theorem scSmall : FnScope ["_law_pen_here", "_law_letters_here", "_law_depth", "_law_shape_here"] ["_law_pen_here", "_law_letters_here", "_law_depth"] (defScope sSmall) := ⟨rfl, rfl, rfl, by decide +kernel, rfl, by decide +kernel, by decide +kernel⟩
theorem ok_small {f : Addr} {fd : FuncData} (F : Fun K "_law_small" "_law_small" sSmall f fd) (cS : Cal CX0 P w K mg base 6 "_law_shape" (spShape 2)) (cR : Cal CX0 P w K mg base 3 "_law_rows_in" (spRowsIn 2)) : FnOk P w K mg base CX0 7 f fd ["_law_pen_here", "_law_letters_here", "_law_depth"] spSmall := by
  refine F.ok scSmall (fun vs H Q E h => ?_) (fun cdv A outer s H vs Q E hr h => ?_)
  · obtain ⟨pn, cl, ls, b, rfl, _⟩ := h
    rfl
  · obtain ⟨pn, cl, ls, b, rfl, pen, hb, L, q⟩ := h
    refine ⟨_, pss_cons (ps_set (i := 3) scSmall.nd rfl (Or.inl rfl) (pe_c cS hr pass0 (pa_cons (pv 0) (pa_cons (pv 1) (pa_cons (pv 2) pa_nil)))))
      (pss_cons (ps_while PassesOwn.never (pt_cmpR op_gt (pe_c cR hr pass0 (pa_cons (pv 3) pa_nil)) pe_int (nomark _)) (pss_one (ps_set (i := 3) scSmall.nd rfl (Or.inl rfl) (pe_ix ix_tup (pv 3) pe_int (fun _ _ => rfl)))))
      (pss_one (ps_ret (pv 3)))), ?_⟩
    have p2 : pC 2 = 89 := rfl
    refine ⟨_, rfl, _, rfl, _, rfl, pn, cl, ls, b, rfl, pen, by omega, L, fun x t H1 g b1 pen1 sh => ?_⟩
    rw [p2] at pen1
    refine ⟨fun m σ H' => ∃ x t, σ = [some (.ref pn), some (.str (S ls)), some (.int 2), some x] ∧ m ≤ 2 ∧ GT ls m t ∧ But pn H H' ∧ Pen H' pn cl (b + 89) ∧ Sh H' x t, ⟨2, x, t, rfl, Nat.le_refl _, g, b1, pen1, sh⟩, ?_⟩
    rintro m σ H2 ⟨x, t, rfl, m2, g, b2, pen2, sh⟩
    refine ⟨_, rfl, x, ls, t, rfl, g.up m2, sh, fun H3 e3 => ⟨_, _, rfl, rfl, _, rfl, ?_⟩⟩
    have b3 : But pn H H3 := fun c o n z => e3 _ _ (b2 _ _ n z)
    by_cases c : 4 < (rws t).length
    · rw [decide_eq_true (show (4 : Int) < (((rws t).length : Nat) : Int) by omega)]
      refine iteT ?_
      cases g with
      | row g =>
        rw [rws] at c
        exact absurd c (by show ¬ 4 < 1; omega)
      | @nd d k ts hk n l hg =>
        cases sh with
        | @nd a _ zs _ h1 hk' sl n' l' =>
          cases ts with
          | nil =>
            rw [rws, rwsL] at c
            exact absurd c (by show ¬ 4 < 0; omega)
          | cons u us =>
            cases sl with
            | @cons z zs _ _ s0 r =>
              refine ⟨fun σ' H' => σ' = [some (.ref pn), some (.str (S ls)), some (.int 2), some z] ∧ H' = H3, fun σ' H' ⟨e1, e2⟩ => ⟨d, by omega, z, u, e1, by omega, hg u List.mem_cons_self, by rw [e2]; exact b3, by rw [e2]; exact pen2.same e3, by rw [e2]; exact Sh.same e3 _ _ s0⟩, ?_⟩
              exact ⟨_, rfl, _, _, _, _, rfl, rfl, SqT.of (e3 _ _ h1), atI_nat (j := 1) rfl, rfl, rfl⟩
    · rw [decide_eq_false (show ¬ (4 : Int) < (((rws t).length : Nat) : Int) by omega)]
      exact iteF ⟨_, rfl, q x t H3 (g.up m2) (by omega) b3 (pen2.same e3) (Sh.same e3 _ _ sh)⟩
end
end K05
set_option Elab.async false
set_option linter.all false
set_option maxRecDepth 100001
set_option maxHeartbeats 3999999
namespace K05
open PySem L2
abbrev sWays : Stmt := topS 32
abbrev sSize : Stmt := topS 34
abbrev Wy := List Int × Bool
mutual
def wys (p : List Int) : T5 → List Wy
  | .row its => (p, false) :: (List.range its.length).map fun n => (p ++ [1, ((n : Nat) : Int)], true)
  | .nd _ ks => (p, false) :: wysL p 1 ks
  | .odd _ => [(p, false)]
def wysL (p : List Int) (i : Nat) : List T5 → List Wy
  | [] => []
  | t :: ts => wys (p ++ [((i : Nat) : Int)]) t ++ wysL p (i + 1) ts
end
/-- the law's ways in the heap -/
def WyA (H : Hp) (v : V) (w : Wy) : Prop := ∃ a q, v = .ref a ∧ H a = some (.tup [.ref q, .bl w.2]) ∧ H q = some (.tup (w.1.map V.int))
def WyS (H : Hp) : List V → List Wy → Prop
  | [], [] => True
  | v :: vs, w :: ws => WyA H v w ∧ WyS H vs ws
  | _, _ => False
theorem WyS.same {H H' : Hp} (e : Same H H') : ∀ {vs : List V} {ws : List Wy}, WyS H vs ws → WyS H' vs ws
  | [], [], _ => True.intro
  | v :: vs, w :: ws, ⟨⟨a, q, h1, h2, h3⟩, r⟩ => ⟨⟨a, q, h1, e _ _ h2, e _ _ h3⟩, WyS.same e r⟩
  | [], _ :: _, h => h.elim
  | _ :: _, [], h => h.elim
theorem WyS.tl {H H' : Hp} (e : ∀ a xs, H a = some (.tup xs) → H' a = some (.tup xs)) : ∀ {vs : List V} {ws : List Wy}, WyS H vs ws → WyS H' vs ws
  | [], [], _ => True.intro
  | v :: vs, w :: ws, ⟨⟨a, q, h1, h2, h3⟩, r⟩ => ⟨⟨a, q, h1, e _ _ h2, e _ _ h3⟩, WyS.tl e r⟩
  | [], _ :: _, h => h.elim
  | _ :: _, [], h => h.elim
theorem WyS.app {H : Hp} : ∀ {vs us : List V} {ws xs : List Wy}, WyS H vs ws → WyS H us xs → WyS H (vs ++ us) (ws ++ xs)
  | [], _, [], _, _, h => h
  | v :: vs, _, w :: ws, _, ⟨a, r⟩, h => ⟨a, WyS.app r h⟩
  | [], _, _ :: _, _, h, _ => h.elim
  | _ :: _, _, [], _, h, _ => h.elim
theorem WyS.len {H : Hp} : ∀ {vs : List V} {ws : List Wy}, WyS H vs ws → vs.length = ws.length
  | [], [], _ => rfl
  | v :: vs, w :: ws, ⟨_, r⟩ => by rw [List.length_cons, List.length_cons, WyS.len r]
  | [], _ :: _, h => h.elim
  | _ :: _, [], h => h.elim
theorem WyS.mem {H : Hp} : ∀ {vs : List V} {ws : List Wy} {v : V}, WyS H vs ws → v ∈ vs → ∃ w ∈ ws, WyA H v w
  | [], [], _, _, h => nomatch h
  | v :: vs, w :: ws, x, ⟨a, r⟩, h => by
    rcases List.mem_cons.mp h with rfl | h
    · exact ⟨w, List.mem_cons_self, a⟩
    · obtain ⟨w', h1, h2⟩ := WyS.mem r h
      exact ⟨w', List.mem_cons_of_mem _ h1, h2⟩
  | [], _ :: _, _, h, _ => h.elim
  | _ :: _, [], _, h, _ => h.elim
theorem GT.wys_len {ls : List Nat} {d : Nat} : ∀ {t : T5}, GT ls d t → ∀ p, (wys p t).length = cnt t := by
  have row : ∀ (its : List V) p, (wys p (.row its)).length = cnt (.row its) := fun its p => by
    rw [wys, cnt, List.length_cons, List.length_map, List.length_range]
    omega
  induction d with
  | zero =>
    intro t g p
    cases g with
    | row g => exact row _ p
  | succ d ih =>
    intro t g p
    cases g with
    | row g => exact row _ p
    | @nd _ k ts hk n l h =>
      have all : ∀ (us : List T5) (i : Nat), (∀ t ∈ us, GT ls d t) → (wysL p i us).length = cntL us := by
        intro us
        induction us with
        | nil => intro i _; rw [wysL, cntL]; rfl
        | cons u us ih2 =>
          intro i hu
          rw [wysL, cntL, List.length_append, ih (hu u List.mem_cons_self), ih2 (i + 1) fun t ht => hu t (List.mem_cons_of_mem _ ht)]
      rw [wys, cnt, List.length_cons, all ts 1 h]
      omega
theorem wysL_snoc (p : List Int) : ∀ (us : List T5) (u : T5) (i : Nat), wysL p i (us ++ [u]) = wysL p i us ++ wys (p ++ [((i + us.length : Nat) : Int)]) u
  | [], u, i => by
    show wysL p i [u] = _
    rw [wysL, wysL, wysL]
    simp
  | v :: us, u, i => by
    show wysL p i (v :: (us ++ [u])) = _
    rw [wysL, wysL_snoc p us u (i + 1), wysL, List.append_assoc]
    rw [show i + 1 + us.length = i + (v :: us).length by rw [List.length_cons]; omega]
theorem cntL_get : ∀ {ts : List T5} {i : Nat} {t : T5}, ts[i]? = some t → cnt t ≤ cntL ts
  | [], _, _, h => nomatch h
  | u :: us, 0, _, h => by
    cases h
    rw [cntL]
    omega
  | u :: us, i + 1, _, h => by
    have := cntL_get (ts := us) (i := i) h
    rw [cntL]
    omega
theorem cntL_take : ∀ (ts : List T5) (i : Nat), cntL (ts.take i) ≤ cntL ts
  | [], i => by rw [List.take_nil]; exact Nat.le_refl _
  | u :: us, 0 => by
    rw [List.take_zero, cntL]
    exact Nat.zero_le _
  | u :: us, i + 1 => by
    have := cntL_take us i
    rw [List.take_succ_cons, cntL, cntL]
    omega
theorem wysL_len {ls : List Nat} {d : Nat} : ∀ {us : List T5}, (∀ t ∈ us, GT ls d t) → ∀ (p : List Int) (i : Nat), (wysL p i us).length = cntL us
  | [], _, p, i => by rw [wysL, cntL]; rfl
  | u :: us, h, p, i => by
    rw [wysL, cntL, List.length_append, (h u List.mem_cons_self).wys_len, wysL_len (fun t ht => h t (List.mem_cons_of_mem _ ht)) p (i + 1)]
def spWays (d : Nat) : Sp := fun vs H Q _ => ∃ (x : V) (q : Addr) (p : List Int) (ls : List Nat) (t : T5), vs = [x, .ref q] ∧ H q = some (.tup (p.map V.int)) ∧ p.length + d ≤ 11 ∧ cnt t ≤ 4000 ∧ (∃ e, d = e + 1 ∧ GT ls e t) ∧ LLet ls ∧ Sh H x t ∧ ∀ L vs H', Same H H' → H' L = some (.lst vs) → WyS H' vs (wys p t) → Q (.ref L) H'
section
variable {P : Program} {w : World} {K : PySem.W.Frag} {mg : Str → Option Value} {base : Heap}
abbrev NWy : List Str := ["_law_shape_here", "_law_way", "_law_found", "_law_number", "_law_at"]
theorem scWays : FnScope NWy ["_law_shape_here", "_law_way"] (defScope sWays) := ⟨rfl, rfl, rfl, by decide +kernel, rfl, by decide +kernel, by decide +kernel⟩
theorem op_catAK {X : Cx} (K : PySem.W.Frag) (hK : X.K = K) : OpR X (binaryOp .Add) (rCatA K) := by
  subst hK
  exact op_catA
theorem ok_ways0 {f : Addr} {fd : FuncData} (F : Fun K "_law_ways" "_law_ways" sWays f fd) : FnOk P w K mg base CX0 1 f fd ["_law_shape_here", "_law_way"] (spWays 0) := by
  refine F.ok scWays (fun vs H Q E h => ?_) (fun cdv A outer s H vs Q E hr h => ?_)
  · obtain ⟨x, q, p, ls, t, rfl, _⟩ := h
    rfl
  · obtain ⟨x, q, p, ls, t, rfl, hq, lp, c40, ⟨e, ee, g⟩, _⟩ := h
    cases ee
theorem ok_waysS {f : Addr} {fd : FuncData} {d k : Nat} (F : Fun K "_law_ways" "_law_ways" sWays f fd) (B : Bi mg) (cW : Cal CX0 P w K mg base k "_law_ways" (spWays d)) : FnOk P w K mg base CX0 (k + 1) f fd ["_law_shape_here", "_law_way"] (spWays (d + 1)) := by
  refine F.ok scWays (fun vs H Q E h => ?_) (fun cdv A outer s H vs Q E hr h => ?_)
  · obtain ⟨x, q, p, ls, t, rfl, _⟩ := h
    rfl
  · obtain ⟨x, q, p, ls, t, rfl, hq, lp, c40, ⟨e, ee, g⟩, L, sh, out⟩ := h
    obtain rfl : d = e := by omega
    refine ⟨_, pss_cons (ps_set (i := 2) scWays.nd rfl (Or.inl rfl) (pe_lst (pa_cons (pe_tup (pa_cons (pv 1) (pa_cons pe_bl pa_nil))) pa_nil)))
      (pss_cons (ps_if (pt_cmpR op_eq (pe_ix ix_tup (pv 0) pe_int (fun _ _ => rfl)) pe_str (nomark _))
        (pss_one (ps_ret (pe_op op_cat (pv 2) (pe_lc (own := [("_law_number", 3)]) rfl scWays.nd (pi_range1 rfl B.range (pa_cons (pe_len B.len (pa_cons (pe_ix ix_tup (pv 0) pe_int (fun _ _ => rfl)) pa_nil)) pa_nil)) (blkOk_by (N := NWy) (sc := defScope sWays) (by decide +kernel))
          (fun _ _ _ _ _ => pg_name (i := 3) scWays.nd rfl (Or.inl rfl)) (fun _ _ _ _ _ => pts_nil) (fun _ _ _ _ _ => pe_tup (pa_cons (pe_op (op_catAK K rfl) (pv 1) (pe_tup (pa_cons pe_int (pa_cons (pv 3) pa_nil)))) (pa_cons pe_bl pa_nil))))))) pss_nil)
      (pss_cons (ps_for PassesOwn.never rfl (pi_range2 rfl B.range (pa_cons pe_int (pa_cons (pe_len B.len (pa_cons (pv 0) pa_nil)) pa_nil))) (pg_name (i := 4) scWays.nd rfl (.inl rfl))
        (pss_one (ps_set (i := 2) scWays.nd rfl (Or.inl rfl) (pe_op op_cat (pv 2) (pe_c cW hr pass0 (pa_cons (pe_ix ix_tup (pv 0) (pv 4) (fun _ _ => rfl)) (pa_cons (pe_op op_catA (pv 1) (pe_tup (pa_cons (pv 4) pa_nil))) pa_nil)) (Nat.le_refl _))))))
      (pss_one (ps_ret (pv 2))))), ?_⟩
    refine ⟨_, rfl, by show 2 ≤ sizeLine; decide, fun a na => ⟨by show 1 ≤ sizeLine; decide, fun L0 nL0 => ?_⟩⟩
    have e1 := same_new (o := .tup [.ref q, .bl false]) na
    have ha1 : upd H a (.tup [.ref q, .bl false]) a = some (.tup [.ref q, .bl false]) := upd_same
    generalize upd H a (.tup [.ref q, .bl false]) = H1 at e1 ha1 nL0 ⊢
    have e2 := same_new (o := .lst [.ref a]) nL0
    have hL2 : upd H1 L0 (.lst [.ref a]) L0 = some (.lst [.ref a]) := upd_same
    generalize upd H1 L0 (.lst [.ref a]) = H2 at e2 hL2 ⊢
    have s2 := e1.trans e2
    have w0 : WyA H2 (.ref a) (p, false) := ⟨a, q, rfl, e2 _ _ ha1, s2 _ _ hq⟩
    have hq2 := s2 _ _ hq
    clear e1 e2 ha1 na nL0
    have c4 : cnt t ≤ 4000 := c40
    cases sh with
    | odd => cases g
    | @row ya b its h1 h2 l100 kx =>
      have l3 : its.length ≤ 3 := by
        cases g with
        | row g =>
          rw [strs_len]
          exact g.len
      refine ⟨_, rfl, _, _, _, _, rfl, rfl, SqT.of (s2 _ _ h1), atI_nat (j := 0) rfl, rfl, _, rfl, ?_⟩
      rw [decide_eq_true rfl]
      refine iteT ⟨_, rfl, _, rfl, _, _, _, _, rfl, rfl, SqT.of (s2 _ _ h1), atI_nat (j := 1) rfl, b, _, rfl, .inr (SqT.of (s2 _ _ h2)), _, rfl, by omega, by omega, fun D nD => ?_⟩
      have nDo : ∀ c o, H2 c = some o → c ≠ D := fun c o z => ne_of_none z nD
      refine lc_it walk_range (fun i H' => ∃ us, Same H2 H' ∧ H' D = some (.lst us) ∧ WyS H' us ((List.range i).map fun n => (p ++ [1, ((n : Nat) : Int)], true))) ⟨[], same_new nD, upd_same, True.intro⟩ (fun _ _ _ _ => True.intro) ?_ ?_
      · rintro i y H3 H4 hi ⟨us, e3, hD, wy⟩ ⟨rfl, hy⟩
        have hi3 : i < its.length := by omega
        have ey : y = .int ((i : Nat) : Int) := by
          cases hy
          show V.int (0 + ((i : Nat) : Int)) = _
          congr 1
          omega
        subst ey
        have hq3 := e3 _ _ hq2
        refine ⟨rfl, yesT ⟨_, rfl, _, rfl, by show 2 ≤ sizeLine; decide, fun u nu => ?_⟩⟩
        have e5 := same_new (o := .tup [.int 1, .int ((i : Nat) : Int)]) nu
        refine cat_tup (e5 _ _ hq3) upd_same ?_ fun w2 H6 e6 hw => ?_
        · rw [List.length_map]
          show _ + 2 ≤ _
          exact Nat.le_of_lt (small10 (by omega))
        have ew : p.map V.int ++ [V.int 1, V.int ((i : Nat) : Int)] = (p ++ [1, ((i : Nat) : Int)]).map V.int := by
          rw [List.map_append]
          rfl
        rw [ew] at hw
        refine ⟨by show 2 ≤ sizeLine; decide, fun tt ntt => ?_⟩
        have e7 := same_new (o := .tup [.ref w2, .bl true]) ntt
        have e47 := e5.trans (e6.trans e7)
        have lus := wy.len
        rw [List.length_map, List.length_range] at lus
        have hD7 := e47 _ _ hD
        refine ⟨us, hD7, small10 (by omega), us ++ [.ref tt], fun c o z => (upd_ne (nDo c o z)).trans (e47 _ _ (e3 _ _ z)), upd_same, ?_⟩
        rw [List.range_succ, List.map_append]
        have kt : ∀ b xs, upd H6 tt (.tup [.ref w2, .bl true]) b = some (.tup xs) → upd (upd H6 tt (.tup [.ref w2, .bl true])) D (.lst (us ++ [.ref tt])) b = some (.tup xs) := fun b xs z => (upd_ne (ne_of z hD7 fun w => nomatch w)).trans z
        refine WyS.app (WyS.tl kt (WyS.same e47 wy)) ⟨⟨tt, w2, rfl, kt _ _ upd_same, kt _ _ (e7 _ _ hw)⟩, True.intro⟩
      · rintro H3 ⟨us, e3, hD, wy⟩
        have lus := wy.len
        rw [List.length_map, List.length_range] at lus
        have en : (((its.length : Nat) : Int)).toNat = its.length := Int.toNat_natCast _
        refine ⟨L0, D, _, _, rfl, rfl, e3 _ _ hL2, hD, ?_, fun L nL => ?_⟩
        · show 1 + us.length ≤ _
          exact Nat.le_of_lt (small10 (by omega))
        have e4 := same_new (o := .lst ([.ref a] ++ us)) nL
        refine out _ _ _ (s2.trans (e3.trans e4)) upd_same ?_
        rw [wys]
        rw [en] at wy
        exact ⟨let ⟨a', q', z1, z2, z3⟩ := w0; ⟨a', q', z1, e4 _ _ (e3 _ _ z2), e4 _ _ (e3 _ _ z3)⟩, WyS.same e4 wy⟩
    | @nd ya k zs ks h1 hk sl n l100 =>
      have lz := sl.len
      cases g with
      | @nd _ _ _ hk2 n2 l3 hg =>
      refine ⟨_, rfl, _, _, _, _, rfl, rfl, SqT.of (s2 _ _ h1), atI_nat (j := 0) rfl, rfl, _, rfl, ?_⟩
      rw [decide_eq_false (show ¬ V.str (kn k) = V.str "row" from fun z => kn_row k (V.str.inj z))]
      refine iteF ?_
      have ha2 := s2 _ _ h1
      have lr : (((V.str (kn k) :: zs).length : Nat) : Int) = ((ks.length + 1 : Nat) : Int) := by rw [List.length_cons, lz]
      refine ⟨_, rfl, ya, _, rfl, .inr (SqT.of ha2), _, _, rfl, ⟨by decide, by decide, by rw [lr]; omega, by rw [lr]; omega⟩, ?_⟩
      rw [show ((((V.str (kn k) :: zs).length : Nat) : Int) - 1).toNat = ks.length by rw [lr]; omega]
      refine for_it walk_range (fun i σ H' => ∃ (Lc : Addr) (us : List V) (x3 x4 : Option V), σ = [some (.ref ya), some (.ref q), some (.ref Lc), x3, x4] ∧ Same H2 H' ∧ H' Lc = some (.lst us) ∧ WyS H' us ((p, false) :: wysL p 1 (ks.take i))) ⟨L0, _, none, none, rfl, Same.refl _, hL2, by rw [List.take_zero, wysL]; exact ⟨w0, True.intro⟩⟩ (fun _ _ _ _ _ => True.intro) ?_ ?_
      · rintro i y σ H3 H4 hi ⟨Lc, us, x3, x4, rfl, e3, hLc, wy⟩ ⟨rfl, hy⟩
        have ey : y = .int ((i + 1 : Nat) : Int) := by
          cases hy
          show V.int (1 + ((i : Nat) : Int)) = _
          congr 1
          omega
        subst ey
        have ht := List.getElem?_eq_getElem hi
        obtain ⟨z, hz, sz⟩ := sl.get ht
        have hq3 := e3 _ _ hq2
        refine ⟨_, rfl, _, rfl, _, rfl, ya, _, _, _, rfl, rfl, SqT.of (e3 _ _ ha2), atI_nat (j := i + 1) hz, _, rfl, _, rfl, by show 1 ≤ sizeLine; decide, fun u nu => ?_⟩
        have e5 := same_new (o := .tup [.int ((i + 1 : Nat) : Int)]) nu
        refine cat_tup (e5 _ _ hq3) upd_same ?_ fun w2 H6 e6 hw => ?_
        · rw [List.length_map]
          show _ + 1 ≤ _
          exact Nat.le_of_lt (small10 (by omega))
        have ew : p.map V.int ++ [V.int ((i + 1 : Nat) : Int)] = (p ++ [((i + 1 : Nat) : Int)]).map V.int := by
          rw [List.map_append]
          rfl
        rw [ew] at hw
        have e36 := e5.trans e6
        have eH := s2.trans (e3.trans e36)
        have cI : cnt ks[i] ≤ cnt (.nd k ks) := by
          rw [cnt]
          have := cntL_get ht
          omega
        refine ⟨z, w2, p ++ [((i + 1 : Nat) : Int)], ls, ks[i], rfl, hw, by rw [List.length_append]; show p.length + 1 + _ ≤ 11; omega, by omega, ⟨_, rfl, hg _ (List.getElem_mem hi)⟩, L, Sh.same eH _ _ sz, fun L7 vs H7 e7 hL7 wy7 => ?_⟩
        have hLc7 := e7 _ _ (e36 _ _ hLc)
        have l1 := wy.len
        have l2 := wy7.len
        have gi := hg _ (List.getElem_mem hi)
        rw [gi.wys_len] at l2
        have cL : (wysL p 1 (ks.take i)).length ≤ cnt (.nd k ks) := by
          have : (wysL p 1 (ks.take i)).length = cntL (ks.take i) := wysL_len (fun t ht => hg t (List.mem_of_mem_take ht)) p 1
          rw [this, cnt]
          have := cntL_take ks i
          omega
        rw [List.length_cons] at l1
        refine ⟨Lc, L7, _, _, rfl, rfl, hLc7, hL7, Nat.le_of_lt (small10 (by omega)), fun L8 nL8 => ?_⟩
        have e8 := same_new (o := .lst (us ++ vs)) nL8
        refine ⟨L8, us ++ vs, x3, _, rfl, e3.trans (e36.trans (e7.trans e8)), upd_same, ?_⟩
        rw [List.take_add_one, ht, show (some ks[i]).toList = [ks[i]] from rfl, wysL_snoc, List.length_take, Nat.min_eq_left (by omega), show 1 + i = i + 1 by omega]
        exact WyS.same e8 (WyS.app (WyS.same e7 (WyS.same e36 wy)) wy7)
      · rintro σ H3 ⟨Lc, us, x3, x4, rfl, e3, hLc, wy⟩
        rw [List.take_length] at wy
        refine ⟨_, rfl, out Lc us H3 (s2.trans e3) hLc ?_⟩
        rw [wys]
        exact wy
def spSize : Sp := fun vs H Q _ => ∃ (x : V) (ls : List Nat) (t : T5), vs = [x] ∧ GT ls 2 t ∧ LLet ls ∧ Sh H x t ∧ ∀ H', Same H H' → Q (.int ((cnt t : Nat) : Int)) H'
theorem scSize : FnScope ["_law_shape_here"] ["_law_shape_here"] (defScope sSize) := ⟨rfl, rfl, rfl, by decide +kernel, rfl, by decide +kernel, by decide +kernel⟩
theorem ok_size {f : Addr} {fd : FuncData} (F : Fun K "_law_size" "_law_size" sSize f fd) (B : Bi mg) (cW : Cal CX0 P w K mg base 4 "_law_ways" (spWays 3)) : FnOk P w K mg base CX0 5 f fd ["_law_shape_here"] spSize := by
  refine F.ok scSize (fun vs H Q E h => ?_) (fun cdv A outer s H vs Q E hr h => ?_)
  · obtain ⟨x, ls, t, rfl, _⟩ := h
    rfl
  · obtain ⟨x, ls, t, rfl, g, L, sh, out⟩ := h
    refine ⟨_, pss_one (ps_ret (pe_len B.len (pa_cons (pe_c cW hr pass0 (pa_cons (pv 0) (pa_cons (pe_tup pa_nil) pa_nil))) pa_nil))), ?_⟩
    refine ⟨_, rfl, by show 0 ≤ sizeLine; decide, fun q nq => ?_⟩
    have e1 := same_new (o := .tup []) nq
    refine ⟨x, q, [], ls, t, rfl, upd_same, by show 0 + 3 ≤ 11; omega, by have := (g.facts L).2.2.1; have : cB 2 = 40 := rfl; omega, ⟨2, rfl, g⟩, L, Sh.same e1 _ _ sh, fun L2 vs H2 e2 hL wy => ⟨L2, vs, rfl, .inl (SqL.of hL), ?_⟩⟩
    have := wy.len
    rw [g.wys_len] at this
    rw [this]
    exact out H2 (e1.trans e2)
end
end K05
set_option Elab.async false
set_option linter.all false
set_option maxRecDepth 100001
set_option maxHeartbeats 3999999
namespace K05
open PySem L2
abbrev sBent : Stmt := topS 33
abbrev sLStr : Stmt := topS 35
/-- a way into nested tuples -/
inductive BtR (H : Hp) : V → List Int → Prop
  | nil (x : V) : BtR H x []
  | cons {a : Addr} {xs : List V} {i : Nat} {c : V} {r : List Int} (h : H a = some (.tup xs)) (l : xs.length ≤ 1000) (g : xs[i]? = some c) (k : BtR H c r) : BtR H (.ref a) (((i : Nat) : Int) :: r)
/-- what stands there behind the bending -/
inductive Bres (H H' : Hp) (v : V) : V → List Int → V → Prop
  | nil (x : V) : Bres H H' v x [] v
  | cons {a a' : Addr} {xs : List V} {i : Nat} {c y : V} {r : List Int} (h : H a = some (.tup xs)) (g : xs[i]? = some c) (k : Bres H H' v c r y) (n : H' a' = some (.tup (xs.set i y))) : Bres H H' v (.ref a) (((i : Nat) : Int) :: r) (.ref a')
theorem BtR.same {H H' : Hp} (e : Same H H') {x : V} {p : List Int} (h : BtR H x p) : BtR H' x p := by
  induction h with
  | nil x => exact .nil x
  | cons h l g k ih => exact .cons (e _ _ h) l g ih
theorem Bres.later {H H' H2 : Hp} (e : Same H' H2) {v x y : V} {p : List Int} (h : Bres H H' v x p y) : Bres H H2 v x p y := by
  induction h with
  | nil x => exact .nil x
  | cons h g k n ih => exact .cons h g ih (e _ _ n)
theorem Bres.back {H H2 H' : Hp} (e : Same H H2) {v x : V} {p : List Int} (b : BtR H x p) : ∀ {y : V}, Bres H2 H' v x p y → Bres H H' v x p y := by
  induction b with
  | nil x =>
    intro y h
    cases h
    exact .nil x
  | @cons a xs i c r h l g k ih =>
    intro y hb
    generalize ep : (((i : Nat) : Int) :: r) = p at hb
    cases hb with
    | nil => cases ep
    | @cons _ a' xs' i' c' y' r' h' g' k' n' =>
      obtain ⟨ei, er⟩ := List.cons.inj ep
      obtain rfl : i = i' := by omega
      subst er
      rw [e _ _ h] at h'
      cases h'
      rw [g] at g'
      cases g'
      exact .cons h g (ih k') n'
def spBent (n : Nat) : Sp := fun vs H Q _ => ∃ (x v : V) (q : Addr) (p : List Int), vs = [x, .ref q, v] ∧ H q = some (.tup (p.map V.int)) ∧ p.length = n ∧ BtR H x p ∧ ∀ y H', Same H H' → Bres H H' v x p y → Q y H'
section
variable {P : Program} {w : World} {K : PySem.W.Frag} {mg : Str → Option Value} {base : Heap}
abbrev NBe : List Str := ["_law_shape_here", "_law_way", "_law_odd_here", "_law_inner"]
theorem scBent : FnScope NBe ["_law_shape_here", "_law_way", "_law_odd_here"] (defScope sBent) := ⟨rfl, rfl, rfl, by decide +kernel, rfl, by decide +kernel, by decide +kernel⟩
theorem num_ints (p : List Int) : ∀ v ∈ p.map V.int, Num v := fun v hv => by
  obtain ⟨i, _, rfl⟩ := List.mem_map.mp hv
  exact .inr ⟨i, rfl⟩
theorem ok_bent0 {f : Addr} {fd : FuncData} (F : Fun K "_law_bent" "_law_bent" sBent f fd) : FnOk P w K mg base CX0 1 f fd ["_law_shape_here", "_law_way", "_law_odd_here"] (spBent 0) := by
  refine F.ok scBent (fun vs H Q E h => ?_) (fun cdv A outer s H vs Q E hr h => ?_)
  · obtain ⟨x, v, q, p, rfl, _⟩ := h
    rfl
  · obtain ⟨x, v, q, p, rfl, hq, lp, bt, out⟩ := h
    obtain rfl : p = [] := List.length_eq_zero_iff.mp lp
    refine ⟨_, pss_cons (ps_if (pt_cmpR (op_eqN (hu64 hr)) (pv 1) (pe_tup pa_nil) (nomark _)) (pss_one (ps_ret (pv 2))) pss_nil) pss_never, ?_⟩
    refine ⟨_, rfl, by show 0 ≤ sizeLine; decide, fun e ne => ?_⟩
    have e1 := same_new (o := .tup []) ne
    refine ⟨q, e, _, [], rfl, rfl, .inr ⟨SqT.of (e1 _ _ hq), SqT.of upd_same⟩, num_ints [], (fun v h => nomatch h), _, rfl, ?_⟩
    show (if decide (([] : List V) = []) = true then _ else _)
    rw [decide_eq_true rfl]
    exact iteT ⟨_, rfl, out v _ e1 (.nil x)⟩
theorem ok_bentS {f : Addr} {fd : FuncData} {n k : Nat} (F : Fun K "_law_bent" "_law_bent" sBent f fd) (cB : Cal CX0 P w K mg base k "_law_bent" (spBent n)) : FnOk P w K mg base CX0 (k + 1) f fd ["_law_shape_here", "_law_way", "_law_odd_here"] (spBent (n + 1)) := by
  refine F.ok scBent (fun vs H Q E h => ?_) (fun cdv A outer s H vs Q E hr h => ?_)
  · obtain ⟨x, v, q, p, rfl, _⟩ := h
    rfl
  · obtain ⟨x, v, q, p, rfl, hq, lp, bt, out⟩ := h
    refine ⟨_, pss_cons (ps_if (pt_cmpR (op_eqN (hu64 hr)) (pv 1) (pe_tup pa_nil) (nomark _)) (pss_one (ps_ret (pv 2))) pss_nil)
      (pss_cons (ps_set (i := 3) scBent.nd rfl (Or.inl rfl) (pe_c cB hr pass0 (pa_cons (pe_ix ix_tup (pv 0) (pe_ix ix_tup (pv 1) pe_int (fun _ _ => rfl)) (fun _ _ => rfl)) (pa_cons (pe_slice sl_tupA (pv 1) (po_some pe_int) po_none) (pa_cons (pv 2) pa_nil))) (Nat.le_refl _)))
      (pss_one (ps_ret (pe_op op_catA (pe_op op_catA (pe_slice sl_tupA (pv 0) po_none (po_some (pe_ix ix_tup (pv 1) pe_int (fun _ _ => rfl)))) (pe_tup (pa_cons (pv 3) pa_nil))) (pe_slice sl_tupA (pv 0) (po_some (pe_op op_add (pe_ix ix_tup (pv 1) pe_int (fun _ _ => rfl)) pe_int)) po_none))))), ?_⟩
    cases bt with
    | nil => cases lp
    | @cons a xs i c r ha l1000 hc bt =>
      have li := (List.getElem?_eq_some_iff.mp hc).1
      refine ⟨_, rfl, by show 0 ≤ sizeLine; decide, fun e ne => ?_⟩
      have e1 := same_new (o := .tup []) ne
      generalize eH : upd H e (.tup []) = H1 at e1 ⊢
      have he : H1 e = some (.tup []) := by rw [← eH]; exact upd_same
      clear eH
      refine ⟨q, e, _, [], rfl, rfl, .inr ⟨SqT.of (e1 _ _ hq), SqT.of he⟩, num_ints _, (fun v h => nomatch h), _, rfl, ?_⟩
      rw [show (if (false : Bool) = true then !decide (((((i : Nat) : Int) :: r).map V.int) = []) else decide (((((i : Nat) : Int) :: r).map V.int) = [])) = false from rfl]
      refine iteF ?_
      have hq1 := e1 _ _ hq
      have ha1 := e1 _ _ ha
      refine ⟨_, rfl, _, rfl, q, _, _, _, rfl, rfl, SqT.of hq1, atI_nat (j := 0) rfl, a, _, _, c, rfl, rfl, SqT.of ha1, atI_nat hc, _, rfl, 1, rfl, ?_⟩
      simp only [tNoPart]
      refine sl_tup hq1 fun q2 H2 e2 hq2 => ?_
      rw [show (some (1 : Int)) = some ((1 : Nat) : Int) from rfl, cut_from (by rw [List.length_map, List.length_cons]; omega)] at hq2
      have hq2 : H2 q2 = some (.tup (r.map V.int)) := hq2
      have e12 := e1.trans e2
      refine ⟨_, rfl, c, v, q2, r, rfl, hq2, by rw [List.length_cons] at lp; omega, bt.same e12, fun y H3 e3 res => ?_⟩
      have e13 := e12.trans e3
      have ha3 := e13 _ _ ha
      have hq3 := e13 _ _ hq
      refine ⟨_, rfl, _, rfl, q, _, _, _, rfl, rfl, SqT.of hq3, atI_nat (j := 0) rfl, ((i : Nat) : Int), rfl, ?_⟩
      first | simp only [tNoPart] | skip
      refine sl_tup ha3 fun t4 H4 e4 ht4 => ?_
      rw [cut_to (by omega)] at ht4
      refine ⟨_, rfl, by show 1 ≤ sizeLine; decide, fun t5 nt5 => ?_⟩
      have e5 := same_new (o := .tup [y]) nt5
      refine cat_tup (e5 _ _ ht4) upd_same ?_ fun t6 H6 e6 ht6 => ?_
      · rw [List.length_take]
        show _ + 1 ≤ _
        exact Nat.le_of_lt (small10 (by omega))
      have e46 := e4.trans (e5.trans e6)
      have ha6 := e46 _ _ ha3
      have hq6 := e46 _ _ hq3
      refine ⟨_, rfl, _, rfl, q, _, _, _, rfl, rfl, SqT.of hq6, atI_nat (j := 0) rfl, _, _, rfl, rfl, _, rfl, ?_⟩
      simp only [tNoPart]
      refine sl_tup ha6 fun t7 H7 e7 ht7 => ?_
      rw [show ((i : Nat) : Int) + 1 = ((i + 1 : Nat) : Int) by omega, cut_from (by omega)] at ht7
      refine cat_tup (e7 _ _ ht6) ht7 ?_ fun t8 H8 e8 ht8 => ?_
      · rw [List.length_append, List.length_take, List.length_drop]
        show _ + 1 + _ ≤ _
        exact Nat.le_of_lt (small10 (by omega))
      have es : xs.take i ++ [y] ++ xs.drop (i + 1) = xs.set i y := by
        rw [List.set_eq_take_append_cons_drop, if_pos li, List.append_assoc]
        rfl
      rw [es] at ht8
      have e38 := e46.trans (e7.trans e8)
      exact out _ H8 (e13.trans e38) (.cons ha hc ((Bres.back e12 bt res).later e38) ht8)
end
end K05
set_option Elab.async false
set_option linter.all false
set_option maxRecDepth 100001
set_option maxHeartbeats 3999999
namespace K05
open PySem L2
theorem Bres.inv {H H' : Hp} {v y c : V} {a : Addr} {xs : List V} {i : Nat} {r : List Int} (h : H a = some (.tup xs)) (g : xs[i]? = some c) (b : Bres H H' v (.ref a) (((i : Nat) : Int) :: r) y) : ∃ a' y', y = .ref a' ∧ Bres H H' v c r y' ∧ H' a' = some (.tup (xs.set i y')) := by
  generalize ep : (((i : Nat) : Int) :: r) = p at b
  cases b with
  | nil => cases ep
  | @cons _ a' xs' i' c' y' r' h' g' k' n' =>
    obtain ⟨ei, er⟩ := List.cons.inj ep
    obtain rfl : i = i' := by omega
    subst er
    rw [h] at h'
    cases h'
    rw [g] at g'
    cases g'
    exact ⟨a', y', rfl, k', n'⟩
theorem Bres.inv0 {H H' : Hp} {v y x : V} (b : Bres H H' v x [] y) : y = v := by
  cases b
  rfl
theorem ShL.set {H : Hp} : ∀ {zs : List V} {ts : List T5} {j : Nat} {y : V} {t : T5}, ShL H zs ts → Sh H y t → ShL H (zs.set j y) (ts.set j t)
  | _, _, _, _, _, .nil, _ => .nil
  | _, _, 0, _, _, .cons _ r, s => .cons s r
  | _, _, j + 1, _, _, .cons a r, s => .cons a (ShL.set r s)
theorem cntL_set : ∀ {ts : List T5} {j : Nat} {t u : T5}, ts[j]? = some u → cnt t ≤ cnt u → cntL (ts.set j t) ≤ cntL ts
  | [], _, _, _, h, _ => nomatch h
  | w :: ws, 0, t, u, h, l => by
    cases h
    rw [List.set_cons_zero, cntL, cntL]
    omega
  | w :: ws, j + 1, t, u, h, l => by
    have := cntL_set (ts := ws) (j := j) h l
    rw [List.set_cons_succ, cntL, cntL]
    omega
theorem fstL_set {ls : List Nat} {r : List Int} : ∀ {ts : List T5} {j i : Nat} {t : T5} {p : List Int}, j < ts.length → (∀ u ∈ ts, ∀ p, fst ls p u = none) → (∀ p, fst ls p t = some (p ++ r)) → fstL ls p i (ts.set j t) = some (p ++ (((i + j : Nat) : Int) :: r))
  | [], _, _, _, _, h, _, _ => absurd h (Nat.not_lt_zero _)
  | w :: ws, 0, i, t, p, h, n, f => by
    rw [List.set_cons_zero, fstL, f, List.append_assoc]
    rfl
  | w :: ws, j + 1, i, t, p, h, n, f => by
    rw [List.set_cons_succ, fstL, n w List.mem_cons_self, fstL_set (ts := ws) (j := j) (i := i + 1) (by rw [List.length_cons] at h; omega) (fun u hu => n u (List.mem_cons_of_mem _ hu)) f]
    rw [show i + 1 + j = i + (j + 1) by omega]
    rfl
/-- what a way of the law says, and what comes of bending there -/
def WayOk (ls : List Nat) (d : Nat) (t : T5) (H : Hp) (x : V) (r : List Int) (it : Bool) : Prop :=
  r.length ≤ d + 2 ∧ BtR H x r ∧ ∀ H' y v, Same H H' → (it = true → itB ls v = false ∧ Kn H' v ∧ ∀ z, v = .str z → z.length ≤ 100) → (it = false → KnT H' v ∧ prB H' v = false) → Bres H H' v x r y → ∃ t', Sh H' y t' ∧ (∀ p, fst ls p t' = some (p ++ r)) ∧ cnt t' ≤ cnt t
theorem way_root {ls : List Nat} {d : Nat} {t : T5} {H : Hp} {x : V} : WayOk ls d t H x [] false := by
  refine ⟨Nat.zero_le _, .nil x, fun H' y v e _ h2 b => ?_⟩
  obtain rfl := b.inv0
  obtain ⟨k, n⟩ := h2 rfl
  exact ⟨.odd y, .odd k n, fun p => by rw [fst, List.append_nil], by rw [cnt]; exact cnt_pos t⟩
theorem way_row {ls : List Nat} {d : Nat} {r : Row} {H : Hp} {x : V} (g : ∀ it ∈ r, itW ls it = true) (sh : Sh H x (.row (txs r))) {p0 q : List Int} {it : Bool} (m : (q, it) ∈ wys p0 (.row (txs r))) : ∃ w, q = p0 ++ w ∧ WayOk ls d (.row (txs r)) H x w it := by
  rw [wys] at m
  rcases List.mem_cons.mp m with m | m
  · cases m
    exact ⟨[], by rw [List.append_nil], way_root⟩
  · obtain ⟨n, hn, e⟩ := List.mem_map.mp m
    cases e
    have hn := List.mem_range.mp hn
    cases sh with
    | @row a b _ h1 h2 l k =>
    have gn := List.getElem?_eq_getElem hn
    generalize (txs r)[n] = c at gn
    refine ⟨[1, ((n : Nat) : Int)], rfl, by show 2 ≤ _; omega, .cons (i := 1) h1 (by show 2 ≤ 1000; omega) rfl (.cons h2 (by omega) gn (.nil c)), fun H' y v e h3 _ bb => ?_⟩
    obtain ⟨a', y', rfl, b1, n1⟩ := Bres.inv (i := 1) h1 rfl bb
    obtain ⟨a2, y2, rfl, b2, n2⟩ := Bres.inv (i := n) h2 gn b1
    obtain rfl := b2.inv0
    obtain ⟨o1, o2, o3⟩ := h3 rfl
    refine ⟨.row ((txs r).set n y2), .row n1 n2 (by rw [List.length_set]; exact l) fun u hu => ?_, fun p => ?_, by rw [cnt, cnt, List.length_set]; exact Nat.le_refl _⟩
    · rcases List.mem_or_eq_of_mem_set hu with hu | rfl
      · exact ⟨(k u hu).1.same e, (k u hu).2⟩
      · exact ⟨o2, o3⟩
    · have : ((txs r).set n y2).findIdx? (fun v => !itB ls v) = some n := by
        rw [List.findIdx?_eq_some_iff_getElem]
        refine ⟨by rw [List.length_set]; exact hn, by rw [List.getElem_set_self, o1]; rfl, fun j hj => ?_⟩
        rw [List.getElem_set_ne (by omega)]
        have : (txs r)[j]'(by omega) ∈ txs r := List.getElem_mem _
        obtain ⟨w, hw, ew⟩ := List.mem_map.mp this
        rw [← ew, itB_S, g w hw]
        simp
      rw [fst, this]
theorem GT.way {ls : List Nat} (L : LLet ls) {d : Nat} : ∀ {t : T5} {H : Hp} {x : V}, GT ls d t → Sh H x t → ∀ {p0 q : List Int} {it : Bool}, (q, it) ∈ wys p0 t → ∃ w, q = p0 ++ w ∧ WayOk ls d t H x w it := by
  induction d with
  | zero =>
    intro t H x g sh p0 q it m
    cases g with
    | row g => exact way_row (fun i hi => (g.item L i hi).1) sh m
  | succ d ih =>
    intro t H x g sh p0 q it m
    cases g with
    | row g => exact way_row (fun i hi => (g.item L i hi).1) sh m
    | @nd _ k ts hk n l hg =>
      rw [wys] at m
      rcases List.mem_cons.mp m with m | m
      · cases m
        exact ⟨[], by rw [List.append_nil], way_root⟩
      · have find : ∀ (us : List T5) (i : Nat), (q, it) ∈ wysL p0 i us → ∃ j u, us[j]? = some u ∧ (q, it) ∈ wys (p0 ++ [((i + j : Nat) : Int)]) u := by
          intro us
          induction us with
          | nil => intro i m; rw [wysL] at m; cases m
          | cons u us ih2 =>
            intro i m
            rw [wysL] at m
            rcases List.mem_append.mp m with m | m
            · exact ⟨0, u, rfl, m⟩
            · obtain ⟨j, u', h1, h2⟩ := ih2 (i + 1) m
              exact ⟨j + 1, u', h1, by rw [show i + (j + 1) = i + 1 + j by omega]; exact h2⟩
        obtain ⟨j, u, hj, mu⟩ := find ts 1 m
        have lj := (List.getElem?_eq_some_iff.mp hj).1
        have hu := List.mem_of_getElem? hj
        cases sh with
        | @nd a _ zs _ h1 hk' sl n' l' =>
        obtain ⟨z, hz, sz⟩ := sl.get hj
        obtain ⟨w, eq, w1, w2, w3⟩ := ih (hg u hu) sz mu
        have lz := sl.len
        have gz : (V.str (kn k) :: zs)[1 + j]? = some z := by rw [show 1 + j = j + 1 by omega]; exact hz
        refine ⟨((1 + j : Nat) : Int) :: w, by rw [eq, List.append_assoc]; rfl, by rw [List.length_cons]; omega, .cons (i := 1 + j) h1 (by rw [List.length_cons]; omega) gz w2, fun H' y v e h3 h4 bb => ?_⟩
        obtain ⟨a', y', rfl, b1, n1⟩ := Bres.inv (i := 1 + j) h1 gz bb
        obtain ⟨t', s1, f1, c1⟩ := w3 H' y' v e h3 h4 b1
        have en : (V.str (kn k) :: zs).set (1 + j) y' = V.str (kn k) :: zs.set j y' := by rw [show 1 + j = j + 1 by omega]; rfl
        rw [en] at n1
        refine ⟨.nd k (ts.set j t'), .nd n1 hk' (ShL.set (ShL.same e _ _ sl) s1) (fun z => by rw [List.length_set]; exact n' z) (by rw [List.length_set]; exact l'), fun p => ?_, ?_⟩
        · rw [fst]
          exact fstL_set lj (fun u hu p => ((hg u hu).facts L).2.1 p) f1
        · rw [cnt, cnt]
          have := cntL_set hj c1
          omega
def spLStr : Sp := fun vs H Q _ => ∃ ls, vs = [.str (S ls)] ∧ (97 ∉ ls ∨ 122 ∉ ls) ∧ ∀ c H', (c = 97 ∨ c = 122) → c ∉ ls → Same H H' → Q (.str (S [c])) H'
section
variable {P : Program} {w : World} {K : PySem.W.Frag} {mg : Str → Option Value} {base : Heap}
theorem az_S : ("az" : Str) = S [97, 122] := by decide +kernel
theorem scLStr : FnScope ["_law_letters_here", "_law_sign"] ["_law_letters_here"] (defScope sLStr) := ⟨rfl, rfl, rfl, by decide +kernel, rfl, by decide +kernel, by decide +kernel⟩
theorem ok_lstr {f : Addr} {fd : FuncData} (F : Fun K "_law_stranger" "_law_stranger" sLStr f fd) : FnOk P w K mg base CX0 1 f fd ["_law_letters_here"] spLStr := by
  refine F.ok scLStr (fun vs H Q E h => ?_) (fun cdv A outer s H vs Q E hr h => ?_)
  · obtain ⟨ls, rfl, _⟩ := h
    rfl
  · obtain ⟨ls, rfl, no, q⟩ := h
    refine ⟨_, pss_one (ps_ret (pe_ix ix_list (pe_lc (own := [("_law_sign", 1)]) rfl scLStr.nd (pi_str pe_str) (blkOk_by (N := ["_law_letters_here", "_law_sign"]) (sc := defScope sLStr) (by decide +kernel))
        (fun _ _ _ _ _ => pg_name (i := 1) scLStr.nd rfl (Or.inl rfl)) (fun _ _ _ _ _ => pts_one (pt_cmpR op_notIn_sign (pv 1) (pv 0) rfl)) (fun _ _ _ _ _ => pv 1)) pe_int (fun _ _ => rfl))), ?_⟩
    rw [az_S]
    refine ⟨_, rfl, fun D nD => lc_it walk_str (fun j H' => Same H H' ∧ H' D = some (.lst (List.map sgn ((([97, 122] : List Nat).take j).filter fun c => decide (c ∉ ls))))) ⟨same_new nD, upd_same⟩ (fun _ _ _ _ => True.intro) ?_ ?_⟩
    · rintro j y H1 H2 hj ⟨e1, hD⟩ ⟨rfl, c, hc, rfl⟩
      rw [S_get] at hc
      rw [S_size] at hj
      refine ⟨rfl, _, rfl, _, rfl, c, S ls, rfl, rfl, _, rfl, ?_⟩
      have tj : ([97, 122] : List Nat).take (j + 1) = ([97, 122] : List Nat).take j ++ [c] := by rw [List.take_add_one, hc]; rfl
      rw [tj, List.filter_append, S_list]
      by_cases d : c ∈ ls
      · rw [decide_eq_true d]
        refine iteF ⟨e1, ?_⟩
        rw [hD, List.filter_cons_of_neg (p := fun (c : Nat) => decide (c ∉ ls)) (by simpa using d), List.filter_nil, List.append_nil]
      · rw [decide_eq_false d]
        refine iteT ⟨_, rfl, _, hD, ?_, fun b' o z => ?_, ?_⟩
        · rw [List.length_map]
          exact small10 (Nat.le_trans (List.length_filter_le _ _) (Nat.le_trans (List.length_take_le' _ _) (by decide)))
        · rw [upd_ne (ne_of_none z nD)]
          exact e1 _ _ z
        · rw [upd_same, List.filter_cons_of_pos (p := fun (c : Nat) => decide (c ∉ ls)) (decide_eq_true d), List.map_append]
          rfl
    · rintro H1 ⟨e1, hD⟩
      rw [S_size] at hD
      by_cases d : 97 ∈ ls
      · have d2 : 122 ∉ ls := no.elim (fun h => absurd d h) id
        have e : ((([97, 122] : List Nat).take ([97, 122] : List Nat).length).filter fun c => decide (c ∉ ls)).map sgn = [sgn 122] := by simp [d, d2]
        rw [e] at hD
        exact ⟨D, _, _, _, rfl, rfl, SqL.of hD, atI_nat (j := 0) rfl, q 122 H1 (.inr rfl) d2 e1⟩
      · have e : ∃ r, ((([97, 122] : List Nat).take ([97, 122] : List Nat).length).filter fun c => decide (c ∉ ls)).map sgn = sgn 97 :: r := ⟨_, by simp [List.filter_cons, d]; rfl⟩
        obtain ⟨r, e⟩ := e
        rw [e] at hD
        exact ⟨D, _, _, _, rfl, rfl, SqL.of hD, atI_nat (j := 0) rfl, q 97 H1 (.inl rfl) d e1⟩
end
end K05
set_option Elab.async false
set_option linter.all false
set_option maxRecDepth 100001
set_option maxHeartbeats 3999999
namespace K05
open PySem L2
abbrev sOdd : Stmt := topS 36
/-- a value that is no part -/
def Bad (H : Hp) (v : V) : Prop := KnT H v ∧ prB H v = false
theorem Bad.tl {H H' : Hp} {v : V} (b : Bad H v) (e : TL H H') : Bad H' v := ⟨b.1.tl e, by rw [prB_tl b.1 e]; exact b.2⟩
theorem Bad.same {H H' : Hp} {v : V} (b : Bad H v) (e : Same H H') : Bad H' v := b.tl (TL.same e)
theorem bad_flat {H : Hp} {v : V} (n : ∀ a, v ≠ .ref a) (k : Kn H v) : Bad H v := by
  refine ⟨⟨k, fun a xs e => absurd e (n a)⟩, ?_⟩
  cases v with
  | ref a => exact absurd rfl (n a)
  | _ => rfl
theorem bad_lst {H : Hp} {a : Addr} {xs : List V} (h : H a = some (.lst xs)) : Bad H (.ref a) :=
  ⟨⟨.lst h, fun a' ys e h' => by cases e; rw [h] at h'; cases h'⟩, prB_no (isT_lst h)⟩
theorem bad_tup {H : Hp} {a : Addr} {xs : List V} (h : H a = some (.tup xs)) (k : ∀ x ∈ xs, Kn H x) (p : prX H xs = false) : Bad H (.ref a) :=
  ⟨⟨.tup h, fun a' ys e h' => by cases e; rw [h] at h'; cases h'; exact k⟩, by rw [prB_tup h]; exact p⟩
theorem pr_no {H : Hp} {v : V} {r : List V} (n : ∀ x, v ≠ .str x) : prX H (v :: r) = false := by
  cases v with
  | str x => exact absurd rfl (n x)
  | _ => rfl
theorem pr_row {H : Hp} {r : List V} (h : (decide (r.length = 1) && hdT H r) = false) : prX H (.str "row" :: r) = false := by
  show prL H "row" r = false
  unfold prL
  rw [if_pos rfl]
  exact h
theorem pr_not {H : Hp} {r : List V} (h : r.length ≠ 1) : prX H (.str "not" :: r) = false := by
  show prL H "not" r = false
  unfold prL
  rw [if_neg (show ¬ ("not" : Str) = "row" by decide +kernel), if_pos rfl]
  exact decide_eq_false h
theorem pr_other {H : Hp} {x : Str} {r : List V} (h1 : ¬ x = "row") (h2 : ¬ x = "not") (h3 : ¬ x = "both") (h4 : ¬ x = "either") : prX H (.str x :: r) = false := by
  show prL H x r = false
  unfold prL
  rw [if_neg h1, if_neg h2, decide_eq_false h3, decide_eq_false h4]
  rfl
theorem itW_no {ls w : List Nat} {c : Nat} (h1 : c ∈ w) (h2 : c ∉ ls) (h3 : w ∉ [[63], [42]]) : itW ls w = false := by
  unfold itW
  rw [decide_eq_false h3, Bool.false_or]
  have : (w.all fun c => decide (c ∈ ls)) = false := by
    rw [List.all_eq_false]
    exact ⟨c, h1, by rw [decide_eq_false h2]; simp⟩
  rw [this]
  simp
theorem A_S : ("A" : Str) = S [65] := by decide +kernel
theorem as_S : ("?*" : Str) = S [63, 42] := by decide +kernel
theorem rep2 (c : Nat) : repS (S [c]) 2 = S [c, c] := rfl
def OddOk (ls : List Nat) (it : Bool) (H : Hp) (v : V) : Prop := (it = true → itB ls v = false ∧ Kn H v ∧ ∀ z, v = .str z → z.length ≤ 100) ∧ (it = false → Bad H v)
def spOdd : Sp := fun vs H Q _ => ∃ (pn cl : Addr) (ls : List Nat) (b : Nat) (it : Bool), vs = [.ref pn, .str (S ls), .bl it] ∧ Pen H pn cl b ∧ b ≤ 900000 ∧ LLet ls ∧ ∀ v H', OddOk ls it H' v → But pn H H' → Pen H' pn cl (b + 1) → Q v H'
section
variable {P : Program} {w : World} {K : PySem.W.Frag} {mg : Str → Option Value} {base : Heap}
abbrev NOd : List Str := ["_law_pen_here", "_law_letters_here", "_law_item", "_law_parts"]
theorem scOdd : FnScope NOd ["_law_pen_here", "_law_letters_here", "_law_item"] (defScope sOdd) := ⟨rfl, rfl, rfl, by decide +kernel, rfl, by decide +kernel, by decide +kernel⟩
theorem ok_odd {f : Addr} {fd : FuncData} (F : Fun K "_law_odd" "_law_odd" sOdd f fd) (B : Bi mg) (cK : Cal CX0 P w K mg base 2 "_law_pick" spPick) (cS : Cal CX0 P w K mg base 1 "_law_stranger" spLStr) : FnOk P w K mg base CX0 3 f fd ["_law_pen_here", "_law_letters_here", "_law_item"] spOdd := by
  refine F.ok scOdd (fun vs H Q E h => ?_) (fun cdv A outer s H vs Q E hr h => ?_)
  · obtain ⟨pn, cl, ls, b, it, rfl, _⟩ := h
    rfl
  · obtain ⟨pn, cl, ls, b, it, rfl, pen, hb, L, out⟩ := h
    refine ⟨_, pss_cons (ps_if (pt_val (pv 2)) (pss_one (ps_ret (pe_c cK hr pass0 (pa_cons (pv 0) (pa_cons (pe_lst (pa_cons pe_str (pa_cons pe_str (pa_cons (pe_c cS hr pass0 (pa_cons (pv 1) pa_nil)) (pa_cons (pe_op op_mulS (pe_ix ix_str (pv 1) pe_int (fun _ _ => rfl)) pe_int) (pa_cons pe_non (pa_cons pe_int (pa_cons (pe_tup (pa_cons pe_str pa_nil)) (pa_cons pe_str (pa_cons (pe_op op_add_str (pv 1) pe_str) pa_nil)))))))))) pa_nil))))) pss_nil)
      (pss_cons (ps_set (i := 3) scOdd.nd rfl (Or.inl rfl) (pe_lst (pa_cons pe_non (pa_cons (pe_tup pa_nil) (pa_cons pe_str (pa_cons (pe_tup (pa_cons pe_str pa_nil)) (pa_cons (pe_tup (pa_cons pe_str (pa_cons pe_str pa_nil))) (pa_cons (pe_tup (pa_cons pe_str (pa_cons (pe_lst (pa_cons pe_str pa_nil)) pa_nil))) (pa_cons (pe_tup (pa_cons pe_str pa_nil)) (pa_cons (pe_tup (pa_cons pe_str (pa_cons (pe_tup (pa_cons pe_str (pa_cons (pe_tup pa_nil) pa_nil))) (pa_cons (pe_tup (pa_cons pe_str (pa_cons (pe_tup pa_nil) pa_nil))) pa_nil)))) pa_nil))))))))))
      (pss_one (ps_ret (pe_c cK hr pass0 (pa_cons (pv 0) (pa_cons (pe_op op_cat (pv 3) (pe_lst (pa_cons (pe_tup (pa_cons pe_str (pa_cons (pe_tup (pa_cons pe_str (pa_cons (pe_tup pa_nil) pa_nil))) pa_nil))) (pa_cons (pe_lst (pa_cons pe_str (pa_cons (pe_tup pa_nil) pa_nil))) (pa_cons (pe_tup (pa_cons pe_int (pa_cons (pe_tup pa_nil) pa_nil))) (pa_cons (pe_tup (pa_cons pe_str (pa_cons (pe_tup pa_nil) pa_nil))) (pa_cons (pe_tup (pa_cons pe_str (pa_cons (pe_tup pa_nil) (pa_cons (pe_tup pa_nil) pa_nil)))) pa_nil))))))) pa_nil)))))), ?_⟩
    have two := L.L.lo
    cases it with
    | true =>
      refine ⟨_, rfl, true, rfl, iteT ?_⟩
      refine ⟨_, rfl, _, rfl, ls, rfl, L.str, fun c H1 hc nc e1 => ?_⟩
      obtain ⟨l0, lr, el⟩ : ∃ l0 lr, ls = l0 :: lr := by
        cases ls with
        | nil => exact absurd two (by decide)
        | cons a r => exact ⟨a, r, rfl⟩
      have g0 : (S ls).cps[0]? = some l0 := by
        rw [S_get, el]
        rfl
      have l9 := L.l90
      have few := L.few
      refine ⟨_, rfl, S ls, 0, l0, rfl, rfl, by rw [S_len]; exact Nat.le_of_lt (small10 (by omega)), ?_, ?_⟩
      · exact atI_nat (j := 0) (by rw [S_list, el]; rfl)
      refine ⟨S [l0], 2, rfl, rfl, by decide, by decide, by rw [S_len]; show 1 ≤ 1; decide, by rw [S_len]; show 1 ≤ 1000; decide, ?_⟩
      refine ⟨by show 1 ≤ sizeLine; decide, fun t7 n7 => ?_⟩
      have e2 := same_new (o := .tup [.str "?"]) n7
      have h7 : upd H1 t7 (.tup [.str "?"]) t7 = some (.tup [.str "?"]) := upd_same
      generalize upd H1 t7 (.tup [.str "?"]) = H2 at e2 h7 ⊢
      refine ⟨_, rfl, S ls, ("?" : Str), rfl, rfl, by rw [S_len]; exact Nat.le_of_lt (small10 (by show ls.length + 1 ≤ _; omega)), ?_⟩
      refine ⟨by show 9 ≤ sizeLine; decide, fun l nl => ?_⟩
      have e3 := same_new (o := .lst [.str "", .str "A", .str (S [c]), .str (repS (S [l0]) 2), .non, .int 1, .ref t7, .str "?*", .str (S ls ++ "?")]) nl
      have e13 := e1.trans (e2.trans e3)
      refine ⟨pn, cl, l, _, b, rfl, pen.same e13, by omega, upd_same, by show 0 < 9; decide, by show 9 ≤ 1000; decide, fun v H4 hv e4 pen4 => ?_⟩
      have tl := TL.pen (pen.same e13) e4
      refine out v H4 ⟨fun _ => ?_, fun z => nomatch z⟩ (fun c o n z => e4 _ _ n (e13 _ _ z)) pen4
      have n63 : 63 ∉ ls := fun z => by have := l9 63 z; omega
      have n65 : 65 ∉ ls := fun z => by have := l9 65 z; omega
      simp only [List.mem_cons, List.not_mem_nil, or_false] at hv
      rcases hv with rfl | rfl | rfl | rfl | rfl | rfl | rfl | rfl | rfl
      · exact ⟨by rw [empty_S, itB_S]; rfl, .str _, fun z e => by cases e; decide⟩
      · exact ⟨by rw [A_S, itB_S]; exact itW_no (List.mem_singleton.mpr rfl) n65 (by decide), .str _, fun z e => by cases e; decide⟩
      · refine ⟨by rw [itB_S]; exact itW_no (List.mem_singleton.mpr rfl) nc (by rcases hc with rfl | rfl <;> decide), .str _, fun z e => by cases e; rw [S_len]; show 1 ≤ 100; decide⟩
      · refine ⟨?_, .str _, fun z e => by cases e; rw [rep2, S_len]; show 2 ≤ 100; decide⟩
        rw [rep2, itB_S]
        unfold itW
        rw [decide_eq_false (show ¬ ([l0, l0] : List Nat).Nodup by simp), Bool.and_false, Bool.or_false, decide_eq_false (show ¬ ([l0, l0] : List Nat) ∈ [[63], [42]] from fun z => by simp at z), Bool.and_false]
      · exact ⟨rfl, .non, fun z e => nomatch e⟩
      · exact ⟨rfl, .int 1, fun z e => nomatch e⟩
      · exact ⟨rfl, .tup (tl.t _ _ (e3 _ _ h7)), fun z e => nomatch e⟩
      · exact ⟨by rw [as_S, itB_S]; exact itW_no (c := 63) (by decide) n63 (by decide), .str _, fun z e => by cases e; decide⟩
      · refine ⟨?_, .str _, fun z e => by cases e; rw [any_S, S_app, S_len, List.length_append]; show ls.length + 1 ≤ 100; omega⟩
        rw [any_S, S_app, itB_S]
        refine itW_no (c := 63) (List.mem_append_right _ (List.mem_singleton.mpr rfl)) n63 fun z => ?_
        have ll : (ls ++ [63]).length = 1 := by
          simp only [List.mem_cons, List.not_mem_nil, or_false] at z
          rcases z with z | z <;> rw [z] <;> rfl
        rw [List.length_append] at ll
        have : ls.length + 1 = 1 := ll
        omega
    | false =>
      refine ⟨_, rfl, false, rfl, iteF ?_⟩
      refine ⟨by show 0 ≤ sizeLine; decide, fun a1 n1 => ?_⟩
      have e1 := same_new (o := .tup []) n1
      have h1 : upd H a1 (.tup []) a1 = some (.tup []) := upd_same
      generalize upd H a1 (.tup []) = G1 at e1 h1 ⊢
      refine ⟨by show 1 ≤ sizeLine; decide, fun a2 n2 => ?_⟩
      have e2 := same_new (o := .tup [.str "row"]) n2
      have h2 : upd G1 a2 (.tup [.str "row"]) a2 = some (.tup [.str "row"]) := upd_same
      generalize upd G1 a2 (.tup [.str "row"]) = G2 at e2 h2 ⊢
      refine ⟨by show 2 ≤ sizeLine; decide, fun a3 n3 => ?_⟩
      have e3 := same_new (o := .tup [.str "row", .str "ab"]) n3
      have h3 : upd G2 a3 (.tup [.str "row", .str "ab"]) a3 = some (.tup [.str "row", .str "ab"]) := upd_same
      generalize upd G2 a3 (.tup [.str "row", .str "ab"]) = G3 at e3 h3 ⊢
      refine ⟨by show 1 ≤ sizeLine; decide, fun a4 n4 => ?_⟩
      have e4 := same_new (o := .lst [.str "a"]) n4
      have h4 : upd G3 a4 (.lst [.str "a"]) a4 = some (.lst [.str "a"]) := upd_same
      generalize upd G3 a4 (.lst [.str "a"]) = G4 at e4 h4 ⊢
      refine ⟨by show 2 ≤ sizeLine; decide, fun a5 n5 => ?_⟩
      have e5 := same_new (o := .tup [.str "row", .ref a4]) n5
      have h5 : upd G4 a5 (.tup [.str "row", .ref a4]) a5 = some (.tup [.str "row", .ref a4]) := upd_same
      generalize upd G4 a5 (.tup [.str "row", .ref a4]) = G5 at e5 h5 ⊢
      refine ⟨by show 1 ≤ sizeLine; decide, fun a6 n6 => ?_⟩
      have e6 := same_new (o := .tup [.str "not"]) n6
      have h6 : upd G5 a6 (.tup [.str "not"]) a6 = some (.tup [.str "not"]) := upd_same
      generalize upd G5 a6 (.tup [.str "not"]) = G6 at e6 h6 ⊢
      refine ⟨by show 0 ≤ sizeLine; decide, fun a7 n7 => ?_⟩
      have e7 := same_new (o := .tup []) n7
      have h7 : upd G6 a7 (.tup []) a7 = some (.tup []) := upd_same
      generalize upd G6 a7 (.tup []) = G7 at e7 h7 ⊢
      refine ⟨by show 2 ≤ sizeLine; decide, fun a8 n8 => ?_⟩
      have e8 := same_new (o := .tup [.str "row", .ref a7]) n8
      have h8 : upd G7 a8 (.tup [.str "row", .ref a7]) a8 = some (.tup [.str "row", .ref a7]) := upd_same
      generalize upd G7 a8 (.tup [.str "row", .ref a7]) = G8 at e8 h8 ⊢
      refine ⟨by show 0 ≤ sizeLine; decide, fun a9 n9 => ?_⟩
      have e9 := same_new (o := .tup []) n9
      have h9 : upd G8 a9 (.tup []) a9 = some (.tup []) := upd_same
      generalize upd G8 a9 (.tup []) = G9 at e9 h9 ⊢
      refine ⟨by show 2 ≤ sizeLine; decide, fun a10 n10 => ?_⟩
      have e10 := same_new (o := .tup [.str "row", .ref a9]) n10
      have h10 : upd G9 a10 (.tup [.str "row", .ref a9]) a10 = some (.tup [.str "row", .ref a9]) := upd_same
      generalize upd G9 a10 (.tup [.str "row", .ref a9]) = G10 at e10 h10 ⊢
      refine ⟨by show 3 ≤ sizeLine; decide, fun a11 n11 => ?_⟩
      have e11 := same_new (o := .tup [.str "not", .ref a8, .ref a10]) n11
      have h11 : upd G10 a11 (.tup [.str "not", .ref a8, .ref a10]) a11 = some (.tup [.str "not", .ref a8, .ref a10]) := upd_same
      generalize upd G10 a11 (.tup [.str "not", .ref a8, .ref a10]) = G11 at e11 h11 ⊢
      refine ⟨by show 8 ≤ sizeLine; decide, fun a12 n12 => ?_⟩
      have e12 := same_new (o := .lst [.non, .ref a1, .str "row", .ref a2, .ref a3, .ref a5, .ref a6, .ref a11]) n12
      have h12 : upd G11 a12 (.lst [.non, .ref a1, .str "row", .ref a2, .ref a3, .ref a5, .ref a6, .ref a11]) a12 = some (.lst [.non, .ref a1, .str "row", .ref a2, .ref a3, .ref a5, .ref a6, .ref a11]) := upd_same
      generalize upd G11 a12 (.lst [.non, .ref a1, .str "row", .ref a2, .ref a3, .ref a5, .ref a6, .ref a11]) = G12 at e12 h12 ⊢
      refine ⟨_, rfl, _, rfl, ?_⟩
      refine ⟨by show 0 ≤ sizeLine; decide, fun a13 n13 => ?_⟩
      have e13 := same_new (o := .tup []) n13
      have h13 : upd G12 a13 (.tup []) a13 = some (.tup []) := upd_same
      generalize upd G12 a13 (.tup []) = G13 at e13 h13 ⊢
      refine ⟨by show 2 ≤ sizeLine; decide, fun a14 n14 => ?_⟩
      have e14 := same_new (o := .tup [.str "row", .ref a13]) n14
      have h14 : upd G13 a14 (.tup [.str "row", .ref a13]) a14 = some (.tup [.str "row", .ref a13]) := upd_same
      generalize upd G13 a14 (.tup [.str "row", .ref a13]) = G14 at e14 h14 ⊢
      refine ⟨by show 2 ≤ sizeLine; decide, fun a15 n15 => ?_⟩
      have e15 := same_new (o := .tup [.str "all", .ref a14]) n15
      have h15 : upd G14 a15 (.tup [.str "all", .ref a14]) a15 = some (.tup [.str "all", .ref a14]) := upd_same
      generalize upd G14 a15 (.tup [.str "all", .ref a14]) = G15 at e15 h15 ⊢
      refine ⟨by show 0 ≤ sizeLine; decide, fun a16 n16 => ?_⟩
      have e16 := same_new (o := .tup []) n16
      have h16 : upd G15 a16 (.tup []) a16 = some (.tup []) := upd_same
      generalize upd G15 a16 (.tup []) = G16 at e16 h16 ⊢
      refine ⟨by show 2 ≤ sizeLine; decide, fun a17 n17 => ?_⟩
      have e17 := same_new (o := .lst [.str "row", .ref a16]) n17
      have h17 : upd G16 a17 (.lst [.str "row", .ref a16]) a17 = some (.lst [.str "row", .ref a16]) := upd_same
      generalize upd G16 a17 (.lst [.str "row", .ref a16]) = G17 at e17 h17 ⊢
      refine ⟨by show 0 ≤ sizeLine; decide, fun a18 n18 => ?_⟩
      have e18 := same_new (o := .tup []) n18
      have h18 : upd G17 a18 (.tup []) a18 = some (.tup []) := upd_same
      generalize upd G17 a18 (.tup []) = G18 at e18 h18 ⊢
      refine ⟨by show 2 ≤ sizeLine; decide, fun a19 n19 => ?_⟩
      have e19 := same_new (o := .tup [.int 1, .ref a18]) n19
      have h19 : upd G18 a19 (.tup [.int 1, .ref a18]) a19 = some (.tup [.int 1, .ref a18]) := upd_same
      generalize upd G18 a19 (.tup [.int 1, .ref a18]) = G19 at e19 h19 ⊢
      refine ⟨by show 0 ≤ sizeLine; decide, fun a20 n20 => ?_⟩
      have e20 := same_new (o := .tup []) n20
      have h20 : upd G19 a20 (.tup []) a20 = some (.tup []) := upd_same
      generalize upd G19 a20 (.tup []) = G20 at e20 h20 ⊢
      refine ⟨by show 2 ≤ sizeLine; decide, fun a21 n21 => ?_⟩
      have e21 := same_new (o := .tup [.str "Row", .ref a20]) n21
      have h21 : upd G20 a21 (.tup [.str "Row", .ref a20]) a21 = some (.tup [.str "Row", .ref a20]) := upd_same
      generalize upd G20 a21 (.tup [.str "Row", .ref a20]) = G21 at e21 h21 ⊢
      refine ⟨by show 0 ≤ sizeLine; decide, fun a22 n22 => ?_⟩
      have e22 := same_new (o := .tup []) n22
      have h22 : upd G21 a22 (.tup []) a22 = some (.tup []) := upd_same
      generalize upd G21 a22 (.tup []) = G22 at e22 h22 ⊢
      refine ⟨by show 0 ≤ sizeLine; decide, fun a23 n23 => ?_⟩
      have e23 := same_new (o := .tup []) n23
      have h23 : upd G22 a23 (.tup []) a23 = some (.tup []) := upd_same
      generalize upd G22 a23 (.tup []) = G23 at e23 h23 ⊢
      refine ⟨by show 3 ≤ sizeLine; decide, fun a24 n24 => ?_⟩
      have e24 := same_new (o := .tup [.str "row", .ref a22, .ref a23]) n24
      have h24 : upd G23 a24 (.tup [.str "row", .ref a22, .ref a23]) a24 = some (.tup [.str "row", .ref a22, .ref a23]) := upd_same
      generalize upd G23 a24 (.tup [.str "row", .ref a22, .ref a23]) = G24 at e24 h24 ⊢
      refine ⟨by show 5 ≤ sizeLine; decide, fun a25 n25 => ?_⟩
      have e25 := same_new (o := .lst [.ref a15, .ref a17, .ref a19, .ref a21, .ref a24]) n25
      have h25 : upd G24 a25 (.lst [.ref a15, .ref a17, .ref a19, .ref a21, .ref a24]) a25 = some (.lst [.ref a15, .ref a17, .ref a19, .ref a21, .ref a24]) := upd_same
      generalize upd G24 a25 (.lst [.ref a15, .ref a17, .ref a19, .ref a21, .ref a24]) = G25 at e25 h25 ⊢
      have f25 : Same G25 G25 := Same.refl _
      have f24 : Same G24 G25 := e25.trans f25
      have f23 : Same G23 G25 := e24.trans f24
      have f22 : Same G22 G25 := e23.trans f23
      have f21 : Same G21 G25 := e22.trans f22
      have f20 : Same G20 G25 := e21.trans f21
      have f19 : Same G19 G25 := e20.trans f20
      have f18 : Same G18 G25 := e19.trans f19
      have f17 : Same G17 G25 := e18.trans f18
      have f16 : Same G16 G25 := e17.trans f17
      have f15 : Same G15 G25 := e16.trans f16
      have f14 : Same G14 G25 := e15.trans f15
      have f13 : Same G13 G25 := e14.trans f14
      have f12 : Same G12 G25 := e13.trans f13
      have f11 : Same G11 G25 := e12.trans f12
      have f10 : Same G10 G25 := e11.trans f11
      have f9 : Same G9 G25 := e10.trans f10
      have f8 : Same G8 G25 := e9.trans f9
      have f7 : Same G7 G25 := e8.trans f8
      have f6 : Same G6 G25 := e7.trans f7
      have f5 : Same G5 G25 := e6.trans f6
      have f4 : Same G4 G25 := e5.trans f5
      have f3 : Same G3 G25 := e4.trans f4
      have f2 : Same G2 G25 := e3.trans f3
      have f1 : Same G1 G25 := e2.trans f2
      have f0 : Same H G25 := e1.trans f1
      refine ⟨a12, a25, _, _, rfl, rfl, f12 _ _ h12, h25, by show 13 ≤ sizeLine; decide, fun a n => ?_⟩
      have ex := same_new (o := .lst ([.non, .ref a1, .str "row", .ref a2, .ref a3, .ref a5, .ref a6, .ref a11] ++ [.ref a15, .ref a17, .ref a19, .ref a21, .ref a24])) n
      have e0x := f0.trans ex
      refine ⟨pn, cl, a, _, b, rfl, pen.same e0x, by omega, upd_same, by show 0 < 13; decide, by show 13 ≤ 1000; decide, fun v H4 hv e4 pen4 => ?_⟩
      have tl := TL.pen (pen.same e0x) e4
      refine out v H4 ⟨(fun z => nomatch z), fun _ => ?_⟩ (fun c o n z => e4 _ _ n (e0x _ _ z)) pen4
      refine Bad.tl (Bad.same (H := G25) ?_ ex) tl
      have hv : v ∈ ([.non, .ref a1, .str "row", .ref a2, .ref a3, .ref a5, .ref a6, .ref a11] ++ [.ref a15, .ref a17, .ref a19, .ref a21, .ref a24] : List V) := hv
      simp only [List.cons_append, List.nil_append, List.mem_cons, List.not_mem_nil, or_false] at hv
      rcases hv with rfl | rfl | rfl | rfl | rfl | rfl | rfl | rfl | rfl | rfl | rfl | rfl | rfl
      · exact bad_flat (fun a z => nomatch z) .non
      · exact bad_tup (f1 _ _ h1) (fun x h => nomatch h) rfl
      · exact bad_flat (fun a z => nomatch z) (.str _)
      · exact bad_tup (f2 _ _ h2) (fun x h => by
          simp only [List.mem_cons, List.not_mem_nil, or_false] at h
          rcases h with rfl
          · exact .str _) (pr_row rfl)
      · exact bad_tup (f3 _ _ h3) (fun x h => by
          simp only [List.mem_cons, List.not_mem_nil, or_false] at h
          rcases h with rfl | rfl
          · exact .str _
          · exact .str _) (pr_row rfl)
      · exact bad_tup (f5 _ _ h5) (fun x h => by
          simp only [List.mem_cons, List.not_mem_nil, or_false] at h
          rcases h with rfl | rfl
          · exact .str _
          · exact .lst (f4 _ _ h4)) (pr_row (by rw [show hdT G25 [.ref a4] = isT G25 (.ref a4) from rfl, isT_lst (f4 _ _ h4)]; rfl))
      · exact bad_tup (f6 _ _ h6) (fun x h => by
          simp only [List.mem_cons, List.not_mem_nil, or_false] at h
          rcases h with rfl
          · exact .str _) (pr_not (by show ¬ 0 = 1; decide))
      · exact bad_tup (f11 _ _ h11) (fun x h => by
          simp only [List.mem_cons, List.not_mem_nil, or_false] at h
          rcases h with rfl | rfl | rfl
          · exact .str _
          · exact .tup (f8 _ _ h8)
          · exact .tup (f10 _ _ h10)) (pr_not (by show ¬ 2 = 1; decide))
      · exact bad_tup (f15 _ _ h15) (fun x h => by
          simp only [List.mem_cons, List.not_mem_nil, or_false] at h
          rcases h with rfl | rfl
          · exact .str _
          · exact .tup (f14 _ _ h14)) (pr_other (by decide +kernel) (by decide +kernel) (by decide +kernel) (by decide +kernel))
      · exact bad_lst (f17 _ _ h17)
      · exact bad_tup (f19 _ _ h19) (fun x h => by
          simp only [List.mem_cons, List.not_mem_nil, or_false] at h
          rcases h with rfl | rfl
          · exact .int _
          · exact .tup (f18 _ _ h18)) (pr_no fun x z => nomatch z)
      · exact bad_tup (f21 _ _ h21) (fun x h => by
          simp only [List.mem_cons, List.not_mem_nil, or_false] at h
          rcases h with rfl | rfl
          · exact .str _
          · exact .tup (f20 _ _ h20)) (pr_other (by decide +kernel) (by decide +kernel) (by decide +kernel) (by decide +kernel))
      · exact bad_tup (f24 _ _ h24) (fun x h => by
          simp only [List.mem_cons, List.not_mem_nil, or_false] at h
          rcases h with rfl | rfl | rfl
          · exact .str _
          · exact .tup (f22 _ _ h22)
          · exact .tup (f23 _ _ h23)) (pr_row rfl)
end
end K05
set_option Elab.async false
set_option linter.all false
set_option maxRecDepth 100001
set_option maxHeartbeats 3999999
namespace K05
open PySem L2
abbrev sLaw : Stmt := topS 37
mutual
theorem Dp.same {K : PySem.W.Frag} {H H' : Hp} (e : Same H H') : ∀ (d : PyData) (v : V), Dp K H v d → Dp K H' v d
  | .none, _, h => by cases h; exact .non
  | .bool b, _, h => by cases h; exact .bl b
  | .int i, _, h => by cases h; exact .int i
  | .str x, _, h => by cases h; exact .str x
  | .list ds, _, h => by
    cases h with
    | lst h1 h2 => exact .lst (e.seq h1) (DpAll.same e ds _ h2)
  | .tuple ds, _, h => by
    cases h with
    | tup h1 h2 => exact .tup (Same.seqT e h1) (DpAll.same e ds _ h2)
  | .dict _, _, h => nomatch h
theorem DpAll.same {K : PySem.W.Frag} {H H' : Hp} (e : Same H H') : ∀ (ds : List PyData) (vs : List V), DpAll K H vs ds → DpAll K H' vs ds
  | [], _, .nil => .nil
  | d :: ds, _, .cons h1 h2 => .cons (Dp.same e d _ h1) (DpAll.same e ds _ h2)
end
/-- a pattern that is made -/
def MadeOk (ls : List Nat) (t : T5) : Prop := fst ls [] t = none ∧ cnt t ≤ 60 ∧ ∃ rs : List Row, rws t = rs.map txs ∧ NN rs ≤ 60 ∧ (∀ its ∈ rs, ∀ it ∈ its, it.length ≤ 100) ∧ ∃ Qs, AllC rs ls Qs ∧ Qs.length ≤ 2000 ∧ ∃ d, d ≤ 40 ∧ WT d t
theorem GR.clo {ls : List Nat} (L : LLet ls) {r : Row} (g : GR ls r) : ∃ R, RowC r ls R ∧ R.length ≤ 5 := by
  obtain ⟨ks, rfl, l, hk⟩ := g
  exact row_kinds L.l90 L.L.nd L.L.lo L.few l hk
theorem made_gt {ls : List Nat} (L : LLet ls) {t : T5} (g : GT ls 2 t) (r4 : (rws t).length ≤ 4) : MadeOk ls t := by
  obtain ⟨w, f, c, rs, er, gr, nn⟩ := g.facts L
  have c2 : cB 2 = 40 := rfl
  obtain ⟨Qs, hQ, lQ⟩ := clo_all (ls := ls) (B := 5) rs fun i hi => (gr i hi).clo L
  rw [er, List.length_map] at r4
  have : 5 ^ rs.length ≤ 5 ^ 4 := Nat.pow_le_pow_right (by decide) r4
  exact ⟨f [], by omega, rs, er, by omega, fun its hi it h => by have := ((gr its hi).item L it h).2.1; omega, Qs, hQ, by have : 5 ^ 4 = 625 := rfl; omega, 2, by decide, w⟩
theorem made_nil (ls : List Nat) (k : Nat) : MadeOk ls (.nd k []) := by
  obtain ⟨Qs, hQ, lQ⟩ := clo_all (ls := ls) (B := 5) [] fun i hi => nomatch hi
  refine ⟨by rw [fst, fstL], by rw [cnt, cntL]; decide, [], by rw [rws, rwsL]; rfl, Nat.zero_le _, (fun i hi => nomatch hi), Qs, hQ, by have : 5 ^ ([] : List Row).length = 1 := rfl; omega, 1, by decide, .nd fun t h => nomatch h⟩
theorem made_plain {ls : List Nat} {r : Row} (l : r.length ≤ 58) (h : ∀ it ∈ r, itW ls it = true ∧ isStar it = false ∧ Nch it ∧ it.length ≤ 100) : ∃ Qs, AllC [r] ls Qs ∧ Qs.length ≤ 2000 := by
  obtain ⟨Qs, hQ, lQ⟩ := clo_all (ls := ls) (B := 60) [r] fun i hi => by
    rw [List.mem_singleton.mp hi]
    refine ⟨_, row_plain fun it hit => (h it hit).2.1, ?_⟩
    rw [List.length_cons, List.length_map, List.length_range]
    omega
  exact ⟨Qs, hQ, by have : 60 ^ ([r] : List Row).length = 60 := rfl; omega⟩
theorem made_row {ls : List Nat} {r : Row} (l : r.length ≤ 58) (h : ∀ it ∈ r, itW ls it = true ∧ isStar it = false ∧ Nch it ∧ it.length ≤ 100) : MadeOk ls (.row (txs r)) := by
  obtain ⟨Qs, hQ, lQ⟩ := made_plain l h
  refine ⟨fst_row (fun it hi => (h it hi).1) _, by rw [cnt, strs_len]; omega, [r], by rw [rws]; rfl, by rw [NN_cons, show NN [] = 0 from rfl]; omega, fun i hi it hit => ?_, Qs, hQ, lQ, 0, by decide, .row fun v hv => ?_⟩
  · rw [List.mem_singleton.mp hi] at hit
    exact (h it hit).2.2.2
  · obtain ⟨it, hi, rfl⟩ := List.mem_map.mp hv
    exact flat_S (h it hi).2.2.1
theorem made_not {ls : List Nat} {r : Row} (l : r.length ≤ 58) (h : ∀ it ∈ r, itW ls it = true ∧ isStar it = false ∧ Nch it ∧ it.length ≤ 100) : MadeOk ls (.nd 0 [.row (txs r)]) := by
  obtain ⟨Qs, hQ, lQ⟩ := made_plain l h
  refine ⟨by rw [fst, fstL, fst_row (fun it hi => (h it hi).1), fstL]; rfl, by rw [cnt, cntL, cntL, cnt, strs_len]; omega, [r], by rw [rws, rwsL, rws, rwsL]; rfl, by rw [NN_cons, show NN [] = 0 from rfl]; omega, fun i hi it hit => ?_, Qs, hQ, lQ, 1, by decide, .nd fun t ht => ?_⟩
  · rw [List.mem_singleton.mp hi] at hit
    exact (h it hit).2.2.2
  · rw [List.mem_singleton.mp ht]
    refine .row fun v hv => ?_
    obtain ⟨it, hi, rfl⟩ := List.mem_map.mp hv
    exact flat_S (h it hi).2.2.1
def mD : PyData := .tuple [.str "made", .bool true]
def pyD (n : Int) : PyData := .tuple [.str "many", .str "parts", .int n, .int 60]
def sD : PyData := .tuple [.str "many", .str "standings", .int 2001, .int 2000]
def lD : PyData := .tuple [.str "letters", .str (S [97, 97])]
def wD (w : List Int) : PyData := .tuple [.str "part", pD w]
theorem mD_sh : SeqAt.shaped mD = true := by decide +kernel
theorem sD_sh : SeqAt.shaped sD = true := by decide +kernel
theorem lD_sh : SeqAt.shaped lD = true := by decide +kernel
theorem pyD_sh (n : Int) : SeqAt.shaped (pyD n) = true := by
  show (PyData.canLay0 (pyD n) && decide (PyData.depth (pyD n) ≤ 64)) = true
  unfold pyD
  simp only [PyData.canLay0, PyData.canLayAll0, PyData.depth, PyData.depthAll]
  have : (PyData.strOk ("many" : Str) && (PyData.strOk ("parts" : Str) && (true && (true && true))) && decide (max 0 (max 0 (max 0 (max 0 0))) + 1 ≤ 64)) = true := by decide +kernel
  exact this
theorem ints_flat (p : List Int) : ∀ v ∈ p.map V.int, Flat v := fun v hv => by
  obtain ⟨i, _, rfl⟩ := List.mem_map.mp hv
  exact True.intro
theorem pD_eq (p : List Int) : pD p = .tuple ((p.map V.int).map dOf) := by
  unfold pD
  rw [List.map_map]
  rfl
theorem wD_sh (w : List Int) : SeqAt.shaped (wD w) = true := by
  have h1 := lay_flat (ints_flat w)
  have h2 := depth_flat (w.map V.int)
  show (PyData.canLay0 (wD w) && decide (PyData.depth (wD w) ≤ 64)) = true
  unfold wD
  rw [pD_eq, Bool.and_eq_true]
  refine ⟨?_, decide_eq_true ?_⟩
  · simp only [PyData.canLay0, PyData.canLayAll0, h1, Bool.and_true]
    decide +kernel
  · simp only [PyData.depth, PyData.depthAll]
    omega
theorem wD_dp {K : PySem.W.Frag} {H : Hp} {a q : Addr} {w : List Int} (h : H a = some (.tup [.str "part", .ref q])) (hq : H q = some (.tup (w.map V.int))) : Dp K H (.ref a) (wD w) := by
  unfold wD
  rw [pD_eq]
  exact .tup (SqT.of h) (.cons (.str _) (.cons (.tup (SqT.of hq) (dpAll_flat (ints_flat w))) .nil))
theorem mD_dp {K : PySem.W.Frag} {H : Hp} {a : Addr} (h : H a = some (.tup [.str "made", .bl true])) : Dp K H (.ref a) mD := .tup (SqT.of h) (.cons (.str _) (.cons (.bl _) .nil))
theorem pyD_dp {K : PySem.W.Frag} {H : Hp} {a : Addr} {n : Int} (h : H a = some (.tup [.str "many", .str "parts", .int n, .int 60])) : Dp K H (.ref a) (pyD n) := .tup (SqT.of h) (.cons (.str _) (.cons (.str _) (.cons (.int _) (.cons (.int _) .nil))))
def CauOk (l0 : List Nat) (H : Hp) (x : V) (D : PyData) : Prop := ((isLs (.str (S l0)) = false ∧ D = .tuple [.str "letters", .str (S l0)]) ∨
   (Lets l0 ∧ ∃ t, Sh H x t ∧ cnt t ≤ 900 ∧
    ((∃ q, fst l0 [] t = some q ∧ D = .tuple [.str "part", pD q]) ∨
     (fst l0 [] t = none ∧ 60 < cnt t ∧ D = .tuple [.str "many", .str "parts", .int (cnt t : Nat), .int 60]) ∨
     (fst l0 [] t = none ∧ cnt t ≤ 60 ∧ ∃ rs : List Row, rws t = rs.map txs ∧ NN rs ≤ 60 ∧ (∀ its ∈ rs, ∀ it ∈ its, it.length ≤ 100) ∧
       (((∀ sts : List Nat, SS rs ∈ sts → (∀ s ∈ sts, ∀ c ∈ l0, GG rs s c ∈ sts) → 2000 < sts.length) ∧ D = .tuple [.str "many", .str "standings", .int 2001, .int 2000]) ∨
        (∃ Qs, AllC rs l0 Qs ∧ Qs.length ≤ 2000 ∧ ∃ d, d ≤ 40 ∧ WT d t ∧ D = .tuple [.str "made", .bool true]))))))
theorem cau_made {ls : List Nat} {H : Hp} {x : V} {t : T5} (L : Lets ls) (M : MadeOk ls t) (sh : Sh H x t) : CauOk ls H x mD :=
  let ⟨f, c, rs, er, n60, l100, Qs, hQ, lQ, d, d40, w⟩ := M
  .inr ⟨L, t, sh, by omega, .inr (.inr ⟨f, c, rs, er, n60, l100, .inr ⟨Qs, hQ, lQ, d, d40, w, rfl⟩⟩)⟩
theorem cau_part {ls : List Nat} {H : Hp} {x : V} {t : T5} {w : List Int} (L : Lets ls) (c : cnt t ≤ 900) (f : fst ls [] t = some w) (sh : Sh H x t) : CauOk ls H x (wD w) :=
  .inr ⟨L, t, sh, c, .inl ⟨w, f, rfl⟩⟩
theorem aa_S : ("aa" : Str) = S [97, 97] := by decide +kernel
theorem cau_aa {H : Hp} {x : V} : CauOk [97, 97] H x lD := .inl ⟨by decide +kernel, rfl⟩
theorem cau_many {ls : List Nat} {H : Hp} {x : V} {t : T5} {n : Nat} (L : Lets ls) (f : fst ls [] t = none) (c : cnt t = n) (n0 : 60 < n) (n9 : n ≤ 900) (sh : Sh H x t) : CauOk ls H x (pyD (n : Nat)) := by
  subst c
  exact .inr ⟨L, t, sh, n9, .inr (.inl ⟨f, n0, rfl⟩)⟩
theorem it_part {ls w : List Nat} (L : LLet ls) (n : w ≠ []) (nd : w.Nodup) (l : w.length ≤ 100) (h : ∀ c ∈ w, c ∈ ls) : itW ls w = true ∧ isStar w = false ∧ Nch w ∧ w.length ≤ 100 := by
  refine ⟨?_, ?_, fun c hc => by have := (abc90 c (L.L.abc c (h c hc))).2; omega, l⟩
  · unfold itW
    rw [decide_eq_true n, decide_eq_true nd, Bool.true_and, Bool.and_true, Bool.or_eq_true]
    exact .inr (List.all_eq_true.mpr fun c hc => decide_eq_true (h c hc))
  · refine decide_eq_false fun e => ?_
    rw [e] at h
    have := L.l90 42 (h 42 (by simp))
    omega
theorem rep_txs (n : Nat) (w : List Nat) : (List.replicate n [V.str (S w)]).flatten = txs (List.replicate n w) := by
  induction n with
  | zero => rfl
  | succ n ih =>
    rw [List.replicate_succ, List.flatten_cons, ih, List.replicate_succ]
    rfl
theorem due_ok {K : PySem.W.Frag} {σ : St} {H0 : Hp} {m : Int} {Q : VK} (hm : σ[9]? = some (some (.int m))) (h : ∀ v H' D, Same H0 H' → Dp K H' v D → SeqAt.shaped D = true → (m < 2 → D = mD) → (¬ m < 2 → D = pyD 61) → Q v H') :
    tIf (tTest (tOp (rI0 fun i j => V.bl (decide (i < j))) (tVar 9) (tC (V.int 2)))) (tTup (tCons (tC (V.str "made")) (tCons (tC (V.bl true)) tNil))) (tTup (tCons (tC (.str "many")) (tCons (tC (.str "parts")) (tCons (tC (.int 61)) (tCons (tC (.int 60)) tNil))))) σ H0 Q := by
  refine ⟨_, hm, _, _, rfl, rfl, _, rfl, ?_⟩
  by_cases c : m < 2
  · rw [decide_eq_true c]
    refine iteT ⟨by show 2 ≤ sizeLine; decide, fun a n => ?_⟩
    exact h _ _ mD (same_new n) (mD_dp upd_same) mD_sh (fun _ => rfl) (fun z => absurd c z)
  · rw [decide_eq_false c]
    refine iteF ⟨by show 4 ≤ sizeLine; decide, fun a n => ?_⟩
    exact h _ _ (pyD 61) (same_new n) (pyD_dp upd_same) (pyD_sh _) (fun z => absurd z c) (fun _ => rfl)
theorem last_item {ls : List Nat} (L : LLet ls) : ∀ it ∈ lastK.map (kW ls), itW ls it = true ∧ Nch it ∧ it.length ≤ 100 := fun it h => by
  obtain ⟨k, hk, rfl⟩ := List.mem_map.mp h
  have k3 : k ≤ 3 := by
    clear h
    revert k
    decide
  have lo := L.L.lo
  obtain ⟨h1, h2⟩ := kW_mem lo (k := k) (by omega)
  refine ⟨kW_item L (by omega), fun c hc => ?_, by omega⟩
  rcases h2 c hc with rfl | rfl | hc
  · decide
  · decide
  · have := (abc90 c (L.L.abc c hc)).2
    omega
theorem last_txs {ls : List Nat} {l0 : Nat} {lr : List Nat} (el : ls = l0 :: lr) : [V.str "*", .str (S [l0])] ++ (List.replicate 11 [V.str "?"]).flatten = txs (lastK.map (kW ls)) := by
  subst el
  rw [show ("*" : Str) = S [42] by decide +kernel, show ("?" : Str) = S [63] by decide +kernel]
  rfl
theorem last_cau {ls : List Nat} {H : Hp} {x : V} (L : LLet ls) (sh : Sh H x (.row (txs (lastK.map (kW ls))))) : CauOk ls H x sD := by
  have n : (lastK.map (kW ls)).length = 13 := by rw [List.length_map]; decide
  refine .inr ⟨L.L, _, sh, by rw [cnt, strs_len]; omega, .inr (.inr ⟨fst_row (fun it h => (last_item L it h).1) _, by rw [cnt, strs_len]; omega, [lastK.map (kW ls)], by rw [rws]; rfl, by rw [NN_cons, show NN [] = 0 from rfl]; omega, fun i hi it hit => ?_, .inl ⟨fun sts h0 h1 => last_big L.l90 L.L.nd L.L.lo sts h0 h1, rfl⟩⟩)⟩
  rw [List.mem_singleton.mp hi] at hit
  exact (last_item L it hit).2.2
def spBentA : Sp := fun vs H Q E => ∃ n, n ≤ 4 ∧ spBent n vs H Q E
section
variable {P : Program} {w : World} {K : PySem.W.Frag} {mg : Str → Option Value} {base : Heap}
theorem ok_bentA {f : Addr} {fd : FuncData} (h : ∀ n, n ≤ 4 → FnOk P w K mg base CX0 5 f fd ["_law_shape_here", "_law_way", "_law_odd_here"] (spBent n)) : FnOk P w K mg base CX0 5 f fd ["_law_shape_here", "_law_way", "_law_odd_here"] spBentA :=
  ⟨fun vs H Q E ⟨n, hn, q⟩ => (h n hn).len vs H Q E q, fun A outer s H args us vs Q E hr e0 hb hv ⟨n, hn, q⟩ => (h n hn).run A outer s H args us vs Q E hr e0 hb hv q⟩
def spLaw (K : PySem.W.Frag) : Sp := fun vs H Q _ => ∃ (a : Addr) (is : List Int), vs = [.ref a] ∧ SqL K H a (is.map V.int) ∧ ∀ H', Q (.bl true) H'
abbrev NLa : List Str := ["_law_script", "_law_pen_here", "_law_letters_here", "_law_shape_here", "_law_size_here", "_law_way", "_law_item", "_law_bent_here", "_law_two", "_law_more", "_law_row_here", "_law_due", "_law_shape_now"]
theorem scLaw : FnScope NLa ["_law_script"] (defScope sLaw) := ⟨rfl, rfl, rfl, by decide +kernel, rfl, by decide +kernel, by decide +kernel⟩
theorem ok_law {f : Addr} {fd : FuncData} (F : Fun K "law" "law" sLaw f fd) (B : Bi mg) (cPn : Cal CX0 P w K mg base 1 "_law_pen" (spPen K)) (cD : Cal CX0 P w K mg base 1 "_law_draw" spDraw) (cK : Cal CX0 P w K mg base 2 "_law_pick" spPick) (cLe : Cal CX0 P w K mg base 3 "_law_letters" spLLet) (cSm : Cal CX0 P w K mg base 7 "_law_small" spSmall) (cSz : Cal CX0 P w K mg base 5 "_law_size" spSize)
    (cC : Cal CX0 P w K mg base 10 "_law_caught" (spCau K)) (cW : Cal CX0 P w K mg base 4 "_law_ways" (spWays 3)) (cB : Cal CX0 P w K mg base 5 "_law_bent" spBentA) (cO : Cal CX0 P w K mg base 3 "_law_odd" spOdd) : FnOk P w K mg base CX0 11 f fd ["_law_script"] (spLaw K) := by
  refine F.ok scLaw (fun vs H Q E h => ?_) (fun cdv A outer s H vs Q E hr h => ?_)
  · obtain ⟨a, is, rfl, _⟩ := h
    rfl
  · obtain ⟨a, is, rfl, hs, q⟩ := h
    refine ⟨_, pss_cons (ps_set (i := 1) scLaw.nd rfl (Or.inl rfl) (pe_c cPn hr pass0 (pa_cons (pv 0) pa_nil)))
      (pss_cons (ps_set (i := 2) scLaw.nd rfl (Or.inl rfl) (pe_c cLe hr pass0 (pa_cons (pv 1) (pa_cons pe_int pa_nil))))
      (pss_cons (ps_set (i := 3) scLaw.nd rfl (Or.inl rfl) (pe_c cSm hr pass0 (pa_cons (pv 1) (pa_cons (pv 2) (pa_cons pe_int pa_nil)))))
      (pss_cons (ps_set (i := 4) scLaw.nd rfl (Or.inl rfl) (pe_c cSz hr pass0 (pa_cons (pv 3) pa_nil)))
      (pss_cons (ps_if (pt_cmpR (op_neSmD (hu64 hr)) (pe_c cC hr pass0 (pa_cons (pv 2) (pa_cons (pv 3) pa_nil))) (pe_ifExp (pt_cmpR op_le (pv 4) pe_int (nomark _)) (pe_tup (pa_cons pe_str (pa_cons pe_bl pa_nil))) (pe_tup (pa_cons pe_str (pa_cons pe_str (pa_cons (pv 4) (pa_cons pe_int pa_nil)))))) (nomark _)) (pss_one (ps_ret pe_bl)) pss_nil)
      (pss_cons (ps_asg (pe_c cK hr pass0 (pa_cons (pv 1) (pa_cons (pe_c cW hr pass0 (pa_cons (pv 3) (pa_cons (pe_tup pa_nil) pa_nil))) pa_nil))) (pg_tup rfl (pgs_cons (pg_name (i := 5) scLaw.nd rfl (.inl rfl)) (pgs_cons (pg_name (i := 6) scLaw.nd rfl (.inl rfl)) pgs_nil))))
      (pss_cons (ps_set (i := 7) scLaw.nd rfl (Or.inl rfl) (pe_c cB hr pass0 (pa_cons (pv 3) (pa_cons (pv 5) (pa_cons (pe_c cO hr pass0 (pa_cons (pv 1) (pa_cons (pv 2) (pa_cons (pv 6) pa_nil)))) pa_nil)))))
      (pss_cons (ps_if (PW.pt (pw_or (pt_cmpR (op_neSmD (hu64 hr)) (pe_c cC hr pass0 (pa_cons (pv 2) (pa_cons (pv 7) pa_nil))) (pe_tup (pa_cons pe_str (pa_cons (pv 5) pa_nil))) (nomark _)) (pw_or1 (pt_cmpR (op_neSmD (hu64 hr)) (pe_c cC hr pass0 (pa_cons pe_str (pa_cons (pv 7) pa_nil))) (pe_tup (pa_cons pe_str (pa_cons pe_str pa_nil))) (nomark _))))) (pss_one (ps_ret pe_bl)) pss_nil)
      (pss_cons (ps_set (i := 8) scLaw.nd rfl (Or.inl rfl) (pe_tup (pa_cons pe_str (pa_cons (pv 3) (pa_cons (pe_tup (pa_cons pe_str (pa_cons (pv 7) (pa_cons pe_non pa_nil)))) pa_nil)))))
      (pss_cons (ps_if (pt_cmpR (op_neSmD (hu64 hr)) (pe_c cC hr pass0 (pa_cons (pv 2) (pa_cons (pv 8) pa_nil))) (pe_tup (pa_cons pe_str (pa_cons (pe_op op_catA (pe_tup (pa_cons pe_int (pa_cons pe_int pa_nil))) (pv 5)) pa_nil))) (nomark _)) (pss_one (ps_ret pe_bl)) pss_nil)
      (pss_cons (ps_set (i := 9) scLaw.nd rfl (Or.inl rfl) (pe_c cD hr pass0 (pa_cons (pv 1) (pa_cons pe_int pa_nil))))
      (pss_cons (ps_set (i := 10) scLaw.nd rfl (Or.inl rfl) (pe_tup (pa_cons pe_str (pa_cons (pe_tupleOf rfl B.tuple (pe_op op_rep (pe_lst (pa_cons (pe_ix ix_str (pv 2) pe_int (fun _ _ => rfl)) pa_nil)) (pe_op op_add pe_int (pv 9)))) pa_nil))))
      (pss_cons (ps_set (i := 11) scLaw.nd rfl (Or.inl rfl) (pe_ifExp (pt_cmpR op_lt (pv 9) pe_int (nomark _)) (pe_tup (pa_cons pe_str (pa_cons pe_bl pa_nil))) (pe_tup (pa_cons pe_str (pa_cons pe_str (pa_cons pe_int (pa_cons pe_int pa_nil)))))))
      (pss_cons (ps_if (pt_cmpR (op_neSmD (hu64 hr)) (pe_c cC hr pass0 (pa_cons (pv 2) (pa_cons (pe_tup (pa_cons pe_str (pa_cons (pv 10) pa_nil))) pa_nil))) (pv 11) (nomark _)) (pss_one (ps_ret pe_bl)) pss_nil)
      (pss_cons (ps_for PassesOwn.never rfl (pi_sqA (pe_lst (pa_cons (pe_tup (pa_cons pe_str pa_nil)) (pa_cons (pe_tup (pa_cons pe_str pa_nil)) (pa_cons (pe_tup (pa_cons pe_str (pa_cons (pe_tup pa_nil) pa_nil))) (pa_cons (pe_tup (pa_cons pe_str (pa_cons (pe_tup (pa_cons (pe_revS (pv 2)) pa_nil)) pa_nil))) pa_nil)))))) (pg_name (i := 12) scLaw.nd rfl (.inl rfl))
        (pss_one (ps_if (pt_cmpR (op_neSmD (hu64 hr)) (pe_c cC hr pass0 (pa_cons (pv 2) (pa_cons (pv 12) pa_nil))) (pe_tup (pa_cons pe_str (pa_cons pe_bl pa_nil))) (nomark _)) (pss_one (ps_ret pe_bl)) pss_nil)))
      (pss_cons (ps_if (pt_cmpR op_gt (pe_c cD hr pass0 (pa_cons (pv 1) (pa_cons pe_int pa_nil))) pe_int (nomark _)) (pss_one (ps_ret pe_bl)) pss_nil)
      (pss_one (ps_ret (pe_cmpR (op_eqSmD (hu64 hr)) (pe_c cC hr pass0 (pa_cons (pv 2) (pa_cons (pe_tup (pa_cons pe_str (pa_cons (pe_op op_catA (pe_tup (pa_cons pe_str (pa_cons (pe_ix ix_str (pv 2) pe_int (fun _ _ => rfl)) pa_nil))) (pe_op op_repT (pe_tup (pa_cons pe_str pa_nil)) pe_int)) pa_nil))) pa_nil))) (pe_tup (pa_cons pe_str (pa_cons pe_str (pa_cons pe_int (pa_cons pe_int pa_nil))))) (nomark _))))))))))))))))))), ?_⟩
    refine ⟨_, rfl, a, is, rfl, hs, fun pn cl H1 np nc e1 pen1 => ?_⟩
    refine ⟨_, rfl, pn, cl, 0, rfl, pen1, by decide, fun ls H2 L b2 pen2 => ?_⟩
    refine ⟨_, rfl, _, rfl, pn, cl, ls, 0 + 6, rfl, pen2, by decide, L, fun x t H3 g r4 b3 pen3 sh => ?_⟩
    refine ⟨_, rfl, x, ls, t, rfl, g, L, sh, fun H4 e4 => ?_⟩
    have M := made_gt L g r4
    have c60 := M.2.1
    have l200 : ls.length ≤ 200 := by have := L.few; omega
    have nch : Nch ls := fun c h => by have := (abc90 c (L.L.abc c h)).2; omega
    have sh4 := Sh.same e4 _ _ sh
    have pen4 := pen3.same e4
    refine ⟨_, rfl, _, rfl, ls, x, mD, rfl, l200, nch, cau_made L.L M sh4, fun r5 H5 e5 dp5 => ?_⟩
    refine ⟨_, rfl, _, _, rfl, rfl, _, rfl, ?_⟩
    rw [decide_eq_true (show ((cnt t : Nat) : Int) ≤ 60 by omega)]
    refine iteT ⟨by show 2 ≤ sizeLine; decide, fun a6 n6 => ?_⟩
    have e6 := same_new (o := .tup [.str "made", .bl true]) n6
    have h6 : upd H5 a6 (.tup [.str "made", .bl true]) a6 = some (.tup [.str "made", .bl true]) := upd_same
    generalize upd H5 a6 (.tup [.str "made", .bl true]) = H6 at e6 h6 ⊢
    refine ⟨mD, Dp.same e6 _ _ dp5, mD_dp h6, mD_sh, _, rfl, iteF ?_⟩
    have e46 := e5.trans e6
    have sh6 := Sh.same e46 _ _ sh4
    have pen6 := pen4.same e46
    -- a way
    refine ⟨_, rfl, _, rfl, by show 0 ≤ sizeLine; decide, fun q0 nq0 => ?_⟩
    have e7 := same_new (o := .tup []) nq0
    have h7 : upd H6 q0 (.tup []) q0 = some (.tup []) := upd_same
    generalize upd H6 q0 (.tup []) = H7 at e7 h7 ⊢
    have sh7 := Sh.same e7 _ _ sh6
    refine ⟨x, q0, [], ls, t, rfl, h7, by show 0 + 3 ≤ 11; decide, by omega, ⟨2, rfl, g⟩, L, sh7, fun Lw vs H8 e8 hLw wy => ?_⟩
    have lw := wy.len
    rw [g.wys_len] at lw
    have cp := cnt_pos t
    have sh8 := Sh.same e8 _ _ sh7
    have pen8 := (pen6.same e7).same e8
    refine ⟨pn, cl, Lw, vs, 0 + 6 + 89, rfl, pen8, by decide, hLw, by omega, by omega, fun v H9 hv b9 pen9 => ?_⟩
    obtain ⟨⟨wq, it⟩, hm, aw, qw, rfl, hw1, hw2⟩ := wy.mem hv
    have t9 := TL.pen pen8 b9
    have sh9 := Sh.tl t9 _ _ sh8
    have hw19 := t9.t _ _ hw1
    have hw29 := t9.t _ _ hw2
    refine ⟨aw, _, rfl, SqT.of hw19, rfl, _, _, rfl, _, _, rfl, rfl, ?_⟩
    refine ⟨_, rfl, _, rfl, _, rfl, _, rfl, _, rfl, pn, cl, ls, 0 + 6 + 89 + 1, it, rfl, pen9, by decide, L, fun od H10 ov b10 pen10 => ?_⟩
    have t10 := TL.pen pen9 b10
    have sh10 := Sh.tl t10 _ _ sh9
    have hq10 := t10.t _ _ hw29
    obtain ⟨w, ew, w4, bt, wk⟩ := g.way L sh10 hm
    have ew : wq = w := ew
    subst ew
    refine ⟨wq.length, w4, x, od, qw, wq, rfl, hq10, rfl, bt, fun y H11 e11 res => ?_⟩
    obtain ⟨t', s', f', c'⟩ := wk H11 y od e11 (fun z => ⟨(ov.1 z).1, (ov.1 z).2.1.same e11, (ov.1 z).2.2⟩) (fun z => (ov.2 z).same e11) res
    have sh11 := Sh.same e11 _ _ sh10
    have hq11 := e11 _ _ hq10
    have pen11 := pen10.same e11
    clear wk res bt ov hm wy
    have f0 : fst ls [] t' = some wq := f' []
    refine ⟨_, rfl, _, rfl, ls, y, wD wq, rfl, l200, nch, cau_part L.L (by omega) f0 s', fun r12 H12 e12 dp12 => ?_⟩
    refine ⟨_, rfl, by show 2 ≤ sizeLine; decide, fun a13 n13 => ?_⟩
    have e13 := same_new (o := .tup [.str "part", .ref qw]) n13
    have h13 : upd H12 a13 (.tup [.str "part", .ref qw]) a13 = some (.tup [.str "part", .ref qw]) := upd_same
    generalize upd H12 a13 (.tup [.str "part", .ref qw]) = H13 at e13 h13 ⊢
    have e1113 := e12.trans e13
    refine ⟨wD wq, Dp.same e13 _ _ dp12, wD_dp h13 (e1113 _ _ hq11), wD_sh wq, _, rfl, iteF ?_⟩
    refine ⟨_, rfl, [97, 97], y, lD, rfl, by decide, (by intro c hc; simp only [List.mem_cons, List.not_mem_nil, or_false, or_self] at hc; omega), cau_aa, fun r14 H14 e14 dp14 => ?_⟩
    refine ⟨by show 2 ≤ sizeLine; decide, fun a15 n15 => ?_⟩
    have e15 := same_new (o := .tup [.str "letters", .str "aa"]) n15
    have h15 : upd H14 a15 (.tup [.str "letters", .str "aa"]) a15 = some (.tup [.str "letters", .str "aa"]) := upd_same
    generalize upd H14 a15 (.tup [.str "letters", .str "aa"]) = H15 at e15 h15 ⊢
    refine ⟨lD, Dp.same e15 _ _ dp14, (by rw [aa_S] at h15; exact .tup (SqT.of h15) (.cons (.str _) (.cons (.str _) .nil))), lD_sh, _, rfl, iteF ?_⟩
    -- two
    have e1115 := e1113.trans (e14.trans e15)
    have sh15 := Sh.same e1115 _ _ sh11
    have s15 := Sh.same e1115 _ _ s'
    have hq15 := e1115 _ _ hq11
    have pen15 := pen11.same e1115
    refine ⟨_, rfl, _, rfl, by show 3 ≤ sizeLine; decide, fun a16 n16 => ?_⟩
    have e16 := same_new (o := .tup [.str "either", y, .non]) n16
    have h16 : upd H15 a16 (.tup [.str "either", y, .non]) a16 = some (.tup [.str "either", y, .non]) := upd_same
    generalize upd H15 a16 (.tup [.str "either", y, .non]) = H16 at e16 h16 ⊢
    refine ⟨by show 3 ≤ sizeLine; decide, fun a17 n17 => ?_⟩
    have e17 := same_new (o := .tup [.str "both", x, .ref a16]) n17
    have h17 : upd H16 a17 (.tup [.str "both", x, .ref a16]) a17 = some (.tup [.str "both", x, .ref a16]) := upd_same
    generalize upd H16 a17 (.tup [.str "both", x, .ref a16]) = H17 at e17 h17 ⊢
    have e1517 := e16.trans e17
    have sh17 : Sh H17 (.ref a17) (.nd 1 [t, .nd 2 [t', .odd .non]]) := by
      refine .nd h17 (by decide) (.cons (Sh.same e1517 _ _ sh15) (.cons (.nd (e17 _ _ h16) (by decide) (.cons (Sh.same e1517 _ _ s15) (.cons (.odd ⟨Kn.non, fun a xs h => nomatch h⟩ rfl) .nil)) (fun h => nomatch h) (by show 2 ≤ 100; decide)) .nil)) (fun h => nomatch h) (by show 2 ≤ 100; decide)
    obtain ⟨_, fN, _⟩ := g.facts L
    have f2 : fst ls [] (.nd 1 [t, .nd 2 [t', .odd .non]]) = some ([2, 1] ++ wq) := by
      simp only [fst, fstL, fN, f', Option.none_or, Option.some_or, List.nil_append, List.cons_append]
      rfl
    have c2 : cnt (.nd 1 [t, .nd 2 [t', .odd .non]]) ≤ 900 := by
      simp only [cnt, cntL]
      have : K05.cB 2 = 40 := rfl
      omega
    refine ⟨_, rfl, _, rfl, ls, .ref a17, wD ([2, 1] ++ wq), rfl, l200, nch, cau_part L.L c2 f2 sh17, fun r18 H18 e18 dp18 => ?_⟩
    refine ⟨by show 2 ≤ sizeLine; decide, fun a19 n19 => ?_⟩
    have e19 := same_new (o := .tup [.int 2, .int 1]) n19
    have h19 : upd H18 a19 (.tup [.int 2, .int 1]) a19 = some (.tup [.int 2, .int 1]) := upd_same
    generalize upd H18 a19 (.tup [.int 2, .int 1]) = H19 at e19 h19 ⊢
    have e1519 := (e1517.trans e18).trans e19
    refine ⟨_, rfl, ?_⟩
    refine cat_tup h19 (e1519 _ _ hq15) ?_ fun q20 H20 e20 h20 => ?_
    · rw [List.length_map]
      exact Nat.le_trans (show 2 + wq.length ≤ 2000 by omega) (by decide)
    refine ⟨by show 2 ≤ sizeLine; decide, fun a21 n21 => ?_⟩
    have e21 := same_new (o := .tup [.str "part", .ref q20]) n21
    have h21 : upd H20 a21 (.tup [.str "part", .ref q20]) a21 = some (.tup [.str "part", .ref q20]) := upd_same
    generalize upd H20 a21 (.tup [.str "part", .ref q20]) = H21 at e21 h21 ⊢
    refine ⟨wD ([2, 1] ++ wq), Dp.same (e19.trans (e20.trans e21)) _ _ dp18, wD_dp h21 (e21 _ _ (by rw [List.map_append]; exact h20)), wD_sh _, _, rfl, iteF ?_⟩
    have pen21 := pen15.same (e1519.trans (e20.trans e21))
    clear sh17 h16 h17 h19 h21 dp18 s15 s' hq15 h15 f2 c2 fN hq11 dp14 dp12 h13 h6 dp5 h7
    -- a row
    have x0 : (57 : Int) = ((57 : Nat) : Int) := rfl
    obtain ⟨l0, lr, el⟩ : ∃ l0 lr, ls = l0 :: lr := by
      have lo := L.L.lo
      cases h : ls with
      | nil => rw [h] at lo; exact absurd lo (by decide)
      | cons a r => exact ⟨a, r, rfl⟩
    have m0 : l0 ∈ ls := by rw [el]; exact List.mem_cons_self
    have i0 := it_part L (w := [l0]) (fun z => nomatch z) (by simp) (by show 1 ≤ 100; decide) (fun c h => by rw [List.mem_singleton.mp h]; exact m0)
    have len3 : (S ls).length ≤ sizeLine := by
      rw [S_len]
      exact Nat.le_trans l200 (by decide)
    refine ⟨_, rfl, pn, cl, 3, _, rfl, pen21, by decide, by decide, by decide, fun m H22 m1 m2 b22 pen22 => ?_⟩
    refine ⟨_, rfl, S ls, 0, l0, rfl, rfl, len3, atI_nat (j := 0) (by rw [S_list, el]; rfl), ?_⟩
    refine ⟨by show 1 ≤ sizeLine; decide, fun a23 n23 => ?_⟩
    rw [show (⟨#[l0]⟩ : Str) = S [l0] from rfl]
    have e23 := same_new (o := .lst [.str (S [l0])]) n23
    have h23 : upd H22 a23 (.lst [.str (S [l0])]) a23 = some (.lst [.str (S [l0])]) := upd_same
    generalize upd H22 a23 (.lst [.str (S [l0])]) = H23 at e23 h23 ⊢
    have mN : ∃ mn : Nat, m = (mn : Nat) := ⟨m.toNat, by omega⟩
    obtain ⟨mn, rfl⟩ := mN
    have mk : ((57 : Int) + (mn : Nat)).toNat = 57 + mn := by omega
    refine ⟨_, rfl, 57, (mn : Nat), rfl, rfl, a23, 57 + (mn : Nat), [.str (S [l0])], rfl, rfl, h23, by omega, by omega, ?_, fun a24 n24 => ?_⟩
    · rw [mk]
      exact Nat.le_trans (show 1 * (57 + mn) ≤ 100 by omega) (by decide)
    rw [mk, rep_txs]
    have e24 := same_new (o := .lst (txs (List.replicate (57 + mn) [l0]))) n24
    have h24 : upd H23 a24 (.lst (txs (List.replicate (57 + mn) [l0]))) a24 = some (.lst (txs (List.replicate (57 + mn) [l0]))) := upd_same
    generalize upd H23 a24 (.lst (txs (List.replicate (57 + mn) [l0]))) = H24 at e24 h24 ⊢
    refine .inl ⟨a24, _, rfl, SqL.of h24, fun a25 n25 => ?_⟩
    have e25 := same_new (o := .tup (txs (List.replicate (57 + mn) [l0]))) n25
    have h25 : upd H24 a25 (.tup (txs (List.replicate (57 + mn) [l0]))) a25 = some (.tup (txs (List.replicate (57 + mn) [l0]))) := upd_same
    generalize upd H24 a25 (.tup (txs (List.replicate (57 + mn) [l0]))) = H25 at e25 h25 ⊢
    refine ⟨by show 2 ≤ sizeLine; decide, fun a26 n26 => ?_⟩
    have e26 := same_new (o := .tup [.str "row", .ref a25]) n26
    have h26 : upd H25 a26 (.tup [.str "row", .ref a25]) a26 = some (.tup [.str "row", .ref a25]) := upd_same
    generalize upd H25 a26 (.tup [.str "row", .ref a25]) = H26 at e26 h26 ⊢
    refine due_ok (K := K) rfl fun due H27 D e27 dp27 dsh dlt dge => ?_
    have pen27 := pen22.same (e23.trans (e24.trans (e25.trans (e26.trans e27))))
    refine ⟨_, rfl, _, rfl, by show 2 ≤ sizeLine; decide, fun a28 n28 => ?_⟩
    have e28 := same_new (o := .tup [.str "not", .ref a26]) n28
    have h28 : upd H27 a28 (.tup [.str "not", .ref a26]) a28 = some (.tup [.str "not", .ref a26]) := upd_same
    generalize upd H27 a28 (.tup [.str "not", .ref a26]) = H28 at e28 h28 ⊢
    have rI : ∀ it ∈ List.replicate (57 + mn) [l0], itW ls it = true ∧ isStar it = false ∧ Nch it ∧ it.length ≤ 100 := fun it h => by
      rw [(List.mem_replicate.mp h).2]
      exact i0
    have rl : (List.replicate (57 + mn) [l0]).length = 57 + mn := List.length_replicate
    have sh28 : Sh H28 (.ref a28) (.nd 0 [.row (txs (List.replicate (57 + mn) [l0]))]) := by
      refine .nd h28 (by decide) (.cons (.row (e28 _ _ (e27 _ _ h26)) (e28 _ _ (e27 _ _ (e26 _ _ h25))) ?_ fun v hv => ?_) .nil) (fun _ => rfl) (by show 1 ≤ 100; decide)
      · rw [strs_len, rl]
        omega
      · obtain ⟨it, hi, rfl⟩ := List.mem_map.mp hv
        refine ⟨.str _, fun x hx => ?_⟩
        cases hx
        rw [S_len]
        exact (rI it hi).2.2.2
    have fn : fst ls [] (.nd 0 [.row (txs (List.replicate (57 + mn) [l0]))]) = none := by
      rw [fst, fstL, fst_row fun it hi => (rI it hi).1, fstL]
      rfl
    have cn : cnt (.nd 0 [.row (txs (List.replicate (57 + mn) [l0]))]) = 59 + mn := by
      simp only [cnt, cntL, strs_len, rl]
      omega
    have ck : CauOk ls H28 (.ref a28) D := by
      by_cases c : ((mn : Nat) : Int) < 2
      · rw [dlt c]
        exact cau_made L.L (made_not (by rw [rl]; omega) rI) sh28
      · rw [dge c]
        exact cau_many (n := 61) L.L fn (by rw [cn]; omega) (by decide) (by decide) sh28
    refine ⟨ls, .ref a28, D, rfl, l200, nch, ck, fun r29 H29 e29 dp29 => ?_⟩
    refine ⟨_, rfl, D, dp29, Dp.same (e28.trans e29) _ _ dp27, dsh, _, rfl, iteF ?_⟩
    have pen29 := pen27.same (e28.trans e29)
    clear ck cn fn sh28 rl rI dp29 dp27 dlt dge h28 h26 h25 h24 h23
    -- four shapes
    refine ⟨by show 1 ≤ sizeLine; decide, fun a30 n30 => ?_⟩
    have e30 := same_new (o := .tup [.str "both"]) n30
    have h30 : upd H29 a30 (.tup [.str "both"]) a30 = some (.tup [.str "both"]) := upd_same
    generalize upd H29 a30 (.tup [.str "both"]) = H30 at e30 h30 ⊢
    refine ⟨by show 1 ≤ sizeLine; decide, fun a31 n31 => ?_⟩
    have e31 := same_new (o := .tup [.str "either"]) n31
    have h31 : upd H30 a31 (.tup [.str "either"]) a31 = some (.tup [.str "either"]) := upd_same
    generalize upd H30 a31 (.tup [.str "either"]) = H31 at e31 h31 ⊢
    refine ⟨by show 0 ≤ sizeLine; decide, fun a32 n32 => ?_⟩
    have e32 := same_new (o := .tup []) n32
    have h32 : upd H31 a32 (.tup []) a32 = some (.tup []) := upd_same
    generalize upd H31 a32 (.tup []) = H32 at e32 h32 ⊢
    refine ⟨by show 2 ≤ sizeLine; decide, fun a33 n33 => ?_⟩
    have e33 := same_new (o := .tup [.str "row", .ref a32]) n33
    have h33 : upd H32 a33 (.tup [.str "row", .ref a32]) a33 = some (.tup [.str "row", .ref a32]) := upd_same
    generalize upd H32 a33 (.tup [.str "row", .ref a32]) = H33 at e33 h33 ⊢
    refine ⟨_, rfl, S ls, rfl, len3, by show 1 ≤ sizeLine; decide, fun a34 n34 => ?_⟩
    have e34 := same_new (o := .tup [.str (revS (S ls))]) n34
    have h34 : upd H33 a34 (.tup [.str (revS (S ls))]) a34 = some (.tup [.str (revS (S ls))]) := upd_same
    generalize upd H33 a34 (.tup [.str (revS (S ls))]) = H34 at e34 h34 ⊢
    refine ⟨by show 2 ≤ sizeLine; decide, fun a35 n35 => ?_⟩
    have e35 := same_new (o := .tup [.str "row", .ref a34]) n35
    have h35 : upd H34 a35 (.tup [.str "row", .ref a34]) a35 = some (.tup [.str "row", .ref a34]) := upd_same
    generalize upd H34 a35 (.tup [.str "row", .ref a34]) = H35 at e35 h35 ⊢
    refine ⟨by show 4 ≤ sizeLine; decide, fun a36 n36 => ?_⟩
    have e36 := same_new (o := .lst [.ref a30, .ref a31, .ref a33, .ref a35]) n36
    have h36 : upd H35 a36 (.lst [.ref a30, .ref a31, .ref a33, .ref a35]) a36 = some (.lst [.ref a30, .ref a31, .ref a33, .ref a35]) := upd_same
    generalize upd H35 a36 (.lst [.ref a30, .ref a31, .ref a33, .ref a35]) = H36 at e36 h36 ⊢
    have e3436 := e35.trans e36
    have e3236 := (e33.trans e34).trans e3436
    have e3036 := (e31.trans e32).trans e3236
    have pen36 := (pen29.same e30).same e3036
    rw [revS_S] at h34
    have iR := it_part L (w := ls.reverse) (fun z => by rw [el] at z; simp at z) (List.pairwise_reverse.mpr (L.L.nd.imp Ne.symm)) (by rw [List.length_reverse]; have := L.few; omega) (fun c h => List.mem_reverse.mp h)
    have all4 : ∀ v ∈ [V.ref a30, .ref a31, .ref a33, .ref a35], ∃ t, MadeOk ls t ∧ Sh H36 v t := by
      intro v hv
      simp only [List.mem_cons, List.not_mem_nil, or_false] at hv
      rcases hv with rfl | rfl | rfl | rfl
      · exact ⟨_, made_nil ls 1, .nd (e3036 _ _ h30) (by decide) .nil (fun h => nomatch h) (by decide)⟩
      · exact ⟨_, made_nil ls 2, .nd (e3236 _ _ (e32 _ _ h31)) (by decide) .nil (fun h => nomatch h) (by decide)⟩
      · exact ⟨_, made_row (r := []) (by decide) (fun it h => nomatch h), .row ((e34.trans e3436) _ _ h33) (e3236 _ _ h32) (by decide) (fun v h => nomatch h)⟩
      · refine ⟨_, made_row (r := [ls.reverse]) (by show 1 ≤ 58; decide) (fun it h => by rw [List.mem_singleton.mp h]; exact iR), .row (e36 _ _ h35) (e3436 _ _ h34) (by show 1 ≤ 100; decide) (fun v h => ?_)⟩
        obtain ⟨it, hi, rfl⟩ := List.mem_map.mp h
        rw [List.mem_singleton.mp hi]
        refine ⟨.str _, fun x hx => ?_⟩
        cases hx
        rw [S_len]
        exact iR.2.2.2
    clear h30 h31 h32 h33 h34 h35 iR e3036 e3236 e3436
    refine ⟨_, _, rfl, .inl (SqL.of h36), fun J G wk hG => for_it wk (fun i σ H' => ∃ o : Option V, σ = [some (.ref a), some (.ref pn), some (.str (S ls)), some x, some (.int ((cnt t : Nat) : Int)), some (.ref qw), some (.bl (wq, it).2), some y, some (.ref a17), some (.int (mn : Nat)), some (.ref a26), some due, o] ∧ Same H36 H') ⟨none, rfl, Same.refl _⟩ (fun i σ H' _ ⟨_, _, e⟩ => hG H' fun o z => ?_) ?_ ?_⟩
    · rw [h36] at z
      cases z
      exact e _ _ h36
    · rintro i v σ H37 H38 hi ⟨o, rfl, e37⟩ ⟨rfl, hx⟩
      obtain ⟨tt, Mt, sht⟩ := all4 v (List.mem_of_getElem? hx)
      refine ⟨_, rfl, _, rfl, ls, v, mD, rfl, l200, nch, cau_made L.L Mt (Sh.same e37 _ _ sht), fun r39 H39 e39 dp39 => ?_⟩
      refine ⟨by show 2 ≤ sizeLine; decide, fun a40 n40 => ?_⟩
      have e40 := same_new (o := .tup [.str "made", .bl true]) n40
      have h40 : upd H39 a40 (.tup [.str "made", .bl true]) a40 = some (.tup [.str "made", .bl true]) := upd_same
      generalize upd H39 a40 (.tup [.str "made", .bl true]) = H40 at e40 h40 ⊢
      refine ⟨mD, Dp.same e40 _ _ dp39, mD_dp h40, mD_sh, _, rfl, iteF ?_⟩
      exact ⟨_, rfl, e37.trans (e39.trans e40)⟩
    · rintro σ H37 ⟨o, rfl, e37⟩
      have pen37 := pen36.same e37
      clear all4 wk hG
      refine ⟨_, rfl, pn, cl, 20, _, rfl, pen37, by decide, by decide, by decide, fun d H38 d1 d2 b38 pen38 => ?_⟩
      refine ⟨d, 0, rfl, rfl, _, rfl, ?_⟩
      by_cases c : 0 < d
      · rw [decide_eq_true c]
        exact iteT (q _)
      · rw [decide_eq_false c]
        refine iteF ?_
        refine ⟨_, rfl, _, rfl, S ls, 0, l0, rfl, rfl, len3, atI_nat (j := 0) (by rw [S_list, el]; rfl), ?_⟩
        rw [show (⟨#[l0]⟩ : Str) = S [l0] from rfl]
        refine ⟨by show 2 ≤ sizeLine; decide, fun a39 n39 => ?_⟩
        have e39 := same_new (o := .tup [.str "*", .str (S [l0])]) n39
        have h39 : upd H38 a39 (.tup [.str "*", .str (S [l0])]) a39 = some (.tup [.str "*", .str (S [l0])]) := upd_same
        generalize upd H38 a39 (.tup [.str "*", .str (S [l0])]) = H39 at e39 h39 ⊢
        refine ⟨by show 1 ≤ sizeLine; decide, fun a40 n40 => ?_⟩
        have e40 := same_new (o := .tup [.str "?"]) n40
        have h40 : upd H39 a40 (.tup [.str "?"]) a40 = some (.tup [.str "?"]) := upd_same
        generalize upd H39 a40 (.tup [.str "?"]) = H40 at e40 h40 ⊢
        refine ⟨a40, 11, _, rfl, rfl, SqT.of h40, (fun z => nomatch z), by decide, by decide, (by decide), fun a41 n41 => ?_⟩
        have e41 := same_new (o := .tup (List.replicate (11 : Int).toNat [.str "?"]).flatten) n41
        have h41 : upd H40 a41 (.tup (List.replicate (11 : Int).toNat [.str "?"]).flatten) a41 = some (.tup (List.replicate (11 : Int).toNat [.str "?"]).flatten) := upd_same
        generalize upd H40 a41 (.tup (List.replicate (11 : Int).toNat [.str "?"]).flatten) = H41 at e41 h41 ⊢
        refine cat_tup (e41 _ _ (e40 _ _ h39)) h41 (show 13 ≤ sizeLine by decide) fun q42 H42 e42 h42 => ?_
        have h42 : H42 q42 = some (.tup (txs (lastK.map (kW ls)))) := h42.trans (congrArg (fun z => some (HO.tup z)) (last_txs el))
        refine ⟨by show 2 ≤ sizeLine; decide, fun a43 n43 => ?_⟩
        have e43 := same_new (o := .tup [.str "row", .ref q42]) n43
        have h43 : upd H42 a43 (.tup [.str "row", .ref q42]) a43 = some (.tup [.str "row", .ref q42]) := upd_same
        generalize upd H42 a43 (.tup [.str "row", .ref q42]) = H43 at e43 h43 ⊢
        have sh43 : Sh H43 (.ref a43) (.row (txs (lastK.map (kW ls)))) := by
          refine .row h43 (e43 _ _ h42) (by rw [strs_len, List.length_map]; decide) fun v hv => ?_
          obtain ⟨it, hi, rfl⟩ := List.mem_map.mp hv
          refine ⟨.str _, fun x hx => ?_⟩
          cases hx
          rw [S_len]
          exact (last_item L it hi).2.2
        refine ⟨ls, .ref a43, sD, rfl, l200, nch, last_cau L sh43, fun r44 H44 e44 dp44 => ?_⟩
        refine ⟨by show 4 ≤ sizeLine; decide, fun a45 n45 => ?_⟩
        have e45 := same_new (o := .tup [.str "many", .str "standings", .int 2001, .int 2000]) n45
        have h45 : upd H44 a45 (.tup [.str "many", .str "standings", .int 2001, .int 2000]) a45 = some (.tup [.str "many", .str "standings", .int 2001, .int 2000]) := upd_same
        generalize upd H44 a45 (.tup [.str "many", .str "standings", .int 2001, .int 2000]) = H45 at e45 h45 ⊢
        exact ⟨sD, Dp.same e45 _ _ dp44, .tup (SqT.of h45) (.cons (.str _) (.cons (.str _) (.cons (.int _) (.cons (.int _) .nil)))), sD_sh, q _⟩
end
end K05
set_option Elab.async false
set_option linter.all false
set_option maxRecDepth 100001
set_option maxHeartbeats 3999999
namespace K05
open PySem L2
abbrev sTupOf : Stmt := topS 2
section
variable {P : Program} {w : World} {K : PySem.W.Frag} {mg : Str → Option Value} {base : Heap}
theorem scTupOf : FnScope ["value", "size"] ["value", "size"] (defScope sTupOf) := ⟨rfl, rfl, rfl, by decide +kernel, rfl, by decide +kernel, by decide +kernel⟩
theorem ok_tupOf {f : Addr} {fd : FuncData} (F : Fun K "is_tuple_of" "is_tuple_of" sTupOf f fd) (B : Bi mg) : FnOk P w K mg base CX0 1 f fd ["value", "size"] spTupOf := by
  refine F.ok scTupOf (fun vs H Q E h => ?_) (fun cdv A outer s H vs Q E hr h => ?_)
  · obtain ⟨v, n, rfl, _⟩ := h
    rfl
  · obtain ⟨v, n, rfl, k, q⟩ := h
    refine ⟨_, pss_one (ps_ret (pe_and (pe_isi B.isi (pa_cons (pv 0) (pa_cons (pe_ty "tuple" B.tuple) pa_nil))) (pe_one (pe_cmpR op_eq (pe_len B.len (pa_cons (pv 0) pa_nil)) (pv 1) (nomark _))))), ?_⟩
    obtain ⟨t, ty, _, _, k3, _⟩ := k.kinds K
    refine ⟨v, rfl, v, _, _, _, _, rfl, .ty "tuple", ty, k3, _, rfl, ?_⟩
    cases k with
    | tup e =>
      rw [isT_tup e]
      refine ⟨_, rfl, _, _, rfl, .inr (SqT.of e), _, rfl, rfl, ?_⟩
      simp only [isTn, e] at q
      rw [dec_int]
      have e2 : ∀ i j : Int, (i == j) = decide (i = j) := fun i j => by rw [Bool.eq_iff_iff]; simp
      rw [e2]
      exact q
    | lst e =>
      rw [isT_lst e]
      simp only [isTn, e] at q
      exact q
    | _ => exact q
end
/-! ### what the top leaves -/
/-- an own exception class as the rules want it -/
def oexB (K : PySem.W.Frag) (C : Addr) : Bool := (match K.lookup C with
  | some ⟨.type "type", _, .cls cd, sl⟩ => (match sl.toList, cd.mro with
    | [_, _, _, _, some (.builtin nw), _], .ref D :: bm => decide (D = C) && (decide (nw = "ValueError.__new__") && (!cd.hasDel && (cd.hasDict && PySem.HandSPX.refsVE bm)))
    | _, _ => false)
  | _ => false) && (He.eqO (PySem.W.findIn K (.ref C) "__setattr__") (some (some (.builtin "object.__setattr__"))) && (decide (PySem.W.subIn K (.ref C) (.type "BaseException") = some true) && (decide (PySem.W.typeIn K (.ref C) = some (.type "type")) && PySem.W.keepIn K (.ref C))))
theorem oexB_ok {K : PySem.W.Frag} {C : Addr} (h : oexB K C = true) : OexC K C := by
  obtain ⟨h1, h⟩ := He.ba h
  obtain ⟨h2, h⟩ := He.ba h
  obtain ⟨h3, h⟩ := He.ba h
  obtain ⟨h4, h5⟩ := He.ba h
  refine ⟨?_, He.eqO_ok h2, of_decide_eq_true h3, of_decide_eq_true h4, h5⟩
  split at h1
  · rename_i dd cd sl ho
    split at h1
    · rename_i x0 x1 x2 x3 nw x5 D bm hs hm
      obtain ⟨g1, g⟩ := He.ba h1
      obtain ⟨g2, g⟩ := He.ba g
      obtain ⟨g3, g⟩ := He.ba g
      obtain ⟨g4, g5⟩ := He.ba g
      have e1 := of_decide_eq_true g1
      have e2 := of_decide_eq_true g2
      subst e1 e2
      obtain ⟨nm, bs, mro, ns, qn, hd, sn, sub, ab, col, del⟩ := cd
      dsimp only at hm g3 g4
      subst hm g4
      have e3 : del = false := by
        cases del with
        | false => rfl
        | true => cases g3
      subst e3
      have hsl : sl = #[x0, x1, x2, x3, some (.builtin "ValueError.__new__"), x5] := by
        obtain ⟨l⟩ := sl
        have h' : l = _ := hs
        rw [h']
      subst hsl
      exact ⟨nm, qn, ns, bs, bm, sn, sub, ab, col, dd, x0, x1, x2, x3, x5, ho, g5⟩
    · cases h1
  · cases h1
def fa0 : List He.Fa := [.glo "is_tuple_of", .glo "copied", .glo "are_letters", .glo "is_part", .glo "is_item", .glo "nodes_of", .glo "_law_pen", .glo "_law_draw", .glo "_law_pick", .glo "_law_letters", .glo "_law_row", .glo "_law_shape", .glo "_law_rows_in", .glo "_law_small", .glo "_law_caught", .glo "_law_ways", .glo "_law_bent", .glo "_law_size", .glo "_law_stranger", .glo "_law_odd", .glo "law", .glo "TooMany", .glo "BadLetters", .glo "BadPart", .glo "Readings", .glo "Pattern", .free "isinstance", .free "int", .free "bool", .free "tuple"]
def fa1 : List He.Fa := [.free "list", .free "dict", .free "len", .free "enumerate", .free "range", .free "abs", .free "max", .free "min", .free "str", .free "all", .free "set", .free "sorted", .free "any", .free "sum", .str "ALPHABET" (S abc), .int "MOST_PARTS" 60, .int "MOST_STANDINGS" 2000, .cls "Readings", .mkr "Readings", .cls "Pattern", .mkr "Pattern", .noat "BadLetters" "letters", .noat "BadPart" "path", .noat "TooMany" "what", .noat "TooMany" "many", .noat "TooMany" "most", .noat "Readings" "letters", .noat "Readings" "nodes", .noat "Readings" "stars", .noat "Readings" "takes"]
def fa2 : List He.Fa := [.noat "Readings" "start", .noat "Readings" "ends", .noat "Pattern" "letters", .noat "Pattern" "shape", .noat "Pattern" "moves", .noat "Pattern" "kinds", .noat "Pattern" "_columns", .meth "TooMany" "__init__", .meth "BadLetters" "__init__", .meth "BadPart" "__init__", .meth "Readings" "__init__", .meth "Readings" "lay_item", .meth "Readings" "passed", .meth "Readings" "fits", .meth "Readings" "moves_from", .meth "Readings" "all_moves", .meth "Pattern" "__init__", .exm "TooMany" "TooMany" true, .exm "BadLetters" "BadLetters" true, .exm "BadPart" "BadPart" true, .exm "BadPart" "BadLetters" false, .exm "TooMany" "BadLetters" false, .exm "TooMany" "BadPart" false]
def faA : List He.Fa := fa0 ++ fa1 ++ fa2
def dd0 : He.DefD := ⟨("is_tuple_of", none), "is_tuple_of", "is_tuple_of", defArgs sTupOf, defBody sTupOf, defScope sTupOf, [], []⟩
def dd1 : He.DefD := ⟨("copied", none), "copied", "copied", defArgs sCopied, defBody sCopied, defScope sCopied, [], []⟩
def dd2 : He.DefD := ⟨("are_letters", none), "are_letters", "are_letters", defArgs sLetters, defBody sLetters, defScope sLetters, [], []⟩
def dd3 : He.DefD := ⟨("is_part", none), "is_part", "is_part", defArgs sPart, defBody sPart, defScope sPart, [], []⟩
def dd4 : He.DefD := ⟨("is_item", none), "is_item", "is_item", defArgs sItem, defBody sItem, defScope sItem, [], []⟩
def dd5 : He.DefD := ⟨("nodes_of", none), "nodes_of", "nodes_of", defArgs sNodes, defBody sNodes, defScope sNodes, [], []⟩
def dd6 : He.DefD := ⟨("_law_pen", none), "_law_pen", "_law_pen", defArgs sPen, defBody sPen, defScope sPen, [], []⟩
def dd7 : He.DefD := ⟨("_law_draw", none), "_law_draw", "_law_draw", defArgs sDraw, defBody sDraw, defScope sDraw, [], []⟩
def dd8 : He.DefD := ⟨("_law_pick", none), "_law_pick", "_law_pick", defArgs sPick, defBody sPick, defScope sPick, [], []⟩
def dd9 : He.DefD := ⟨("_law_letters", none), "_law_letters", "_law_letters", defArgs sLLet, defBody sLLet, defScope sLLet, [], []⟩
def dd10 : He.DefD := ⟨("_law_row", none), "_law_row", "_law_row", defArgs sLRow, defBody sLRow, defScope sLRow, [], []⟩
def dd11 : He.DefD := ⟨("_law_shape", none), "_law_shape", "_law_shape", defArgs sShape, defBody sShape, defScope sShape, [], []⟩
def dd12 : He.DefD := ⟨("_law_rows_in", none), "_law_rows_in", "_law_rows_in", defArgs sRowsIn, defBody sRowsIn, defScope sRowsIn, [], []⟩
def dd13 : He.DefD := ⟨("_law_small", none), "_law_small", "_law_small", defArgs sSmall, defBody sSmall, defScope sSmall, [], []⟩
def dd14 : He.DefD := ⟨("_law_caught", none), "_law_caught", "_law_caught", defArgs sCau, defBody sCau, defScope sCau, [], []⟩
def dd15 : He.DefD := ⟨("_law_ways", none), "_law_ways", "_law_ways", defArgs sWays, defBody sWays, defScope sWays, [], []⟩
def dd16 : He.DefD := ⟨("_law_bent", none), "_law_bent", "_law_bent", defArgs sBent, defBody sBent, defScope sBent, [], []⟩
def dd17 : He.DefD := ⟨("_law_size", none), "_law_size", "_law_size", defArgs sSize, defBody sSize, defScope sSize, [], []⟩
def dd18 : He.DefD := ⟨("_law_stranger", none), "_law_stranger", "_law_stranger", defArgs sLStr, defBody sLStr, defScope sLStr, [], []⟩
def dd19 : He.DefD := ⟨("_law_odd", none), "_law_odd", "_law_odd", defArgs sOdd, defBody sOdd, defScope sOdd, [], []⟩
def dd20 : He.DefD := ⟨("law", none), "law", "law", defArgs sLaw, defBody sLaw, defScope sLaw, [], []⟩
def dd21 : He.DefD := ⟨("TooMany", some "__init__"), "__init__", "TooMany.__init__", defArgs sTMany, defBody sTMany, defScope sTMany, [], []⟩
def dd22 : He.DefD := ⟨("BadLetters", some "__init__"), "__init__", "BadLetters.__init__", defArgs sBadLet, defBody sBadLet, defScope sBadLet, [], []⟩
def dd23 : He.DefD := ⟨("BadPart", some "__init__"), "__init__", "BadPart.__init__", defArgs sBadPart, defBody sBadPart, defScope sBadPart, [], []⟩
def dd24 : He.DefD := ⟨("Readings", some "__init__"), "__init__", "Readings.__init__", defArgs sRInit, defBody sRInit, defScope sRInit, [], []⟩
def dd25 : He.DefD := ⟨("Readings", some "lay_item"), "lay_item", "Readings.lay_item", defArgs sLay, defBody sLay, defScope sLay, [], []⟩
def dd26 : He.DefD := ⟨("Readings", some "passed"), "passed", "Readings.passed", defArgs sPassed, defBody sPassed, defScope sPassed, [], []⟩
def dd27 : He.DefD := ⟨("Readings", some "fits"), "fits", "Readings.fits", defArgs sFits, defBody sFits, defScope sFits, [], []⟩
def dd28 : He.DefD := ⟨("Readings", some "moves_from"), "moves_from", "Readings.moves_from", defArgs sMvf, defBody sMvf, defScope sMvf, [], []⟩
def dd29 : He.DefD := ⟨("Readings", some "all_moves"), "all_moves", "Readings.all_moves", defArgs sAll, defBody sAll, defScope sAll, [], []⟩
def dd30 : He.DefD := ⟨("Pattern", some "__init__"), "__init__", "Pattern.__init__", defArgs sPInit, defBody sPInit, defScope sPInit, [], []⟩
def fnA : List He.DefD := [dd0, dd1, dd2, dd3, dd4, dd5, dd6, dd7, dd8, dd9, dd10, dd11, dd12, dd13, dd14, dd15, dd16, dd17, dd18, dd19, dd20, dd21, dd22, dd23, dd24, dd25, dd26, dd27, dd28, dd29, dd30]
/-- what else is asked of K -/
def exA (K : PySem.W.Frag) : Bool := (oexB K (He.ga K "TooMany") && xfB K (He.ga K "TooMany")) && (oexB K (He.ga K "BadLetters") && xfB K (He.ga K "BadLetters")) && (oexB K (He.ga K "BadPart") && xfB K (He.ga K "BadPart"))
theorem fun_ofD {K : PySem.W.Frag} {x qual : Str} {st : Stmt} {f : Addr} {fd : FuncData} (F : FunD K x qual (defArgs st) (defBody st) (defScope st) [] [] f fd) : Fun K x qual st f fd := by
  obtain ⟨oc, od, dV, kV, doc, pm, an, cdv, ct, osl, e, lk, hcd, dv, _⟩ := F.ex
  rcases dv with ⟨_, rfl⟩ | ⟨h, _⟩
  · exact ⟨⟨oc, od, kV, doc, pm, an, cdv, ct, osl, e, lk, hcd⟩, F.kp⟩
  · exact absurd rfl h
/-- the law's promise, of what the top leaves -/
theorem at_law {l : PySem.W.OpenLaw} {w : World} {K : PySem.W.Frag} {h : Heap} {mg : Str → Option Value} {fl : Addr} (KX : K.In h) (G : h.Ns mainGlobals mg) (hfl : mg ("law" : Str) = some (.ref fl)) (c : He.SaysD faA fnA K) (ex : exA K = true) :
    LamX.LawAtS l w K CX0 11 63 "_law_script" mg fl h := by
  obtain ⟨ex, z2⟩ := He.ba ex
  obtain ⟨ex, z1⟩ := He.ba ex
  obtain ⟨o0, f0⟩ := He.ba ex
  obtain ⟨o1, f1⟩ := He.ba z1
  obtain ⟨o2, f2⟩ := He.ba z2
  have B : Bi mg := ⟨He.free_ok KX G (c.fact 26 (f := .free "isinstance") rfl), He.free_ok KX G (c.fact 27 (f := .free "int") rfl), He.free_ok KX G (c.fact 28 (f := .free "bool") rfl), He.free_ok KX G (c.fact 29 (f := .free "tuple") rfl), He.free_ok KX G (c.fact 30 (f := .free "list") rfl), He.free_ok KX G (c.fact 31 (f := .free "dict") rfl), He.free_ok KX G (c.fact 32 (f := .free "len") rfl), He.free_ok KX G (c.fact 33 (f := .free "enumerate") rfl), He.free_ok KX G (c.fact 34 (f := .free "range") rfl), He.free_ok KX G (c.fact 35 (f := .free "abs") rfl), He.free_ok KX G (c.fact 36 (f := .free "max") rfl), He.free_ok KX G (c.fact 37 (f := .free "min") rfl)⟩
  have Bz : Bs mg := ⟨He.free_ok KX G (c.fact 38 (f := .free "str") rfl), He.free_ok KX G (c.fact 39 (f := .free "all") rfl), He.free_ok KX G (c.fact 40 (f := .free "set") rfl), He.free_ok KX G (c.fact 41 (f := .free "sorted") rfl)⟩
  have hany : mg "any" = none := He.free_ok KX G (c.fact 42 (f := .free "any") rfl)
  have hsum : mg "sum" = none := He.free_ok KX G (c.fact 43 (f := .free "sum") rfl)
  obtain ⟨u1, g1⟩ := He.str_ok KX G (c.fact 44 (f := .str "ALPHABET" (S abc)) rfl)
  obtain ⟨u2, g2⟩ := He.int_ok KX G (c.fact 45 (f := .int "MOST_PARTS" 60) rfl)
  obtain ⟨u3, g3⟩ := He.int_ok KX G (c.fact 46 (f := .int "MOST_STANDINGS" 2000) rfl)
  have N : Cn mg := ⟨⟨_, g1, ⟨_, rfl⟩⟩⟩
  have MM : Cm mg := ⟨⟨_, g2, ⟨_, rfl⟩⟩, ⟨_, g3, ⟨_, rfl⟩⟩⟩
  obtain ⟨d0, D0⟩ := c.def_ 0 (d := dd0) rfl
  have F0 : Fun K "is_tuple_of" "is_tuple_of" sTupOf (He.ga K "is_tuple_of") d0 := fun_ofD D0
  have b0 : Binds K d0 ["value", "size"] [] := F0.binds fun _ _ _ _ _ _ us hl => match us, hl with | [_, _], _ => rfl
  obtain ⟨d1, D1⟩ := c.def_ 1 (d := dd1) rfl
  have F1 : Fun K "copied" "copied" sCopied (He.ga K "copied") d1 := fun_ofD D1
  have b1 : Binds K d1 ["value"] [] := F1.binds fun _ _ _ _ _ _ us hl => match us, hl with | [_], _ => rfl
  obtain ⟨d2, D2⟩ := c.def_ 2 (d := dd2) rfl
  have F2 : Fun K "are_letters" "are_letters" sLetters (He.ga K "are_letters") d2 := fun_ofD D2
  have b2 : Binds K d2 ["value"] [] := F2.binds fun _ _ _ _ _ _ us hl => match us, hl with | [_], _ => rfl
  obtain ⟨d3, D3⟩ := c.def_ 3 (d := dd3) rfl
  have F3 : Fun K "is_part" "is_part" sPart (He.ga K "is_part") d3 := fun_ofD D3
  have b3 : Binds K d3 ["value"] [] := F3.binds fun _ _ _ _ _ _ us hl => match us, hl with | [_], _ => rfl
  obtain ⟨d4, D4⟩ := c.def_ 4 (d := dd4) rfl
  have F4 : Fun K "is_item" "is_item" sItem (He.ga K "is_item") d4 := fun_ofD D4
  have b4 : Binds K d4 ["value", "letters"] [] := F4.binds fun _ _ _ _ _ _ us hl => match us, hl with | [_, _], _ => rfl
  obtain ⟨d5, D5⟩ := c.def_ 5 (d := dd5) rfl
  have F5 : Fun K "nodes_of" "nodes_of" sNodes (He.ga K "nodes_of") d5 := fun_ofD D5
  have b5 : Binds K d5 ["shape", "letters"] [] := F5.binds fun _ _ _ _ _ _ us hl => match us, hl with | [_, _], _ => rfl
  obtain ⟨d6, D6⟩ := c.def_ 6 (d := dd6) rfl
  have F6 : Fun K "_law_pen" "_law_pen" sPen (He.ga K "_law_pen") d6 := fun_ofD D6
  have b6 : Binds K d6 ["_law_script"] [] := F6.binds fun _ _ _ _ _ _ us hl => match us, hl with | [_], _ => rfl
  obtain ⟨d7, D7⟩ := c.def_ 7 (d := dd7) rfl
  have F7 : Fun K "_law_draw" "_law_draw" sDraw (He.ga K "_law_draw") d7 := fun_ofD D7
  have b7 : Binds K d7 ["_law_pen_here", "_law_many"] [] := F7.binds fun _ _ _ _ _ _ us hl => match us, hl with | [_, _], _ => rfl
  obtain ⟨d8, D8⟩ := c.def_ 8 (d := dd8) rfl
  have F8 : Fun K "_law_pick" "_law_pick" sPick (He.ga K "_law_pick") d8 := fun_ofD D8
  have b8 : Binds K d8 ["_law_pen_here", "_law_some"] [] := F8.binds fun _ _ _ _ _ _ us hl => match us, hl with | [_, _], _ => rfl
  obtain ⟨d9, D9⟩ := c.def_ 9 (d := dd9) rfl
  have F9 : Fun K "_law_letters" "_law_letters" sLLet (He.ga K "_law_letters") d9 := fun_ofD D9
  have b9 : Binds K d9 ["_law_pen_here", "_law_most"] [] := F9.binds fun _ _ _ _ _ _ us hl => match us, hl with | [_, _], _ => rfl
  obtain ⟨d10, D10⟩ := c.def_ 10 (d := dd10) rfl
  have F10 : Fun K "_law_row" "_law_row" sLRow (He.ga K "_law_row") d10 := fun_ofD D10
  have b10 : Binds K d10 ["_law_pen_here", "_law_letters_here"] [] := F10.binds fun _ _ _ _ _ _ us hl => match us, hl with | [_, _], _ => rfl
  obtain ⟨d11, D11⟩ := c.def_ 11 (d := dd11) rfl
  have F11 : Fun K "_law_shape" "_law_shape" sShape (He.ga K "_law_shape") d11 := fun_ofD D11
  have b11 : Binds K d11 ["_law_pen_here", "_law_letters_here", "_law_depth"] [] := F11.binds fun _ _ _ _ _ _ us hl => match us, hl with | [_, _, _], _ => rfl
  obtain ⟨d12, D12⟩ := c.def_ 12 (d := dd12) rfl
  have F12 : Fun K "_law_rows_in" "_law_rows_in" sRowsIn (He.ga K "_law_rows_in") d12 := fun_ofD D12
  have b12 : Binds K d12 ["_law_shape_here"] [] := F12.binds fun _ _ _ _ _ _ us hl => match us, hl with | [_], _ => rfl
  obtain ⟨d13, D13⟩ := c.def_ 13 (d := dd13) rfl
  have F13 : Fun K "_law_small" "_law_small" sSmall (He.ga K "_law_small") d13 := fun_ofD D13
  have b13 : Binds K d13 ["_law_pen_here", "_law_letters_here", "_law_depth"] [] := F13.binds fun _ _ _ _ _ _ us hl => match us, hl with | [_, _, _], _ => rfl
  obtain ⟨d14, D14⟩ := c.def_ 14 (d := dd14) rfl
  have F14 : Fun K "_law_caught" "_law_caught" sCau (He.ga K "_law_caught") d14 := fun_ofD D14
  have b14 : Binds K d14 ["_law_letters_here", "_law_shape_here"] [] := F14.binds fun _ _ _ _ _ _ us hl => match us, hl with | [_, _], _ => rfl
  obtain ⟨d15, D15⟩ := c.def_ 15 (d := dd15) rfl
  have F15 : Fun K "_law_ways" "_law_ways" sWays (He.ga K "_law_ways") d15 := fun_ofD D15
  have b15 : Binds K d15 ["_law_shape_here", "_law_way"] [] := F15.binds fun _ _ _ _ _ _ us hl => match us, hl with | [_, _], _ => rfl
  obtain ⟨d16, D16⟩ := c.def_ 16 (d := dd16) rfl
  have F16 : Fun K "_law_bent" "_law_bent" sBent (He.ga K "_law_bent") d16 := fun_ofD D16
  have b16 : Binds K d16 ["_law_shape_here", "_law_way", "_law_odd_here"] [] := F16.binds fun _ _ _ _ _ _ us hl => match us, hl with | [_, _, _], _ => rfl
  obtain ⟨d17, D17⟩ := c.def_ 17 (d := dd17) rfl
  have F17 : Fun K "_law_size" "_law_size" sSize (He.ga K "_law_size") d17 := fun_ofD D17
  have b17 : Binds K d17 ["_law_shape_here"] [] := F17.binds fun _ _ _ _ _ _ us hl => match us, hl with | [_], _ => rfl
  obtain ⟨d18, D18⟩ := c.def_ 18 (d := dd18) rfl
  have F18 : Fun K "_law_stranger" "_law_stranger" sLStr (He.ga K "_law_stranger") d18 := fun_ofD D18
  have b18 : Binds K d18 ["_law_letters_here"] [] := F18.binds fun _ _ _ _ _ _ us hl => match us, hl with | [_], _ => rfl
  obtain ⟨d19, D19⟩ := c.def_ 19 (d := dd19) rfl
  have F19 : Fun K "_law_odd" "_law_odd" sOdd (He.ga K "_law_odd") d19 := fun_ofD D19
  have b19 : Binds K d19 ["_law_pen_here", "_law_letters_here", "_law_item"] [] := F19.binds fun _ _ _ _ _ _ us hl => match us, hl with | [_, _, _], _ => rfl
  obtain ⟨d20, D20⟩ := c.def_ 20 (d := dd20) rfl
  have F20 : Fun K "law" "law" sLaw (He.ga K "law") d20 := fun_ofD D20
  have b20 : Binds K d20 ["_law_script"] [] := F20.binds fun _ _ _ _ _ _ us hl => match us, hl with | [_], _ => rfl
  obtain ⟨d21, D21⟩ := c.def_ 21 (d := dd21) rfl
  have F21 : Fun K "__init__" "TooMany.__init__" sTMany (He.ma K (He.ga K "TooMany") "__init__") d21 := fun_ofD D21
  have b21 : Binds K d21 ["self", "what", "many", "most"] [] := F21.binds fun _ _ _ _ _ _ us hl => match us, hl with | [_, _, _, _], _ => rfl
  have m21 : Meth K (He.ga K "TooMany") "__init__" (He.ma K (He.ga K "TooMany") "__init__") := He.meth_ok (c.fact 67 (f := .meth "TooMany" "__init__") rfl)
  obtain ⟨d22, D22⟩ := c.def_ 22 (d := dd22) rfl
  have F22 : Fun K "__init__" "BadLetters.__init__" sBadLet (He.ma K (He.ga K "BadLetters") "__init__") d22 := fun_ofD D22
  have b22 : Binds K d22 ["self", "letters"] [] := F22.binds fun _ _ _ _ _ _ us hl => match us, hl with | [_, _], _ => rfl
  have m22 : Meth K (He.ga K "BadLetters") "__init__" (He.ma K (He.ga K "BadLetters") "__init__") := He.meth_ok (c.fact 68 (f := .meth "BadLetters" "__init__") rfl)
  obtain ⟨d23, D23⟩ := c.def_ 23 (d := dd23) rfl
  have F23 : Fun K "__init__" "BadPart.__init__" sBadPart (He.ma K (He.ga K "BadPart") "__init__") d23 := fun_ofD D23
  have b23 : Binds K d23 ["self", "path"] [] := F23.binds fun _ _ _ _ _ _ us hl => match us, hl with | [_, _], _ => rfl
  have m23 : Meth K (He.ga K "BadPart") "__init__" (He.ma K (He.ga K "BadPart") "__init__") := He.meth_ok (c.fact 69 (f := .meth "BadPart" "__init__") rfl)
  obtain ⟨d24, D24⟩ := c.def_ 24 (d := dd24) rfl
  have F24 : Fun K "__init__" "Readings.__init__" sRInit (He.ma K (He.ga K "Readings") "__init__") d24 := fun_ofD D24
  have b24 : Binds K d24 ["self", "shape", "letters"] [] := F24.binds fun _ _ _ _ _ _ us hl => match us, hl with | [_, _, _], _ => rfl
  have m24 : Meth K (He.ga K "Readings") "__init__" (He.ma K (He.ga K "Readings") "__init__") := He.meth_ok (c.fact 70 (f := .meth "Readings" "__init__") rfl)
  obtain ⟨d25, D25⟩ := c.def_ 25 (d := dd25) rfl
  have F25 : Fun K "lay_item" "Readings.lay_item" sLay (He.ma K (He.ga K "Readings") "lay_item") d25 := fun_ofD D25
  have b25 : Binds K d25 ["self", "item", "bit"] [] := F25.binds fun _ _ _ _ _ _ us hl => match us, hl with | [_, _, _], _ => rfl
  have m25 : Meth K (He.ga K "Readings") "lay_item" (He.ma K (He.ga K "Readings") "lay_item") := He.meth_ok (c.fact 71 (f := .meth "Readings" "lay_item") rfl)
  obtain ⟨d26, D26⟩ := c.def_ 26 (d := dd26) rfl
  have F26 : Fun K "passed" "Readings.passed" sPassed (He.ma K (He.ga K "Readings") "passed") d26 := fun_ofD D26
  have b26 : Binds K d26 ["self", "standing"] [] := F26.binds fun _ _ _ _ _ _ us hl => match us, hl with | [_, _], _ => rfl
  have m26 : Meth K (He.ga K "Readings") "passed" (He.ma K (He.ga K "Readings") "passed") := He.meth_ok (c.fact 72 (f := .meth "Readings" "passed") rfl)
  obtain ⟨d27, D27⟩ := c.def_ 27 (d := dd27) rfl
  have F27 : Fun K "fits" "Readings.fits" sFits (He.ma K (He.ga K "Readings") "fits") d27 := fun_ofD D27
  have b27 : Binds K d27 ["self", "standing"] [] := F27.binds fun _ _ _ _ _ _ us hl => match us, hl with | [_, _], _ => rfl
  have m27 : Meth K (He.ga K "Readings") "fits" (He.ma K (He.ga K "Readings") "fits") := He.meth_ok (c.fact 73 (f := .meth "Readings" "fits") rfl)
  obtain ⟨d28, D28⟩ := c.def_ 28 (d := dd28) rfl
  have F28 : Fun K "moves_from" "Readings.moves_from" sMvf (He.ma K (He.ga K "Readings") "moves_from") d28 := fun_ofD D28
  have b28 : Binds K d28 ["self", "standing"] [] := F28.binds fun _ _ _ _ _ _ us hl => match us, hl with | [_, _], _ => rfl
  have m28 : Meth K (He.ga K "Readings") "moves_from" (He.ma K (He.ga K "Readings") "moves_from") := He.meth_ok (c.fact 74 (f := .meth "Readings" "moves_from") rfl)
  obtain ⟨d29, D29⟩ := c.def_ 29 (d := dd29) rfl
  have F29 : Fun K "all_moves" "Readings.all_moves" sAll (He.ma K (He.ga K "Readings") "all_moves") d29 := fun_ofD D29
  have b29 : Binds K d29 ["self"] [] := F29.binds fun _ _ _ _ _ _ us hl => match us, hl with | [_], _ => rfl
  have m29 : Meth K (He.ga K "Readings") "all_moves" (He.ma K (He.ga K "Readings") "all_moves") := He.meth_ok (c.fact 75 (f := .meth "Readings" "all_moves") rfl)
  obtain ⟨d30, D30⟩ := c.def_ 30 (d := dd30) rfl
  have F30 : Fun K "__init__" "Pattern.__init__" sPInit (He.ma K (He.ga K "Pattern") "__init__") d30 := fun_ofD D30
  have b30 : Binds K d30 ["self", "letters", "shape"] [] := F30.binds fun _ _ _ _ _ _ us hl => match us, hl with | [_, _, _], _ => rfl
  have m30 : Meth K (He.ga K "Pattern") "__init__" (He.ma K (He.ga K "Pattern") "__init__") := He.meth_ok (c.fact 76 (f := .meth "Pattern" "__init__") rfl)
  have q_BadLetters_letters : PySem.W.findIn K (.ref (He.ga K "BadLetters")) "letters" = some none := He.noat_ok (c.fact 51 (f := .noat "BadLetters" "letters") rfl)
  have q_BadPart_path : PySem.W.findIn K (.ref (He.ga K "BadPart")) "path" = some none := He.noat_ok (c.fact 52 (f := .noat "BadPart" "path") rfl)
  have q_TooMany_what : PySem.W.findIn K (.ref (He.ga K "TooMany")) "what" = some none := He.noat_ok (c.fact 53 (f := .noat "TooMany" "what") rfl)
  have q_TooMany_many : PySem.W.findIn K (.ref (He.ga K "TooMany")) "many" = some none := He.noat_ok (c.fact 54 (f := .noat "TooMany" "many") rfl)
  have q_TooMany_most : PySem.W.findIn K (.ref (He.ga K "TooMany")) "most" = some none := He.noat_ok (c.fact 55 (f := .noat "TooMany" "most") rfl)
  have q_Readings_letters : PySem.W.findIn K (.ref (He.ga K "Readings")) "letters" = some none := He.noat_ok (c.fact 56 (f := .noat "Readings" "letters") rfl)
  have q_Readings_nodes : PySem.W.findIn K (.ref (He.ga K "Readings")) "nodes" = some none := He.noat_ok (c.fact 57 (f := .noat "Readings" "nodes") rfl)
  have q_Readings_stars : PySem.W.findIn K (.ref (He.ga K "Readings")) "stars" = some none := He.noat_ok (c.fact 58 (f := .noat "Readings" "stars") rfl)
  have q_Readings_takes : PySem.W.findIn K (.ref (He.ga K "Readings")) "takes" = some none := He.noat_ok (c.fact 59 (f := .noat "Readings" "takes") rfl)
  have q_Readings_start : PySem.W.findIn K (.ref (He.ga K "Readings")) "start" = some none := He.noat_ok (c.fact 60 (f := .noat "Readings" "start") rfl)
  have q_Readings_ends : PySem.W.findIn K (.ref (He.ga K "Readings")) "ends" = some none := He.noat_ok (c.fact 61 (f := .noat "Readings" "ends") rfl)
  have q_Pattern_letters : PySem.W.findIn K (.ref (He.ga K "Pattern")) "letters" = some none := He.noat_ok (c.fact 62 (f := .noat "Pattern" "letters") rfl)
  have q_Pattern_shape : PySem.W.findIn K (.ref (He.ga K "Pattern")) "shape" = some none := He.noat_ok (c.fact 63 (f := .noat "Pattern" "shape") rfl)
  have q_Pattern_moves : PySem.W.findIn K (.ref (He.ga K "Pattern")) "moves" = some none := He.noat_ok (c.fact 64 (f := .noat "Pattern" "moves") rfl)
  have q_Pattern_kinds : PySem.W.findIn K (.ref (He.ga K "Pattern")) "kinds" = some none := He.noat_ok (c.fact 65 (f := .noat "Pattern" "kinds") rfl)
  have q_Pattern__columns : PySem.W.findIn K (.ref (He.ga K "Pattern")) "_columns" = some none := He.noat_ok (c.fact 66 (f := .noat "Pattern" "_columns") rfl)
  have TR : TxR K (He.ga K "Readings") := ⟨He.cls_ok (c.fact 47 (f := .cls "Readings") rfl), q_Readings_letters, q_Readings_nodes, q_Readings_stars, q_Readings_takes, q_Readings_start, q_Readings_ends⟩
  have MKTR : Mk K (He.ga K "Readings") (He.ma K (He.ga K "Readings") "__init__") := He.mkr_ok (c.fact 48 (f := .mkr "Readings") rfl)
  have TP : TxP K (He.ga K "Pattern") := ⟨He.cls_ok (c.fact 49 (f := .cls "Pattern") rfl), q_Pattern_letters, q_Pattern_shape, q_Pattern_moves, q_Pattern_kinds, q_Pattern__columns⟩
  have MKTP : Mk K (He.ga K "Pattern") (He.ma K (He.ga K "Pattern") "__init__") := He.mkr_ok (c.fact 50 (f := .mkr "Pattern") rfl)
  have ct_TooMany : Ct K mg "TooMany" (He.ga K "TooMany") := ⟨(He.glo_ok KX G (c.fact 21 (f := .glo "TooMany") rfl)), xfB_ok f0, He.exm_ok (c.fact 77 (f := .exm "TooMany" "TooMany" true) rfl)⟩
  have ct_BadLetters : Ct K mg "BadLetters" (He.ga K "BadLetters") := ⟨(He.glo_ok KX G (c.fact 22 (f := .glo "BadLetters") rfl)), xfB_ok f1, He.exm_ok (c.fact 78 (f := .exm "BadLetters" "BadLetters" true) rfl)⟩
  have ct_BadPart : Ct K mg "BadPart" (He.ga K "BadPart") := ⟨(He.glo_ok KX G (c.fact 23 (f := .glo "BadPart") rfl)), xfB_ok f2, He.exm_ok (c.fact 79 (f := .exm "BadPart" "BadPart" true) rfl)⟩
  have nT : PySem.W.findIn K (.ref (He.ga K "TooMany")) "what" = some none ∧ PySem.W.findIn K (.ref (He.ga K "TooMany")) "many" = some none ∧ PySem.W.findIn K (.ref (He.ga K "TooMany")) "most" = some none := ⟨q_TooMany_what, q_TooMany_many, q_TooMany_most⟩
  have el : fl = He.ga K "law" := by
    have e := hfl.symm.trans (He.glo_ok KX G (c.fact 20 (f := .glo "law") rfl))
    cases e
    rfl
  subst el
  refine ⟨d20, [], spLaw K, ?_, ?_, ?_, ?_, ?_, ?_⟩
  · exact fun p hp => nomatch hp
  · exact fun p hp => nomatch hp
  · exact fun p hp => nomatch hp
  · exact fun s u => FunD.bindsA (ps := ["_law_script"]) D20 (fun _ _ _ _ _ _ us hl => match us, hl with | [_], _ => rfl) s [u] rfl
  · intro H a ns hl hb hH hS
    exact ⟨a, ns, rfl, hS, fun _ => rfl⟩
  · intro base KB GB TB
    have cTu : Cal CX0 l.prog w K mg base 1 "is_tuple_of" spTupOf := ⟨_, d0, _, ok_tupOf F0 B, (He.glo_ok KX G (c.fact 0 (f := .glo "is_tuple_of") rfl)), F0.kp, b0⟩
    have cC1 : Cal CX0 l.prog w K mg base 1 "copied" spCopied := ⟨_, d1, _, ok_copied F1 B, (He.glo_ok KX G (c.fact 1 (f := .glo "copied") rfl)), F1.kp, b1⟩
    have cC : Cal CX0 l.prog w K mg base 2 "copied" spCopy2 := ⟨_, d1, _, ok_copy2 F1 B cC1, (He.glo_ok KX G (c.fact 1 (f := .glo "copied") rfl)), F1.kp, b1⟩
    have xTooMany : Xc l.prog w K mg base 2 "TooMany" (He.ga K "TooMany") (spX3 K "what" "many" "most") := ⟨oexB_ok o0, (He.glo_ok KX G (c.fact 21 (f := .glo "TooMany") rfl)), _, d21, _, m21.at_, beq_iff_eq.mp m21.fn, ok_TMany F21 cC1, b21⟩
    have xBadLetters : Xc l.prog w K mg base 3 "BadLetters" (He.ga K "BadLetters") (spXO K "letters") := ⟨oexB_ok o1, (He.glo_ok KX G (c.fact 22 (f := .glo "BadLetters") rfl)), _, d22, _, m22.at_, beq_iff_eq.mp m22.fn, ok_badLet F22 cC, b22⟩
    have xBadPart : Xc l.prog w K mg base 3 "BadPart" (He.ga K "BadPart") (spXO K "path") := ⟨oexB_ok o2, (He.glo_ok KX G (c.fact 23 (f := .glo "BadPart") rfl)), _, d23, _, m23.at_, beq_iff_eq.mp m23.fn, ok_badPart F23 cC, b23⟩
    have cLt : Cal CX0 l.prog w K mg base 1 "are_letters" spLetsV := ⟨_, d2, _, ok_lettersV F2 B Bz N, (He.glo_ok KX G (c.fact 2 (f := .glo "are_letters") rfl)), F2.kp, b2⟩
    have cPt : Cal CX0 l.prog w K mg base 2 "is_part" spPart := ⟨_, d3, _, ok_part F3 B Bz cTu, (He.glo_ok KX G (c.fact 3 (f := .glo "is_part") rfl)), F3.kp, b3⟩
    have cIt : Cal CX0 l.prog w K mg base 1 "is_item" spItem := ⟨_, d4, _, ok_item F4 B Bz, (He.glo_ok KX G (c.fact 4 (f := .glo "is_item") rfl)), F4.kp, b4⟩
    have cNo : Cal (L2.CX l.prog w) l.prog w K mg base 5 "nodes_of" (spNodes (He.ga K "BadPart") (He.ga K "TooMany")) := ⟨_, d5, _, ok_nodes F5 B MM cPt cIt xBadPart q_BadPart_path xTooMany nT, (He.glo_ok KX G (c.fact 5 (f := .glo "nodes_of") rfl)), F5.kp, b5⟩
    have mL : Met CX0 l.prog w K mg base 1 (He.ga K "Readings") "lay_item" (spLay (He.ga K "Readings")) := ⟨_, d25, _, TR.cl, m25, ok_lay F25 B TR, b25⟩
    have mP : Met CX0 l.prog w K mg base 1 (He.ga K "Readings") "passed" (spPassed (He.ga K "Readings")) := ⟨_, d26, _, TR.cl, m26, ok_passed F26 TR, b26⟩
    have mF : Met CX0 l.prog w K mg base 1 (He.ga K "Readings") "fits" (spFits (He.ga K "Readings")) := ⟨_, d27, _, TR.cl, m27, ok_fits F27 B Bz hany TR, b27⟩
    have mM : Met CX0 l.prog w K mg base 2 (He.ga K "Readings") "moves_from" (spMvf (He.ga K "Readings")) := ⟨_, d28, _, TR.cl, m28, ok_mvf F28 TR mP, b28⟩
    have mA : Met (L2.CX l.prog w) l.prog w K mg base 4 (He.ga K "Readings") "all_moves" (spAll (He.ga K "Readings") (He.ga K "TooMany")) := ⟨_, d29, _, TR.cl, m29, ok_all F29 B MM TR mM mF xTooMany nT, b29⟩
    have mkR : Mak (L2.CX l.prog w) l.prog w K mg base 6 "Readings" (He.ga K "Readings") (spRInit (He.ga K "Readings") (He.ga K "BadPart") (He.ga K "TooMany")) := ⟨_, d24, _, MKTR, ok_rinit F24 B TR cNo mL mP, (He.glo_ok KX G (c.fact 24 (f := .glo "Readings") rfl)), b24⟩
    have mk : Mak (L2.CX l.prog w) l.prog w K mg base 8 "Pattern" (He.ga K "Pattern") (spPInit (He.ga K "Pattern") (He.ga K "BadLetters") (He.ga K "BadPart") (He.ga K "TooMany")) := ⟨_, d30, _, MKTP, ok_pinit F30 B TP TR cLt xBadLetters q_BadLetters_letters mkR mA, (He.glo_ok KX G (c.fact 25 (f := .glo "Pattern") rfl)), b30⟩
    have cC0 : Cal CX0 l.prog w K mg base 10 "_law_caught" (spCau K) := ⟨_, d14, _, ok_cau F14 TP mk ct_BadLetters ct_BadPart ct_TooMany q_BadLetters_letters q_BadPart_path nT (He.exm_ok (c.fact 80 (f := .exm "BadPart" "BadLetters" false) rfl)) (He.exm_ok (c.fact 81 (f := .exm "TooMany" "BadLetters" false) rfl)) (He.exm_ok (c.fact 82 (f := .exm "TooMany" "BadPart" false) rfl)), (He.glo_ok KX G (c.fact 14 (f := .glo "_law_caught") rfl)), F14.kp, b14⟩
    have cPn : Cal CX0 l.prog w K mg base 1 "_law_pen" (spPen K) := ⟨_, d6, _, ok_pen F6 B, (He.glo_ok KX G (c.fact 6 (f := .glo "_law_pen") rfl)), F6.kp, b6⟩
    have cD : Cal CX0 l.prog w K mg base 1 "_law_draw" spDraw := ⟨_, d7, _, ok_draw F7 B, (He.glo_ok KX G (c.fact 7 (f := .glo "_law_draw") rfl)), F7.kp, b7⟩
    have cPk : Cal CX0 l.prog w K mg base 2 "_law_pick" spPick := ⟨_, d8, _, ok_pick F8 B cD, (He.glo_ok KX G (c.fact 8 (f := .glo "_law_pick") rfl)), F8.kp, b8⟩
    have cPkS : Cal CX0 l.prog w K mg base 2 "_law_pick" spPickS := ⟨_, d8, _, ok_pickS F8 B cD, (He.glo_ok KX G (c.fact 8 (f := .glo "_law_pick") rfl)), F8.kp, b8⟩
    have cLe : Cal CX0 l.prog w K mg base 3 "_law_letters" spLLet := ⟨_, d9, _, ok_llet F9 B cD, (He.glo_ok KX G (c.fact 9 (f := .glo "_law_letters") rfl)), F9.kp, b9⟩
    have cRw : Cal CX0 l.prog w K mg base 3 "_law_row" spLRow := ⟨_, d10, _, ok_lrow F10 B cD cPkS, (He.glo_ok KX G (c.fact 10 (f := .glo "_law_row") rfl)), F10.kp, b10⟩
    have cS0 : Cal CX0 l.prog w K mg base 4 "_law_shape" (spShape 0) := ⟨_, d11, _, ok_shape0 F11 B cD cRw, (He.glo_ok KX G (c.fact 11 (f := .glo "_law_shape") rfl)), F11.kp, b11⟩
    have cS1 : Cal CX0 l.prog w K mg base 5 "_law_shape" (spShape 1) := ⟨_, d11, _, ok_shapeS F11 B cD cPk cRw (by decide) cS0, (He.glo_ok KX G (c.fact 11 (f := .glo "_law_shape") rfl)), F11.kp, b11⟩
    have cS2 : Cal CX0 l.prog w K mg base 6 "_law_shape" (spShape 2) := ⟨_, d11, _, ok_shapeS F11 B cD cPk cRw (by decide) cS1, (He.glo_ok KX G (c.fact 11 (f := .glo "_law_shape") rfl)), F11.kp, b11⟩
    have cI0 : Cal CX0 l.prog w K mg base 1 "_law_rows_in" (spRowsIn 0) := ⟨_, d12, _, ok_rowsIn0 F12, (He.glo_ok KX G (c.fact 12 (f := .glo "_law_rows_in") rfl)), F12.kp, b12⟩
    have cI1 : Cal CX0 l.prog w K mg base 2 "_law_rows_in" (spRowsIn 1) := ⟨_, d12, _, ok_rowsInS F12 hsum cI0, (He.glo_ok KX G (c.fact 12 (f := .glo "_law_rows_in") rfl)), F12.kp, b12⟩
    have cI2 : Cal CX0 l.prog w K mg base 3 "_law_rows_in" (spRowsIn 2) := ⟨_, d12, _, ok_rowsInS F12 hsum cI1, (He.glo_ok KX G (c.fact 12 (f := .glo "_law_rows_in") rfl)), F12.kp, b12⟩
    have cSm : Cal CX0 l.prog w K mg base 7 "_law_small" spSmall := ⟨_, d13, _, ok_small F13 cS2 cI2, (He.glo_ok KX G (c.fact 13 (f := .glo "_law_small") rfl)), F13.kp, b13⟩
    have cW0 : Cal CX0 l.prog w K mg base 1 "_law_ways" (spWays 0) := ⟨_, d15, _, ok_ways0 F15, (He.glo_ok KX G (c.fact 15 (f := .glo "_law_ways") rfl)), F15.kp, b15⟩
    have cW1 : Cal CX0 l.prog w K mg base 2 "_law_ways" (spWays 1) := ⟨_, d15, _, ok_waysS F15 B cW0, (He.glo_ok KX G (c.fact 15 (f := .glo "_law_ways") rfl)), F15.kp, b15⟩
    have cW2 : Cal CX0 l.prog w K mg base 3 "_law_ways" (spWays 2) := ⟨_, d15, _, ok_waysS F15 B cW1, (He.glo_ok KX G (c.fact 15 (f := .glo "_law_ways") rfl)), F15.kp, b15⟩
    have cW3 : Cal CX0 l.prog w K mg base 4 "_law_ways" (spWays 3) := ⟨_, d15, _, ok_waysS F15 B cW2, (He.glo_ok KX G (c.fact 15 (f := .glo "_law_ways") rfl)), F15.kp, b15⟩
    have cSz : Cal CX0 l.prog w K mg base 5 "_law_size" spSize := ⟨_, d17, _, ok_size F17 B cW3, (He.glo_ok KX G (c.fact 17 (f := .glo "_law_size") rfl)), F17.kp, b17⟩
    have fB0 : FnOk l.prog w K mg base CX0 1 (He.ga K "_law_bent") d16 ["_law_shape_here", "_law_way", "_law_odd_here"] (spBent 0) := ok_bent0 F16
    have cB0 : Cal CX0 l.prog w K mg base 1 "_law_bent" (spBent 0) := ⟨_, d16, _, fB0, (He.glo_ok KX G (c.fact 16 (f := .glo "_law_bent") rfl)), F16.kp, b16⟩
    have fB1 : FnOk l.prog w K mg base CX0 2 (He.ga K "_law_bent") d16 ["_law_shape_here", "_law_way", "_law_odd_here"] (spBent 1) := ok_bentS F16 cB0
    have cB1 : Cal CX0 l.prog w K mg base 2 "_law_bent" (spBent 1) := ⟨_, d16, _, fB1, (He.glo_ok KX G (c.fact 16 (f := .glo "_law_bent") rfl)), F16.kp, b16⟩
    have fB2 : FnOk l.prog w K mg base CX0 3 (He.ga K "_law_bent") d16 ["_law_shape_here", "_law_way", "_law_odd_here"] (spBent 2) := ok_bentS F16 cB1
    have cB2 : Cal CX0 l.prog w K mg base 3 "_law_bent" (spBent 2) := ⟨_, d16, _, fB2, (He.glo_ok KX G (c.fact 16 (f := .glo "_law_bent") rfl)), F16.kp, b16⟩
    have fB3 : FnOk l.prog w K mg base CX0 4 (He.ga K "_law_bent") d16 ["_law_shape_here", "_law_way", "_law_odd_here"] (spBent 3) := ok_bentS F16 cB2
    have cB3 : Cal CX0 l.prog w K mg base 4 "_law_bent" (spBent 3) := ⟨_, d16, _, fB3, (He.glo_ok KX G (c.fact 16 (f := .glo "_law_bent") rfl)), F16.kp, b16⟩
    have fB4 : FnOk l.prog w K mg base CX0 5 (He.ga K "_law_bent") d16 ["_law_shape_here", "_law_way", "_law_odd_here"] (spBent 4) := ok_bentS F16 cB3
    have fBA : ∀ n, n ≤ 4 → FnOk l.prog w K mg base CX0 5 (He.ga K "_law_bent") d16 ["_law_shape_here", "_law_way", "_law_odd_here"] (spBent n) := fun n hn => match n, hn with
      | 0, _ => fB0.mono (by decide)
      | 1, _ => fB1.mono (by decide)
      | 2, _ => fB2.mono (by decide)
      | 3, _ => fB3.mono (by decide)
      | 4, _ => fB4
      | n + 5, h => absurd h (by omega)
    have cB : Cal CX0 l.prog w K mg base 5 "_law_bent" spBentA := ⟨_, d16, _, ok_bentA fBA, (He.glo_ok KX G (c.fact 16 (f := .glo "_law_bent") rfl)), F16.kp, b16⟩
    have cSt : Cal CX0 l.prog w K mg base 1 "_law_stranger" spLStr := ⟨_, d18, _, ok_lstr F18, (He.glo_ok KX G (c.fact 18 (f := .glo "_law_stranger") rfl)), F18.kp, b18⟩
    have cO : Cal CX0 l.prog w K mg base 3 "_law_odd" spOdd := ⟨_, d19, _, ok_odd F19 B cPk cSt, (He.glo_ok KX G (c.fact 19 (f := .glo "_law_odd") rfl)), F19.kp, b19⟩
    exact ok_law F20 B cPn cD cPk cLe cSm cSz cC0 cW3 cB cO
end K05
set_option Elab.async false
open PySem.W PySem PyProof.Rows in
set_option maxRecDepth 100001 in
set_option maxHeartbeats 0 in
theorem PySem.Challenge.cw_wordvault_k05_patterns_refused_holds : PySem.Challenge.rw_wordvault_k05_patterns_refused.Holds := by
  w_on; o_law
  k_head
  case hw => w_witness2
  k_fill
  refine LamX.walk_ofTs (l := PySem.Challenge.rw_wordvault_k05_patterns_refused) (n := 63) (k := 11) (x := "_law_script") (CX := fun _ => L2.CX0) rfl (by decide) rfl ⟨rfl, by decide, by decide⟩ (fun w h Y => PySem.W.kIn_of Y) ?F (fun _ _ _ _ _ z => z)
  case F =>
    intro w mg fa h Y KX G hmg
    refine K05.at_law KX G hmg ?c ?e
    case c =>
      show He.obsD K05.faA K05.fnA _ = He.valD K05.fnA
      kernel_rfl
    case e => kernel_rfl
