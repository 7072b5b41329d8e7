import PyProof.Rows.All
import Wide.All
import OpenK.AllK
import Wide.FinOn
import KE.GoesEnum
import HandS.ForMost
import HandS.Walk
import HandS.ForExc
import HandS.ExcInit
import HandS.TryMany
import HandS.Lambda
import HandS.SortKw
import KE.KSortKey
import PyProof.Rows.SortStr
import PyProof.Rows.SortKeyStr
import HandS.Text
import KE.LtSeq
import KE.KRevSl
import PyProof.ListStr
import PyProof.StrOps2
import PyProof.SliceStr2
import PyProof.Rows.StrJoinStr
import HandS.DictComp
import HandS.NoneIn
import HandS.IsInst
import HandS.Conv
import HandS.Flow
import HandS.Deep
import HandS.Codes
import HandS.Wide
import HandS.TupAny
import HandS.EndTab
import HandS.ExcField
import HandS.Strs
import HandS.SortInts
import HandS.WideBits
import PyProof.Rows.StrIntSpec
import PyProof.FString4
import HandS.FStr
import HandS.StrMore
import HandS.Zip
import HandS.SortRule
import HandS.More
import HandS.SetFor
import HandS.Dict
import KE.KDictDisplayH
import HandS.NamedTupSort
import HandS.ExcOwn
import HandS.DictTup
import HandS.List
import KE.KDictWalk
import PyProof.WalkInts
import KE.KDictPairs
import HandS.Call
import HandS.Style
import HandS.HeadHook4
import KE.KNestM
import PySem.Challenge.RW_wordvault_k40_whole_plans_of_codes
set_option Elab.async false
set_option maxRecDepth 100001
set_option maxHeartbeats 1999999
/-! enumerate over a tuple. -/
namespace PySem
theorem enumT_new {v : Value} {o : Obj} {G : Heap → Prop} (B : Begins v o G) : Meets (Builtin.«enumerate.__new__» ⟨[.type "enumerate", v], []⟩)
    (fun _ R z => G z.heap ∧ R (.ok (.ret (.ref (z.heap.push o).objs.size)))
      { z with heap := (z.heap.push o).push { cls := .type "enumerate", data := .fields #[.none, .bool false, .ref z.heap.objs.size, rawInt 0, .none, .none] } }) :=
  .of_wp fun P W A R z hz => by
    obtain ⟨hp, gs, dr, tk, os⟩ := z
    obtain ⟨g0, r0⟩ := hz
    have su := sub_enumerate
    have it0 : ∀ {A' : Around} {E : Value → Shared → Prop} {Q : Value → Shared → Prop}, Q (.ref hp.objs.size) ⟨hp.push o, gs, dr, tk, os⟩ → wpAny (model P W) A' (pyIter v) Q E ⟨hp, gs, dr, tk, os⟩ :=
      fun q => B.iter P W _ _ ⟨hp, gs, dr, tk, os⟩ _ g0 q
    wp_walk using it0
    refine wpAny_stack_any fun sk => wpAny_pure ?_
    split
    next c _ _ _ _ _ =>
      cases (c == Value.type "enumerate") <;> (wp_walk using it0; exact ⟨_, rfl, r0⟩)
    next => wp_walk using it0; exact ⟨_, rfl, r0⟩
theorem enumT_call {P : Program} {W : World} {A : Around} {E : Value → Shared → Prop} {z : Shared} {v : Value} {o : Obj} {G : Heap → Prop} {Q : Value → Shared → Prop} (B : Begins v o G) (g0 : G z.heap)
    (k : ∀ h2, IsEnum h2 (z.heap.objs.size + 1) z.heap.objs.size 0 .none → h2.get? z.heap.objs.size = some o → (∀ b u, z.heap.get? b = some u → h2.get? b = some u) → Q (.ref (z.heap.objs.size + 1)) { z with heap := h2 }) :
    wpAny (model P W) A (call (.type "enumerate") [v]) Q E z := by
  refine callType_new F.called_enumerate (by decide) (F.typeCall_enumerate_1 _) (F.newCall_enumerate_1 _) (fun ob => F.args_object_init_2 ob _) F.entry_enumerate_new (enumT_new B) ⟨g0, ?_⟩
  have sz : (z.heap.push o).objs.size = z.heap.objs.size + 1 := Heap.size_push ..
  show _ ∧ _
  rw [sz]
  have en : IsEnum ((z.heap.push o).push { cls := .type "enumerate", data := .fields #[.none, .bool false, .ref z.heap.objs.size, rawInt 0, .none, .none] }) (z.heap.objs.size + 1) z.heap.objs.size 0 .none := by
    have q := Heap.get?_push_size (z.heap.push o) (o := { cls := .type "enumerate", data := .fields #[.none, .bool false, .ref z.heap.objs.size, rawInt 0, .none, .none] }) rfl
    rw [sz] at q
    exact q
  exact ⟨⟨_, en, rfl⟩, k _ en (Heap.get?_push_of_some _ (Heap.get?_push_size _ B.free)) fun b u e => Heap.get?_push_of_some _ (Heap.get?_push_of_some _ e)⟩
end PySem
namespace L2
open PySem.Spec PySem PyProof.Rows
/-- the tuple at a, each item in a new pair behind its number -/
def ItEnT (K : PySem.W.Frag) (a : Addr) : It where
  go := fun i H => ∃ (xs : List V) (x : V), SqT K H a xs ∧ xs[i]? = some x
  yld := fun i H v H2 => ∃ p x, v = .ref p ∧ H p = none ∧ H2 = upd H p (.tup [.int (i : Nat), x]) ∧ ∀ xs, SqT K H a xs → xs[i]? = some x
  stop := fun i H => ∃ xs : List V, SqT K H a xs ∧ xs.length ≤ i
theorem two_of {b e d : Addr} (h : b ∈ [e, d]) : b = e ∨ b = d := by simpa using h
theorem turn_enT {P : Program} {W : World} {K : PySem.W.Frag} {es : List Expr} {kk : Nat} {tp : Pos} (a e d : Addr) :
    Turn P W K (.Tuple es kk tp) (ItEnT K a) [e, d] e (fun i h => (∃ was, IsEnum h e d ((i : Nat) : Int) was) ∧ h.IsTupleIter d a i ∧ e ≠ d) where
  mem := List.mem_cons_self
  obj := fun i h st b hb => by
    obtain ⟨⟨was, he⟩, ⟨o, ho, hc, hd⟩, _⟩ := st
    rcases two_of hb with rfl | rfl
    · exact ⟨_, he, fun _ q => nomatch q⟩
    · exact ⟨o, ho, fun _ q => by rw [hd] at q; cases q⟩
  keep := fun i h h2 st k => ⟨let ⟨was, he⟩ := st.1; ⟨was, k e (by simp) _ he⟩, st.2.1.at fun o q => k d (by simp) o q, st.2.2⟩
  item := by
    intro X hP hW hK hc i pins s σ H E I hf st hg
    subst hP hW hK
    obtain ⟨⟨was, he⟩, hit, hne⟩ := st
    obtain ⟨xs, x, hq, hx⟩ := hg
    obtain ⟨its, rv, p, hz⟩ := I.tuple hq
    obtain ⟨u, hu, ru⟩ := rv.get hx
    have le : e < s.heap.objs.size := Heap.lt_size he
    have ld : d < s.heap.objs.size := let ⟨_, q, _⟩ := hit; Heap.lt_size q
    have la : a < s.heap.objs.size := p.lt
    have had : a ≠ d := fun z => by
      obtain ⟨o1, h1, c1, _⟩ := hit
      obtain ⟨o2, h2, c2, _⟩ := p
      rw [z, h1] at h2
      have := Option.some.inj h2
      subst this
      rw [c1] at c2
      exact absurd c2 (by decide)
    have hae : a ≠ e := fun z => by
      obtain ⟨o2, h2, c2, _⟩ := p
      have h1 : s.heap.get? e = some _ := he
      rw [z, h1] at h2
      have := Option.some.inj h2
      subst this
      exact absurd (show Value.type "enumerate" = Value.type "tuple" from c2) (by decide)
    have hi : i < its.toArray.size := by
      have := (List.getElem?_eq_some_iff.mp hu).1
      simpa using this
    have D := Draws.tuple (prog := X.prog) (w := X.w) (A := X.A.in1) (I.ok.hd hc) d a had its.toArray
    refine wpAny_pyNext_enum_itemD (n := its.toArray.size) (i := i) D he ⟨hit, p⟩ hi hne (fun m => ?_) fun y h2 tk hy ho hs2 hT hsz hk => ?_
    · rcases two_of m with z | z
      · exact hne z
      · exact hae z.symm
    have ey : y = u := by
      have q : its.toArray[i]? = some u := by simpa using hu
      rw [hy] at q
      exact Option.some.inj q
    subst ey
    refine ⟨_, rfl, wpAny_letOwnedTupleGo_enum (s := { s with heap := h2, toks := tk + 1 }) ho fun h3 he3 sb => ?_⟩
    have hT3 : h3.get? s.heap.objs.size = some { cls := .type "tuple", data := .seq #[.int i tk, y] } := (sb.2 _ (Nat.ne_of_gt le)).trans hT
    have new : ObjOk X.prog X.w (upd H s.heap.objs.size (.tup [.int (i : Nat), x])) h3 s.heap.objs.size (.tup [.int (i : Nat), x]) :=
      ⟨by show 2 ≤ sizeLine; decide, [.int i tk, y], .cons ⟨_, rfl⟩ (.cons ru .nil), ⟨_, hT3, rfl, _, rfl⟩⟩
    have J : Inv X pins σ (upd H s.heap.objs.size (.tup [.int (i : Nat), x])) { s with heap := h3, toks := tk + 1 } :=
      I.turnedNew (ch := [e, d]) (fun b o hb q => (sb.2 b fun z => hb (by simp [z])).trans (hk b o (fun z => hb (by simp [z])) (fun z => hb (by simp [z])) q)) hf (Nat.le_refl _) new
    refine ⟨.ref s.heap.objs.size, _, J, rfl, ⟨_, x, rfl, I.hok.fresh (Nat.le_refl _), rfl, fun ys hy2 => by rw [I.tuple_inj hy2 hq]; exact hx⟩, ⟨⟨y, ?_⟩, hs2.1.at fun o q => (sb.2 d (Ne.symm hne)).trans q, hne⟩, fun b hb => ?_⟩
    · have e1 : ((i + 1 : Nat) : Int) = (i : Int) + 1 := by omega
      rw [e1]
      exact he3
    · have lb : b < s.heap.objs.size := by
        rcases two_of hb with z | z
        · rw [z]; exact le
        · rw [z]; exact ld
      rw [upd_ne (Nat.ne_of_lt lb)]
      exact (hf b hb).1
  done := by
    intro X hP hW hK hc i pins s σ H E I hf st hg
    subst hP hW hK
    obtain ⟨⟨was, he⟩, hit, hne⟩ := st
    obtain ⟨xs, hq, hx⟩ := hg
    obtain ⟨its, rv, p, hz⟩ := I.tuple hq
    obtain ⟨f0, f1, f2, f3, f4, f5⟩ := hf d (by simp)
    have hl := rv.length
    unfold pyNext
    refine wpAny_bind (wpAny_attempt (wpAny_callSpecial?_slot (name := Str.ofString "__next__") ⟨_, he, rfl⟩ F.slot_enumerate_next
      (wpAny_call_entry F.slot_enumerate_next ⟨_, he, rfl⟩ F.entry_enumerate_next ?_ (F.args_enumerate_next_1 _))))
    show wpAny _ _ (field (.ref e) 2 >>= _) _ _ _
    refine wpAny_bind (wpAny_field he rfl (x := .ref d) rfl ?_)
    refine wpAny_bind (wpAny_nextOf_tuple_end (I.ok.hd hc) hit p (by simp; omega) fun h2 x eb hx2 => ?_)
    obtain ⟨o, ho, hcl⟩ := hx2
    refine wpAny_bind (wpAny_isInstance (T := "StopIteration") (b := true) ⟨o, ho, hcl⟩ isSubtype_stop ?_)
    exact wpAny_pure ⟨rfl, I.turned (t' := s.toks) (fun b o hb q => eb b o hb q) f0 f1 f3 f4 f5⟩
  self := fun A i s Q E st h => let ⟨⟨_, he⟩, _⟩ := st; wpAny_pyIter_enum he h
def iEnT (K : PySem.W.Frag) (ta : TA) : TI := fun σ H R => ta σ H fun vs H1 => ∃ a xs, vs = [.ref a] ∧ SqT K H1 a xs ∧ R (ItEnT K a) H1
theorem pi_enT {X : Cx} {e : Expr} {ta : TA} {p pos tp : Pos} {es : List Expr} {kk : Nat} (hg : Gl X "enumerate") (hm : X.mg "enumerate" = none) (ha : PA X [e] ta) (hs : starEach [e] X.env = [(false, eval e X.env)] := by rfl) :
    PI X (.Tuple es kk tp) (.Call (.Name "enumerate" p) [e] [] pos) (iEnT X.K ta) := by
  constructor
  intro pins s σ H R I h
  refine Call_ (ld_blt I hg hm boot_enumerate (PyProof.Rows.callWith_type1 (thn (ha.run pos pins s σ H _ I h) fun us s1 hh => ?_) hs rfl))
  obtain ⟨vs, H1, I1, r1, a, xs, ex, hq, q⟩ := hh
  subst ex
  cases r1 with
  | cons r rr =>
    cases rr
    cases r
    obtain ⟨its, rv, p2, hz⟩ := I1.tuple hq
    refine enumT_call (begins_tuple a its.toArray) p2 fun h2 he hd hk => wpAny_pyIter_enum he ?_
    have I2 : Inv X pins σ H1 { s1 with heap := h2 } := I1.kept (t' := s1.toks) hk
    refine ⟨s1.heap.objs.size + 1, [s1.heap.objs.size + 1, s1.heap.objs.size], _, _, H1, rfl, I2, turn_enT a (s1.heap.objs.size + 1) s1.heap.objs.size, ⟨⟨.none, he⟩, ⟨_, hd, rfl, rfl⟩, Nat.succ_ne_self _⟩, fun b hb => ?_, q⟩
    have ge : s1.heap.objs.size ≤ b := by
      rcases two_of hb with z | z
      · rw [z]; exact Nat.le_add_right _ _
      · rw [z]; exact Nat.le_refl _
    exact I1.fpOk ge (I1.hok.fresh ge)
theorem walk_enT {K : PySem.W.Frag} {a : Addr} {xs : List V} : Walk (ItEnT K a) xs.length (fun H => SqT K H a xs) (YPair (fun i => some (.int (i : Nat))) (fun i => xs[i]?)) where
  goes := fun i _ hi q => ⟨xs, xs[i], q, by simp [hi]⟩
  stops := fun _ q => ⟨xs, q, Nat.le_refl _⟩
  yields := fun i H v H2 _ q y => let ⟨p, x, h1, h2, h3, h4⟩ := y; ⟨p, .int (i : Nat), x, h1, h2, h3, rfl, h4 xs q⟩
end L2
set_option Elab.async false
set_option linter.all false
set_option maxRecDepth 100001
set_option maxHeartbeats 1999999
/-! enumerate over a text. -/
namespace L2
open PySem.Spec PySem PyProof.Rows
def ItEnS (x : Str) : It where
  go := fun i _ => i < x.cps.size
  yld := fun i H v H2 => ∃ p c, v = .ref p ∧ H p = none ∧ H2 = upd H p (.tup [.int (i : Nat), .str ⟨#[c]⟩]) ∧ x.cps[i]? = some c
  stop := fun i _ => x.cps.size ≤ i
theorem strIter_at {h h' : Heap} {a : Addr} {ty : String} {x : Str} {t : Tok} {i : Nat} (y : h.IsStrIter a ty x t i) (k : ∀ o, h.get? a = some o → h'.get? a = some o) : h'.IsStrIter a ty x t i := let ⟨o, ho, r⟩ := y; ⟨o, k o ho, r⟩
theorem text_end {prog : Program} {w : World} {A : Around} {E : Value → Shared → Prop} {s : Shared} {it : Addr} {x : Str} {t : Tok} {i : Nat} {Q : Value → Shared → Prop} (hh : A.handled = none) (hit : s.heap.IsStrIter it (strIterType x) x t i) (hx : x.cps[i]? = none)
    (hE : ∀ h' e, Heap.ExtBut it s.heap h' → (∃ o, h'.get? e = some o ∧ o.cls = .type "StopIteration") → E (.ref e) { s with heap := h' }) : wpAny (model prog w) A (Builtin.SmallTypes.nextOf (.ref it)) Q E s := by
  cases ha : x.cps.all (· < 128)
  · simp only [strIterType, ha, Bool.false_eq_true, if_false] at hit
    exact wpAny_nextOf_wide_end hh hit hx hE
  · simp only [strIterType, ha, if_true] at hit
    exact wpAny_nextOf_ascii_end hh hit hx hE
theorem turn_enS {P : Program} {W : World} {K : PySem.W.Frag} {es : List Expr} {kk : Nat} {tp : Pos} (x : Str) (t : Tok) (e d : Addr) :
    Turn P W K (.Tuple es kk tp) (ItEnS x) [e, d] e (fun i h => (∃ was, IsEnum h e d ((i : Nat) : Int) was) ∧ h.IsStrIter d (strIterType x) x t i ∧ e ≠ d) where
  mem := List.mem_cons_self
  obj := fun i h st b hb => by
    obtain ⟨⟨was, he⟩, ⟨o, ho, hc, hd⟩, _⟩ := st
    rcases two_of hb with rfl | rfl
    · exact ⟨_, he, fun _ q => nomatch q⟩
    · exact ⟨o, ho, fun _ q => by rw [hd] at q; cases q⟩
  keep := fun i h h2 st k => ⟨let ⟨was, he⟩ := st.1; ⟨was, k e (by simp) _ he⟩, strIter_at st.2.1 fun o q => k d (by simp) o q, st.2.2⟩
  item := by
    intro X hP hW hK hc i pins s σ H E I hf st hg
    subst hP hW hK
    obtain ⟨⟨was, he⟩, hit, hne⟩ := st
    have hi : i < x.cps.size := hg
    have le : e < s.heap.objs.size := Heap.lt_size he
    have ld : d < s.heap.objs.size := let ⟨_, q, _⟩ := hit; Heap.lt_size q
    have D := Draws.text (prog := X.prog) (w := X.w) (A := X.A.in1) (I.ok.hd hc) d x t
    refine wpAny_pyNext_enum_itemD (n := x.cps.size) (i := i) D he hit hi hne (fun m => ?_) fun y h2 tk hy ho hs2 hT hsz hk => ?_
    · exact hne (by simpa using m)
    obtain ⟨c, u, hcx, rfl⟩ := hy
    refine ⟨_, rfl, wpAny_letOwnedTupleGo_enum (s := { s with heap := h2, toks := tk + 1 }) ho fun h3 he3 sb => ?_⟩
    have hT3 : h3.get? s.heap.objs.size = some { cls := .type "tuple", data := .seq #[.int i tk, .str ⟨#[c]⟩ u] } := (sb.2 _ (Nat.ne_of_gt le)).trans hT
    have new : ObjOk X.prog X.w (upd H s.heap.objs.size (.tup [.int (i : Nat), .str ⟨#[c]⟩])) h3 s.heap.objs.size (.tup [.int (i : Nat), .str ⟨#[c]⟩]) :=
      ⟨by show 2 ≤ sizeLine; decide, [.int i tk, .str ⟨#[c]⟩ u], .cons ⟨_, rfl⟩ (.cons ⟨_, rfl⟩ .nil), ⟨_, hT3, rfl, _, rfl⟩⟩
    have J : Inv X pins σ (upd H s.heap.objs.size (.tup [.int (i : Nat), .str ⟨#[c]⟩])) { s with heap := h3, toks := tk + 1 } :=
      I.turnedNew (ch := [e, d]) (fun b o hb q => (sb.2 b fun z => hb (by simp [z])).trans (hk b o (fun z => hb (by simp [z])) (fun z => hb (by simp [z])) q)) hf (Nat.le_refl _) new
    refine ⟨.ref s.heap.objs.size, _, J, rfl, ⟨_, c, rfl, I.hok.fresh (Nat.le_refl _), rfl, hcx⟩, ⟨⟨.str ⟨#[c]⟩ u, ?_⟩, strIter_at hs2 fun o q => (sb.2 d (Ne.symm hne)).trans q, hne⟩, fun b hb => ?_⟩
    · have e1 : ((i + 1 : Nat) : Int) = (i : Int) + 1 := by omega
      rw [e1]
      exact he3
    · have lb : b < s.heap.objs.size := by
        rcases two_of hb with z | z
        · rw [z]; exact le
        · rw [z]; exact ld
      rw [upd_ne (Nat.ne_of_lt lb)]
      exact (hf b hb).1
  done := by
    intro X hP hW hK hc i pins s σ H E I hf st hg
    subst hP hW hK
    obtain ⟨⟨was, he⟩, hit, hne⟩ := st
    have hx : x.cps.size ≤ i := hg
    obtain ⟨f0, f1, f2, f3, f4, f5⟩ := hf d (by simp)
    unfold pyNext
    refine wpAny_bind (wpAny_attempt (wpAny_callSpecial?_slot (name := Str.ofString "__next__") ⟨_, he, rfl⟩ F.slot_enumerate_next
      (wpAny_call_entry F.slot_enumerate_next ⟨_, he, rfl⟩ F.entry_enumerate_next ?_ (F.args_enumerate_next_1 _))))
    show wpAny _ _ (field (.ref e) 2 >>= _) _ _ _
    refine wpAny_bind (wpAny_field he rfl (x := .ref d) rfl ?_)
    have none : x.cps[i]? = none := by simp [hx]
    refine wpAny_bind (text_end (I.ok.hd hc) hit none fun h2 ex eb hx2 => ?_)
    obtain ⟨o, ho, hcl⟩ := hx2
    refine wpAny_bind (wpAny_isInstance (T := "StopIteration") (b := true) ⟨o, ho, hcl⟩ isSubtype_stop ?_)
    exact wpAny_pure ⟨rfl, I.turned (t' := s.toks) (fun b o hb q => eb b o hb q) f0 f1 f3 f4 f5⟩
  self := fun A i s Q E st h => let ⟨⟨_, he⟩, _⟩ := st; wpAny_pyIter_enum he h
def iEnS (ta : TA) : TI := fun σ H R => ta σ H fun vs H1 => ∃ x, vs = [.str x] ∧ R (ItEnS x) H1
theorem pi_enS {X : Cx} {e : Expr} {ta : TA} {p pos tp : Pos} {es : List Expr} {kk : Nat} (hg : Gl X "enumerate") (hm : X.mg "enumerate" = none) (ha : PA X [e] ta) (hs : starEach [e] X.env = [(false, eval e X.env)] := by rfl) :
    PI X (.Tuple es kk tp) (.Call (.Name "enumerate" p) [e] [] pos) (iEnS ta) := by
  constructor
  intro pins s σ H R I h
  refine Call_ (ld_blt I hg hm boot_enumerate (PyProof.Rows.callWith_type1 (thn (ha.run pos pins s σ H _ I h) fun us s1 hh => ?_) hs rfl))
  obtain ⟨vs, H1, I1, r1, x, ex, q⟩ := hh
  subst ex
  cases r1 with
  | cons r rr =>
    cases rr
    obtain ⟨t, rfl⟩ := r
    refine enumT_call (begins_text x t) trivial fun h2 he hd hk => wpAny_pyIter_enum he ?_
    have I2 : Inv X pins σ H1 { s1 with heap := h2 } := I1.kept (t' := s1.toks) hk
    refine ⟨s1.heap.objs.size + 1, [s1.heap.objs.size + 1, s1.heap.objs.size], _, _, H1, rfl, I2, turn_enS x t (s1.heap.objs.size + 1) s1.heap.objs.size, ⟨⟨.none, he⟩, ⟨_, hd, rfl, rfl⟩, Nat.succ_ne_self _⟩, fun b hb => ?_, q⟩
    have ge : s1.heap.objs.size ≤ b := by
      rcases two_of hb with z | z
      · rw [z]; exact Nat.le_add_right _ _
      · rw [z]; exact Nat.le_refl _
    exact I1.fpOk ge (I1.hok.fresh ge)
theorem walk_enS {x : Str} : Walk (ItEnS x) x.cps.size (fun _ => True) (YPair (fun i => some (.int (i : Nat))) (fun i => (x.cps[i]?).map fun c => V.str ⟨#[c]⟩)) where
  goes := fun i _ hi _ => hi
  stops := fun _ _ => Nat.le_refl _
  yields := fun i H v H2 _ _ y => let ⟨p, c, h1, h2, h3, h4⟩ := y; ⟨p, .int (i : Nat), .str ⟨#[c]⟩, h1, h2, h3, rfl, by show Option.map _ _ = _; rw [h4]; rfl⟩
end L2
set_option Elab.async false
set_option maxRecDepth 100001
set_option maxHeartbeats 3999999
/-! raise C(), C an own class whose own __init__ stores nothing. -/
namespace L2
open PySem.Spec PySem PyProof.Rows
section
variable {X : Cx}
theorem mk_bare {pins : List (Addr × Obj)} {σ : St} {H1 H2 : Hp} {Q : XK} {hp hp2 h2 : Heap} {g1 g2 : Array GenState} {d1 d2 : Drawn} {t1 t2 : Nat} {o1 o2 : OsState} {a C : Addr} (T : Raises X (.ref C))
    (I1 : Inv X pins σ H1 ⟨hp, g1, d1, t1, o1⟩) (big : hp.objs.size ≤ a) (k : ∀ b o, hp.get? b = some o → hp2.get? b = some o) (un : Un (frs X.stack) [] (upd H1 a (exo a C none)) H2 hp2 h2)
    (hok : HOk X.prog X.w H2 h2) (ho : o2 = o1) (hb : AllBare g2) (ea : H2 a = some (exo a C none)) (q : Q (.ref C) none (del H2 a)) : MkP X pins σ Q (.ref a) ⟨h2, g2, d2, t2, o2⟩ := by
  obtain ⟨t0, he⟩ := exo_at hok ea
  have na : H1 a = none := I1.hok.fresh big
  obtain ⟨G, gyes, gno⟩ := restrict h2 fun b => decide (b ≠ a)
  have gk : ∀ b, b ≠ a → G.get? b = h2.get? b := fun b z => gyes b (decide_eq_true z)
  have ga : G.get? a = none := gno a (by simp)
  have ne : ∀ {b : Addr} {o : Obj}, hp.get? b = some o → b ≠ a := fun z => Nat.ne_of_lt (Nat.lt_of_lt_of_le (Heap.lt_size z) big)
  have free : ∀ {b : Addr}, b ≠ a → H1 b = none → upd H1 a (exo a C none) b = none := fun z n => (upd_ne z).trans n
  have U : Un (frs X.stack) [] H1 (del H2 a) hp G := {
    keep := fun b o z n hf hx => (gk b (ne z)).trans (un.keep b o (k b o z) (free (ne z) n) hf hx)
    slot := fun b o z n hf hx => let ⟨sl, e⟩ := un.slot b o (k b o z) (free (ne z) n) hf hx; ⟨sl, (gk b (ne z)).trans e⟩
    free := fun b o z n hx => (del_ne (ne z)).trans (un.free b o (k b o z) (free (ne z) n) hx)
    there := fun b o z hx => let ⟨o', e⟩ := un.there b o (k b o z) hx; ⟨o', (gk b (ne z)).trans e⟩
    tups := fun b xs z => (del_ne (ne_of_none z na)).trans (un.tups b xs ((upd_ne (ne_of_none z na)).trans z))
    frzs := fun b o v z => (del_ne (ne_of_none z na)).trans (un.frzs b o v ((upd_ne (ne_of_none z na)).trans z))
    tbls := fun b ps z => let ⟨m, e⟩ := un.tbls b ps ((upd_ne (ne_of_none z na)).trans z); ⟨m, (del_ne (ne_of_none z na)).trans e⟩ }
  have hG : HOk X.prog X.w (del H2 a) G := fun b o z => by
    have hba : b ≠ a := fun e => by
      rw [e, del_same] at z
      cases z
    rw [del_ne hba] at z
    have own : ∀ {c : Addr}, H2 c = some (.own b) → c ≠ a := fun hc => at_ne ea hc exo_own
    refine (hok b o z).stay (fun c v hc y => ?_) (fun c hc => (del_ne (own hc)).trans hc) fun c xs hc => (del_ne (at_ne ea hc exo_tup)).trans hc
    refine (gk c ?_).trans y
    rcases hc with rfl | hc
    · exact hba
    · exact own hc
  have J : Inv X pins σ (del H2 a) ⟨G, g2, d2, t2, o2⟩ := I1.call' (ch := []) ho U hG hb fun b z => absurd z (by simp)
  refine ⟨a, _, _, ⟨G, g2, d2, t2, o2⟩, _, .ref C, none, rfl, J, fun b o z => ?_, ga, he, ⟨rfl, rfl⟩, rfl, rfl, del_same, rfl, hb, T, q⟩
  have hba : b ≠ a := fun e => by
    rw [e] at z
    have z' : G.get? a = some o := z
    rw [ga] at z'
    cases z'
  exact (gk b hba).symm.trans z
/-- C(): what its __init__ keeps, at the fresh exception -/
def tMkO0 (C : Addr) (sp : Sp) : St → Hp → XK → Prop := fun _ H Q => ∀ a, H a = none → sp [.ref a] (upd H a (exo a C none)) (fun v H2 => v = .non ∧ H2 a = some (exo a C none) ∧ Q (.ref C) none (del H2 a)) (fun _ _ _ => False)
theorem pmk_oex0 {CX : CXT} {x : Str} {p pos : Pos} {C fI : Addr} {k : Nat} {fd : FuncData} {ps : List Str} {sp : Sp} (T : OexC X.K C) (iC : PySem.W.findIn X.K (.ref C) "__init__" = some (some (.ref fI))) (tI : PySem.W.typeIn X.K (.ref fI) = some (.type "function"))
    (F1 : FnOk X.prog X.w X.K X.mg X.base CX k fI fd ps sp) (hr : Room (k + 1) X.A) (hb : Binds X.K fd ps []) (hx : Passes CX X (fun _ _ _ => False)) (hg : Gl X x) (hm : X.mg x = some (.ref C)) (hdb : (x == ("__debug__" : Str)) = false := by decide) :
    PMk X (.Call (.Name x p) [] [] pos) (tMkO0 C sp) := by
  intro pins s σ H Q I h
  obtain ⟨nm, qn, N, bs, bm, sn, sb, ab, col, dd, j0, j1, j2, j3, j5, hC, hbm⟩ := T.cls
  refine wpAny_Call_Name_kw (ld_glob I hg hm ?_ hdb)
  refine PySem.W.callWith_K0 I.kIn T.kC ?_
  show wpAny _ _ (call (.ref C) []) _ _ _
  obtain ⟨hp, g, dr, tk, os⟩ := s
  have big : hp.objs.size ≤ hp.objs.size + 1 := Nat.le_succ _
  have hn : H (hp.objs.size + 1) = none := I.hok.fresh big
  have hq := h (hp.objs.size + 1) hn
  have kk : ∀ b o, hp.get? b = some o → ((hp.push (PySem.W.kdv_tup [])).push (PySem.HandSPX.excO C hp.objs.size)).get? b = some o := fun b o e => Heap.get?_push_of_some _ (Heap.get?_push_of_some _ e)
  have hget : ((hp.push (PySem.W.kdv_tup [])).push (PySem.HandSPX.excO C hp.objs.size)).get? (hp.objs.size + 1) = some (PySem.HandSPX.excO C hp.objs.size) := by heap_get
  have I2 : Inv X pins σ (upd H (hp.objs.size + 1) (exo (hp.objs.size + 1) C none)) ⟨(hp.push (PySem.W.kdv_tup [])).push (PySem.HandSPX.excO C hp.objs.size), g, dr, tk, os⟩ := I.laid (t' := tk) kk big (exo_ok hget)
  have r2 : Vals [V.ref (hp.objs.size + 1)] [Value.ref (hp.objs.size + 1)] := .cons rfl .nil
  have hl : ([Value.ref (hp.objs.size + 1)] ++ ([] : List Value)).length = ps.length := (F1.len _ _ _ _ hq)
  refine wpAny_call (PySem.HandSPX.call_own F.excBase_ValueError (fun Y => PySem.HandSPX.refsVE_contains Y bm hbm) (I.kIn _ _ hC) (PySem.W.looks_findIn I.kIn iC) (fun self => PySem.W.bind_fn I.kIn self tI) (by show 0 ≤ sizeLine; exact Nat.zero_le _)
    (codeAny_mono (F1.run _ X.stack _ _ ⟨[Value.ref (hp.objs.size + 1)], []⟩ [Value.ref (hp.objs.size + 1)] _ _ (fun _ _ _ => False) (hr.make C [] []) (I2.env0.make C [] []) (hb _ [Value.ref (hp.objs.size + 1)] I2.kIn hl) r2 hq) fun r s2 hq2 => ?_))
  cases r with
  | error er => exact hx pins σ _ _ er s2 I2 hq2
  | ok fl =>
    cases fl with
    | ret u =>
      obtain ⟨v, H2, os2, bare2, un2, hok2, rv, ev, ea, q2⟩ := hq2
      subst ev
      obtain ⟨h2, g2, d2, t2, o2⟩ := s2
      exact ⟨rv, mk_bare (raises_own T.exC T.tyC) I big kk un2 hok2 os2 bare2 ea q2⟩
    | next => exact hq2.elim
    | brk => exact hq2.elim
    | cont => exact hq2.elim
end
end L2
set_option Elab.async false
set_option maxRecDepth 100001
set_option maxHeartbeats 3999999
/-! try with several clauses, some of which name the exception. -/
namespace L2
open PySem.Spec PySem PyProof.Rows
/-- a clause: its class, the slot of its name, its suite's reading -/
abbrev Clause := Value × Option Nat × (Addr → Value → Option Addr → TS)
def endsOf : Option Nat → Ends → Ends
  | none, D => D
  | some i, D => ⟨fun σ H => D.nx (σ.set i none) H, D.rt, fun σ H => D.bk (σ.set i none) H, fun σ H => D.ct (σ.set i none) H⟩
def slotOf : Option Nat → Addr → St → St
  | none, _, σ => σ
  | some i, a, σ => σ.set i (some (.ref a))
def wClauses (K : PySem.W.Frag) (Wout : WX) (D : Ends) : List Clause → WX
  | [], cls, d, σ, H => Wout cls d σ H
  | (c, i, ts) :: r, cls, d, σ, H => ∃ b, PySem.W.exmOne K cls c = some b ∧ (b = true → ∀ a, H a = none → ts a cls d (endsOf i D) (slotOf i a σ) H) ∧ (b = false → wClauses K Wout D r cls d σ H)
def SuiteOk (X : Cx) (sts : List Stmt) (ts : Addr → Value → Option Addr → TS) : Prop :=
  ∀ (a : Addr) (oe : Obj) (cls : Value) (d : Option Addr) (pn : List (Addr × Obj)), Zc cls d oe → (∃ vs, oe.data = .fields vs) → PSs (X.suite a ((a, oe) :: pn)) sts (ts a cls d)
inductive ClausesOk (X : Cx) : List ExceptHandler → List Clause → Prop
  | nil : ClausesOk X [] []
  | plain {x c ts b₀ su np p2 hds l} (hc : Names X x c) (ok : SuiteOk X (b₀ :: su) ts) (r : ClausesOk X hds l) : ClausesOk X (.ExceptHandler (some (.Name x np)) none (b₀ :: su) p2 :: hds) ((c, none, ts) :: l)
  | named {x c ts b₀ su np p2 hds l n i} (hc : Names X x c) (hi : X.N[i]? = some n) (hn : X.env.kindOf n = some .local) (ok : SuiteOk X (b₀ :: su) ts) (r : ClausesOk X hds l) :
      ClausesOk X (.ExceptHandler (some (.Name x np)) (some n) (b₀ :: su) p2 :: hds) ((c, some i, ts) :: l)
section
variable {X : Cx} {pins : List (Addr × Obj)} {σ : St} {H : Hp} {z sI : Shared} {a : Addr} {cls : Value} {d : Option Addr} {B h : Heap} {D : Ends}
/-- an exception that has come to its try: what is known there -/
structure Come (X : Cx) (pins : List (Addr × Obj)) (σ : St) (H : Hp) (sI z : Shared) (a : Addr) (cls : Value) (d : Option Addr) (B h : Heap) : Prop where
  hs : X.stack = X.env :: X.outer
  hf : X.env.frame = some X.env.locals
  J : Inv X pins σ H sI
  nb : ∀ b o, sI.heap.get? b = some o → b ∉ frs X.stack → B.get? b = some o
  fl : HandSPX.FlyingZ B (X.env :: X.outer) a (Zc cls d) h
  up : sI.heap.UpToSlots h
  na : H a = none
  os : z.os = sI.os
  ag : AllBare z.gens
theorem Come.inv (C : Come X pins σ H sI z a cls d B h) : Inv X pins σ H { z with heap := h } := C.J.landed C.nb C.fl.1 C.up C.os C.ag
theorem Come.apart (C : Come X pins σ H sI z a cls d B h) : a ≠ X.env.locals ∧ a ∉ X.fs := by
  obtain ⟨oe, vs, he, _, hd⟩ := C.fl.there
  have no : a ∉ frs (X.env :: X.outer) := fun m => by
    obtain ⟨_, o, e, q⟩ := C.fl.2.2.1.mem m
    rw [he] at e
    cases e
    exact q _ hd
  refine ⟨fun e => no (List.mem_filterMap.mpr ⟨X.env, List.mem_cons_self, by rw [C.hf, e]⟩), fun m => ?_⟩
  obtain ⟨e, he, q⟩ := List.mem_filterMap.mp m
  exact no (List.mem_filterMap.mpr ⟨e, List.mem_cons_of_mem _ he, q⟩)
theorem Come.suite (C : Come X pins σ H sI z a cls d B h) : ∃ oe, Zc cls d oe ∧ (∃ vs, oe.data = .fields vs) ∧ h.get? a = some oe ∧ Inv (X.suite a ((a, oe) :: (X.pn ++ pins))) [] σ H { z with heap := h } := by
  obtain ⟨oe, vs, he, hz, hd⟩ := C.fl.there
  exact ⟨oe, hz, ⟨vs, hd⟩, he, C.inv.suite he hd C.na C.apart.1 C.apart.2⟩
theorem Come.step (C : Come X pins σ H sI z a cls d B h) {h2 : Heap} (fl : HandSPX.FlyingZ B (X.env :: X.outer) a (Zc cls d) h2) (up : h.UpToSlots h2) : Come X pins σ H sI z a cls d B h2 :=
  ⟨C.hs, C.hf, C.J, C.nb, fl, C.up.trans up, C.na, C.os, C.ag⟩
/-- the class of a clause is looked at -/
theorem Come.test (C : Come X pins σ H sI z a cls d B h) {x : Str} {c : Value} {np : Pos} {b : Bool} (hc : Names X x c) (hb : PySem.W.exmOne X.K cls c = some b) {Q : Bool → Shared → Prop} {E E2 : Value → Shared → Prop} (q : Q b { z with heap := h }) :
    wpAny (model X.prog X.w) (X.A.mark (some (.ref a))) (eval (.Name x np) X.env) (fun u s1 => wpAny (model X.prog X.w) (X.A.mark (some (.ref a))) (excMatches (.ref a) u) Q E2 s1) E { z with heap := h } := by
  obtain ⟨oe, hz, _, he, S⟩ := C.suite
  have LT : PySem.W.Looks (model X.prog X.w) h (typeOf (.ref a)) cls := fun _ _ _ _ k q2 => wpAny_typeOf_ref (k _ _ he) (by rw [hz.1]; exact q2)
  have LM := (PySem.W.exm_one (M := model X.prog X.w) C.inv.kIn LT hb).here (A := X.A.mark (some (.ref a))) (Q := Q) (E := E2) (s := { z with heap := h }) q
  obtain ⟨hg, hdb, hm | ⟨hm, hv, hnn⟩⟩ := hc
  · exact ld_glob (X := X.suite a ((a, oe) :: (X.pn ++ pins))) S hg hm LM hdb
  · exact ld_blt (X := X.suite a ((a, oe) :: (X.pn ++ pins))) S hg hm hv LM hnn hdb
/-- no clause is left: it goes on -/
theorem Come.on {Wout : WX} (C : Come X pins σ H sI z a cls d B h) (tk : Takes X Wout) (wo : Wout cls d σ H) :
    wpAny (model X.prog X.w) X.A (handleBy (.ref a) X.env []) (SP X pins D) X.xe { z with heap := h } := by
  refine wpAny_handleBy_nil ?_
  obtain ⟨_, _, _, oe, vs, T, oT, ts, he, _, hd, h1, _⟩ := id C.fl
  unfold PySem.passOn
  refine wpAny_bind (wpAny_field he hd h1 ?_)
  rw [if_neg (show ¬ ((Value.ref T == Value.none) = true) from by simp)]
  have fin : wpAny (model X.prog X.w) X.A (setFlight (.ref a) X.env.frame) (fun _ s4 => wpAny (model X.prog X.w) X.A (throw (.ref a) : Sem Flow) (SP X pins D) X.xe s4) X.xe { z with heap := h } := by
    rw [C.hf]
    refine HandSPX.setFlight_upZ C.fl fun h4 hh4 up4 => wpAny_throw (tk _ _ ?_)
    exact ⟨a, B, sI, pins, σ, H, cls, d, rfl, C.J, C.nb, C.up.trans up4, .inr (.inr (by rw [C.hs]; exact hh4)), C.na, C.os, C.ag, wo⟩
  first | exact wpAny_bind (wpAny_pure (wpAny_bind fin)) | exact wpAny_bind fin
theorem Come.run {Wout : WX} {hds : List ExceptHandler} {l : List Clause} (hN : X.N.Nodup) (tk : Takes X Wout) (ok : ClausesOk X hds l) : ∀ {h : Heap}, Come X pins σ H sI z a cls d B h → wClauses X.K Wout D l cls d σ H →
    wpAny (model X.prog X.w) X.A (handleBy (.ref a) X.env hds) (SP X pins D) X.xe { z with heap := h } := by
  induction ok with
  | nil => exact fun C w => C.on tk w
  | plain hc su r ih =>
    intro h C w
    obtain ⟨b, hb, yes, no⟩ := w
    refine wpAny_handleBy_cons (codeAny_handlers_test (C.test hc hb ?_)) (by intro q; cases q)
    cases b with
    | false => exact ih C (no rfl)
    | true =>
      refine codeAny_handlers_suite ?_
      refine HandSPX.lands_againZ C.fl fun h4 fl4 up4 => ?_
      have C4 := C.step fl4 up4
      obtain ⟨oe, hz, hd, he, S⟩ := C4.suite
      refine wpAny_mono ((su a oe cls d (X.pn ++ pins) hz hd).run [] _ _ H _ S (yes rfl a C.na)) (fun f s6 hsp => ?_) (fun _ _ q => False.elim q)
      cases f with
      | next => exact let ⟨_, _, S6, q6⟩ := hsp; ⟨_, _, S6.unsuite C.J.ok, q6⟩
      | brk => exact let ⟨_, _, S6, q6⟩ := hsp; ⟨_, _, S6.unsuite C.J.ok, q6⟩
      | cont => exact let ⟨_, _, S6, q6⟩ := hsp; ⟨_, _, S6.unsuite C.J.ok, q6⟩
      | ret u => exact let ⟨_, _, _, S6, r6, q6⟩ := hsp; ⟨_, _, _, S6.unsuite C.J.ok, r6, q6⟩
  | @named x c ts b₀ suite np p2 hds l n i hc hi hn su r ih =>
    intro h C w
    obtain ⟨b, hb, yes, no⟩ := w
    refine wpAny_handleBy_cons (codeAny_handlers_test (C.test hc hb ?_)) (by intro q; cases q)
    cases b with
    | false => exact ih C (no rfl)
    | true =>
      refine codeAny_handlers_suite_as ?_
      refine HandSPX.lands_againZ C.fl fun h4 fl4 up4 => ?_
      have C4 := C.step fl4 up4
      obtain ⟨oe, hz, hd, he, S⟩ := C4.suite
      refine store_ok (X := X.suite a ((a, oe) :: (X.pn ++ pins))) (v := .ref a) S hN hi (.inl hn) rfl (fun s5 S5 => ?_) (.inr hn)
      refine wpAny_mono ((su a oe cls d (X.pn ++ pins) hz hd).run [] s5 _ H _ S5 (yes rfl a C.na)) (fun f s6 hsp => ?_) (fun _ _ q => False.elim q)
      have away : ∀ {σ6 : St} {H6 : Hp} {Q : Shared → Prop}, Inv (X.suite a ((a, oe) :: (X.pn ++ pins))) [] σ6 H6 s6 → (∀ s7, Inv X pins (σ6.set i none) H6 s7 → Q s7) →
          wpAny (model X.prog X.w) X.A (do bindName X.env n .none; unbindBehindTheSuite X.env n p2) (fun _ s7 => Q s7) X.xe s6 := fun S6 hq => gone_ok (S6.unsuite C.J.ok) hN hi hn hq
      cases f with
      | next => exact let ⟨_, _, S6, q6⟩ := hsp; away S6 fun s7 J7 => ⟨_, _, J7, q6⟩
      | brk => exact let ⟨_, _, S6, q6⟩ := hsp; away S6 fun s7 J7 => ⟨_, _, J7, q6⟩
      | cont => exact let ⟨_, _, S6, q6⟩ := hsp; away S6 fun s7 J7 => ⟨_, _, J7, q6⟩
      | ret u => exact let ⟨_, _, _, S6, r6, q6⟩ := hsp; away S6 fun s7 J7 => ⟨_, _, _, J7, r6, q6⟩
end
/-- try: body / except C1 as n: .. / except C2: .. -/
theorem ps_try_clauses {X : Cx} {body : List Stmt} {hd₀ : ExceptHandler} {hds : List ExceptHandler} {l : List Clause} {pos : Pos} {tb : WX → TS} {Wout : WX} (hs : X.stack = X.env :: X.outer) (hf : X.env.frame = some X.env.locals) (hN : X.N.Nodup) (tk : Takes X Wout)
    (hb : ∀ (W : WX) (pn : List (Addr × Obj)) (xe : Value → Shared → Prop), Takes (X.tr pn xe) W → PassesOwn (model X.prog X.w) X.A X.env xe → PSs (X.tr pn xe) body (tb W)) (ok : ClausesOk X (hd₀ :: hds) l) :
    PS X (.Try body (hd₀ :: hds) [] [] pos) (fun D σ H => tb (wClauses X.K Wout D l) D σ H) := by
  constructor
  intro pins s σ H D I h
  have oX := I.ok
  have fr : X.A.frames = some (X.env :: X.outer) := by rw [oX.frames, hs]
  refine wpAny_Try_except ?_
  refine wpAny_mono ((hb (wClauses X.K Wout D l) (X.pn ++ pins) (fun e s₁ => wpAny (model X.prog X.w) X.A (noteFrame e X.env) (fun _ s₂ => wpAny (model X.prog X.w) X.A (setFlight e none) (fun _ s₃ =>
    wpAny (model X.prog X.w) X.A (handleBy e X.env (hd₀ :: hds)) (SP X pins D) X.xe s₃) X.xe s₂) X.xe s₁) (fun u s1 xx => ?_) PassesOwn.looking).run [] s σ H D (I.toTry _) h) (fun f s1 hsp => ?_) fun _ _ he => he
  · obtain ⟨a, B, sI, pins', σ', H', cls, d, rfl, J', nb, up, sky, na, os, ag, w⟩ := xx
    have sky' : Sky B (X.env :: X.outer) a (Zc cls d) X.env.locals s1.heap := by rw [← hs]; exact sky
    show wpAny (model X.prog X.w) X.A (noteFrame (.ref a) X.env) _ _ _
    refine Sky.land Zc.steady fr hf sky' fun h3 fl3 up3 => ?_
    exact Come.run (z := s1) hN tk ok ⟨hs, hf, J'.ofTry oX, nb, fl3, up.trans up3, na, os, ag⟩ w
  · cases f with
    | next => exact let ⟨σ', H', J', q⟩ := hsp; wpAny_execs_nil ⟨σ', H', J'.ofTry oX, q⟩
    | brk => exact let ⟨σ', H', J', q⟩ := hsp; ⟨σ', H', J'.ofTry oX, q⟩
    | cont => exact let ⟨σ', H', J', q⟩ := hsp; ⟨σ', H', J'.ofTry oX, q⟩
    | ret u => exact let ⟨v, σ', H', J', r, q⟩ := hsp; ⟨v, σ', H', J'.ofTry oX, r, q⟩
end L2
set_option Elab.async false
set_option linter.all false
set_option maxRecDepth 100001
set_option maxHeartbeats 3999999
/-! sorted(xs, key=lambda x: ..): any order of the keys that the sort can tell. -/
namespace SrtL
open PySem PyProof.Rows Srt SrtO
theorem zip_list (ks vs : List Value) : (ks.toArray.zip vs.toArray).toList = ks.zip vs := by
  rw [ksk_zip]
section
variable {prog : Program} {w : World} {A : Around} {E : Value → Shared → Prop} {s : Shared} {a kS : Addr} {e1 ek : Nat} {vs ks : List Value} {ltv : Value → Value → Bool} {R : PySem.Fin → Shared → Prop}
/-- what is left when the list is sorted -/
def doneHeap (h : Heap) (kS a : Addr) (out : Array Value) : Heap := (h.update kS (Obj.mapSeq fun _ => (#[] : Array Value))).update a (Obj.mapSeq fun _ => out)
theorem tail_ord {st : SortSt} (hk : s.heap.get? kS = some (seqObj "list" ks.toArray ek)) (ha : s.heap.get? a = some (seqObj "list" #[] e1)) (ne : kS ≠ a) (hz : vs.length ≤ sizeLine) (hl : ks.length = vs.length) (hsz : (arrOf st).size = vs.length) (hfl : failedOf st = none)
    (h : R (.done (.ret .none)) { s with heap := doneHeap s.heap kS a ((arrOf st).map (·.2)) }) : wpAny (model prog w) A (ksk_tail a false e1 (.ref kS) st) R E s := by
  have s1 := Heap.SameBut.update s.heap kS (Obj.mapSeq fun _ => (#[] : Array Value))
  have na1 : (s.heap.update kS (Obj.mapSeq fun _ => (#[] : Array Value))).get? a = some (seqObj "list" #[] e1) := (s1.2 a ne.symm).trans ha
  unfold ksk_tail
  try dsimp only
  refine wpAny_bind (listUpdate_at hk rfl ?_ (by rw [List.size_toArray]; omega) (Nat.zero_le _))
  refine wpAny_bind (wpAny_letGo ?_)
  refine wpAny_bind (seqEpoch_at na1 rfl ?_)
  refine wpAny_bind (listUpdate_at na1 rfl ?_ (Nat.zero_le _) (by simp only [Bool.false_eq_true, if_false, Array.size_map]; omega))
  rw [hfl]
  simp only [bne_self_eq_false, Bool.false_eq_true, if_false]
  exact wpAny_pure h
theorem end_ord (O : Swo ltv) (hk : s.heap.get? kS = some (seqObj "list" ks.toArray ek)) (ha : s.heap.get? a = some (seqObj "list" #[] e1)) (ne : kS ≠ a) (hz : vs.length ≤ sizeLine) (hl : ks.length = vs.length)
    (hS : 2 ≤ vs.length → ∃ κ, (∀ (Q : SortKind → Shared → Prop) (E : Value → Shared → Prop), Q κ s → wpAny (model prog w) A (keyKind' ks.toArray) Q E s) ∧ Cmp prog w A s κ (fun p => p.1 ∈ ks) (lt2 ltv))
    (h : ∀ ps : List Keyed, Srtd (lt2 ltv) ps → Stb (lt2 ltv) ps (ks.zip vs) → R (.done (.ret .none)) { s with heap := doneHeap s.heap kS a (ps.map (·.2)).toArray }) :
    wpAny (model prog w) A (ksk_end a false vs.toArray e1 (.ref kS) ks.toArray) R E s := by
  have hzs : (ks.toArray.zip vs.toArray).size = vs.length := by rw [Array.size_zip, List.size_toArray, List.size_toArray, hl, Nat.min_self]
  have fin : ∀ st : SortSt, Srtd (lt2 ltv) (arrOf st).toList → Stb (lt2 ltv) (arrOf st).toList (ks.toArray.zip vs.toArray).toList → R (.done (.ret .none)) { s with heap := doneHeap s.heap kS a ((arrOf st).map (·.2)) } := by
    intro st h1 h2
    rw [zip_list] at h2
    have h3 := h _ h1 h2
    have e : ((arrOf st).toList.map (·.2)).toArray = (arrOf st).map (·.2) := by
      rw [← Array.toList_map, Array.toArray_toList]
    rw [e] at h3
    exact h3
  have size : ∀ st : SortSt, Stb (lt2 ltv) (arrOf st).toList (ks.toArray.zip vs.toArray).toList → (arrOf st).size = vs.length := by
    intro st h2
    have := h2.perm.length_eq
    rw [Array.length_toList, Array.length_toList, hzs] at this
    exact this
  unfold ksk_end
  try dsimp only
  simp only [Bool.false_eq_true, if_false]
  by_cases h2 : vs.toArray.size < 2
  · rw [if_pos h2, if_pos h2]
    refine wpAny_bind (wpAny_pure ?_)
    rw [StateT.run_pure]
    refine wpAny_bind (wpAny_pure ?_)
    try dsimp only
    rw [List.size_toArray] at h2
    refine tail_ord (st := SortSt.mk' general' (ks.toArray.zip vs.toArray) #[] 7 none) hk ha ne hz hl hzs rfl (fin (SortSt.mk' general' (ks.toArray.zip vs.toArray) #[] 7 none) ?_ (Stb.refl _))
    show Srtd (lt2 ltv) (ks.toArray.zip vs.toArray).toList
    have hlz : (ks.toArray.zip vs.toArray).toList.length < 2 := by rw [Array.length_toList, hzs]; exact h2
    revert hlz
    generalize (ks.toArray.zip vs.toArray).toList = l
    intro hlz
    match l, hlz with
    | [], _ => exact List.Pairwise.nil
    | [v], _ => exact List.pairwise_singleton _ _
    | _ :: _ :: l, h => exact absurd h (by rw [List.length_cons, List.length_cons]; omega)
  · rw [if_neg h2, if_neg h2]
    rw [List.size_toArray] at h2
    obtain ⟨κ, hkind, hT⟩ := hS (by omega)
    refine wpAny_bind (hkind _ _ ?_)
    have hall : AllL (fun p : Keyed => p.1 ∈ ks) (ks.toArray.zip vs.toArray).toList := fun p hm => by
      rw [zip_list] at hm
      obtain ⟨x, y⟩ := p
      exact (List.of_mem_zip hm).1
    refine wpAny_bind (wpAny_mono (wpS_sortO (st0 := SortSt.mk' κ (ks.toArray.zip vs.toArray) #[] 7 none)
      (Q := fun _ st' => Srtd (lt2 ltv) (arrOf st').toList ∧ Stb (lt2 ltv) (arrOf st').toList (ks.toArray.zip vs.toArray).toList ∧ failedOf st' = none) (swo2 O) hT rfl hall rfl rfl fun st' a1 a2 a3 => ⟨a1, a2, a3⟩) ?_ fun _ _ e => e)
    rintro ⟨⟨⟩, st'⟩ s' ⟨rfl, hp1, hp2, hf⟩
    try dsimp only
    exact tail_ord hk ha ne hz hl (size st' hp2) hf (fin st' hp1 hp2)
/-- what is asked of the keys' making: J of the keys so far -/
structure Keys (prog : Program) (w : World) (A : Around) (f : Value) (vs : List Value) (ltv : Value → Value → Bool) (R : PySem.Fin → Shared → Prop) (a kS : Addr) (e1 : Nat) (J : List Value → Shared → Prop) : Prop where
  obj : ∀ ks s, J ks s → (∃ ek, s.heap.get? kS = some (seqObj "list" ks.toArray ek)) ∧ s.heap.get? a = some (seqObj "list" #[] e1)
  turn : ∀ (ks : List Value) (v : Value) (s : Shared), J ks s → vs[ks.length]? = some v → wpAny (model prog w) A (call f [v]) (fun k s' => (∃ ek, s'.heap.get? kS = some (seqObj "list" ks.toArray ek)) ∧ J (ks ++ [k]) { s' with heap := s'.heap.update kS (Obj.mapSeq (·.push k)) }) (fun _ _ => False) s
  kind : ∀ ks s, J ks s → ks.length = vs.length → 2 ≤ vs.length → ∃ κ, (∀ (Q : SortKind → Shared → Prop) (E : Value → Shared → Prop), Q κ s → wpAny (model prog w) A (keyKind' ks.toArray) Q E s) ∧ Cmp prog w A s κ (fun p => p.1 ∈ ks) (lt2 ltv)
  fin : ∀ ks s, J ks s → ks.length = vs.length → ∀ ps : List Keyed, Srtd (lt2 ltv) ps → Stb (lt2 ltv) ps (ks.zip vs) → R (.done (.ret .none)) { s with heap := doneHeap s.heap kS a (ps.map (·.2)).toArray }
theorem rest_ord {f : Value} {J : List Value → Shared → Prop} (O : Swo ltv) (ne : kS ≠ a) (hz : vs.length ≤ sizeLine) (h0 : J [] s) (Y : Keys prog w A f vs ltv R a kS e1 J) : wpAny (model prog w) A (ksk_rest a f false vs.toArray e1 (.ref kS)) R E s := by
  unfold ksk_rest
  refine wpAny_bind (wpAny_rule ?_)
  first
    | rw [List.forIn_toArray]
    | (rw [← Array.forIn_toList]; simp only [List.toList_toArray])
    | rw [← Array.forIn_toList]
  refine wpAny_bind (ksk_fold (fun i s' => ∃ ks, J ks s' ∧ ks.length = i) vs 0 s ⟨[], h0, rfl⟩ ?step ?done)
  case step =>
    rintro j x s' hx ⟨ks, hJ, lk⟩
    simp only [Nat.zero_add] at lk ⊢
    have hj : j < vs.length := (List.getElem?_eq_some_iff.mp hx).1
    refine wpAny_bind (wpAny_attempt (wpAny_mono (Y.turn ks x s' hJ (by rw [lk]; exact hx)) (fun k s'' he => ?_) fun _ _ hF => hF.elim))
    obtain ⟨⟨ek, hk⟩, hJ2⟩ := he
    try dsimp only
    refine wpAny_bind (listUpdate_at hk rfl ?_ (by rw [List.size_toArray]; omega) (Nat.le_trans (Nat.le_of_eq (Array.size_push ..)) (by rw [List.size_toArray]; omega)))
    exact wpAny_pure ⟨rfl, _, hJ2, by rw [List.length_append, lk]; rfl⟩
  case done =>
    rintro s' ⟨ks, hJ, lk⟩
    rw [Nat.zero_add] at lk
    obtain ⟨⟨ek, hk⟩, ha⟩ := Y.obj ks s' hJ
    try dsimp only
    refine wpAny_bind (listItems_at hk rfl ?_)
    exact end_ord O hk ha ne hz lk (Y.kind ks s' hJ lk) (Y.fin ks s' hJ lk)
theorem tree_ord {f : Value} {n : Nat} (O : Swo ltv) (ho : s.heap.get? a = some (seqObj "list" vs.toArray n)) (hz : vs.length ≤ sizeLine)
    (h : ∀ (h1 : Heap) (kS : Addr) (e1 : Nat), (∀ b o, b ≠ a → s.heap.get? b = some o → h1.get? b = some o) → h1.get? a = some (seqObj "list" #[] e1) → h1.get? kS = some (seqObj "list" #[] 0) → s.heap.objs.size ≤ kS →
      ∃ J, J [] { s with heap := h1 } ∧ Keys prog w A f vs ltv R a kS e1 J) : wpAny (model prog w) A (ksk_tree a f false) R E s := by
  have ha : a < s.heap.objs.size := Heap.lt_size ho
  have s1 := Heap.SameBut.update s.heap a (Obj.mapSeq fun _ => (#[] : Array Value))
  obtain ⟨e1, ho1⟩ : ∃ e1, (s.heap.update a (Obj.mapSeq fun _ => (#[] : Array Value))).get? a = some (seqObj "list" #[] e1) := ⟨_, get?_update_seq ho fun _ => #[]⟩
  have hkS : ((s.heap.update a (Obj.mapSeq fun _ => (#[] : Array Value))).push (seqObj "tuple" vs.toArray 0)).objs.size = s.heap.objs.size + 1 := by rw [size_push', Heap.size_update]
  unfold ksk_tree
  refine wpAny_bind (listItems_at ho rfl ?_)
  refine wpAny_bind (listUpdate_at ho rfl ?_ (by rw [List.size_toArray]; omega) (Nat.zero_le _))
  refine wpAny_bind (seqEpoch_at ho1 rfl ?_)
  refine wpAny_bind (wpAny_newTuple ?_ (by show vs.length ≤ _; exact hz))
  refine wpAny_bind (wpAny_newList ?_ (Nat.zero_le _))
  refine wpAny_holding ?_
  obtain ⟨J, j0, Y⟩ := h (((s.heap.update a (Obj.mapSeq fun _ => (#[] : Array Value))).push (seqObj "tuple" vs.toArray 0)).push (seqObj "list" #[] 0)) ((s.heap.update a (Obj.mapSeq fun _ => (#[] : Array Value))).push (seqObj "tuple" vs.toArray 0)).objs.size e1
    (fun b o hb e => Heap.get?_push_of_some _ (Heap.get?_push_of_some _ ((Heap.get?_update_ne _ _ _ _ hb).trans e))) (Heap.get?_push_of_some _ (Heap.get?_push_of_some _ ho1)) (Heap.get?_push_size _ rfl) (by rw [hkS]; exact Nat.le_succ _)
  exact rest_ord (s := { s with heap := ((s.heap.update a (Obj.mapSeq fun _ => (#[] : Array Value))).push (seqObj "tuple" vs.toArray 0)).push (seqObj "list" #[] 0) }) O (by rw [hkS]; exact Nat.ne_of_gt (Nat.lt_succ_of_lt ha)) hz j0 Y
/-- sorted(l, key=q) -/
theorem sorted_ord {l q : Addr} {Q : Value → Shared → Prop} (O : Swo ltv) (hl : s.heap.IsList l vs.toArray) (hz : vs.length ≤ sizeLine)
    (h : ∀ (h1 : Heap) (d kS : Addr) (e1 : Nat), (∀ b o, s.heap.get? b = some o → h1.get? b = some o) → h1.get? d = some (seqObj "list" #[] e1) → h1.get? kS = some (seqObj "list" #[] 0) → s.heap.objs.size ≤ d → s.heap.objs.size ≤ kS → kS ≠ d →
      ∃ J, J [] { s with heap := h1 } ∧ Keys prog w A.in1.in1 (.ref q) vs ltv (fun r s' => r = .done (.ret .none) ∧ Q (.ref d) s') d kS e1 J) :
    wpAny (model prog w) A (call (.builtin "sorted") [.ref l] [(Str.ofString "key", .ref q)]) Q E s := by
  refine call_function_entry_kw kind_sorted plain_sorted entry_sorted (ksk_s1 _ _) ?_
  unfold Builtin.«sorted»
  refine wpAny_bind (m := checkCount "sorted" 1 1 _) (wpAny_pure ?_)
  refine wpAny_bind (collect_list hl ?_ hz)
  refine wpAny_bind (wpAny_newList ?_ hz)
  have hsz : ((s.heap.push (seqObj "list" #[] 0)).update s.heap.objs.size (Obj.mapSeq (· ++ vs.toArray))).objs.size = s.heap.objs.size + 1 := by
    rw [Heap.size_update, size_push']
  have hoL : (((s.heap.push (seqObj "list" #[] 0)).update s.heap.objs.size (Obj.mapSeq (· ++ vs.toArray))).push (seqObj "list" vs.toArray 0)).get? (s.heap.objs.size + 1) = some (seqObj "list" vs.toArray 0) := by
    rw [← hsz]; exact Heap.get?_push_size _ rfl
  have keep : ∀ b o, s.heap.get? b = some o → b ≠ s.heap.objs.size + 1 ∧ (((s.heap.push (seqObj "list" #[] 0)).update s.heap.objs.size (Obj.mapSeq (· ++ vs.toArray))).push (seqObj "list" vs.toArray 0)).get? b = some o := fun b o q => by
    have hlt : b < s.heap.objs.size := Heap.lt_size q
    refine ⟨Nat.ne_of_lt (Nat.lt_succ_of_lt hlt), Heap.get?_push_of_some _ ?_⟩
    rw [Heap.get?_update_ne _ _ _ _ (Nat.ne_of_lt hlt)]
    exact Heap.get?_push_of_some _ q
  have size2 : (((s.heap.push (seqObj "list" #[] 0)).update s.heap.objs.size (Obj.mapSeq (· ++ vs.toArray))).push (seqObj "list" vs.toArray 0)).objs.size = s.heap.objs.size + 2 := by rw [size_push', hsz]
  show wpAny _ _ _ _ _ { s with heap := ((s.heap.push (seqObj "list" #[] 0)).update s.heap.objs.size (Obj.mapSeq (· ++ vs.toArray))).push (seqObj "list" vs.toArray 0) }
  rw [hsz]
  refine wpAny_bind (wpAny_holding (wpAny_call_entry_kw slot_list_sort ⟨_, hoL, rfl⟩ entry_list_sort ?_ (ksk_l1 _ _)))
  rw [ksk_t1]
  refine tree_ord O hoL hz fun h1 kS e1 hk ha hkS hge => ?_
  dsimp only at hge hk
  rw [size2] at hge
  obtain ⟨J, j0, Y⟩ := h h1 (s.heap.objs.size + 1) kS e1 (fun b o q => hk b o (keep b o q).1 (keep b o q).2) ha hkS (Nat.le_succ _) (Nat.le_trans (Nat.le_add_right _ 2) hge) (Nat.ne_of_gt (Nat.lt_of_lt_of_le (Nat.lt_succ_self _) hge))
  refine ⟨J, j0, ⟨Y.obj, Y.turn, Y.kind, fun ks s' hJ hl ps h1 h2 => ?_⟩⟩
  obtain ⟨_, z⟩ := Y.fin ks s' hJ hl ps h1 h2
  exact ⟨_, rfl, wpAny_pure ⟨_, rfl, z⟩⟩
end
end SrtL
set_option Elab.async false
set_option linter.all false
set_option maxRecDepth 100001
set_option maxHeartbeats 3999999
namespace LamX
open PySem PySem.Spec PyProof.Rows L2
/-! ### a lambda of one parameter -/
structure LamP (sc scope : Scope) (a : Str) : Prop where
  kind : scope.kind = .function
  co : scope.isCoroutine = false
  gen : scope.isGenerator = false
  par : scope.names.lookup a = some .local
  own : ∀ y ∈ scope.names, y.2 ≠ .cell ∧ (y.2 = .local → y.1 = a)
  free : ∀ y ∈ scope.names, y.2 = .free → sc.names.lookup y.1 = some .cell ∨ sc.names.lookup y.1 = some .free
def lamPB (sc scope : Scope) (a : Str) : Bool :=
  decide (scope.kind = .function) && !scope.isCoroutine && !scope.isGenerator && decide (scope.names.lookup a = some .local) && scope.names.all fun y => !decide (y.2 = .cell) && (!decide (y.2 = .local) || decide (y.1 = a)) && (!decide (y.2 = .free) || decide (sc.names.lookup y.1 = some .cell) || decide (sc.names.lookup y.1 = some .free))
theorem lamP_by {sc scope : Scope} {a : Str} (h : lamPB sc scope a = true) : LamP sc scope a := by
  unfold lamPB at h
  simp only [Bool.and_eq_true, Bool.or_eq_true, Bool.not_eq_true', decide_eq_true_eq, decide_eq_false_iff_not, List.all_eq_true] at h
  obtain ⟨⟨⟨⟨h1, h2⟩, h3⟩, h0⟩, h4⟩ := h
  refine ⟨h1, h2, h3, h0, fun y hy => ⟨(h4 y hy).1.1, fun e => ?_⟩, fun y hy e => ?_⟩
  · rcases (h4 y hy).1.2 with z | z
    · exact absurd e z
    · exact z
  · rcases (h4 y hy).2 with (z | z) | z
    · exact absurd e z
    · exact .inl z
    · exact .inr z
theorem LamP.has {X : Cx} {scope : Scope} {a : Str} (L : LamP X.env.scope scope a) (ok : X.Ok) : ∀ y ∈ scope.names, y.2 = .free → ∃ c, X.env.cells.lookup y.1 = some c := fun y hy e => by
  rcases L.free y hy e with k | k
  · exact ok.has _ (.inl k)
  · exact ok.has _ (.inr k)
section
variable {X : Cx} {pins : List (Addr × Obj)} {σ : L2.St} {H : Hp} {s : Shared}
theorem lam_start1 {A : Around} {E : XK} {scope : Scope} {a : Str} {i : Nat} {v : V} {u : Value} {f c' : Addr} {h₁ : Heap} {tk : Nat} (I : Inv X pins σ H s) (L : LamP X.env.scope scope a) (hA : A.frames = some X.stack) (hd : A.handled = none) (nd : X.N.Nodup) (hN : X.N[i]? = some a) (rv : RelV v u)
    (hns : h₁.Ns s.heap.objs.size fun y => ([(a, u)] : List (Str × Value)).reverse.lookup y) (kp : ∀ b o, s.heap.get? b = some o → h₁.get? b = some o) :
    Inv (lamCx X A X.stack s H E scope f c') [] (σ.set i (some v)) H { s with heap := h₁, toks := tk } := by
  have e0 := I.env0
  have hfree := L.has I.ok
  have cm : ∀ {y c}, (cloFrom X.env.cells scope.names []).lookup y = some c → X.env.cells.lookup y = some c := fun {y c} e => by
    rcases cloFrom_mem (PySem.mem_of_lookup e) with hm | ⟨h1, h2⟩
    · cases hm
    · obtain ⟨c1, hc⟩ := hfree _ h1 rfl
      have hc : X.env.cells.lookup y = some c1 := hc
      have e2 : c = c1 := by
        rw [h2, hc] <;> rfl
      rw [e2]
      exact hc
  have look : ∀ {y}, scope.names.lookup y = some .free → ∃ c, (cloFrom X.env.cells scope.names []).lookup y = some c := fun {y} hl => by
    have hy : (y, NameKind.free) ∈ scope.names := PySem.mem_of_lookup hl
    exact mem_lookup (cloFrom_has (cells := X.env.cells) (acc := []) hy)
  have cellK : ∀ {c : Addr} {v : Option Value}, s.heap.IsCell c v → h₁.IsCell c v := fun {c v} ⟨o, ho, hd⟩ => ⟨o, kp _ _ ho, hd⟩
  have noA : ∀ b : Addr, b ∉ (lamCx X A X.stack s H E scope f c').ex := fun b z => absurd (show b ∈ ([] : List Addr) from z) (by simp)
  refine ⟨⟨e0.mod, L.kind, rfl, rfl, Nat.le_refl _, fun y z c e1 e2 => I.ok.inj y z c (cm e1) (cm e2), fun y hy => ?_, fun y c z _ => ?_, fun _ => hd, Around.frames_deeper hA, .inr ⟨rfl, rfl⟩, fun b z => absurd z (noA b), e0.bs, e0.bsz, fun b _ _ => noA b,
      fun b z => absurd z (noA b), e0.funs, e0.frf⟩,
    rfl, e0.bare, Un.kept kp, ⟨_, hns, fun j y w e1 e2 e3 => ?_⟩, fun y c e => ?_, e0.hok.fresh (Nat.le_refl _), fun y c e => I.freeC y c (cm e), fun q hq => absurd (show q ∈ ([] : List (Addr × Obj)) ++ [] from hq) (by simp), e0.hok.kept kp, by rw [List.length_set]; exact I.len⟩
  · have hy : scope.names.lookup y = some .cell ∨ scope.names.lookup y = some .free := hy
    rcases hy with hy | hy
    · exact absurd rfl (L.own _ (PySem.mem_of_lookup hy)).1
    · exact look hy
  · have z : false = true := z
    cases z
  · have e1 : X.N[j]? = some y := e1
    by_cases ej : j = i
    · rw [ej] at e1 e2
      rw [hN] at e1
      cases e1
      have lt : i < σ.length := by rw [I.len]; exact (List.getElem?_eq_some_iff.mp hN).1
      rw [List.getElem?_set_self lt] at e2
      cases e2
      refine ⟨u, rv, .inl ⟨L.par, ?_⟩⟩
      simp [List.lookup]
    · rw [List.getElem?_set_ne (fun z => ej z.symm)] at e2
      have ya : y ≠ a := fun z => ej (nodup_ix nd (z ▸ e1) hN)
      have e3 : Vis scope y := e3
      rcases e3 with k | k | k
      · exact absurd ((L.own _ (PySem.mem_of_lookup k)).2 rfl) ya
      · exact absurd rfl (L.own _ (PySem.mem_of_lookup k)).1
      · obtain ⟨m, hn, hl⟩ := I.loc
        have hvis : Vis X.env.scope y := (L.free _ (PySem.mem_of_lookup k) rfl).elim (fun k => .inr (.inl k)) (fun k => .inr (.inr k))
        obtain ⟨w', r, q⟩ := hl j y w e1 e2 hvis
        obtain ⟨c2, h2⟩ := look k
        refine ⟨w', r, .inr ⟨.inr k, c2, h2, ?_⟩⟩
        have c1 := cm h2
        rcases q with ⟨k', _⟩ | ⟨_, c3, e', z⟩
        · have k' : X.env.scope.names.lookup y = some .local := k'
          rcases L.free _ (PySem.mem_of_lookup k) rfl with k2 | k2 <;> rw [show X.env.scope.names.lookup y = _ from k2] at k' <;> cases k'
        · rw [c1] at e'
          cases e'
          exact cellK z
  · obtain ⟨w', z⟩ := I.cell y c (cm e)
    exact ⟨w', cellK z⟩
/-- the lambda called with one value, in the def that made it -/
theorem lam_call1 {A : Around} {scope : Scope} {a : Str} {i k : Nat} {v : V} {u pm ctv : Value} {f c' : Addr} {params : Arguments} {body : Expr} {tb : TE} {Q : VK} (I : Inv X pins σ H s) (L : LamP X.env.scope scope a) (hA : A.frames = some X.stack) (hr : Room (k + 1) A) (nd : X.N.Nodup) (hN : X.N[i]? = some a) (rv : RelV v u)
    (hf : s.heap.get? f = some (PySem.W.kla_obj "<lambda>" (X.env.qual ++ "<lambda>") params body scope (cloFrom X.env.cells scope.names []) pm c' ctv)) (hc : H c' = some (CodeO c' (X.env.qual ++ "<lambda>")))
    (hbind : bindArgs (PySem.W.kla_fn "<lambda>" (X.env.qual ++ "<lambda>") params body scope (cloFrom X.env.cells scope.names []) pm (.ref c') ctv) ⟨[u], []⟩ = pure [(a, u)])
    (hbody : Room k (A.deeper (lamEnv X scope s.heap.objs.size f c')) → PE (lamCx X A X.stack s H C8.E0 scope f c') body tb) (ht : tb (σ.set i (some v)) H Q) :
    codeAny (model X.prog X.w) A (.call (.ref f) ⟨[u], []⟩) (CR (L2.CX X.prog X.w) X.stack X.prog X.w H s Q C8.E0) s := by
  obtain ⟨⟨oc, vs, t, hoc, hdc, hvc⟩, _, _⟩ := I.hok c' _ hc
  refine PySem.W.kla_callFunE hr.depth hf rfl L.co L.gen rfl ⟨c', oc, vs, t, rfl, hoc, hdc, hvc⟩ ?_
  rw [hbind]
  refine wpAny_pure (wpAny_newFunctionEnv (fun y hy => (L.own y hy).1) (fun y hy => ?_) (fun h₁ hns hsb => ⟨I.nolimit.fresh _ hsb, ?_⟩) L.kind)
  · rw [List.mem_singleton.mp hy]
    exact L.par
  show codeAny _ _ (.expr body (lamEnv X scope s.heap.objs.size f c')) _ _
  have kp : ∀ b o, s.heap.get? b = some o → h₁.get? b = some o := fun b o e => hsb.extBut b o (Nat.ne_of_lt (Heap.lt_size e)) (Heap.get?_push_of_some _ e)
  have J : Inv (lamCx X A X.stack s H C8.E0 scope f c') [] (σ.set i (some v)) H { s with heap := h₁, toks := s.toks + ([(a, u)] : List (Str × Value)).length } := lam_start1 I L hA hr.hd nd hN rv hns kp
  refine PySem.W.kla_codeExpr (wpAny_mono ((hbody (hr.deeper _)).run [] _ _ H Q J ht) (fun v s' hq => ?_) fun e s' hq => hq)
  obtain ⟨w', H', J', rv, q⟩ := hq
  exact ⟨w', H', J'.os, J'.bare, J'.base, J'.hok, rv, q⟩
end
end LamX
set_option Elab.async false
set_option linter.all false
set_option maxRecDepth 100001
set_option maxHeartbeats 3999999
namespace SrtL
open PySem PyProof.Rows Srt SrtO L2 LamX
/-! ### orders of keys -/
structure KeyOrd (α : Type) where
  lt : α → α → Bool
  enc : α → V
  dec : Value → α
  val : α → Value
  swo : Swo lt
  rel : ∀ k u, RelV (enc k) u → dec u = k
  back : ∀ k, dec (val k) = k
  sortable : ∀ {prog : Program} {w : World} {A : Around} {s : Shared} (us : List Value), (∀ u ∈ us, ∃ k, RelV (enc k) u) → 2 ≤ us.length →
    ∃ κ, (∀ (Q : SortKind → Shared → Prop) (E : Value → Shared → Prop), Q κ s → wpAny (model prog w) A (keyKind' us.toArray) Q E s) ∧ Cmp prog w A s κ (fun p => p.1 ∈ us) (lt2 fun x y => lt (dec x) (dec y))
theorem swo_dec {α β : Type} {lt : α → α → Bool} (O : Swo lt) (f : β → α) : Swo fun x y => lt (f x) (f y) := ⟨fun x y h => O.asym _ _ h, fun x y z h1 h2 => O.tr _ _ _ h1 h2⟩
def decI : Value → Int
  | .int i _ => i
  | _ => 0
def decS : Value → Str
  | .str z _ => z
  | _ => Str.empty
theorem ints_dec : ∀ {us : List Value}, (∀ u ∈ us, ∃ k, RelV (.int k) u) → IntsAre us (us.map decI)
  | [], _ => .nil
  | u :: us, h => by
    obtain ⟨k, t, e⟩ := h u List.mem_cons_self
    subst e
    exact .cons k t (ints_dec fun v hv => h v (List.mem_cons_of_mem _ hv))
def ordInt : KeyOrd Int where
  lt i j := decide (i < j)
  enc := .int
  dec := decI
  val i := .int i 0
  swo := ⟨fun x y h => by have := of_decide_eq_true h; exact decide_eq_false (by omega), fun x y z h1 h2 => by have := of_decide_eq_false h1; have := of_decide_eq_false h2; exact decide_eq_false (by omega)⟩
  rel k u h := by obtain ⟨t, rfl⟩ := h; rfl
  back k := rfl
  sortable us h h2 := by
    have hI := ints_dec h
    refine ⟨oneType', fun Q E hq => ?_, fun p q hm hm' => ?_⟩
    · match us, hI, h2 with
      | v1 :: v2 :: rest, hI, _ =>
        rw [keyKind_ints hI]
        exact wpAny_pure hq
      | [], _, h => exact absurd h (by decide)
      | [v], _, h => exact absurd h (by simp)
    · obtain ⟨a, t, e⟩ := h _ hm
      obtain ⟨b, u, e'⟩ := h _ hm'
      show wpAny _ _ (keyLt' oneType' p.1 q.1) (fun r s' => s' = _ ∧ r = decide (decI p.1 < decI q.1)) (fun _ _ => False) _
      rw [e, e', keyLt'_oneType]
      exact oneLt_int ⟨rfl, rfl⟩
theorem strs_dec : ∀ {us : List Value}, (∀ u ∈ us, ∃ k, RelV (.str k) u) → StrsAre us (us.map decS)
  | [], _ => .nil
  | u :: us, h => by
    obtain ⟨k, t, e⟩ := h u List.mem_cons_self
    subst e
    exact .cons k t (strs_dec fun v hv => h v (List.mem_cons_of_mem _ hv))
theorem swo_nats : Swo fun (a b : List Nat) => decide (a < b) := by
  refine ⟨fun x y h => ?_, fun x y z h1 h2 => ?_⟩
  · have h := of_decide_eq_true h
    exact decide_eq_false fun z => List.lt_irrefl x (List.lt_trans h z)
  · have h1 := List.not_lt.mp (of_decide_eq_false h1)
    have h2 := List.not_lt.mp (of_decide_eq_false h2)
    exact decide_eq_false (List.not_lt.mpr (List.le_trans h1 h2))
def ordStr : KeyOrd Str where
  lt a b := decide (a.cps.toList < b.cps.toList)
  enc := .str
  dec := decS
  val z := .str z 0
  swo := swo_dec swo_nats fun a : Str => a.cps.toList
  rel k u h := by obtain ⟨t, rfl⟩ := h; rfl
  back k := rfl
  sortable us h h2 := by
    have hI := strs_dec h
    refine ⟨oneType', fun Q E hq => ?_, fun p q hm hm' => ?_⟩
    · match us, hI, h2 with
      | v1 :: v2 :: rest, hI, _ =>
        rw [keyKind_strs hI]
        exact wpAny_pure hq
      | [], _, h => exact absurd h (by decide)
      | [v], _, h => exact absurd h (by simp)
    · obtain ⟨a, t, e⟩ := h _ hm
      obtain ⟨b, u, e'⟩ := h _ hm'
      show wpAny _ _ (keyLt' oneType' p.1 q.1) (fun r s' => s' = _ ∧ r = decide ((decS p.1).cps.toList < (decS q.1).cps.toList)) (fun _ _ => False) _
      rw [e, e', keyLt'_oneType]
      exact oneLt_str ⟨rfl, rfl⟩
end SrtL
set_option Elab.async false
set_option linter.all false
set_option maxRecDepth 100001
set_option maxHeartbeats 3999999
namespace SrtL
open PySem PyProof.Rows Srt SrtO L2 LamX
def bk (u : Value) : V := (absV u).getD .non
theorem bk_rel {x : V} {u : Value} (r : RelV x u) : bk u = x := by
  unfold bk
  rw [r.abs]
  rfl
section
variable {α : Type} (O : KeyOrd α) (g : V → α)
theorem zip_fact : ∀ {xs : List V} {vs ks : List Value}, Vals xs vs → Vals (xs.map fun x => O.enc (g x)) ks → (∀ p ∈ ks.zip vs, O.dec p.1 = g (bk p.2) ∧ RelV (bk p.2) p.2) ∧ (ks.zip vs).map (fun p => bk p.2) = xs
  | [], _, _, .nil, .nil => ⟨fun _ h => (by simp at h), rfl⟩
  | x :: xs, _, _, .cons r t, .cons r2 t2 => by
    obtain ⟨h1, h2⟩ := zip_fact t t2
    refine ⟨fun p hp => ?_, ?_⟩
    · rw [List.zip_cons_cons] at hp
      rcases List.mem_cons.mp hp with rfl | hp
      · rw [bk_rel r]
        exact ⟨O.rel _ _ r2, r⟩
      · exact h1 p hp
    · rw [List.zip_cons_cons, List.map_cons, h2]
      show bk _ :: xs = x :: xs
      rw [bk_rel r]
abbrev ltG (x y : V) : Bool := O.lt (g x) (g y)
abbrev ltD (x y : Value) : Bool := O.lt (O.dec x) (O.dec y)
theorem conv {xs : List V} {vs ks : List Value} {ps : List Keyed} (hv : Vals xs vs) (hk : Vals (xs.map fun x => O.enc (g x)) ks) (h1 : Srtd (lt2 (ltD O)) ps) (h2 : Stb (lt2 (ltD O)) ps (ks.zip vs)) :
    Vals (ps.map fun p => bk p.2) (ps.map (·.2)) ∧ Srtd (ltG O g) (ps.map fun p => bk p.2) ∧ Stb (ltG O g) (ps.map fun p => bk p.2) xs := by
  obtain ⟨f1, f2⟩ := zip_fact O g hv hk
  have mem : ∀ p ∈ ps, O.dec p.1 = g (bk p.2) ∧ RelV (bk p.2) p.2 := fun p hp => f1 p (h2.perm.mem_iff.mp hp)
  refine ⟨?_, ?_, ?_⟩
  · clear h1 h2
    induction ps with
    | nil => exact .nil
    | cons p ps ih => exact .cons (mem p List.mem_cons_self).2 (ih fun q hq => mem q (List.mem_cons_of_mem _ hq))
  · refine srtd_map (f := fun p : Keyed => bk p.2) (lt := ltG O g) ?_
    refine List.Pairwise.imp_of_mem (fun {p q} hp hq hr => ?_) h1
    show O.lt (g (bk q.2)) (g (bk p.2)) = false
    rw [← (mem p hp).1, ← (mem q hq).1]
    exact hr
  · have h3 : Stb (fun p q : Keyed => ltG O g (bk p.2) (bk q.2)) ps (ks.zip vs) := by
      refine ⟨h2.perm, fun x => ?_⟩
      have e : ∀ p : Keyed, O.dec p.1 = g (bk p.2) → eqv (fun p q : Keyed => ltG O g (bk p.2) (bk q.2)) x p = eqv (lt2 (ltD O)) (O.val (g (bk x.2)), x.2) p := by
        intro p hp
        show (!O.lt (g (bk x.2)) (g (bk p.2)) && !O.lt (g (bk p.2)) (g (bk x.2))) = (!O.lt (O.dec (O.val (g (bk x.2)))) (O.dec p.1) && !O.lt (O.dec p.1) (O.dec (O.val (g (bk x.2)))))
        rw [O.back, hp]
      rw [List.filter_congr fun p hp => e p (mem p hp).1, List.filter_congr fun p hp => e p (f1 p hp).1]
      exact h2.cls _
    have h4 := Stb.map (swo_dec O.swo g) (fun p : Keyed => bk p.2) h3
    rw [f2] at h4
    exact h4
end
/-- sorted(e, key=lambda x: tb): the keys are read at one and the same heap -/
def tSortLam {α : Type} (Tb : List (Addr × Str)) (K : PySem.W.Frag) (O : KeyOrd α) (i : Nat) (te tb : TE) : TE := fun σ H Q => te σ H fun x H1 => ∃ (a : Addr) (xs : List V) (g : V → α), x = .ref a ∧ SqL K H1 a xs ∧ Tabs Tb H1 ∧
  ∀ H2, ExtN H1 H2 → Tabs Tb H2 → SqL K H2 a xs ∧ (∀ v ∈ xs, tb (σ.set i (some v)) H2 fun kv H4 => kv = O.enc (g v) ∧ H4 = H2) ∧
    ∀ ys p, Srtd (ltG O g) ys → Stb (ltG O g) ys xs → H2 p = none → Q (.ref p) (upd H2 p (.lst ys))
section
variable {X : Cx} {pins : List (Addr × Obj)} {σ : L2.St} {H : Hp} {s : Shared}
theorem fp_keep {b : Addr} {o : Obj} {H' : Hp} {h' : Heap} (I : Inv X pins σ H s) (un : Un (frs X.stack) [] H H' s.heap h') (hn : H b = none) (hf : b ∉ frs X.stack) (hb : s.heap.get? b = some o) : h'.get? b = some o := un.keep b o hb hn hf (by simp)
theorem fp_nofr {b : Addr} (I : Inv X pins σ H s) (hf : FpOk X pins H b) : b ∉ frs X.stack := fun z => by
  rcases List.mem_cons.mp (I.stkSub _ z) with e | e
  · exact hf.2.1 e
  · exact hf.2.2.1 e
/-- the sorted list is known from now on -/
theorem inv_done {kS d : Addr} {ks out : List Value} {ys : List V} {ek e1 : Nat} (I : Inv X pins σ H s) (fk : FpOk X pins H kS) (fd : FpOk X pins H d) (ne : kS ≠ d) (hk : s.heap.get? kS = some (seqObj "list" ks.toArray ek)) (hd : s.heap.get? d = some (seqObj "list" #[] e1))
    (hl : ys.length ≤ sizeLine) (hv : Vals ys out) : Inv X pins σ (upd H d (.lst ys)) { s with heap := doneHeap s.heap kS d out.toArray } := by
  have s1 := Heap.SameBut.update s.heap kS (Obj.mapSeq fun _ => (#[] : Array Value))
  have nd1 : (s.heap.update kS (Obj.mapSeq fun _ => (#[] : Array Value))).get? d = some (seqObj "list" #[] e1) := (s1.2 d ne.symm).trans hd
  obtain ⟨e2, hd2⟩ : ∃ e2, (doneHeap s.heap kS d out.toArray).get? d = some (seqObj "list" out.toArray e2) := ⟨_, get?_update_seq nd1 fun _ => out.toArray⟩
  obtain ⟨e3, hk3⟩ : ∃ e3, (s.heap.update kS (Obj.mapSeq fun _ => (#[] : Array Value))).get? kS = some (seqObj "list" #[] e3) := ⟨_, get?_update_seq hk fun _ => #[]⟩
  have kp : ∀ b o, b ≠ kS → b ≠ d → s.heap.get? b = some o → (doneHeap s.heap kS d out.toArray).get? b = some o := fun b o h1 h2 e => by
    show ((s.heap.update kS (Obj.mapSeq fun _ => (#[] : Array Value))).update d _).get? b = _
    rw [Heap.get?_update_ne _ _ _ _ h2, Heap.get?_update_ne _ _ _ _ h1]
    exact e
  have nK : ∀ b u, H b = some u → b ≠ kS := fun b u e z => by rw [z, fk.1] at e; cases e
  have nD : ∀ b u, H b = some u → b ≠ d := fun b u e z => by rw [z, fd.1] at e; cases e
  have stay : ∀ b u, H b = some u → upd H d (.lst ys) b = some u := fun b u e => (upd_ne (nD b u e)).trans e
  refine I.step (g' := s.gens) (t' := s.toks) (d' := s.drawn) (ch := [kS, d]) (fun b hb => ?_) (fun b o _ _ hc e _ => kp b o (fun z => hc (by simp [z])) (fun z => hc (by simp [z])) e) (fun b o _ _ hc e _ => ⟨o.slots, kp b o (fun z => hc (by simp [z])) (fun z => hc (by simp [z])) e⟩)
    (fun b o hc _ n => (upd_ne (fun z => hc (by simp [z]))).trans n) (fun b o hc e => ⟨o, kp b o (fun z => hc (by simp [z])) (fun z => hc (by simp [z])) e⟩) (fun b xs e => stay _ _ e) (fun b o u e => stay _ _ e) (fun b ps e => ⟨#[], by rw [stay _ _ e]; simp⟩) (fun m hm => ?_) (fun b u e => ?_) I.bare
  · rcases List.mem_cons.mp hb with rfl | hb
    · exact ⟨fk.2.2.2.1, fk.2.1, fk.2.2.2.2.1, fk.2.2.2.2.2⟩
    · rw [List.mem_singleton.mp hb]
      exact ⟨fd.2.2.2.1, fd.2.1, fd.2.2.2.2.1, fd.2.2.2.2.2⟩
  · obtain ⟨o, es, ep, ho, r⟩ := hm
    exact ⟨o, es, ep, kp _ o (Ne.symm fk.2.1) (Ne.symm fd.2.1) ho, r⟩
  · by_cases hb : b = d
    · rw [hb, upd_same] at e
      cases e
      rw [hb]
      exact ⟨hl, out, e2, hv, hd2⟩
    · rw [upd_ne hb] at e
      refine (I.hok b u e).stay (fun c v hc q => ?_) (fun _ q => stay _ _ q) fun _ _ q => stay _ _ q
      rcases hc with z | z
      · rw [z] at q ⊢
        exact kp _ _ (nK b u e) hb q
      · exact kp _ _ (nK c _ z) (nD c _ z) q
end
end SrtL
set_option Elab.async false
set_option linter.all false
set_option maxRecDepth 100001
set_option maxHeartbeats 3999999
namespace SrtL
open PySem PyProof.Rows Srt SrtO L2 LamX
section
variable {X : Cx} {p lpos kpos pos : Pos} {e : Expr} {te tb : TE} {α : Type}
theorem frames2 (I : X.Ok) : X.A.in1.in1.frames = some X.stack := I.frames
theorem pe_sortLam (O : KeyOrd α) {Tb : List (Addr × Str)} {c T : Addr} {k i : Nat} {a : Str} {params : Arguments} {body : Expr} {scope : Scope} (hg : Gl X "sorted") (hm : X.mg "sorted" = none) (he : PE X e te) (TB : TabB X.base X.mg c T) (hmT : (T, X.env.qual ++ "<lambda>") ∈ Tb) (hu : ∀ p ∈ Tb, p.1 = T → p.2 = X.env.qual ++ "<lambda>")
    (hr : Room (k + 3) X.A) (L : LamP X.env.scope scope a) (nd : X.N.Nodup) (hN : X.N[i]? = some a)
    (hbody : ∀ (s : Shared) (H : Hp) (f c' : Addr), Room k (X.A.in1.in1.deeper (lamEnv X scope s.heap.objs.size f c')) → PE (lamCx X X.A.in1.in1 X.stack s H C8.E0 scope f c') body tb)
    (hcode : X.env.code = .ref c := by rfl) (hdef : defaultsOf params X.env = ([], []) := by rfl)
    (hbind : ∀ (q : Str) (cl : List (Str × Addr)) (pm cv ctv u : Value), bindArgs (PySem.W.kla_fn "<lambda>" q params body scope cl pm cv ctv) ⟨[u], []⟩ = pure [(a, u)] := by intros; rfl)
    (hs0 : starEach [e] X.env = (false, eval e X.env) :: starEach [] X.env := by rfl) (hs : backTo pos (starEach [e] X.env) = (false, eval e X.env) :: backTo pos (starEach [] X.env) := by rfl) (hpl : (backTo pos (starEach [e] X.env)).any (·.1) = false := by rfl) :
    PE X (.Call (.Name "sorted" p) [e] [⟨some "key", .Lambda params body scope lpos, kpos⟩] pos) (tSortLam Tb X.K O i te tb) := by
  refine ⟨fun pins s σ H Q I h => ?_⟩
  refine wpAny_Call_Name_kw (ld_blt (u := Value.builtin "sorted") I hg hm (by decide +kernel) ?_ (by decide) (by decide))
  refine PyProof.Rows.callWith_kw (thn ((pa_cons he pa_nil hs0).run pos pins s σ H (fun vs H1 => match vs with
    | [x] => ∃ (a : Addr) (xs : List V) (g : V → α), x = .ref a ∧ SqL X.K H1 a xs ∧ Tabs Tb H1 ∧
  ∀ H2, ExtN H1 H2 → Tabs Tb H2 → SqL X.K H2 a xs ∧ (∀ v ∈ xs, tb (σ.set i (some v)) H2 fun kv H4 => kv = O.enc (g v) ∧ H4 = H2) ∧
    ∀ ys p, Srtd (ltG O g) ys → Stb (ltG O g) ys xs → H2 p = none → Q (.ref p) (upd H2 p (.lst ys))
    | _ => False) I h) fun us s1 ⟨vs, H1, I1, r1, q1⟩ => ?_) hs hpl (by rfl) (by rfl)
  obtain ⟨x, rfl, u, rfl, rx, q1⟩ : ∃ x, vs = [x] ∧ ∃ u, us = [u] ∧ RelV x u ∧ ∃ (a : Addr) (xs : List V) (g : V → α), x = .ref a ∧ SqL X.K H1 a xs ∧ Tabs Tb H1 ∧
      ∀ H2, ExtN H1 H2 → Tabs Tb H2 → SqL X.K H2 a xs ∧ (∀ v ∈ xs, tb (σ.set i (some v)) H2 fun kv H4 => kv = O.enc (g v) ∧ H4 = H2) ∧
        ∀ ys p, Srtd (ltG O g) ys → Stb (ltG O g) ys xs → H2 p = none → Q (.ref p) (upd H2 p (.lst ys)) := by
    cases vs with
    | nil => exact q1.elim
    | cons x r =>
      cases r with
      | nil =>
        cases r1 with
        | cons rx t =>
          cases t
          exact ⟨x, rfl, _, rfl, rx, q1⟩
      | cons y r => exact q1.elim
  obtain ⟨l, xs, g, rfl, hl1, hT1, q1⟩ := q1
  obtain rfl : u = Value.ref l := rx
  show wpAny _ _ (evalAll ((do let v ← eval (.Lambda params body scope lpos) X.env; standAt pos; pure v) :: (backToKw pos (keywordEach [] X.env)).map (·.2))) _ _ s1
  refine wpAny_evalAll_cons (wpAny_bind (lam_make2 I1 TB hcode hmT hu hT1 hdef (L.has I1.ok) fun f c' pm ctv H2 s2 I2 e12 hT2 hf hfn hfr hc => wpAny_bind (wpAny_standAt (wpAny_pure ?_))))
  refine wpAny_evalAll_nil ?_
  show wpAny _ _ (call (.builtin "sorted") [.ref l] [(Str.ofString "key", .ref f)]) _ _ s2
  obtain ⟨hl2, hkey, hend⟩ := q1 H2 e12 hT2
  obtain ⟨its, rv, hil, hz⟩ := I2.list hl2
  refine sorted_ord (vs := its) (ltv := ltD O) (swo_dec O.swo O.dec) hil.isList (by rw [← rv.length]; exact hz) fun h1 d kS e1 hkp hd hkS gd gk nkd => ?_
  have fk : FpOk X pins H2 kS := I2.fpOk gk (I2.hok.fresh gk)
  have fd : FpOk X pins H2 d := I2.fpOk gd (I2.hok.fresh gd)
  have hroom : Room (k + 1) X.A.in1.in1 := (Room.in1 (Room.in1 hr))
  refine ⟨fun ks s' => Inv X pins σ H2 s' ∧ (∃ ek, s'.heap.get? kS = some (seqObj "list" ks.toArray ek)) ∧ s'.heap.get? d = some (seqObj "list" #[] e1) ∧ s'.heap.get? f = some (PySem.W.kla_obj "<lambda>" (X.env.qual ++ "<lambda>") params body scope (cloFrom X.env.cells scope.names []) pm c' ctv) ∧ Vals ((xs.take ks.length).map fun x => O.enc (g x)) ks,
    ⟨I2.kept (t' := s2.toks) hkp, ⟨0, hkS⟩, hd, hkp _ _ hf, by rw [List.length_nil, List.take_zero]; exact .nil⟩, ⟨fun ks s' h => ⟨h.2.1, h.2.2.1⟩, ?_, ?_, ?_⟩⟩
  · rintro ks u s' ⟨J, ⟨ek, jk⟩, jd, jf, jv⟩ hu2
    obtain ⟨x, hx, rx⟩ : ∃ x, xs[ks.length]? = some x ∧ RelV x u := by
      have lt : ks.length < xs.length := by rw [rv.length]; exact (List.getElem?_eq_some_iff.mp hu2).1
      obtain ⟨u', h1, h2⟩ := rv.get (List.getElem?_eq_getElem lt)
      rw [hu2] at h1
      cases h1
      exact ⟨_, List.getElem?_eq_getElem lt, h2⟩
    refine wpAny_call (codeAny_mono (lam_call1 (A := X.A.in1.in1) (i := i) (Q := fun kv H4 => kv = O.enc (g x) ∧ H4 = H2) J L J.ok.frames hroom nd hN rx jf hc (hbind _ _ _ _ _ _) (fun _ => hbody s' H2 f c' ‹_›) (hkey x (List.mem_of_getElem? hx))) fun r s'' hq => ?_)
    cases r with
    | error e =>
      obtain ⟨_, _, _, _, _, _, _, _, _, _, _, _, z⟩ := hq
      exact z
    | ok fl =>
      cases fl with
      | ret kv =>
        obtain ⟨v, H', os, bare, un, hok, rk, rfl, rfl⟩ := id hq
        obtain ⟨v2, H3, J2, _, _, rfl⟩ := J.after hq
        have kept : ∀ b o, H3 b = none → b ∉ frs X.stack → s'.heap.get? b = some o → s''.heap.get? b = some o := fun b o h1 h2 h3 => un.keep b o h3 h1 h2 (by simp)
        have jk2 := kept _ _ fk.1 (fp_nofr J fk) jk
        have jd2 := kept _ _ fd.1 (fp_nofr J fd) jd
        have jf2 := kept _ _ hfn hfr jf
        have sb := Heap.SameBut.update s''.heap kS (Obj.mapSeq (·.push kv))
        have kb : ∀ b o, b ≠ kS → s''.heap.get? b = some o → (s''.heap.update kS (Obj.mapSeq (·.push kv))).get? b = some o := fun b o hb e => (sb.2 b hb).trans e
        obtain ⟨c2, hc2⟩ : ∃ c2, (s''.heap.update kS (Obj.mapSeq (·.push kv))).get? kS = some (seqObj "list" (ks.toArray.push kv) c2) := ⟨_, get?_update_seq jk2 (·.push kv)⟩
        have nf : f ≠ kS := fun z => Nat.lt_irrefl _ (Nat.lt_of_lt_of_le (z ▸ Heap.lt_size hf) gk)
        refine ⟨⟨ek, jk2⟩, J2.turned (t' := s''.toks) kb fk.1 fk.2.1 fk.2.2.2.1 fk.2.2.2.2.1 fk.2.2.2.2.2, ⟨c2, by rw [hc2, List.push_toArray]⟩, kb _ _ nkd.symm jd2, kb _ _ nf jf2, ?_⟩
        have e1 : xs.take (ks ++ [kv]).length = xs.take ks.length ++ [x] := by
          rw [List.length_append, List.length_singleton, List.take_add_one, hx]
          rfl
        rw [e1, List.map_append]
        exact Paired.snoc jv rk
      | next => exact False.elim hq
      | brk => exact False.elim hq
      | cont => exact False.elim hq
  · rintro ks s' ⟨J, _, _, _, jv⟩ lk h2
    refine O.sortable ks (fun u hu => ?_) (by omega)
    obtain ⟨j, hj⟩ := List.mem_iff_getElem?.mp hu
    obtain ⟨lt, _⟩ := List.getElem?_eq_some_iff.mp hj
    have lt2 : j < ((xs.take ks.length).map fun x => O.enc (g x)).length := by rw [jv.length]; exact lt
    obtain ⟨u', h3, h4⟩ := jv.get (List.getElem?_eq_getElem lt2)
    rw [hj] at h3
    cases h3
    rw [List.getElem_map] at h4
    exact ⟨_, h4⟩
  · rintro ks s' ⟨J, ⟨ek, jk⟩, jd, _, jv⟩ lk ps h1 h2
    have lx : xs.length = ks.length := by rw [rv.length, lk]
    rw [← lx, List.take_length] at jv
    obtain ⟨y1, y2, y3⟩ := conv O g rv jv h1 h2
    refine ⟨rfl, .ref d, _, inv_done (ys := ps.map fun p => bk p.2) J fk fd nkd jk jd (by rw [y3.len]; exact hz) y1, rfl, hend _ d y2 y3 fd.1⟩
end
end SrtL
set_option Elab.async false
set_option linter.all false
set_option maxRecDepth 100001
set_option maxHeartbeats 1999999
/-! rules for texts: list(s), s * n, s[::-1], and for lists of ints: xs < ys. -/
namespace L2
open PySem.Spec PySem PyProof.Rows
def sgn (c : Nat) : V := .str ⟨#[c]⟩
def sgns (z : Str) : List V := z.cps.toList.map sgn
theorem vals_get : ∀ {xs : List V} {us : List Value}, xs.length = us.length → (∀ (j : Nat) x u, xs[j]? = some x → us[j]? = some u → RelV x u) → Vals xs us
  | [], [], _, _ => .nil
  | [], _ :: _, h, _ => by simp at h
  | _ :: _, [], h, _ => by simp at h
  | x :: xs, u :: us, h, k => .cons (k 0 x u rfl rfl) (vals_get (by simpa using h) fun j a b h1 h2 => k (j + 1) a b (by simpa using h1) (by simpa using h2))
section
variable {X : Cx}
/-- list(s) -/
theorem call_listS (hc : X.calm = true) : CallR X (.type "list") (fun xs H Q => ∃ z : Str, xs = [.str z] ∧ z.length ≤ sizeLine ∧ ∀ p, H p = none → Q (.ref p) (upd H p (.lst (sgns z)))) := by
  intro pins s σ H xs us Q I r h
  obtain ⟨z, rfl, hz, q⟩ := h
  obtain ⟨u, rfl, rx⟩ := vals1 r
  obtain ⟨t, rfl⟩ := rx
  refine PySem.call_list_str (I.ok.hd hc) z t (fun h' tk acc' c' hk hS hacc => ?_) hz
  refine ⟨.ref _, upd H s.heap.objs.size (.lst (sgns z)), I.laid (t' := tk) hk (Nat.le_refl _) ⟨?_, acc'.toList, c', ?_, by rw [hS]⟩, rfl, q _ (I.hok.fresh (Nat.le_refl _))⟩
  · unfold sgns
    rw [List.length_map, Array.length_toList]
    exact hz
  · refine vals_get ?_ fun j x u h1 h2 => ?_
    · unfold sgns
      rw [List.length_map, Array.length_toList, Array.length_toList, hacc.1]
    · unfold sgns at h1
      rw [List.getElem?_map] at h1
      rw [Array.getElem?_toList] at h2
      obtain ⟨c, t', hc', rfl⟩ := hacc.2 j u h2
      rw [Array.getElem?_toList, hc'] at h1
      cases h1
      exact ⟨t', rfl⟩
/-! ### xs < ys -/
theorem firstLt_map (e r : Nat → Bool) (fin : Bool) : ∀ l : List Nat, SeqAt.firstLt e r fin (l.map (· + 1)) = SeqAt.firstLt (fun j => e (j + 1)) (fun j => r (j + 1)) fin l
  | [] => rfl
  | j :: l => by
    rw [List.map_cons]
    unfold SeqAt.firstLt
    rw [firstLt_map e r fin l]
theorem firstLt_lex : ∀ ns ms : List Int, SeqAt.firstLt (fun j => ns.getD j 0 == ms.getD j 0) (fun j => decide (ns.getD j 0 < ms.getD j 0)) (decide (ns.length < ms.length)) (List.range (min ns.length ms.length)) = HT.lexLt ns ms
  | [], [] => rfl
  | [], y :: ys => by simp [SeqAt.firstLt, HT.lexLt]
  | x :: xs, [] => by simp [SeqAt.firstLt, HT.lexLt]
  | x :: xs, y :: ys => by
    have ih := firstLt_lex xs ys
    have e : List.range (min (x :: xs).length (y :: ys).length) = 0 :: (List.range (min xs.length ys.length)).map (· + 1) := by
      rw [List.length_cons, List.length_cons, Nat.succ_min_succ, List.range_succ_eq_map]
    rw [e, HT.lexLt_cons]
    show (if (x == y) = true then _ else decide (x < y)) = _
    by_cases c : x = y
    · rw [if_pos (by simpa using c), if_pos c, firstLt_map, ← ih]
      simp
    · rw [if_neg (by simpa using c), if_neg c]
theorem ints_get : ∀ {ns : List Int} {us : List Value}, Vals (ns.map V.int) us → ∀ (j : Nat) u, us[j]? = some u → ∃ t, u = .int (ns.getD j 0) t
  | [], _, .nil, j, u, h => by simp at h
  | n :: ns, _, .cons ⟨t, e⟩ r, 0, u, h => by
    simp at h
    subst h e
    exact ⟨t, rfl⟩
  | n :: ns, _, .cons _ r, j + 1, u, h => by
    obtain ⟨t, e⟩ := ints_get r j u (by simpa using h)
    exact ⟨t, by simpa using e⟩
def rLtLI (K : PySem.W.Frag) : R2 := fun x y H Q => ∃ a b ns ms, x = .ref a ∧ y = .ref b ∧ SqL K H a (ns.map V.int) ∧ SqL K H b (ms.map V.int) ∧ Q (.bl (HT.lexLt ns ms)) H
theorem op_ltLI (hu : X.A.units < cLine) : OpR X (compareOp .Lt) (rLtLI X.K) := by
  intro pins s σ H x y v u Q I rx ry h
  obtain ⟨a, b, ns, ms, rfl, rfl, ha, hb, q⟩ := h
  cases rx
  cases ry
  obtain ⟨its, r1, p1, _⟩ := I.list ha
  obtain ⟨its2, r2, p2, _⟩ := I.list hb
  have l1 : its.toArray.size = ns.length := by have := r1.length; simp at this ⊢; omega
  have l2 : its2.toArray.size = ms.length := by have := r2.length; simp at this ⊢; omega
  have g1 : ∀ j (h : j < its.toArray.size), ∃ t, its.toArray[j] = .int (ns.getD j 0) t := fun j h => ints_get r1 j _ (by simpa using (List.getElem?_eq_getElem (by simpa using h)))
  have g2 : ∀ j (h : j < its2.toArray.size), ∃ t, its2.toArray[j] = .int (ms.getD j 0) t := fun j h => ints_get r2 j _ (by simpa using (List.getElem?_eq_getElem (by simpa using h)))
  refine SeqAt.RcLt.lists (e := fun j => ns.getD j 0 == ms.getD j 0) (r := fun j => decide (ns.getD j 0 < ms.getD j 0)) p1.isList p2.isList hu (fun j h1 h2 => ?_) (fun j h1 h2 _ => ?_) X.prog X.w _ _ ?_
  · obtain ⟨t, e1⟩ := g1 j h1
    obtain ⟨t', e2⟩ := g2 j h2
    rw [e1, e2]
    exact SeqAt.EqAt.int_int _ _ _ _
  · obtain ⟨t, e1⟩ := g1 j h1
    obtain ⟨t', e2⟩ := g2 j h2
    rw [e1, e2]
    exact fun prog w E Q h => HT.rcLt_int _ _ _ _ _ _ prog w E Q h
  · rw [l1, l2, firstLt_lex]
    exact ⟨.bl _, H, I, rfl, q⟩
/-! ### s * n -/
def repS (z : Str) (k : Nat) : Str := ⟨((List.replicate k z.cps.toList).flatten).toArray⟩
theorem fold_rep (z : Array Nat) : ∀ (k : Nat) (a : Array Nat), ((List.replicate k z).foldl (· ++ ·) a) = a ++ ((List.replicate k z.toList).flatten).toArray
  | 0, a => by simp
  | k + 1, a => by
    rw [List.replicate_succ, List.foldl_cons, fold_rep z k, List.replicate_succ, List.flatten_cons]
    refine Array.ext' ?_
    simp
def rMulS : R2 := fun x y H Q => ∃ (z : Str) (k : Nat), x = .str z ∧ y = .int (k : Nat) ∧ 2 ≤ k ∧ k ≤ 1000 ∧ 1 ≤ z.length ∧ z.length ≤ 1000 ∧ Q (.str (repS z k)) H
theorem op_mulS : OpR X (binaryOp .Mult) rMulS := by
  intro pins s σ H x y v u Q I rx ry h
  obtain ⟨z, k, rfl, rfl, k2, k1, z1, z2, q⟩ := h
  obtain ⟨t, rfl⟩ := rx
  obtain ⟨t', rfl⟩ := ry
  have n1 : ¬ ((k : Nat) : Int) < 1 := by omega
  have n2 : (((k : Nat) : Int) == 1 || z.length == 0) = false := by
    simp
    omega
  refine P.mul_str (by simp; omega) (fun _ _ => ?_) (fun _ _ => ?_) ?_
  · have hk : (9007199254740 : Int) ≤ (2 ^ 63 - 1) / ((k : Nat) : Int) := by
      refine (Int.le_ediv_iff_mul_le (by omega)).mpr ?_
      have : (9007199254740 : Int) * ((k : Nat) : Int) ≤ 9007199254740 * 1000 := Int.mul_le_mul_of_nonneg_left (by omega) (by decide)
      have e : (9007199254740 : Int) * 1000 ≤ 2 ^ 63 - 1 := by decide
      omega
    omega
  · rw [Int.toNat_natCast]
    have : z.length * k ≤ 1000 * 1000 := Nat.mul_le_mul z2 k1
    exact decide_eq_false (Nat.not_lt.mpr (Nat.le_trans this (by decide)))
  · rw [if_neg n1, if_neg (by rw [n2]; decide), Int.toNat_natCast, fold_rep]
    have e : (#[] ++ ((List.replicate k z.cps.toList).flatten).toArray : Array Nat) = ((List.replicate k z.cps.toList).flatten).toArray := by simp
    rw [e]
    refine ⟨?_, .str (repS z k), H, I.tok _, ⟨_, rfl⟩, q⟩
    show (((List.replicate k z.cps.toList).flatten).toArray).size ≤ sizeLine
    rw [List.size_toArray, List.length_flatten, List.map_replicate, List.sum_replicate_nat, Array.length_toList]
    have : k * z.length ≤ 1000 * 1000 := Nat.mul_le_mul k1 z2
    exact Nat.le_trans this (by decide)
/-! ### s[::-1] -/
def revS (z : Str) : Str := ⟨z.cps.toList.reverse.toArray⟩
def tRevS (te : TE) : TE := fun σ H Q => te σ H fun x H1 => ∃ z : Str, x = .str z ∧ z.length ≤ sizeLine ∧ Q (.str (revS z)) H1
theorem pick_rev (z : Str) : (Builtin.Str.strSliceIndices none none (-1) z.length).filterMap (z.cps[·]?) = z.cps.toList.reverse := by
  show (sliceRange ((z.cps.size : Int) - 1) (-1) (-1)).filterMap (z.cps[·]?) = _
  rw [PySem.W.krv_sliceRange, PySem.W.krv_range, List.filterMap_reverse, PySem.W.krv_all]
theorem pe_revS {e : Expr} {te : TE} {k : Nat} {p1 p2 p3 pos : Pos} (he : PE X e te) : PE X (.Subscript e (.Slice none none (some (.UnaryOp .USub (.Constant (.int 1) k p1) p2)) p3) pos) (tRevS te) := by
  refine ⟨fun pins s σ H Q I h => ?_⟩
  refine Subscript_ (thn (he.run pins s σ H _ I h) fun v s1 ⟨x, H1, I1, r1, q1⟩ => ?_)
  obtain ⟨z, ex, hz, q⟩ := q1
  subst ex
  obtain ⟨t, rfl⟩ := r1
  have hst : PO X (some (.UnaryOp .USub (.Constant (.int 1) k p1) p2)) (tPart (tUn (rU fun i => .int (-i)) (tC (.int 1)))) := po_some (pe_un un_neg pe_int)
  refine wpAny_Slice (thn (po_none.run pins s1 σ H1 (fun o H2 => o = none ∧ H2 = H1) I1 ⟨rfl, rfl⟩) fun vl s2 ⟨l, H2, I2, pl, el, e2⟩ => ?_)
  subst el e2
  refine thn (po_none.run pins s2 σ H2 (fun o H3 => o = none ∧ H3 = H2) I2 ⟨rfl, rfl⟩) fun vu s3 ⟨u, H3, I3, pu, eu, e3⟩ => ?_
  subst eu e3
  refine thn (hst.run pins s3 σ H3 (fun o H4 => o = some (-1) ∧ H4 = H3) I3 ⟨1, rfl, -1, rfl, rfl, rfl⟩) fun vs s4 ⟨o, H4, I4, ps, eo, e4⟩ => ?_
  subst eo e4
  have I5 : Inv X pins σ H4 { s4 with heap := s4.heap.push { cls := .type "slice", data := .fields #[vl, vu, vs] } } := I4.kept (t' := s4.toks) fun b ob q => Heap.get?_push_of_some _ q
  obtain ⟨l0, rfl, e0⟩ := IsPart.raw pl
  obtain ⟨u0, rfl, e1⟩ := IsPart.raw pu
  obtain ⟨v0, rfl, e2⟩ := IsPart.raw ps
  have l0n : l0 = none := by cases l0 with | none => rfl | some _ => cases e0
  have u0n : u0 = none := by cases u0 with | none => rfl | some _ => cases e1
  subst l0n u0n
  obtain ⟨tk, rfl⟩ : ∃ tk, v0 = some (-1, tk) := by
    cases v0 with
    | none => cases e2
    | some p =>
      obtain ⟨a, b⟩ := p
      have : a = -1 := Option.some.inj e2
      exact ⟨b, by rw [this]⟩
  show wpAny (model X.prog X.w) X.A (subscriptTail e (.Slice none none (some (.UnaryOp .USub (.Constant (.int 1) k p1) p2)) p3) (.str z t) (.ref s4.heap.objs.size)) (EP X pins σ Q) X.xe _
  refine tail_any (ops := [.str z t, .ref s4.heap.objs.size]) (typeIs_str _ z t) F.slot_str_getitem.lookup ?_ (by with_unfolding_all rfl)
  refine wpAny_getItem_str_slice (l := none) (u := none) (st := some (-1, tk)) ⟨_, Heap.get?_push_size _ rfl, rfl, rfl⟩ rfl ?_
  show Made.post (if ((-1 : Int) == 1 && (Builtin.Str.strSliceIndices none none (-1) z.length).length == z.length) = true then Made.val (.str z t) else Made.str ⟨((Builtin.Str.strSliceIndices none none (-1) z.length).filterMap (z.cps[·]?)).toArray⟩) _ _
  rw [if_neg (by simp), pick_rev]
  refine ⟨?_, .str (revS z), H4, I5.tok _, ⟨_, rfl⟩, q⟩
  show (z.cps.toList.reverse.toArray).size ≤ sizeLine
  rw [List.size_toArray, List.length_reverse, Array.length_toList]
  exact hz
/-! ### sep.join(s), s a text -/
theorem mt_joinS (hc : X.calm = true) : MtR X "str.join" (fun x xs H Q => ∃ a z : Str, x = .str a ∧ xs = [.str z] ∧ JoinOk a (PyProof.Rows.signs z) = true ∧ Q (.str (Txt.join a (PyProof.Rows.signs z))) H) := by
  intro pins s σ H x xs v us Q I rx rs h
  obtain ⟨a, z, rfl, rfl, ok, q⟩ := h
  obtain ⟨t, rfl⟩ := rx
  obtain ⟨u, rfl, ru⟩ := vals1 rs
  obtain ⟨t', rfl⟩ := ru
  exact SC.joinStr (I.ok.hd hc) ok fun h' k t2 hk => ⟨.str _, H, I.kept (t' := k) hk, ⟨t2, rfl⟩, q⟩
end
end L2
set_option Elab.async false
set_option linter.all false
set_option maxRecDepth 100001
set_option maxHeartbeats 3999999
namespace K40
open PySem L2
def topS (i : Nat) : Stmt := PySem.Challenge.pw_wordvault_k40_whole_plans_of_codes.main.body.getD i (.Pass ⟨0, 0, 0, 0⟩)
abbrev sWhole : Stmt := topS 2
abbrev sBetween : Stmt := topS 3
abbrev sPen : Stmt := topS 55
abbrev sDraw : Stmt := topS 56
abbrev sPick : Stmt := topS 57
/-! what kinds of values are met -/
inductive Kn (H : Hp) : V → Prop where
  | non : Kn H .non
  | bl (b : Bool) : Kn H (.bl b)
  | int (i : Int) : Kn H (.int i)
  | str (x : Str) : Kn H (.str x)
  | lst {a : Addr} {xs : List V} (e : H a = some (.lst xs)) : Kn H (.ref a)
  | tup {a : Addr} {xs : List V} (e : H a = some (.tup xs)) : Kn H (.ref a)
theorem Kn.same {H H2 : Hp} {v : V} (k : Kn H v) (s : Same H H2) : Kn H2 v := by
  cases k with
  | non => exact .non
  | bl b => exact .bl b
  | int i => exact .int i
  | str x => exact .str x
  | lst e => exact .lst (s _ _ e)
  | tup e => exact .tup (s _ _ e)
def isI : V → Bool
  | .int _ => true
  | _ => false
def isB : V → Bool
  | .bl _ => true
  | _ => false
def isT (H : Hp) : V → Bool
  | .ref a => match H a with
    | some (.tup _) => true
    | _ => false
  | _ => false
def isL (H : Hp) : V → Bool
  | .ref a => match H a with
    | some (.lst _) => true
    | _ => false
  | _ => false
theorem isT_lst {H : Hp} {a : Addr} {xs : List V} (e : H a = some (.lst xs)) : isT H (.ref a) = false := by simp only [isT, e]
theorem isT_tup {H : Hp} {a : Addr} {xs : List V} (e : H a = some (.tup xs)) : isT H (.ref a) = true := by simp only [isT, e]
theorem isL_lst {H : Hp} {a : Addr} {xs : List V} (e : H a = some (.lst xs)) : isL H (.ref a) = true := by simp only [isL, e]
theorem isL_tup {H : Hp} {a : Addr} {xs : List V} (e : H a = some (.tup xs)) : isL H (.ref a) = false := by simp only [isL, e]
def KT (K : PySem.W.Frag) (t : String) (bi bb bt bl : Bool) : Prop := PySem.W.kitOne K (.type t) (.type "int") = some bi ∧ PySem.W.kitOne K (.type t) (.type "bool") = some bb ∧
    PySem.W.kitOne K (.type t) (.type "tuple") = some bt ∧ PySem.W.kitOne K (.type t) (.type "list") = some bl ∧ PySem.W.kitOne K (.type t) (.type "dict") = some false
theorem kt_of {K : PySem.W.Frag} {t : String} {bi bb bt bl : Bool} (h : kitB t "int" = some bi ∧ kitB t "bool" = some bb ∧ kitB t "tuple" = some bt ∧ kitB t "list" = some bl ∧ kitB t "dict" = some false) : KT K t bi bb bt bl := h
theorem kt_non {K : PySem.W.Frag} : KT K "NoneType" false false false false := kt_of (by decide +kernel)
theorem kt_bl {K : PySem.W.Frag} : KT K "bool" true true false false := kt_of (by decide +kernel)
theorem kt_int {K : PySem.W.Frag} : KT K "int" true false false false := kt_of (by decide +kernel)
theorem kt_str {K : PySem.W.Frag} : KT K "str" false false false false := kt_of (by decide +kernel)
theorem kt_lst {K : PySem.W.Frag} : KT K "list" false false false true := kt_of (by decide +kernel)
theorem kt_tup {K : PySem.W.Frag} : KT K "tuple" false false true false := kt_of (by decide +kernel)
/-- a known value's type, and what isinstance says of it -/
theorem Kn.kinds (K : PySem.W.Frag) {H : Hp} {v : V} (k : Kn H v) : ∃ t : String, TyX K H v (.type t) ∧ KT K t (isI v || isB v) (isB v) (isT H v) (isL H v) := by
  cases k with
  | non => exact ⟨_, .base .non, kt_non⟩
  | bl b => exact ⟨_, .base (.bl b), kt_bl⟩
  | int i => exact ⟨_, .base (.int i), kt_int⟩
  | str x => exact ⟨_, .base (.str x), kt_str⟩
  | lst e =>
    rw [isT_lst e, isL_lst e]
    exact ⟨_, .base (.lst e), kt_lst⟩
  | tup e =>
    rw [isT_tup e, isL_tup e]
    exact ⟨_, .base (.tup e), kt_tup⟩
def spWhole : Sp := fun vs H Q _ => ∃ v, vs = [v] ∧ Kn H v ∧ Q (.bl (isI v)) H
def btw : V → Int → Int → Bool
  | .int i, lo, hi => decide (lo ≤ i ∧ i ≤ hi)
  | _, _, _ => false
def spBetween : Sp := fun vs H Q _ => ∃ v lo hi, vs = [v, .int lo, .int hi] ∧ Kn H v ∧ Q (.bl (btw v lo hi)) H
/-- how many items a known tuple has -/
def isTn (H : Hp) (v : V) (n : Int) : Bool := match v with
  | .ref a => match H a with
    | some (.tup xs) => decide ((xs.length : Int) = n)
    | _ => false
  | _ => false
def spTupOf : Sp := fun vs H Q _ => ∃ v n, vs = [v, .int n] ∧ Kn H v ∧ Q (.bl (isTn H v n)) H
section
variable {P : Program} {w : World} {K : PySem.W.Frag} {mg : Str → Option Value} {base : Heap}
/-- a def of the top that may be called by its name; CX: what it may let out -/
structure Cal (CX : CXT) (P : Program) (w : World) (K : PySem.W.Frag) (mg : Str → Option Value) (base : Heap) (k : Nat) (x : Str) (sp : Sp) : Prop where
  ex : ∃ (f : Addr) (fd : FuncData) (ps : List Str), FnOk P w K mg base CX k f fd ps sp ∧ mg x = some (.ref f) ∧ PySem.W.keepIn K (.ref f) = true ∧ Binds K fd ps []
/-- a method of the class at C -/
structure Met (CX : CXT) (P : Program) (w : World) (K : PySem.W.Frag) (mg : Str → Option Value) (base : Heap) (k : Nat) (C : Addr) (m : Str) (sp : Sp) : Prop where
  ex : ∃ (f : Addr) (fd : FuncData) (ps : List Str), Cls K C ∧ Meth K C m f ∧ FnOk P w K mg base CX k f fd ps sp ∧ Binds K fd ps []
/-- a class that may be made by its name -/
structure Mak (CX : CXT) (P : Program) (w : World) (K : PySem.W.Frag) (mg : Str → Option Value) (base : Heap) (k : Nat) (x : Str) (C : Addr) (sp : Sp) : Prop where
  ex : ∃ (f : Addr) (fd : FuncData) (ps : List Str), Mk K C f ∧ FnOk P w K mg base CX k f fd ps sp ∧ mg x = some (.ref C) ∧ Binds K fd ps []
section
variable {X : Cx} {CX : CXT} {k j : Nat} {C : Addr} {x m : Str} {sp : Sp} {p pos apos : Pos} {e o : Expr} {es : List Expr} {ta : TE} {t : TA} {E : XK}
theorem pe_c (c : Cal CX X.prog X.w X.K X.mg X.base k x sp) (hr : Room j X.A) (hx : Passes CX X E) (ha : PA X (e :: es) t) (hk : k ≤ j := by decide) (hg : Gl X x := by rfl) (hdb : (x == ("__debug__" : Str)) = false := by decide)
    (he : starEach (e :: es) X.env = (false, eval e X.env) :: starEach es X.env := by rfl) (hpl : (backTo pos (starEach es X.env)).any (·.1) = false := by rfl) : PE X (.Call (.Name x p) (e :: es) [] pos) (tCall sp [] E t) := by
  obtain ⟨f, fd, ps, F, hm, kp, b⟩ := c.ex
  exact pe_call F (hr.mono hk) hg hm kp b .nil hx ha hdb he hpl
theorem pe_mt (c : Met CX X.prog X.w X.K X.mg X.base k C m sp) (hr : Room j X.A) (hx : Passes CX X E) (he : PE X o ta) (ha : PA X (e :: es) t) (hk : k ≤ j := by decide) {pl : Sem Bool}
    (hst : starEach (e :: es) X.env = (false, eval e X.env) :: starEach es X.env := by rfl) (hpl : (backTo pos (starEach es X.env)).any (·.1) = false := by rfl)
    (hc : eval (.Call (.Attribute o m apos) (e :: es) [] pos) X.env = (do
      let ov ← eval o X.env
      standAt apos.atName
      let (f, first) ← holding [ov] (getMethod ov m pl)
      callWith pos f first (backTo pos (starEach (e :: es) X.env)) (backToKw pos (keywordEach [] X.env))) := by rfl) :
    PE X (.Call (.Attribute o m apos) (e :: es) [] pos) (tMeth C m sp [] E ta t) := by
  obtain ⟨f, fd, ps, cc, hm, F, b⟩ := c.ex
  exact pe_meth he cc hm F (hr.mono hk) b .nil hx ha hst hpl hc
theorem pe_mt0 (c : Met CX X.prog X.w X.K X.mg X.base k C m sp) (hr : Room j X.A) (hx : Passes CX X E) (he : PE X o ta) (hk : k ≤ j := by decide) {pl : Sem Bool}
    (hc : eval (.Call (.Attribute o m apos) [] [] pos) X.env = (do
      let ov ← eval o X.env
      standAt apos.atName
      let (f, first) ← holding [ov] (getMethod ov m pl)
      callWith pos f first (backTo pos (starEach [] X.env)) (backToKw pos (keywordEach [] X.env))) := by rfl) :
    PE X (.Call (.Attribute o m apos) [] [] pos) (tMeth C m sp [] E ta tNil) := by
  obtain ⟨f, fd, ps, cc, hm, F, b⟩ := c.ex
  exact pe_meth0 he cc hm F (hr.mono hk) b .nil hx hc
theorem pe_mk (c : Mak CX X.prog X.w X.K X.mg X.base k x C sp) (hr : Room j X.A) (hx : Passes CX X E) (ha : PA X (e :: es) t) (hk : k + 1 ≤ j := by decide) (hg : Gl X x := by rfl) (hdb : (x == ("__debug__" : Str)) = false := by decide)
    (he : starEach (e :: es) X.env = (false, eval e X.env) :: starEach es X.env := by rfl) (hpl : (backTo pos (starEach es X.env)).any (·.1) = false := by rfl) : PE X (.Call (.Name x p) (e :: es) [] pos) (tMake C sp [] E t) := by
  obtain ⟨f, fd, ps, M, F, hm, b⟩ := c.ex
  exact pe_make M F (hr.mono hk) hg hm b .nil hx ha hdb he hpl
end
/-- the built-in names that the module leaves as they are -/
structure Bi (mg : Str → Option Value) : Prop where
  isi : mg "isinstance" = none
  int : mg "int" = none
  bool : mg "bool" = none
  tuple : mg "tuple" = none
  list : mg "list" = none
  dict : mg "dict" = none
  len : mg "len" = none
  enum : mg "enumerate" = none
  range : mg "range" = none
  abs : mg "abs" = none
  max : mg "max" = none
  min : mg "min" = none
section
variable {X : Cx}
theorem pe_isi {a : Expr} {es : List Expr} {t : TA} {p pos : Pos} (hm : X.mg "isinstance" = none) (ha : PA X (a :: es) t) (hg : Gl X "isinstance" := by rfl)
    (he : starEach (a :: es) X.env = (false, eval a X.env) :: starEach es X.env := by rfl) (hpl : (backTo pos (starEach es X.env)).any (·.1) = false := by rfl) :
    PE X (.Call (.Name "isinstance" p) (a :: es) [] pos) (tCB (rIsi X.K) t) := pe_callB call_isi hg hm PyProof.Rows.boot_isinstance ha (he := he) (hpl := hpl)
theorem pe_ty (n : String) {x : Str} {p : Pos} (hm : X.mg x = none) (hv : bootBuiltins x = some (.type n) := by decide +kernel) (hg : Gl X x := by rfl) (h1 : x ≠ "__name__" := by decide) (h2 : (x == ("__debug__" : Str)) = false := by decide) : PE X (.Name x p) (tC (.ty n)) :=
  pe_bltn (v := .ty n) hg hm hv rfl h1 h2
theorem pe_len {a : Expr} {es : List Expr} {t : TA} {p pos : Pos} (hm : X.mg "len" = none) (ha : PA X (a :: es) t) (hg : Gl X "len" := by rfl) (he : starEach (a :: es) X.env = (false, eval a X.env) :: starEach es X.env := by rfl)
    (hpl : (backTo pos (starEach es X.env)).any (·.1) = false := by rfl) :
    PE X (.Call (.Name "len" p) (a :: es) [] pos) (tCB (fun xs H Q => ∃ p ys, xs = [.ref p] ∧ (SqL X.K H p ys ∨ SqT X.K H p ys) ∧ Q (.int ys.length) H) t) := pe_callB call_len_seq hg hm PySem.boot_len ha (he := he) (hpl := hpl)
theorem pa1 {a : Expr} {ta : TE} (ha : PE X a ta) (hs : starEach (a :: []) X.env = (false, eval a X.env) :: starEach [] X.env := by rfl) : PA X [a] (tCons ta tNil) := pa_cons ha pa_nil hs
end
theorem scWhole : FnScope ["value"] ["value"] (defScope sWhole) := ⟨rfl, rfl, rfl, by decide +kernel, rfl, by decide +kernel, by decide +kernel⟩
theorem ok_whole {f : Addr} {fd : FuncData} (F : Fun K "is_whole" "is_whole" sWhole f fd) (B : Bi mg) : FnOk P w K mg base CX0 1 f fd ["value"] spWhole := by
  refine F.ok scWhole (fun vs H Q E h => ?_) (fun cdv A outer s H vs Q E hr h => ?_)
  · obtain ⟨v, rfl, _⟩ := h
    rfl
  · obtain ⟨v, rfl, k, q⟩ := h
    refine ⟨_, pss_one (ps_ret (pe_and (pe_isi B.isi (pa_cons (pv 0) (pa_cons (pe_ty "int" B.int) pa_nil))) (pe_one (pe_not (pe_isi B.isi (pa_cons (pv 0) (pa_cons (pe_ty "bool" B.bool) pa_nil))))))), ?_⟩
    obtain ⟨t, ty, k1, k2, _⟩ := k.kinds K
    refine ⟨v, rfl, v, _, _, _, _, rfl, .ty "int", ty, k1, _, rfl, ?_⟩
    cases v with
    | bl b => exact ⟨_, rfl, _, _, _, _, _, rfl, .ty "bool", ty, k2, _, rfl, q⟩
    | int i => exact ⟨_, rfl, _, _, _, _, _, rfl, .ty "bool", ty, k2, _, rfl, q⟩
    | _ => exact q
theorem scBetween : FnScope ["value", "low", "high"] ["value", "low", "high"] (defScope sBetween) := ⟨rfl, rfl, rfl, by decide +kernel, rfl, by decide +kernel, by decide +kernel⟩
theorem ok_between {f : Addr} {fd : FuncData} (F : Fun K "is_between" "is_between" sBetween f fd) (cW : Cal CX0 P w K mg base 1 "is_whole" spWhole) : FnOk P w K mg base CX0 2 f fd ["value", "low", "high"] spBetween := by
  refine F.ok scBetween (fun vs H Q E h => ?_) (fun cdv A outer s H vs Q E hr h => ?_)
  · obtain ⟨v, lo, hi, rfl, _⟩ := h
    rfl
  · obtain ⟨v, lo, hi, rfl, k, q⟩ := h
    refine ⟨_, pss_one (ps_ret (pe_and (pe_c cW hr pass0 (pa_cons (pv 0) pa_nil)) (pe_one (pe_chain op_le op_le (pv 1) (pv 0) (pv 2))))), ?_⟩
    refine ⟨v, rfl, v, rfl, k, _, rfl, ?_⟩
    cases v with
    | int i =>
      refine ⟨_, rfl, _, rfl, _, _, rfl, rfl, _, rfl, ?_⟩
      by_cases c : lo ≤ i
      · rw [decide_eq_true c]
        refine ⟨_, rfl, _, _, rfl, rfl, ?_⟩
        have e : decide (i ≤ hi) = btw (.int i) lo hi := by
          show decide (i ≤ hi) = decide (lo ≤ i ∧ i ≤ hi)
          exact decide_eq_decide.mpr ⟨fun h => ⟨c, h⟩, fun h => h.2⟩
        show Q (.bl (decide (i ≤ hi))) H
        rw [e]
        exact q
      · rw [decide_eq_false c]
        have e : false = btw (.int i) lo hi := (decide_eq_false fun h => c h.1).symm
        show Q (.bl false) H
        rw [e]
        exact q
    | _ => exact q
end
theorem Same.seqT {K : PySem.W.Frag} {H H' : Hp} {a : Addr} {xs : List V} (e : Same H H') (h : SqT K H a xs) : SqT K H' a xs := by
  rcases h with (h | ⟨o, h⟩) | h
  · exact .inl (.inl (e _ _ h))
  · exact .inl (.inr ⟨o, e _ _ h⟩)
  · exact .inr h
theorem same_new {H : Hp} {p : Addr} {o : HO} (n : H p = none) : Same H (upd H p o) := fun b u e => by
  rw [upd_ne (ne_of_none e n)]
  exact e
/-- a list or a tuple of these items -/
def Sq (K : PySem.W.Frag) (H : Hp) (a : Addr) (xs : List V) : Prop := SqL K H a xs ∨ SqT K H a xs
theorem Sq.same {K : PySem.W.Frag} {H H' : Hp} {a : Addr} {xs : List V} (q : Sq K H a xs) (e : Same H H') : Sq K H' a xs := q.imp (fun h => e.seq h) fun h => Same.seqT e h
section
variable {X : Cx} {tg e : Expr} {w1 w2 : TI}
/-- a list or a tuple, item by item -/
def iSqS (K : PySem.W.Frag) (te : TE) : TI := fun σ H R => te σ H fun x H1 => ∃ a xs, x = .ref a ∧ Sq K H1 a xs ∧ ∀ (J : It) (G : Hp → Prop), Walk J xs.length G (YAt xs) → (∀ H', Same H1 H' → G H') → R J H1
open PySem.Spec PyProof.Rows in
theorem pi_sq {te : TE} (he : PE X e te) : PI X tg e (iSqS X.K te) := by
  constructor
  intro pins s σ H R I h
  refine thn (he.run pins s σ H _ I h) fun u s1 hh => ?_
  obtain ⟨v, H1, I1, r1, a, xs, ev, sq, k⟩ := hh
  subst ev
  cases r1
  have near : ∀ b ∈ [s1.heap.objs.size], FpOk X pins H1 b := fun b hb => by
    rw [List.mem_singleton.mp hb]
    exact I1.fpOk (Nat.le_refl _) (I1.hok.fresh (Nat.le_refl _))
  have J1 : ∀ o : Obj, Inv X pins σ H1 { s1 with heap := s1.heap.push o } := fun o => I1.kept (t' := s1.toks) fun b u z => Heap.get?_push_of_some _ z
  rcases sq with hq | hq
  · obtain ⟨its, rv, p1, hz⟩ := I1.list hq
    exact wpAny_pyIter_list p1.isList ⟨s1.heap.objs.size, _, _, _, H1, rfl, J1 _, turn_list a _, ⟨_, Heap.get?_push_size _ rfl, rfl, rfl⟩, near, k _ _ walk_list fun H' z => z.seq hq⟩
  · obtain ⟨its, rv, p2, hz⟩ := I1.tuple hq
    exact wpAny_pyIter_tuple (show s1.heap.IsTuple a its.toArray from p2) ⟨s1.heap.objs.size, _, _, _, H1, rfl, J1 _, turn_tuple a _, ⟨_, Heap.get?_push_size _ rfl, rfl, rfl⟩, near, k _ _ walk_tup fun H' z => Same.seqT z hq⟩
end
/-! ### None or an int -/
def Num (v : V) : Prop := v = .non ∨ ∃ i, v = .int i
def dOf : V → PyData
  | .int i => .int i
  | .bl b => .bool b
  | .str x => .str x
  | _ => .none
theorem eqv_num {a b : V} (ha : Num a) (hb : Num b) : PyData.eqv (dOf a) (dOf b) = decide (a = b) := by
  rcases ha with rfl | ⟨i, rfl⟩ <;> rcases hb with rfl | ⟨j, rfl⟩
  · simp [dOf, PyData.eqv]
  · simp [dOf, PyData.eqv]
  · simp [dOf, PyData.eqv]
  · rw [dec_int]
    simp [dOf, PyData.eqv]
theorem eqvAll_num : ∀ {xs ys : List V}, (∀ v ∈ xs, Num v) → (∀ v ∈ ys, Num v) → PyData.eqvAll (xs.map dOf) (ys.map dOf) = decide (xs = ys)
  | [], [], _, _ => by simp [PyData.eqvAll]
  | [], _ :: _, _, _ => by simp [PyData.eqvAll]
  | _ :: _, [], _, _ => by simp [PyData.eqvAll]
  | x :: xs, y :: ys, hx, hy => by
    have ih := eqvAll_num (fun v m => hx v (List.mem_cons_of_mem _ m)) fun v m => hy v (List.mem_cons_of_mem _ m)
    have e : PyData.eqvAll ((x :: xs).map dOf) ((y :: ys).map dOf) = (PyData.eqv (dOf x) (dOf y) && PyData.eqvAll (xs.map dOf) (ys.map dOf)) := by simp only [List.map_cons, PyData.eqvAll]
    rw [e, ih, eqv_num (hx x List.mem_cons_self) (hy y List.mem_cons_self)]
    by_cases h1 : x = y
    · by_cases h2 : xs = ys
      · simp [h1, h2]
      · simp [h1, h2]
    · simp [h1]
theorem dp_num {K : PySem.W.Frag} {H : Hp} {v : V} (h : Num v) : Dp K H v (dOf v) := by
  rcases h with rfl | ⟨i, rfl⟩
  · exact .non
  · exact .int i
theorem dpAll_num {K : PySem.W.Frag} {H : Hp} : ∀ {xs : List V}, (∀ v ∈ xs, Num v) → DpAll K H xs (xs.map dOf)
  | [], _ => .nil
  | x :: xs, h => .cons (dp_num (h x List.mem_cons_self)) (dpAll_num fun v m => h v (List.mem_cons_of_mem _ m))
theorem lay_num : ∀ {xs : List V}, (∀ v ∈ xs, Num v) → PyData.canLayAll0 (xs.map dOf) = true
  | [], _ => by simp [PyData.canLayAll0]
  | x :: xs, h => by
    have ih := lay_num fun v m => h v (List.mem_cons_of_mem x m)
    rw [List.map_cons, PyData.canLayAll0, ih, Bool.and_true]
    rcases h x List.mem_cons_self with rfl | ⟨i, rfl⟩ <;> simp [dOf, PyData.canLay0]
theorem depth_num : ∀ {xs : List V}, (∀ v ∈ xs, Num v) → PyData.depthAll (xs.map dOf) ≤ 1
  | [], _ => by simp [PyData.depthAll]
  | x :: xs, h => by
    have ih := depth_num fun v m => h v (List.mem_cons_of_mem x m)
    simp only [List.map_cons, PyData.depthAll]
    rcases h x List.mem_cons_self with rfl | ⟨i, rfl⟩ <;> simp only [dOf, PyData.depth] <;> omega
theorem shL_num {xs : List V} (h : ∀ v ∈ xs, Num v) : SeqAt.shaped (.list (xs.map dOf)) = true := by
  have h1 := lay_num h
  have h2 := depth_num h
  show (PyData.canLay0 (.list (xs.map dOf)) && decide (PyData.depth (.list (xs.map dOf)) ≤ 64)) = true
  rw [Bool.and_eq_true]
  refine ⟨by simp only [PyData.canLay0]; exact h1, decide_eq_true ?_⟩
  simp only [PyData.depth]
  omega
theorem shT_num {xs : List V} (h : ∀ v ∈ xs, Num v) : SeqAt.shaped (.tuple (xs.map dOf)) = true := by
  have h1 := lay_num h
  have h2 := depth_num h
  show (PyData.canLay0 (.tuple (xs.map dOf)) && decide (PyData.depth (.tuple (xs.map dOf)) ≤ 64)) = true
  rw [Bool.and_eq_true]
  refine ⟨by simp only [PyData.canLay0]; exact h1, decide_eq_true ?_⟩
  simp only [PyData.depth]
  omega
/-- two lists, or two tuples, of None and ints -/
def rEqN (K : PySem.W.Frag) (neg : Bool) : R2 := fun x y H Q => ∃ a b xs ys, x = .ref a ∧ y = .ref b ∧ ((SqL K H a xs ∧ SqL K H b ys) ∨ (SqT K H a xs ∧ SqT K H b ys)) ∧ (∀ v ∈ xs, Num v) ∧ (∀ v ∈ ys, Num v) ∧ Q (.bl (if neg then !decide (xs = ys) else decide (xs = ys))) H
section
variable {X : Cx}
theorem op_eqN (hu : X.A.units + 64 < cLine) : OpR X (compareOp .Eq) (rEqN X.K false) := by
  intro pins s σ H x y v u Q I rx ry h
  obtain ⟨a, b, xs, ys, rfl, rfl, d, nx, ny, q⟩ := h
  rcases d with ⟨d1, d2⟩ | ⟨d1, d2⟩
  · refine op_eqD hu pins s σ H _ _ v u Q I rx ry ⟨.list (xs.map dOf), .list (ys.map dOf), .lst d1 (dpAll_num nx), .lst d2 (dpAll_num ny), shL_num nx, shL_num ny, ?_⟩
    rw [show PyData.eqv (.list (xs.map dOf)) (.list (ys.map dOf)) = decide (xs = ys) by rw [← eqvAll_num nx ny]; simp only [PyData.eqv]]
    exact q
  · refine op_eqD hu pins s σ H _ _ v u Q I rx ry ⟨.tuple (xs.map dOf), .tuple (ys.map dOf), .tup d1 (dpAll_num nx), .tup d2 (dpAll_num ny), shT_num nx, shT_num ny, ?_⟩
    rw [show PyData.eqv (.tuple (xs.map dOf)) (.tuple (ys.map dOf)) = decide (xs = ys) by rw [← eqvAll_num nx ny]; simp only [PyData.eqv]]
    exact q
theorem op_neN (hu : X.A.units + 64 < cLine) : OpR X (compareOp .NotEq) (rEqN X.K true) := by
  intro pins s σ H x y v u Q I rx ry h
  obtain ⟨a, b, xs, ys, rfl, rfl, d, nx, ny, q⟩ := h
  rcases d with ⟨d1, d2⟩ | ⟨d1, d2⟩
  · refine op_neD hu pins s σ H _ _ v u Q I rx ry ⟨.list (xs.map dOf), .list (ys.map dOf), .lst d1 (dpAll_num nx), .lst d2 (dpAll_num ny), shL_num nx, shL_num ny, ?_⟩
    rw [show PyData.eqv (.list (xs.map dOf)) (.list (ys.map dOf)) = decide (xs = ys) by rw [← eqvAll_num nx ny]; simp only [PyData.eqv]]
    exact q
  · refine op_neD hu pins s σ H _ _ v u Q I rx ry ⟨.tuple (xs.map dOf), .tuple (ys.map dOf), .tup d1 (dpAll_num nx), .tup d2 (dpAll_num ny), shT_num nx, shT_num ny, ?_⟩
    rw [show PyData.eqv (.tuple (xs.map dOf)) (.tuple (ys.map dOf)) = decide (xs = ys) by rw [← eqvAll_num nx ny]; simp only [PyData.eqv]]
    exact q
/-- x == y, x an instance of the class at C with an own __eq__ -/
def rOwnEq (K : PySem.W.Frag) (C : Addr) (sp : Sp) : R2 := fun x y H Q => ∃ a dx fs tb, x = .ref a ∧ H a = some (.ins C dx fs) ∧ TyX K H y tb ∧ PySem.W.notFirst K C tb = true ∧ sp [x, y] H (fun v H' => (∃ b, v = .bl b) ∧ Q v H') E0
theorem op_ownEq {CX : CXT} {n j : Nat} {C f : Addr} {fd : FuncData} {ps : List Str} {sp : Sp} (F : FnOk X.prog X.w X.K X.mg X.base CX n f fd ps sp) (hs : PySem.W.findIn X.K (.ref C) "__eq__" = some (some (.ref f))) (hf : PySem.W.isFn X.K (.ref f) = true) (hb : Binds X.K fd ps [])
    (hx : Passes CX X E0) (hr : Room j X.A) (hj : n ≤ j) : OpR X (compareOp .Eq) (rOwnEq X.K C sp) := by
  intro pins s σ H x y v u Q I rx ry h
  obtain ⟨a, dx, fs, tb, rfl, ha, ty, nf, h⟩ := h
  have hr := hr.mono hj
  cases (show v = Value.ref a from rx)
  obtain ⟨mA, J, _⟩ := ins_get I.hok ha
  obtain ⟨od, J, _⟩ := J.look
  obtain ⟨Pz, Z, p, _⟩ := kit_of I ry ty
  obtain ⟨m, hF⟩ := I.fr
  show wpAny (model X.prog X.w) X.A (richCompare .Eq (.ref a) u) (EP X pins σ Q) X.xe s
  have hu : X.A.units < cLine := by have := hr.un; omega
  refine PySem.W.cmp_K (op := .Eq) (tb := tb) hu hF I.ok.mod.kin J (Z.ty _ _ I.kIn p) nf hs hf ?_
  have hl := F.len _ _ _ _ h
  have r2 : Vals [V.ref a, y] [Value.ref a, u] := .cons rfl (.cons ry .nil)
  refine wpAny_call (codeAny_mono (F.run X.A X.stack s H ⟨[.ref a, u], []⟩ [.ref a, u] [.ref a, y] _ E0 hr I.env0 (by
    have := hb s [.ref a, u] I.kIn (by simpa using hl)
    simpa using this) r2 h) fun r s' hq => ?_)
  cases r with
  | error e => exact hx pins σ H s e s' I hq
  | ok fl =>
    cases fl with
    | ret w =>
      obtain ⟨z, H', I', rz, ⟨b, ez⟩, q⟩ := I.after hq
      subst ez
      cases rz
      exact ⟨.bl b, H', I', rfl, q⟩
    | next => exact False.elim hq
    | brk => exact False.elim hq
    | cont => exact False.elim hq
end
theorem kit_self {K : PySem.W.Frag} {C : Addr} : PySem.W.kitOne K (.ref C) (.ref C) = some true := by
  unfold PySem.W.kitOne
  rw [if_pos (by simp)]

theorem hu64 {A : Around} {k : Nat} (hr : Room k A) : A.units + 64 < cLine := by have := hr.un; omega
theorem hu65 {A : Around} {k : Nat} (hr : Room k A) : A.units + 65 < cLine := by have := hr.un; omega
theorem small2000 {n : Nat} (h : n ≤ 2100) : n < sizeLine := Nat.lt_of_le_of_lt h (by decide)
theorem small10 {n : Nat} (h : n ≤ 10000) : n < sizeLine := Nat.lt_of_le_of_lt h (by decide)
theorem num_kn {H : Hp} {v : V} (h : Num v) : Kn H v := by
  rcases h with rfl | ⟨i, rfl⟩
  · exact .non
  · exact .int i

section
variable {X : Cx} (K : PySem.W.Frag)
theorem pe_fldK (hK : X.K = K) {e : Expr} {ta : TE} {f : Str} {pos : Pos} (he : PE X e ta) (hb : attributeBase e f X.env (eval e X.env) = eval e X.env := by rfl) : PE X (.Attribute e f pos) (tFld K ta f) := by
  subst hK
  exact pe_fld he hb
theorem ix_tupK (hK : X.K = K) : IxR X (rIxT K) := by
  subst hK
  exact ix_tup
theorem ix_listK (hK : X.K = K) : IxR X (rIxL K) := by
  subst hK
  exact ix_list
end

theorem paired_last {α β : Type} {F : α → β → Prop} : ∀ {ts : List α} {ps : List β} {p : β}, Paired F ts (ps ++ [p]) → ∃ us v, ts = us ++ [v] ∧ Paired F us ps ∧ F v p
  | _, [], _, .cons h .nil => ⟨[], _, rfl, .nil, h⟩
  | _, _ :: _, _, .cons h t =>
    let ⟨us, v, e, q1, q2⟩ := paired_last t
    ⟨_ :: us, v, by rw [e]; rfl, .cons h q1, q2⟩
section
variable {X : Cx} {tg e : Expr}
/-- a list or a tuple, item by item; it stays where its own object does -/
def iSqA (K : PySem.W.Frag) (te : TE) : TI := fun σ H R => te σ H fun x H1 => ∃ a xs, x = .ref a ∧ Sq K H1 a xs ∧ ∀ (J : It) (G : Hp → Prop), Walk J xs.length G (YAt xs) → (∀ H', (∀ o, H1 a = some o → H' a = some o) → G H') → R J H1
theorem sqL_at {K : PySem.W.Frag} {H H' : Hp} {a : Addr} {xs : List V} (h : SqL K H a xs) (e : ∀ o, H a = some o → H' a = some o) : SqL K H' a xs := by
  rcases h with (h | ⟨o, h⟩) | h
  · exact .inl (.inl (e _ h))
  · exact .inl (.inr ⟨o, e _ h⟩)
  · exact .inr h
theorem sqT_at {K : PySem.W.Frag} {H H' : Hp} {a : Addr} {xs : List V} (h : SqT K H a xs) (e : ∀ o, H a = some o → H' a = some o) : SqT K H' a xs := by
  rcases h with (h | ⟨o, h⟩) | h
  · exact .inl (.inl (e _ h))
  · exact .inl (.inr ⟨o, e _ h⟩)
  · exact .inr h
open PySem.Spec PyProof.Rows in
theorem pi_sqA {te : TE} (he : PE X e te) : PI X tg e (iSqA X.K te) := by
  constructor
  intro pins s σ H R I h
  refine thn (he.run pins s σ H _ I h) fun u s1 hh => ?_
  obtain ⟨v, H1, I1, r1, a, xs, ev, sq, k⟩ := hh
  subst ev
  cases r1
  have near : ∀ b ∈ [s1.heap.objs.size], FpOk X pins H1 b := fun b hb => by
    rw [List.mem_singleton.mp hb]
    exact I1.fpOk (Nat.le_refl _) (I1.hok.fresh (Nat.le_refl _))
  have J1 : ∀ o : Obj, Inv X pins σ H1 { s1 with heap := s1.heap.push o } := fun o => I1.kept (t' := s1.toks) fun b u z => Heap.get?_push_of_some _ z
  rcases sq with hq | hq
  · obtain ⟨its, rv, p1, hz⟩ := I1.list hq
    exact wpAny_pyIter_list p1.isList ⟨s1.heap.objs.size, _, _, _, H1, rfl, J1 _, turn_list a _, ⟨_, Heap.get?_push_size _ rfl, rfl, rfl⟩, near, k _ _ walk_list fun H' z => sqL_at hq z⟩
  · obtain ⟨its, rv, p2, hz⟩ := I1.tuple hq
    exact wpAny_pyIter_tuple (show s1.heap.IsTuple a its.toArray from p2) ⟨s1.heap.objs.size, _, _, _, H1, rfl, J1 _, turn_tuple a _, ⟨_, Heap.get?_push_size _ rfl, rfl, rfl⟩, near, k _ _ walk_tup fun H' z => sqT_at hq z⟩
end

/-! ### the law's pen -/
def penK (cl : Addr) (k left : Int) : List (Key × V) := [(.inr "cells", .ref cl), (.inr "next", .int k), (.inr "left", .int left)]
theorem valV_eq {k : Key} {v : V} {r : List (Key × V)} : valV ((k, v) :: r) k = some v := by
  unfold valV
  rw [List.find?_cons_of_pos (by simp)]
  rfl
theorem valV_ne {k j : Key} {v : V} {r : List (Key × V)} (h : ¬ j = k) : valV ((j, v) :: r) k = valV r k := by
  unfold valV
  rw [List.find?_cons_of_neg (by simpa using h)]
theorem k12 : ¬ (Sum.inr ("cells" : Str) : Key) = Sum.inr ("next" : Str) := by decide +kernel
theorem k13 : ¬ (Sum.inr ("cells" : Str) : Key) = Sum.inr ("left" : Str) := by decide +kernel
theorem k23 : ¬ (Sum.inr ("next" : Str) : Key) = Sum.inr ("left" : Str) := by decide +kernel
theorem k32 : ¬ (Sum.inr ("left" : Str) : Key) = Sum.inr ("next" : Str) := by decide +kernel
theorem pen_cells (cl : Addr) (k l : Int) : valV (penK cl k l) (.inr "cells") = some (.ref cl) := valV_eq
theorem pen_opened (cl : Addr) (k l : Int) : valV (penK cl k l) (.inr "next") = some (.int k) := (valV_ne k12).trans valV_eq
theorem pen_left (cl : Addr) (k l : Int) : valV (penK cl k l) (.inr "left") = some (.int l) := (valV_ne k13).trans ((valV_ne k23).trans valV_eq)
theorem put_opened (cl : Addr) (k l j : Int) : putK (penK cl k l) (.inr "next") (.int j) = penK cl j l := by
  unfold putK penK
  rw [if_pos (by simp)]
  simp only [List.map_cons, List.map_nil, k12, k32, if_false, if_true]
theorem put_left (cl : Addr) (k l j : Int) : putK (penK cl k l) (.inr "left") (.int j) = penK cl k j := by
  unfold putK penK
  rw [if_pos (by simp)]
  simp only [List.map_cons, List.map_nil, k13, k23, if_false, if_true]
/-- at pn: the pen, at most b cells opened -/
def Pen (H : Hp) (pn cl : Addr) (b : Nat) : Prop := ∃ (k : Nat) (l : Int) (cs : List Int), H pn = some (.dK (penK cl (k : Nat) l)) ∧ H cl = some (.lst (cs.map V.int)) ∧ k ≤ b ∧ cs.length ≤ 63
/-- all but what is at pn is as it was -/
def But (pn : Addr) (H H' : Hp) : Prop := ∀ b o, b ≠ pn → H b = some o → H' b = some o
theorem But.refl {pn : Addr} {H : Hp} : But pn H H := fun _ _ _ h => h
theorem But.trans {pn : Addr} {H H1 H2 : Hp} (a : But pn H H1) (b : But pn H1 H2) : But pn H H2 := fun c o n h => b c o n (a c o n h)
def spDraw : Sp := fun vs H Q _ => ∃ (pn cl : Addr) (m : Int) (b : Nat), vs = [.ref pn, .int m] ∧ Pen H pn cl b ∧ b ≤ 1000000 ∧ 0 < m ∧ m < 1073741824 ∧ ∀ (r : Int) H', 0 ≤ r → r < m → But pn H H' → Pen H' pn cl (b + 1) → Q (.int r) H'
def spPen (K : PySem.W.Frag) : Sp := fun vs H Q _ => ∃ (a : Addr) (ns : List Int), vs = [.ref a] ∧ SqL K H a (ns.map V.int) ∧ ∀ pn cl H', H pn = none → H cl = none → Same H H' → Pen H' pn cl 0 → Q (.ref pn) H'
section
variable {P : Program} {w : World} {K : PySem.W.Frag} {mg : Str → Option Value} {base : Heap}
theorem scPen : FnScope ["_law_script"] ["_law_script"] (defScope sPen) := ⟨rfl, rfl, rfl, by decide +kernel, rfl, by decide +kernel, by decide +kernel⟩
theorem ok_pen {f : Addr} {fd : FuncData} (F : Fun K "_law_pen_of" "_law_pen_of" sPen f fd) (B : Bi mg) : FnOk P w K mg base CX0 1 f fd ["_law_script"] (spPen K) := by
  refine F.ok scPen (fun vs H Q E h => ?_) (fun cdv A outer s H vs Q E hr h => ?_)
  · obtain ⟨a, ns, rfl, _⟩ := h
    rfl
  · obtain ⟨a, ns, rfl, hs, q⟩ := h
    refine ⟨_, pss_one (ps_ret (pe_disp (pps_cons pe_str (pe_callTy call_list_of rfl B.list (by decide +kernel) (pa_cons (pe_slice sl_list (pv 0) po_none (po_some pe_int)) pa_nil)) (pps_cons pe_str pe_int (pps_cons pe_str pe_int pps_nil))) rfl rfl (by simp) (by decide))), ?_⟩
    intro p np
    have hs2 := (same_new (o := .dK []) np).seq hs
    refine ⟨_, rfl, 63, rfl, a, _, rfl, hs2, fun c nc => ⟨c, _, rfl, .inl (SqL.of upd_same), fun l nl => ?_⟩⟩
    have npl : p ≠ l := ne_of_none ((upd_ne (ne_of_none upd_same nc)).trans upd_same) nl
    have npc : p ≠ c := ne_of_none upd_same nc
    have ec : cutV (ns.map V.int) none (some 63) = (ns.take 63).map V.int := by
      unfold cutV
      rw [show ((63 : Int)) = ((63 : Nat) : Int) from rfl, HT.sIx_nat, HT.sIx_none, List.drop_zero, Nat.sub_zero, List.length_map, ← List.map_take]
      congr 1
      by_cases c : 63 ≤ ns.length
      · rw [Nat.min_eq_left c]
      · rw [Nat.min_eq_right (by omega), List.take_of_length_le (Nat.le_refl _), List.take_of_length_le (by omega)]
    refine ⟨(upd_ne npl).trans ((upd_ne npc).trans upd_same), [(.inr "cells", .ref l), (.inr "next", .int 0), (.inr "left", .int 0)], rfl, (by show 3 ≤ 15; decide), ?_⟩
    have em : mergeK [] [((.inr ("cells" : Str) : Key), V.ref l), (.inr ("next" : Str), .int 0), (.inr ("left" : Str), .int 0)] = penK l ((0 : Nat) : Int) 0 := by
      unfold mergeK penK
      simp only [List.foldl_cons, List.foldl_nil]
      have h1 : valV ([(.inr ("cells" : Str), V.ref l)] : List (Key × V)) (.inr ("next" : Str)) = none := (valV_ne k12).trans rfl
      have h2 : valV ([(.inr ("cells" : Str), V.ref l), (.inr ("next" : Str), V.int 0)] : List (Key × V)) (.inr ("left" : Str)) = none := (valV_ne k13).trans ((valV_ne k23).trans rfl)
      rw [show putK ([] : List (Key × V)) (.inr ("cells" : Str)) (.ref l) = [(.inr ("cells" : Str), .ref l)] from rfl, putK_new _ h1]
      simp only [List.cons_append, List.nil_append]
      rw [putK_new _ h2]
      rfl
    rw [em]
    have nl0 : H l = none := by
      cases z : H l with
      | none => rfl
      | some o =>
        have z1 : upd H p (.dK []) l = some o := (upd_ne (ne_of_none z np)).trans z
        rw [(upd_ne (ne_of_none z1 nc)).trans z1] at nl
        cases nl
    refine q p l _ np nl0 (fun b o z => ?_) ⟨0, 0, ns.take 63, upd_same, ?_, Nat.le_refl _, by rw [List.length_take]; omega⟩
    · have nb : b ≠ p := ne_of_none z np
      have z1 : upd H p (.dK []) b = some o := (upd_ne nb).trans z
      have nc2 : b ≠ c := ne_of_none z1 nc
      have z2 : upd (upd H p (.dK [])) c (.lst (cutV (ns.map V.int) none (some 63))) b = some o := (upd_ne nc2).trans z1
      rw [upd_ne nb, upd_ne (ne_of_none z2 nl)]
      exact z2
    · rw [upd_ne (Ne.symm npl), upd_same, ec]
theorem getL {H : Hp} {pn cl : Addr} {k l : Int} (hp : H pn = some (.dK (penK cl k l))) : DGet H pn (.str "left") (some (.int l)) := by
  have z := DGet.k (k := .inr ("left" : Str)) hp
  rw [pen_left] at z
  exact z
theorem getO {H : Hp} {pn cl : Addr} {k l : Int} (hp : H pn = some (.dK (penK cl k l))) : DGet H pn (.str "next") (some (.int k)) := by
  have z := DGet.k (k := .inr ("next" : Str)) hp
  rw [pen_opened] at z
  exact z
theorem getC {H : Hp} {pn cl : Addr} {k l : Int} (hp : H pn = some (.dK (penK cl k l))) : DGet H pn (.str "cells") (some (.ref cl)) := by
  have z := DGet.k (k := .inr ("cells" : Str)) hp
  rw [pen_cells] at z
  exact z
theorem putL {H : Hp} {pn cl : Addr} {k l : Int} (j : Int) (hp : H pn = some (.dK (penK cl k l))) : DPut H pn (.str "left") (.int j) (upd H pn (.dK (penK cl k j))) := by
  have z := DPut.k (k := .inr ("left" : Str)) (v := .int j) hp (by show 3 < sizeLine; decide)
  rw [put_left] at z
  exact z
theorem putO' {H : Hp} {pn cl : Addr} {k l : Int} (j : Int) (hp : H pn = some (.dK (penK cl k l))) : DPut H pn (.str "next") (.int j) (upd H pn (.dK (penK cl j l))) := by
  have z := DPut.k (k := .inr ("next" : Str)) (v := .int j) hp (by show 3 < sizeLine; decide)
  rw [put_opened] at z
  exact z
theorem scDraw : FnScope ["_law_pen", "_law_many", "_law_digit", "_law_index", "_law_size", "_law_cell", "_law_mixed"] ["_law_pen", "_law_many"] (defScope sDraw) := ⟨rfl, rfl, rfl, by decide +kernel, rfl, by decide +kernel, by decide +kernel⟩
theorem mix_lt (x : Int) {m : Int} (h : 0 < m) : 0 ≤ x % m ∧ x % m < m := ⟨Int.emod_nonneg _ (by omega), Int.emod_lt_of_pos _ h⟩
section
variable {X : Cx}
theorem pe_int1 {a : Expr} {es : List Expr} {t : TA} {p pos : Pos} (hm : X.mg "int" = none) (ha : PA X (a :: es) t) (hg : Gl X "int" := by rfl) (he : starEach (a :: es) X.env = (false, eval a X.env) :: starEach es X.env := by rfl)
    (hpl : (backTo pos (starEach es X.env)).any (·.1) = false := by rfl) : PE X (.Call (.Name "int" p) (a :: es) [] pos) (tCB (fun xs H Q => (∃ i, xs = [.int i] ∧ Q (.int i) H) ∨ ∃ k, xs = [.bl k] ∧ Q (.int (if k then 1 else 0)) H) t) :=
  pe_callTy call_int1 hg hm (by decide +kernel) ha (he := he) (hpl := hpl)
theorem pe_abs {a : Expr} {es : List Expr} {t : TA} {p pos : Pos} (hm : X.mg "abs" = none) (ha : PA X (a :: es) t) (hg : Gl X "abs" := by rfl) (he : starEach (a :: es) X.env = (false, eval a X.env) :: starEach es X.env := by rfl)
    (hpl : (backTo pos (starEach es X.env)).any (·.1) = false := by rfl) : PE X (.Call (.Name "abs" p) (a :: es) [] pos) (tCB (fun xs H Q => ∃ i, xs = [.int i] ∧ Q (.int (if i < 0 then -i else i)) H) t) :=
  pe_callB call_abs hg hm (by decide +kernel) ha (he := he) (hpl := hpl)
end
theorem ok_draw {f : Addr} {fd : FuncData} (F : Fun K "_law_draw" "_law_draw" sDraw f fd) (B : Bi mg) : FnOk P w K mg base CX0 1 f fd ["_law_pen", "_law_many"] spDraw := by
  refine F.ok scDraw (fun vs H Q E h => ?_) (fun cdv A outer s H vs Q E hr h => ?_)
  · obtain ⟨pn, cl, m, b, rfl, _⟩ := h
    rfl
  · obtain ⟨pn, cl, m, b, rfl, ⟨k, l, cs, hp, hc, hk, lc⟩, hb, m0, m1, q⟩ := h
    refine ⟨_, pss_cons (ps_if (pt_cmpR op_gt (pe_dget (hu_of hr) (pv 0) pe_str (fun _ _ => rfl)) pe_int (nomark _))
        (pss_cons (ps_set (i := 2) scDraw.nd rfl (Or.inl rfl) (pe_op op_mod (pe_int1 B.int (pa_cons (pe_dget (hu_of hr) (pv 0) pe_str (fun _ _ => rfl)) pa_nil)) (pv 1)))
        (pss_cons (ps_dput (hu_of hr) (pv 0) pe_str (pe_op op_fdiv (pe_dget (hu_of hr) (pv 0) pe_str (fun _ _ => rfl)) (pv 1)) rfl) (pss_one (ps_ret (pv 2))))) pss_nil)
      (pss_cons (ps_par (i := 3) (j := 4) rfl scDraw.nd rfl rfl (by decide) rfl rfl (pa_cons (pe_dget (hu_of hr) (pv 0) pe_str (fun _ _ => rfl)) (pa_cons (pe_len B.len (pa_cons (pe_dget (hu_of hr) (pv 0) pe_str (fun _ _ => rfl)) pa_nil)) pa_nil)) rfl)
      (pss_cons (ps_dput (hu_of hr) (pv 0) pe_str (pe_op op_add (pv 3) pe_int) rfl)
      (pss_cons (ps_if (pt_cmpR op_eq (pv 4) pe_int (nomark _)) (pss_one (ps_ret (pe_op op_mod (pe_int1 B.int (pa_cons (pe_op op_add (pe_op op_mul pe_int (pv 3)) pe_int) pa_nil)) (pv 1)))) pss_nil)
      (pss_cons (ps_set (i := 5) scDraw.nd rfl (Or.inl rfl) (pe_ix ix_list (pe_dget (hu_of hr) (pv 0) pe_str (fun _ _ => rfl)) (pe_op op_mod (pe_int1 B.int (pa_cons (pv 3) pa_nil)) (pv 4)) (fun _ _ => rfl)))
      (pss_cons (ps_if (PW.pt (pw_and (pt_cmpR op_lt (pv 3) (pv 4) (nomark _)) (pw_and1 (pt_cmpR op_ge (pe_abs B.abs (pa_cons (pv 5) pa_nil)) (pe_op op_pow pe_int pe_int) (nomark _)))))
        (pss_cons (ps_dput (hu_of hr) (pv 0) pe_str (pe_op op_fdiv (pe_op op_sub (pe_abs B.abs (pa_cons (pv 5) pa_nil)) (pe_op op_pow pe_int pe_int)) (pv 1)) rfl)
        (pss_one (ps_ret (pe_op op_mod (pe_int1 B.int (pa_cons (pe_op op_sub (pe_abs B.abs (pa_cons (pv 5) pa_nil)) (pe_op op_pow pe_int pe_int)) pa_nil)) (pv 1))))) pss_nil)
      (pss_cons (ps_set (i := 6) scDraw.nd rfl (Or.inl rfl) (pe_op op_add (pe_op op_mul (pe_op op_mod (pe_int1 B.int (pa_cons (pv 5) pa_nil)) pe_int) pe_int) (pe_op op_mul (pe_op op_mul pe_int (pv 3)) (pv 3))))
      (pss_cons (ps_set (i := 6) scDraw.nd rfl (Or.inl rfl) (pe_op op_mod (pe_int1 B.int (pa_cons (pe_op op_add (pe_op op_add (pv 6) (pe_op op_mul pe_int (pv 3))) pe_int) pa_nil)) pe_int))
      (pss_cons (ps_set (i := 6) scDraw.nd rfl (Or.inl rfl) (pe_op op_mod (pe_int1 B.int (pa_cons (pe_op op_add (pe_op op_add (pe_op op_add (pe_op op_mul (pv 6) (pv 6)) (pe_op op_mul pe_int (pv 6))) (pe_op op_mul pe_int (pv 3))) pe_int) pa_nil)) pe_int))
      (pss_one (ps_ret (pe_op op_mod (pe_int1 B.int (pa_cons (pe_op op_fdiv (pe_op op_mod (pe_int1 B.int (pa_cons (pe_op op_mul (pv 6) (pe_op op_add (pv 6) pe_int)) pa_nil)) pe_int) pe_int) pa_nil)) (pv 1)))))))))))), ?_⟩
    have ncp : cl ≠ pn := ne_of hc hp (fun z => by cases z)
    refine ⟨_, rfl, pn, _, rfl, getL hp, _, _, rfl, rfl, _, rfl, ?_⟩
    refine ite2 (fun _ => ?_) fun _ => ?_
    · refine ⟨_, rfl, pn, _, rfl, getL hp, .inl ⟨_, rfl, _, rfl, _, _, rfl, rfl, m0, ?_⟩⟩
      refine ⟨_, rfl, pn, _, rfl, getL hp, _, rfl, _, _, rfl, rfl, ⟨m0, m1⟩, _, rfl, pn, _, rfl, putL _ hp, ?_⟩
      exact ⟨_, rfl, q _ _ (mix_lt _ m0).1 (mix_lt _ m0).2 (fun c o n z => (upd_ne n).trans z) ⟨k, _, cs, upd_same, (upd_ne ncp).trans hc, Nat.le_succ_of_le hk, lc⟩⟩
    · refine ⟨_, rfl, pn, _, rfl, getO hp, _, rfl, pn, _, rfl, getC hp, cl, _, rfl, .inl (SqL.of hc), _, _, rfl, ?_⟩
      refine ⟨_, rfl, _, _, rfl, rfl, _, rfl, pn, _, rfl, putO' _ hp, ?_⟩
      have ek : ((k : Nat) : Int) + 1 = ((k + 1 : Nat) : Int) := by omega
      rw [ek]
      generalize eH2 : upd H pn (.dK (penK cl ((k + 1 : Nat) : Int) l)) = H3
      have hp3 : H3 pn = some (.dK (penK cl ((k + 1 : Nat) : Int) l)) := by rw [← eH2]; exact upd_same
      have hc3 : H3 cl = some (.lst (cs.map V.int)) := by rw [← eH2]; exact (upd_ne ncp).trans hc
      have e3 : But pn H H3 := fun c o n z => by rw [← eH2]; exact (upd_ne n).trans z
      have fin : ∀ (r : Int) (H4 : Hp) (l2 : Int), 0 ≤ r → r < m → H4 = H3 ∨ H4 = upd H3 pn (.dK (penK cl ((k + 1 : Nat) : Int) l2)) → Q (.int r) H4 := fun r H4 l2 r0 r1 e4 => by
        rcases e4 with rfl | rfl
        · exact q r _ r0 r1 e3 ⟨k + 1, l, cs, hp3, hc3, Nat.succ_le_succ hk, lc⟩
        · exact q r _ r0 r1 (fun c o n z => (upd_ne n).trans (e3 c o n z)) ⟨k + 1, l2, cs, upd_same, (upd_ne ncp).trans hc3, Nat.succ_le_succ hk, lc⟩
      refine ⟨_, rfl, rfl, _, rfl, ?_⟩
      refine ite2 (fun c => ?_) fun c => ?_
      · refine ⟨_, rfl, _, _, rfl, rfl, .inl ⟨by decide, by decide⟩, ?_⟩
        refine ⟨_, _, rfl, rfl, .inl ⟨_, rfl, _, rfl, _, _, rfl, rfl, m0, ?_⟩⟩
        exact fin _ _ 0 (mix_lt _ m0).1 (mix_lt _ m0).2 (.inl rfl)
      have cne : cs ≠ [] := fun z => by
        rw [z] at c
        exact c (by decide)
      have lpos : 0 < cs.length := List.length_pos_iff.mpr cne
      refine ⟨_, rfl, pn, _, rfl, getC hp3, _, rfl, .inl ⟨_, rfl, _, rfl, _, _, rfl, rfl, (by rw [List.length_map]; omega), cl, _, _, .int (cs[k % cs.length]'(Nat.mod_lt _ lpos)), rfl, rfl, SqL.of hc3, ?_, ?_⟩⟩
      · rw [List.length_map]
        have em : ((k : Nat) : Int) % ((cs.length : Nat) : Int) = ((k % cs.length : Nat) : Int) := by omega
        rw [em]
        refine atI_nat ?_
        rw [List.getElem?_map, List.getElem?_eq_getElem (Nat.mod_lt _ lpos)]
        rfl
      generalize cs[k % cs.length]'(Nat.mod_lt _ lpos) = cell
      refine ⟨_, rfl, _, rfl, _, _, rfl, rfl, _, rfl, ?_⟩
      refine ite2 (fun _ => ?_) fun _ => iteF ?_
      refine ⟨_, rfl, _, rfl, _, _, rfl, rfl, ⟨by decide, by decide, by decide⟩, _, _, rfl, rfl, _, rfl, ?_⟩
      refine ite2 (fun _ => ?_) fun _ => ?_
      refine ⟨_, rfl, _, rfl, _, _, rfl, rfl, ⟨by decide, by decide, by decide⟩, _, _, rfl, rfl, _, rfl, _, _, rfl, rfl, ⟨m0, m1⟩, _, rfl, pn, _, rfl, putL _ hp3, ?_⟩
      refine ⟨_, rfl, _, rfl, _, _, rfl, rfl, ⟨by decide, by decide, by decide⟩, _, _, rfl, rfl, .inl ⟨_, rfl, _, rfl, _, _, rfl, rfl, m0, ?_⟩⟩
      exact fin _ _ _ (mix_lt _ m0).1 (mix_lt _ m0).2 (.inr rfl)
      all_goals
        refine ⟨_, rfl, .inl ⟨_, rfl, _, _, rfl, rfl, (by show (0 : Int) < _; decide), _, _, rfl, rfl, .inr ⟨by decide, by decide⟩, ?_⟩⟩
        refine ⟨_, rfl, _, _, rfl, rfl, .inl ⟨by decide, by decide⟩, _, rfl, _, _, rfl, rfl, .inr ⟨by omega, by omega⟩, _, _, rfl, rfl, ?_⟩
        refine ⟨_, rfl, _, rfl, _, _, rfl, rfl, .inl ⟨by decide, by decide⟩, _, _, rfl, rfl, _, _, rfl, rfl, .inl ⟨_, rfl, _, _, rfl, rfl, (by show (0 : Int) < _; decide), ?_⟩⟩
        generalize emx : (cell % 4294967197 * 52711 + 20353 * ((k : Nat) : Int) * ((k : Nat) : Int) + 1531 * ((k : Nat) : Int) + 11) % 4294967189 = mx
        have b1 : 0 ≤ mx ∧ mx < 4294967189 := by rw [← emx]; exact mix_lt _ (by decide)
        refine ⟨_, rfl, _, rfl, _, _, rfl, rfl, .inl ⟨by omega, by omega⟩, ?_⟩
        refine ⟨_, rfl, _, _, rfl, rfl, .inl ⟨by decide, by decide⟩, _, _, rfl, rfl, _, rfl, _, _, rfl, rfl, .inl ⟨by decide, by decide⟩, _, _, rfl, rfl, _, _, rfl, rfl, .inl ⟨_, rfl, _, _, rfl, rfl, (by show (0 : Int) < _; decide), ?_⟩⟩
        generalize emy : (mx * mx + 68903 * mx + 23 * ((k : Nat) : Int) + 7) % 4294967161 = my
        have b2 : 0 ≤ my ∧ my < 4294967161 := by rw [← emy]; exact mix_lt _ (by decide)
        refine ⟨_, rfl, _, rfl, _, _, rfl, rfl, _, _, rfl, rfl, .inl ⟨by omega, by omega⟩, .inl ⟨_, rfl, _, _, rfl, rfl, (by show (0 : Int) < _; decide), _, _, rfl, rfl, ⟨by decide, by decide⟩, .inl ⟨_, rfl, _, rfl, _, _, rfl, rfl, m0, ?_⟩⟩⟩
        exact fin _ _ 0 (mix_lt _ m0).1 (mix_lt _ m0).2 (.inl rfl)
end
def spPick : Sp := fun vs H Q _ => ∃ (pn cl s : Addr) (xs : List V) (b : Nat), vs = [.ref pn, .ref s] ∧ Pen H pn cl b ∧ b ≤ 1000000 ∧ H s = some (.lst xs) ∧ 0 < xs.length ∧ xs.length ≤ 1000 ∧ ∀ x H', x ∈ xs → But pn H H' → Pen H' pn cl (b + 1) → Q x H'
theorem Pen.mono {H : Hp} {pn cl : Addr} {b c : Nat} (h : Pen H pn cl b) (e : b ≤ c) : Pen H pn cl c := let ⟨k, l, cs, h1, h2, h3, h4⟩ := h; ⟨k, l, cs, h1, h2, Nat.le_trans h3 e, h4⟩
theorem Pen.same {H H' : Hp} {pn cl : Addr} {b : Nat} (h : Pen H pn cl b) (e : Same H H') : Pen H' pn cl b := let ⟨k, l, cs, h1, h2, h3, h4⟩ := h; ⟨k, l, cs, e _ _ h1, e _ _ h2, h3, h4⟩
theorem Pen.ne {H : Hp} {pn cl a : Addr} {b : Nat} {o : HO} (h : Pen H pn cl b) (ha : H a = some o) (d : ∀ kvs, o ≠ .dK kvs) : a ≠ pn := let ⟨_, _, _, h1, _⟩ := h; ne_of ha h1 (d _)
/-- the pen stays where another object is written -/
theorem Pen.upd {H : Hp} {pn cl a : Addr} {b : Nat} {o : HO} (h : Pen H pn cl b) (n1 : pn ≠ a) (n2 : cl ≠ a) : Pen (L2.upd H a o) pn cl b := let ⟨k, l, cs, h1, h2, h3, h4⟩ := h; ⟨k, l, cs, (upd_ne n1).trans h1, (upd_ne n2).trans h2, h3, h4⟩
theorem Pen.off {H : Hp} {pn cl a : Addr} {b : Nat} (h : Pen H pn cl b) (n : H a = none) : pn ≠ a ∧ cl ≠ a := let ⟨_, _, _, h1, h2, _⟩ := h; ⟨ne_of_none h1 n, ne_of_none h2 n⟩
theorem same_but {pn : Addr} {H H' : Hp} (e : Same H H') : But pn H H' := fun b o _ h => e b o h
section
variable {P : Program} {w : World} {K : PySem.W.Frag} {mg : Str → Option Value} {base : Heap}
theorem scPick : FnScope ["_law_pen", "_law_items"] ["_law_pen", "_law_items"] (defScope sPick) := ⟨rfl, rfl, rfl, by decide +kernel, rfl, by decide +kernel, by decide +kernel⟩
theorem ok_pick {f : Addr} {fd : FuncData} (F : Fun K "_law_pick" "_law_pick" sPick f fd) (B : Bi mg) (cD : Cal CX0 P w K mg base 1 "_law_draw" spDraw) : FnOk P w K mg base CX0 2 f fd ["_law_pen", "_law_items"] spPick := by
  refine F.ok scPick (fun vs H Q E h => ?_) (fun cdv A outer s H vs Q E hr h => ?_)
  · obtain ⟨pn, cl, s, xs, b, rfl, _⟩ := h
    rfl
  · obtain ⟨pn, cl, s0, xs, b, rfl, pen, hb, hs, l0, l1, q⟩ := h
    refine ⟨_, pss_one (ps_ret (pe_ix ix_list (pv 1) (pe_c cD hr pass0 (pa_cons (pv 0) (pa_cons (pe_len B.len (pa_cons (pv 1) pa_nil)) pa_nil))) (fun _ _ => rfl))), ?_⟩
    refine ⟨_, rfl, _, rfl, _, rfl, s0, xs, rfl, .inl (SqL.of hs), pn, cl, _, b, rfl, pen, hb, by omega, by omega, fun r H' r0 r1 e pen2 => ?_⟩
    obtain ⟨r, rfl⟩ := Int.eq_ofNat_of_zero_le r0
    have lt : r < xs.length := by omega
    exact ⟨s0, xs, _, xs[r], rfl, rfl, SqL.of (e _ _ (pen.ne hs fun _ z => by cases z) hs), atI_nat (List.getElem?_eq_getElem lt), q _ _ (List.getElem_mem lt) e pen2⟩
end
def Flat : V → Prop
  | .non | .bl _ | .int _ => True
  | .str x => PyData.strOk x = true
  | _ => False
theorem dp_flat {K : PySem.W.Frag} {H : Hp} {v : V} (h : Flat v) : Dp K H v (dOf v) := by
  cases v with
  | non => exact .non
  | bl b => exact .bl b
  | int i => exact .int i
  | str x => exact .str x
  | _ => exact h.elim
theorem dpAll_flat {K : PySem.W.Frag} {H : Hp} : ∀ {xs : List V}, (∀ v ∈ xs, Flat v) → DpAll K H xs (xs.map dOf)
  | [], _ => .nil
  | x :: xs, h => .cons (dp_flat (h x List.mem_cons_self)) (dpAll_flat fun v m => h v (List.mem_cons_of_mem _ m))
theorem lay_flat : ∀ {xs : List V}, (∀ v ∈ xs, Flat v) → PyData.canLayAll0 (xs.map dOf) = true
  | [], _ => by simp [PyData.canLayAll0]
  | x :: xs, h => by
    have ih := lay_flat fun v m => h v (List.mem_cons_of_mem x m)
    have hx := h x List.mem_cons_self
    rw [List.map_cons, PyData.canLayAll0, ih, Bool.and_true]
    cases x <;> simp [dOf, PyData.canLay0, Flat] at hx ⊢
    exact hx
theorem depth_flat : ∀ (xs : List V), PyData.depthAll (xs.map dOf) ≤ 1
  | [] => by simp [PyData.depthAll]
  | x :: xs => by
    have ih := depth_flat xs
    simp only [List.map_cons, PyData.depthAll]
    cases x <;> simp only [dOf, PyData.depth] <;> omega
theorem shT_flat {xs : List V} (h : ∀ v ∈ xs, Flat v) : SeqAt.shaped (.tuple (xs.map dOf)) = true := by
  have h1 := lay_flat h
  have h2 := depth_flat xs
  show (PyData.canLay0 (.tuple (xs.map dOf)) && decide (PyData.depth (.tuple (xs.map dOf)) ≤ 64)) = true
  rw [Bool.and_eq_true]
  refine ⟨by simp only [PyData.canLay0]; exact h1, decide_eq_true ?_⟩
  simp only [PyData.depth]
  omega
/-- two tuples with the same flat items -/
def rSm (b : Bool) : R2 := fun x y H Q => ∃ s t us, x = .ref s ∧ y = .ref t ∧ H s = some (.tup us) ∧ H t = some (.tup us) ∧ (∀ v ∈ us, Flat v) ∧ Q (.bl b) H
section
variable {X : Cx}
theorem op_neSm (hu : X.A.units + 64 < cLine) : OpR X (compareOp .NotEq) (rSm false) := by
  intro pins s σ H x y v u Q I rx ry h
  obtain ⟨a, b, us, rfl, rfl, d1, d2, f, q⟩ := h
  have sh := shT_flat f
  refine op_neD hu pins s σ H _ _ v u Q I rx ry ⟨_, _, .tup (SqT.of d1) (dpAll_flat f), .tup (SqT.of d2) (dpAll_flat f), sh, sh, ?_⟩
  rw [SeqAt.eqv_refl _ (Bool.and_eq_true_iff.mp sh).1]
  exact q
theorem op_eqSm (hu : X.A.units + 64 < cLine) : OpR X (compareOp .Eq) (rSm true) := by
  intro pins s σ H x y v u Q I rx ry h
  obtain ⟨a, b, us, rfl, rfl, d1, d2, f, q⟩ := h
  have sh := shT_flat f
  refine op_eqD hu pins s σ H _ _ v u Q I rx ry ⟨_, _, .tup (SqT.of d1) (dpAll_flat f), .tup (SqT.of d2) (dpAll_flat f), sh, sh, ?_⟩
  rw [SeqAt.eqv_refl _ (Bool.and_eq_true_iff.mp sh).1]
  exact q
end
theorem cut_to {xs : List V} {k : Nat} (h : k ≤ xs.length) : cutV xs none (some (k : Int)) = xs.take k := by
  unfold cutV
  rw [HT.sIx_nat, HT.sIx_none, List.drop_zero, Nat.sub_zero, Nat.min_eq_left h]
theorem cut_from {xs : List V} {k : Nat} (h : k ≤ xs.length) : cutV xs (some (k : Int)) none = xs.drop k := by
  unfold cutV
  rw [HT.sIx_nat, HT.sIx_none, Nat.min_eq_left h, List.take_of_length_le (by rw [List.length_drop]; exact Nat.le_refl _)]
theorem kn_flat {H : Hp} {v : V} (h : Flat v) : Kn H v := by
  cases v with
  | non => exact .non
  | bl b => exact .bl b
  | int i => exact .int i
  | str x => exact .str x
  | _ => exact h.elim
theorem flat_ref {v : V} (h : Flat v) : ∀ b, v ≠ .ref b := fun b e => by
  rw [e] at h
  exact h
end K40
set_option Elab.async false
set_option linter.all false
set_option maxRecDepth 100001
set_option maxHeartbeats 3999999
namespace K40
open PySem L2
abbrev sFrom : Stmt := topS 4
abbrev sCopied : Stmt := topS 8
abbrev sTMany : Stmt := inClass (topS 12) 0
abbrev sBBits : Stmt := inClass (topS 14) 0
abbrev sBTally : Stmt := inClass (topS 15) 0
abbrev sBLen : Stmt := inClass (topS 16) 0
abbrev sNFull : Stmt := inClass (topS 17) 0
abbrev sBegins : Stmt := inClass (topS 18) 0
def spCopied : Sp := fun vs H Q _ => ∃ v, vs = [v] ∧ Flat v ∧ Q v H
section
variable {P : Program} {w : World} {K : PySem.W.Frag} {mg : Str → Option Value} {base : Heap}
theorem scCopied : FnScope ["value", "part", "key"] ["value"] (defScope sCopied) := ⟨rfl, rfl, rfl, by decide +kernel, rfl, by decide +kernel, by decide +kernel⟩
theorem ok_copied {f : Addr} {fd : FuncData} (F : Fun K "copied" "copied" sCopied f fd) (B : Bi mg) : FnOk P w K mg base CX0 1 f fd ["value"] spCopied := by
  refine F.ok scCopied (fun vs H Q E h => ?_) (fun cdv A outer s H vs Q E hr h => ?_)
  · obtain ⟨v, rfl, _⟩ := h
    rfl
  · obtain ⟨v, rfl, fl, q⟩ := h
    refine ⟨_, pss_cons (ps_if (pt_val (pe_isi B.isi (pa_cons (pv 0) (pa_cons (pe_ty "list" B.list) pa_nil)))) pss_never pss_nil) (pss_cons (ps_if (pt_val (pe_isi B.isi (pa_cons (pv 0) (pa_cons (pe_ty "tuple" B.tuple) pa_nil)))) pss_never pss_nil)
      (pss_cons (ps_if (pt_val (pe_isi B.isi (pa_cons (pv 0) (pa_cons (pe_ty "dict" B.dict) pa_nil)))) pss_never pss_nil) (pss_one (ps_ret (pv 0))))), ?_⟩
    obtain ⟨t, ty, _, _, k3, k4, k5⟩ := (kn_flat (H := H) fl).kinds K
    have f3 : isT H v = false := by cases v <;> first | rfl | exact fl.elim
    have f4 : isL H v = false := by cases v <;> first | rfl | exact fl.elim
    rw [f3] at k3
    rw [f4] at k4
    exact ⟨v, rfl, v, _, _, _, _, rfl, .ty "list", ty, k4, _, rfl, iteF ⟨v, rfl, v, _, _, _, _, rfl, .ty "tuple", ty, k3, _, rfl, iteF ⟨v, rfl, v, _, _, _, _, rfl, .ty "dict", ty, k5, _, rfl, iteF ⟨v, rfl, q⟩⟩⟩⟩
def frm : V → Int → Bool
  | .int i, lo => decide (lo ≤ i)
  | _, _ => false
def spFrom : Sp := fun vs H Q _ => ∃ v lo, vs = [v, .int lo] ∧ Kn H v ∧ Q (.bl (frm v lo)) H
theorem scFrom : FnScope ["value", "low"] ["value", "low"] (defScope sFrom) := ⟨rfl, rfl, rfl, by decide +kernel, rfl, by decide +kernel, by decide +kernel⟩
theorem ok_from {f : Addr} {fd : FuncData} (F : Fun K "is_from" "is_from" sFrom f fd) (cW : Cal CX0 P w K mg base 1 "is_whole" spWhole) : FnOk P w K mg base CX0 2 f fd ["value", "low"] spFrom := by
  refine F.ok scFrom (fun vs H Q E h => ?_) (fun cdv A outer s H vs Q E hr h => ?_)
  · obtain ⟨v, lo, rfl, _⟩ := h
    rfl
  · obtain ⟨v, lo, rfl, k, q⟩ := h
    refine ⟨_, pss_one (ps_ret (pe_and (pe_c cW hr pass0 (pa_cons (pv 0) pa_nil)) (pe_one (pe_cmpR op_le (pv 1) (pv 0) (nomark _))))), ?_⟩
    refine ⟨v, rfl, v, rfl, k, _, rfl, ?_⟩
    cases v with
    | int i => exact ⟨_, rfl, _, rfl, _, _, rfl, rfl, q⟩
    | _ => exact q
end
/-- an exception of three flat fields -/
def spX3 (K : PySem.W.Frag) (f g h : Str) : Sp := fun vs H Q _ => ∃ (a C : Addr) (u v w : V), vs = [.ref a, u, v, w] ∧ OexC K C ∧ PySem.W.findIn K (.ref C) f = some none ∧ PySem.W.findIn K (.ref C) g = some none ∧ PySem.W.findIn K (.ref C) h = some none ∧
  Flat u ∧ Flat v ∧ Flat w ∧ H a = some (exo a C none) ∧
  ∀ dx H', H dx = none → dx ≠ a → (∀ b, b ≠ a → b ≠ dx → H' b = H b) → H' a = some (exo a C (some dx)) → H' dx = some (exd dx [(h, w), (g, v), (f, u)]) → Q .non H'
def spX0 : Sp := fun vs H Q _ => ∃ a : Addr, vs = [.ref a] ∧ Q .non H
/-- an exception of one flat field -/
def spX1 (K : PySem.W.Frag) (f : Str) : Sp := fun vs H Q _ => ∃ (a C : Addr) (u : V), vs = [.ref a, u] ∧ OexC K C ∧ PySem.W.findIn K (.ref C) f = some none ∧ Flat u ∧ H a = some (exo a C none) ∧
  ∀ dx H', H dx = none → dx ≠ a → (∀ b, b ≠ a → b ≠ dx → H' b = H b) → H' a = some (exo a C (some dx)) → H' dx = some (exd dx [(f, u)]) → Q .non H'
/-- an exception of two flat fields -/
def spX2 (K : PySem.W.Frag) (f g : Str) : Sp := fun vs H Q _ => ∃ (a C : Addr) (u v : V), vs = [.ref a, u, v] ∧ OexC K C ∧ PySem.W.findIn K (.ref C) f = some none ∧ PySem.W.findIn K (.ref C) g = some none ∧ Flat u ∧ Flat v ∧ H a = some (exo a C none) ∧
  ∀ dx H', H dx = none → dx ≠ a → (∀ b, b ≠ a → b ≠ dx → H' b = H b) → H' a = some (exo a C (some dx)) → H' dx = some (exd dx [(g, v), (f, u)]) → Q .non H'
section
variable {P : Program} {w : World} {K : PySem.W.Frag} {mg : Str → Option Value} {base : Heap}
theorem scTMany : FnScope ["self", "what", "many", "most"] ["self", "what", "many", "most"] (defScope sTMany) := ⟨rfl, rfl, rfl, by decide +kernel, rfl, by decide +kernel, by decide +kernel⟩
theorem ok_TMany {f : Addr} {fd : FuncData} (F : Fun K "__init__" "TooMany.__init__" sTMany f fd) (cC : Cal CX0 P w K mg base 1 "copied" spCopied) : FnOk P w K mg base CX0 2 f fd ["self", "what", "many", "most"] (spX3 K "what" "many" "most") := by
  refine F.ok scTMany (fun vs H Q E h => ?_) (fun cdv A outer s H vs Q E hr h => ?_)
  · obtain ⟨a, C, u, v, z, rfl, _⟩ := h
    rfl
  · obtain ⟨a, C, u, v, z, rfl, T, n1, n2, n3, k1, k2, k3, ha, q⟩ := h
    refine ⟨_, pss_cons (ps_ost (pv 0) (pe_c cC hr pass0 (pa_cons (pv 1) pa_nil))) (pss_cons (ps_ost (pv 0) (pe_c cC hr pass0 (pa_cons (pv 2) pa_nil))) (pss_one (ps_ost (pv 0) (pe_c cC hr pass0 (pa_cons (pv 3) pa_nil))))), ?_⟩
    refine ⟨u, rfl, u, rfl, k1, _, rfl, a, C, rfl, T, n1, .inl ⟨ha, fun dx nd na => ?_⟩⟩
    refine ⟨v, rfl, v, rfl, k2, _, rfl, a, C, rfl, T, n2, .inr ⟨dx, _, upd_same, by rw [upd_ne na]; exact upd_same, by show 1 ≤ 900; decide, ?_⟩⟩
    refine ⟨z, rfl, z, rfl, k3, _, rfl, a, C, rfl, T, n3, .inr ⟨dx, _, by rw [upd_ne (Ne.symm na)]; exact upd_same, upd_same, by show 2 ≤ 900; decide, ?_⟩⟩
    refine q dx _ nd na (fun b h1 h2 => ?_) ?_ upd_same
    · rw [upd_ne h2, upd_ne h2, upd_ne h1, upd_ne h2]
    · rw [upd_ne (Ne.symm na), upd_ne (Ne.symm na)]
      exact upd_same
theorem scBBits : FnScope ["self", "index"] ["self", "index"] (defScope sBBits) := ⟨rfl, rfl, rfl, by decide +kernel, rfl, by decide +kernel, by decide +kernel⟩
theorem ok_BBits {f : Addr} {fd : FuncData} (F : Fun K "__init__" "BadBits.__init__" sBBits f fd) (cC : Cal CX0 P w K mg base 1 "copied" spCopied) : FnOk P w K mg base CX0 2 f fd ["self", "index"] (spX1 K "index") := by
  refine F.ok scBBits (fun vs H Q E h => ?_) (fun cdv A outer s H vs Q E hr h => ?_)
  · obtain ⟨a, C, u, rfl, _⟩ := h
    rfl
  · obtain ⟨a, C, u, rfl, T, n1, k1, ha, q⟩ := h
    refine ⟨_, pss_one (ps_ost (pv 0) (pe_c cC hr pass0 (pa_cons (pv 1) pa_nil))), ?_⟩
    refine ⟨u, rfl, u, rfl, k1, _, rfl, a, C, rfl, T, n1, .inl ⟨ha, fun dx nd na => ?_⟩⟩
    refine q dx _ nd na (fun b h1 h2 => ?_) upd_same ?_
    · rw [upd_ne h1, upd_ne h2]
    · rw [upd_ne na]
      exact upd_same
theorem scBTally : FnScope ["self", "index"] ["self", "index"] (defScope sBTally) := ⟨rfl, rfl, rfl, by decide +kernel, rfl, by decide +kernel, by decide +kernel⟩
theorem ok_BTally {f : Addr} {fd : FuncData} (F : Fun K "__init__" "BadTally.__init__" sBTally f fd) (cC : Cal CX0 P w K mg base 1 "copied" spCopied) : FnOk P w K mg base CX0 2 f fd ["self", "index"] (spX1 K "index") := by
  refine F.ok scBTally (fun vs H Q E h => ?_) (fun cdv A outer s H vs Q E hr h => ?_)
  · obtain ⟨a, C, u, rfl, _⟩ := h
    rfl
  · obtain ⟨a, C, u, rfl, T, n1, k1, ha, q⟩ := h
    refine ⟨_, pss_one (ps_ost (pv 0) (pe_c cC hr pass0 (pa_cons (pv 1) pa_nil))), ?_⟩
    refine ⟨u, rfl, u, rfl, k1, _, rfl, a, C, rfl, T, n1, .inl ⟨ha, fun dx nd na => ?_⟩⟩
    refine q dx _ nd na (fun b h1 h2 => ?_) upd_same ?_
    · rw [upd_ne h1, upd_ne h2]
    · rw [upd_ne na]
      exact upd_same
theorem scBLen : FnScope ["self", "index"] ["self", "index"] (defScope sBLen) := ⟨rfl, rfl, rfl, by decide +kernel, rfl, by decide +kernel, by decide +kernel⟩
theorem ok_BLen {f : Addr} {fd : FuncData} (F : Fun K "__init__" "BadLength.__init__" sBLen f fd) (cC : Cal CX0 P w K mg base 1 "copied" spCopied) : FnOk P w K mg base CX0 2 f fd ["self", "index"] (spX1 K "index") := by
  refine F.ok scBLen (fun vs H Q E h => ?_) (fun cdv A outer s H vs Q E hr h => ?_)
  · obtain ⟨a, C, u, rfl, _⟩ := h
    rfl
  · obtain ⟨a, C, u, rfl, T, n1, k1, ha, q⟩ := h
    refine ⟨_, pss_one (ps_ost (pv 0) (pe_c cC hr pass0 (pa_cons (pv 1) pa_nil))), ?_⟩
    refine ⟨u, rfl, u, rfl, k1, _, rfl, a, C, rfl, T, n1, .inl ⟨ha, fun dx nd na => ?_⟩⟩
    refine q dx _ nd na (fun b h1 h2 => ?_) upd_same ?_
    · rw [upd_ne h1, upd_ne h2]
    · rw [upd_ne na]
      exact upd_same
theorem scBegins : FnScope ["self", "index", "other"] ["self", "index", "other"] (defScope sBegins) := ⟨rfl, rfl, rfl, by decide +kernel, rfl, by decide +kernel, by decide +kernel⟩
theorem ok_Begins {f : Addr} {fd : FuncData} (F : Fun K "__init__" "Begins.__init__" sBegins f fd) (cC : Cal CX0 P w K mg base 1 "copied" spCopied) : FnOk P w K mg base CX0 2 f fd ["self", "index", "other"] (spX2 K "index" "other") := by
  refine F.ok scBegins (fun vs H Q E h => ?_) (fun cdv A outer s H vs Q E hr h => ?_)
  · obtain ⟨a, C, u, v, rfl, _⟩ := h
    rfl
  · obtain ⟨a, C, u, v, rfl, T, n1, n2, k1, k2, ha, q⟩ := h
    refine ⟨_, pss_cons (ps_ost (pv 0) (pe_c cC hr pass0 (pa_cons (pv 1) pa_nil))) (pss_one (ps_ost (pv 0) (pe_c cC hr pass0 (pa_cons (pv 2) pa_nil)))), ?_⟩
    refine ⟨u, rfl, u, rfl, k1, _, rfl, a, C, rfl, T, n1, .inl ⟨ha, fun dx nd na => ?_⟩⟩
    refine ⟨v, rfl, v, rfl, k2, _, rfl, a, C, rfl, T, n2, .inr ⟨dx, _, upd_same, by rw [upd_ne na]; exact upd_same, by show 1 ≤ 900; decide, ?_⟩⟩
    refine q dx _ nd na (fun b h1 h2 => ?_) ?_ upd_same
    · rw [upd_ne h2, upd_ne h1, upd_ne h2]
    · rw [upd_ne (Ne.symm na)]
      exact upd_same
theorem scNFull : FnScope ["self"] ["self"] (defScope sNFull) := ⟨rfl, rfl, rfl, by decide +kernel, rfl, by decide +kernel, by decide +kernel⟩
theorem ok_NFull {f : Addr} {fd : FuncData} (F : Fun K "__init__" "NotFull.__init__" sNFull f fd) : FnOk P w K mg base CX0 1 f fd ["self"] spX0 := by
  refine F.ok scNFull (fun vs H Q E h => ?_) (fun cdv A outer s H vs Q E hr h => ?_)
  · obtain ⟨a, rfl, _⟩ := h
    rfl
  · obtain ⟨a, rfl, q⟩ := h
    exact ⟨_, pss_one ps_pass, q⟩
end
/-- behind a raise: all that was there, and the error's fields at d -/
structure Rsd (H H' : Hp) (d : Addr) (fs : List (Str × V)) : Prop where
  new : H d = none
  same : Same H H'
  at_ : H' d = some (.xd fs)
theorem rsd_of {H H2 : Hp} {a d C : Addr} {fs : List (Str × V)} (na : H a = none) (nd : H d = none) (h : ∀ b, b ≠ a → b ≠ d → H2 b = H b) : Rsd H (upd (del H2 a) d (.xd fs)) d fs :=
  ⟨nd, fun b o e => by
    rw [upd_ne (ne_of_none e nd), del_ne (ne_of_none e na), h b (ne_of_none e na) (ne_of_none e nd)]
    exact e, upd_same⟩
theorem raise3 {H : Hp} {C : Addr} {f g h : Str} {u v z : V} {R : XK} {K : PySem.W.Frag} (T : OexC K C) (n1 : PySem.W.findIn K (.ref C) f = some none) (n2 : PySem.W.findIn K (.ref C) g = some none) (n3 : PySem.W.findIn K (.ref C) h = some none)
    (k1 : Flat u) (k2 : Flat v) (k3 : Flat z) (r : ∀ d H', Rsd H H' d [(h, z), (g, v), (f, u)] → R (.ref C) (some d) H') :
    ([u, v, z] : List V).length ≤ 1000 ∧ ∀ a, H a = none → spX3 K f g h (.ref a :: ([u, v, z] ++ [])) (upd H a (exo a C none)) (fun y H2 => y = .non ∧ ∃ (d : Addr) (fs : List (Str × V)), H2 a = some (exo a C (some d)) ∧ H2 d = some (exd d fs) ∧ H d = none ∧ R (.ref C) (some d) (upd (del H2 a) d (.xd fs))) (fun _ _ _ => False) := by
  refine ⟨by show 3 ≤ 1000; decide, fun a na => ⟨a, C, u, v, z, rfl, T, n1, n2, n3, k1, k2, k3, upd_same, fun dx H' nd ne hk ha hd => ⟨rfl, dx, _, ha, hd, ?_, r _ _ ?_⟩⟩⟩
  · rw [upd_ne ne] at nd
    exact nd
  · refine rsd_of (C := C) na (by rw [upd_ne ne] at nd; exact nd) fun b h1 h2 => ?_
    rw [hk b h1 h2, upd_ne h1]
theorem raise0 {H : Hp} {C : Addr} {R : XK} {K : PySem.W.Frag} (r : ∀ H', Same H H' → R (.ref C) none H') :
    ∀ a, H a = none → spX0 [.ref a] (upd H a (exo a C none)) (fun v H2 => v = .non ∧ H2 a = some (exo a C none) ∧ R (.ref C) none (del H2 a)) (fun _ _ _ => False) := fun a na =>
  ⟨a, rfl, rfl, upd_same, r _ fun b o e => by rw [del_ne (ne_of_none e na), upd_ne (ne_of_none e na)]; exact e⟩
theorem raise2 {H : Hp} {C : Addr} {f g : Str} {u v : V} {R : XK} {K : PySem.W.Frag} (T : OexC K C) (n1 : PySem.W.findIn K (.ref C) f = some none) (n2 : PySem.W.findIn K (.ref C) g = some none)
    (k1 : Flat u) (k2 : Flat v) (r : ∀ d H', Rsd H H' d [(g, v), (f, u)] → R (.ref C) (some d) H') :
    ([u, v] : List V).length ≤ 1000 ∧ ∀ a, H a = none → spX2 K f g (.ref a :: ([u, v] ++ [])) (upd H a (exo a C none)) (fun y H2 => y = .non ∧ ∃ (d : Addr) (fs : List (Str × V)), H2 a = some (exo a C (some d)) ∧ H2 d = some (exd d fs) ∧ H d = none ∧ R (.ref C) (some d) (upd (del H2 a) d (.xd fs))) (fun _ _ _ => False) := by
  refine ⟨by show 2 ≤ 1000; decide, fun a na => ⟨a, C, u, v, rfl, T, n1, n2, k1, k2, upd_same, fun dx H' nd ne hk ha hd => ⟨rfl, dx, _, ha, hd, ?_, r _ _ ?_⟩⟩⟩
  · rw [upd_ne ne] at nd
    exact nd
  · refine rsd_of (C := C) na (by rw [upd_ne ne] at nd; exact nd) fun b h1 h2 => ?_
    rw [hk b h1 h2, upd_ne h1]
theorem raise1 {H : Hp} {C : Addr} {f : Str} {u : V} {R : XK} {K : PySem.W.Frag} (T : OexC K C) (n1 : PySem.W.findIn K (.ref C) f = some none)
    (k1 : Flat u) (r : ∀ d H', Rsd H H' d [(f, u)] → R (.ref C) (some d) H') :
    ([u] : List V).length ≤ 1000 ∧ ∀ a, H a = none → spX1 K f (.ref a :: ([u] ++ [])) (upd H a (exo a C none)) (fun y H2 => y = .non ∧ ∃ (d : Addr) (fs : List (Str × V)), H2 a = some (exo a C (some d)) ∧ H2 d = some (exd d fs) ∧ H d = none ∧ R (.ref C) (some d) (upd (del H2 a) d (.xd fs))) (fun _ _ _ => False) := by
  refine ⟨by show 1 ≤ 1000; decide, fun a na => ⟨a, C, u, rfl, T, n1, k1, upd_same, fun dx H' nd ne hk ha hd => ⟨rfl, dx, _, ha, hd, ?_, r _ _ ?_⟩⟩⟩
  · rw [upd_ne ne] at nd
    exact nd
  · refine rsd_of (C := C) na (by rw [upd_ne ne] at nd; exact nd) fun b h1 h2 => ?_
    rw [hk b h1 h2, upd_ne h1]
/-! ### lists, tuples, what stays -/
/-- a list or a tuple at u -/
def LT (H : Hp) (u : Addr) (ts : List V) : Prop := H u = some (.lst ts) ∨ H u = some (.tup ts)
theorem LT.sq {K : PySem.W.Frag} {H : Hp} {u : Addr} {ts : List V} (h : LT H u ts) : Sq K H u ts := h.elim (fun h => .inl (SqL.of h)) fun h => .inr (SqT.of h)
theorem LT.same {H H' : Hp} {u : Addr} {ts : List V} (h : LT H u ts) (e : Same H H') : LT H' u ts := h.imp (fun h => e _ _ h) fun h => e _ _ h
theorem LT.kn {H : Hp} {u : Addr} {ts : List V} (h : LT H u ts) : Kn H (.ref u) := h.elim .lst .tup
def isLT (H : Hp) (v : V) : Bool := isL H v || isT H v
theorem LT.is {H : Hp} {u : Addr} {ts : List V} (h : LT H u ts) : isLT H (.ref u) = true := by
  unfold isLT
  rcases h with h | h
  · rw [isL_lst h]
    rfl
  · rw [isT_tup h, Bool.or_true]
theorem Kn.any (K : PySem.W.Frag) {H : Hp} {v : V} (k : Kn H v) : ∃ t : String, TyX K H v (.type t) ∧ PySem.W.kitAny K (.type t) [.type "list", .type "tuple"] = some (isLT H v) := by
  obtain ⟨t, ty, _, _, k3, k4, _⟩ := k.kinds K
  refine ⟨t, ty, kitAny_cons k4 (fun z => ?_) (fun z => by unfold isLT; rw [z]; rfl)⟩
  refine kitAny_cons k3 (fun z2 => by unfold isLT; rw [z, z2]; rfl) (fun z2 => by unfold isLT; rw [z2, Bool.or_true])
theorem Kn.lt_same {H H' : Hp} {v : V} (k : Kn H v) (e : Same H H') : isLT H' v = isLT H v := by
  unfold isLT
  cases k with
  | lst h => rw [isL_lst h, isL_lst (e _ _ h)]; rfl
  | tup h => rw [isT_tup h, isT_tup (e _ _ h), Bool.or_true, Bool.or_true]
  | _ => rfl
theorem paired_get {α β : Type} {F : α → β → Prop} : ∀ {ts : List α} {ps : List β} {i : Nat} {v : α}, Paired F ts ps → ts[i]? = some v → ∃ p, ps[i]? = some p ∧ F v p
  | _, _, _, _, .nil, h => by simp at h
  | _, _, 0, _, .cons h _, e => by cases e; exact ⟨_, rfl, h⟩
  | _, _, i + 1, v, .cons _ t, e => paired_get (i := i) t (by simpa using e)
theorem paired_to {α β : Type} {F : α → β → Prop} : ∀ {ts : List α} {ps : List β} {i : Nat} {p : β}, Paired F ts ps → ps[i]? = some p → ∃ v, ts[i]? = some v ∧ F v p
  | _, _, _, _, .nil, h => by simp at h
  | _, _, 0, _, .cons h _, e => by cases e; exact ⟨_, rfl, h⟩
  | _, _, i + 1, v, .cons _ t, e => paired_to (i := i) t (by simpa using e)
theorem paired_map {α β γ : Type} {F : α → β → Prop} {G : α → γ → Prop} {g : β → γ} (h : ∀ a b, F a b → G a (g b)) : ∀ {ts : List α} {ps : List β}, Paired F ts ps → Paired G ts (ps.map g)
  | _, _, .nil => .nil
  | _, _, .cons x t => .cons (h _ _ x) (paired_map h t)
theorem paired_unmap {α β γ : Type} {F : α → β → Prop} {G : α → γ → Prop} {g : β → γ} (h : ∀ a b, G a (g b) → F a b) : ∀ {ps : List β} {ts : List α}, Paired G ts (ps.map g) → Paired F ts ps
  | [], _, .nil => .nil
  | _ :: _, _, .cons x t => .cons (h _ _ x) (paired_unmap h t)
/-- tuples stay -/
def TT (H H' : Hp) : Prop := ∀ a xs, H a = some (.tup xs) → H' a = some (.tup xs)
theorem TT.same {H H' : Hp} (e : Same H H') : TT H H' := fun a xs z => e _ _ z
theorem TT.trans {H H1 H2 : Hp} (a : TT H H1) (b : TT H1 H2) : TT H H2 := fun c xs z => b _ _ (a _ _ z)
theorem TT.lst {H : Hp} {D : Addr} {xs ys : List V} (hD : H D = some (.lst xs)) : TT H (upd H D (.lst ys)) := fun a zs z => (upd_ne (ne_of z hD fun y => nomatch y)).trans z
/-- what is not at p stays -/
def ButI (p : Addr) (H H' : Hp) : Prop := ∀ b o, b ≠ p → H b = some o → H' b = some o
structure RsC (p : Addr) (H H' : Hp) (d : Addr) (fs : List (Str × V)) : Prop where
  new : H d = none
  same : ButI p H H'
  at_ : H' d = some (.xd fs)
structure TL (H H' : Hp) : Prop where
  l : ∀ a xs, H a = some (.lst xs) → H' a = some (.lst xs)
  t : ∀ a xs, H a = some (.tup xs) → H' a = some (.tup xs)
theorem TL.but {H H' : Hp} {C p dx : Addr} {fs : List (Str × V)} (hp : H p = some (.ins C dx fs)) (u : ButI p H H') : TL H H' := ⟨fun a xs z => u _ _ (ne_of z hp fun y => nomatch y) z, fun a xs z => u _ _ (ne_of z hp fun y => nomatch y) z⟩
theorem TL.pen {H H' : Hp} {pn cl : Addr} {b : Nat} (pen : Pen H pn cl b) (u : But pn H H') : TL H H' := by
  obtain ⟨k, l, cs, h1, _⟩ := pen
  exact ⟨fun a xs z => u _ _ (ne_of z h1 fun y => nomatch y) z, fun a xs z => u _ _ (ne_of z h1 fun y => nomatch y) z⟩
theorem TL.trans {H H1 H2 : Hp} (a : TL H H1) (b : TL H1 H2) : TL H H2 := ⟨fun c xs z => b.l _ _ (a.l _ _ z), fun c xs z => b.t _ _ (a.t _ _ z)⟩
theorem TL.same {H H' : Hp} (e : Same H H') : TL H H' := ⟨fun a xs z => e _ _ z, fun a xs z => e _ _ z⟩
structure Xc (P : Program) (w : World) (K : PySem.W.Frag) (mg : Str → Option Value) (base : Heap) (k : Nat) (x : Str) (C : Addr) (sp : Sp) : Prop where
  T : OexC K C
  mgC : mg x = some (.ref C)
  ex : ∃ (f : Addr) (fd : FuncData) (ps : List Str), PySem.W.findIn K (.ref C) "__init__" = some (some (.ref f)) ∧ PySem.W.typeIn K (.ref f) = some (.type "function") ∧ FnOk P w K mg base CX0 k f fd ps sp ∧ Binds K fd ps []
section
variable {X : Cx} {k j : Nat} {x : Str} {C : Addr} {sp : Sp} {e : Expr} {es : List Expr} {t : TA} {p pos : Pos}
theorem pmk_x (c : Xc X.prog X.w X.K X.mg X.base k x C sp) (hr : Room j X.A) (ha : PA X (e :: es) t) (hk : k + 1 ≤ j := by decide) (hg : Gl X x := by rfl) (hdb : (x == ("__debug__" : Str)) = false := by decide)
    (he : starEach (e :: es) X.env = (false, eval e X.env) :: starEach es X.env := by rfl) (hpl : (backTo pos (starEach es X.env)).any (·.1) = false := by rfl) : PMk X (.Call (.Name x p) (e :: es) [] pos) (tMkO C sp [] t) := by
  obtain ⟨f, fd, ps, i1, i2, F, b⟩ := c.ex
  exact pmk_oex c.T i1 i2 F (hr.mono hk) b .nil pass0 hg c.mgC ha hdb he hpl
end
/-- an exception class, caught -/
structure Ct (K : PySem.W.Frag) (mg : Str → Option Value) (x : Str) (C : Addr) : Prop where
  g : mg x = some (.ref C)
  T : XfC K C
  me : PySem.W.exmOne K (.ref C) (.ref C) = some true
section
variable {X : Cx}
def rSmD (K : PySem.W.Frag) : R2 := fun x y H Q => ∃ d, Dp K H x d ∧ Dp K H y d ∧ SeqAt.shaped d = true ∧ Q (.bl false) H
theorem op_neSmD (hu : X.A.units + 64 < cLine) : OpR X (compareOp .NotEq) (rSmD X.K) := by
  intro pins s σ H x y v u Q I rx ry h
  obtain ⟨d, d1, d2, sh, q⟩ := h
  refine op_neD hu pins s σ H _ _ v u Q I rx ry ⟨d, d, d1, d2, sh, sh, ?_⟩
  rw [SeqAt.eqv_refl _ (Bool.and_eq_true_iff.mp sh).1]
  exact q
def rSmE (K : PySem.W.Frag) : R2 := fun x y H Q => ∃ d, Dp K H x d ∧ Dp K H y d ∧ SeqAt.shaped d = true ∧ Q (.bl true) H
theorem op_eqSmD (hu : X.A.units + 64 < cLine) : OpR X (compareOp .Eq) (rSmE X.K) := by
  intro pins s σ H x y v u Q I rx ry ⟨d, d1, d2, sh, q⟩
  refine op_eqD hu pins s σ H _ _ v u Q I rx ry ⟨d, d, d1, d2, sh, sh, ?_⟩
  rw [SeqAt.eqv_refl _ (Bool.and_eq_true_iff.mp sh).1]
  exact q
end
section
variable {X : Cx} {k j : Nat} {x : Str} {C : Addr} {sp : Sp} {p pos : Pos}
theorem pmk_x0 (c : Xc X.prog X.w X.K X.mg X.base k x C sp) (hr : Room j X.A) (hk : k + 1 ≤ j := by decide) (hg : Gl X x := by rfl) (hdb : (x == ("__debug__" : Str)) = false := by decide) : PMk X (.Call (.Name x p) [] [] pos) (tMkO0 C sp) := by
  obtain ⟨f, fd, ps, i1, i2, F, b⟩ := c.ex
  exact pmk_oex0 c.T i1 i2 F (hr.mono hk) b pass0 hg c.mgC hdb
end
/-- all but dicts and tables stay -/
def Ks (H H' : Hp) : Prop := ∀ b o, H b = some o → (∀ ps, o ≠ .tbl ps) → (∀ kvs, o ≠ .dK kvs) → H' b = some o
theorem Ks.of {H H' : Hp} (e : Same H H') : Ks H H' := fun b o h _ _ => e b o h
theorem Ks.trans {H H1 H2 : Hp} (a : Ks H H1) (b : Ks H1 H2) : Ks H H2 := fun c o h n m => b c o (a c o h n m) n m
theorem Ks.refl (H : Hp) : Ks H H := fun _ _ h _ _ => h
theorem Ks.ext {H H' : Hp} (e : LamX.ExtN H H') : Ks H H' := fun b o h n _ => e b o h n
theorem Ks.pen {H H' : Hp} {pn cl : Addr} {b : Nat} (pen : Pen H pn cl b) (e : But pn H H') : Ks H H' := fun c o h _ m => e c o (pen.ne h m) h
theorem Ks.tl {H H' : Hp} (e : Ks H H') : TL H H' := ⟨fun a xs z => e _ _ z (fun _ y => nomatch y) (fun _ y => nomatch y), fun a xs z => e _ _ z (fun _ y => nomatch y) (fun _ y => nomatch y)⟩
theorem Ks.ins {H H' : Hp} {a C dx : Addr} {fs : List (Str × V)} (e : Ks H H') (h : H a = some (.ins C dx fs)) : H' a = some (.ins C dx fs) := e _ _ h (fun _ y => nomatch y) fun _ y => nomatch y
theorem Kn.tl {H H2 : Hp} {v : V} (k : Kn H v) (s : TL H H2) : Kn H2 v := by
  cases k with
  | non => exact .non
  | bl b => exact .bl b
  | int i => exact .int i
  | str x => exact .str x
  | lst e => exact .lst (s.l _ _ e)
  | tup e => exact .tup (s.t _ _ e)
theorem tabs_at {Tb : List (Addr × Str)} {H H' : Hp} {p : Addr} {o : HO} (t : LamX.Tabs Tb H) (hp : H p = some o) (n1 : ∀ ps, o ≠ .tbl ps) (n2 : ∀ f, o ≠ .ext f) (e : ButI p H H') : LamX.Tabs Tb H' := fun pt hpt => by
  obtain ⟨ps, a1, a2, a3⟩ := t pt hpt
  refine ⟨ps, e _ _ (ne_of a1 hp fun z => n1 _ z.symm) a1, a2, fun pos cv hc => ?_⟩
  obtain ⟨c0, e1, e2⟩ := a3 pos cv hc
  exact ⟨c0, e1, e _ _ (ne_of e2 hp fun z => n2 _ (by unfold LamX.CodeO at z; exact z.symm)) e2⟩
theorem tabs_but {Tb : List (Addr × Str)} {H H' : Hp} {pn cl : Addr} {b : Nat} (tabs : LamX.Tabs Tb H) (pen : Pen H pn cl b) (bt : But pn H H') : LamX.Tabs Tb H' := by
  obtain ⟨k, l, cs, p1, _⟩ := pen
  exact tabs_at tabs p1 (fun _ z => nomatch z) (fun _ z => nomatch z) bt
theorem Pen.ext {H H' : Hp} {pn cl : Addr} {b : Nat} (h : Pen H pn cl b) (e : LamX.ExtN H H') : Pen H' pn cl b := let ⟨k, l, cs, h1, h2, h3, h4⟩ := h; ⟨k, l, cs, e _ _ h1 (fun _ z => nomatch z), e _ _ h2 (fun _ z => nomatch z), h3, h4⟩
/-- the pen and the tables -/
structure PT (Tb : List (Addr × Str)) (H : Hp) (pn cl : Addr) (b : Nat) : Prop where
  pen : Pen H pn cl b
  tabs : LamX.Tabs Tb H
section
variable {Tb : List (Addr × Str)} {H H' : Hp} {pn cl : Addr} {b c : Nat}
theorem PT.same (h : PT Tb H pn cl b) (e : Same H H') : PT Tb H' pn cl b := ⟨h.pen.same e, h.tabs.ext e⟩
theorem PT.but (h : PT Tb H pn cl b) (e : But pn H H') (p : Pen H' pn cl c) : PT Tb H' pn cl c := ⟨p, tabs_but h.tabs h.pen e⟩
theorem PT.ext (h : PT Tb H pn cl b) (e : LamX.ExtN H H') (t : LamX.Tabs Tb H') : PT Tb H' pn cl b := ⟨h.pen.ext e, t⟩
end
theorem same_ins {H : Hp} {p dx C : Addr} {fs : List (Str × V)} (np : H p = none) (nd : H dx = none) : Same H (upd (upd H dx (.own p)) p (.ins C dx fs)) := fun b o z => by
  rw [upd_ne (ne_of_none z np), upd_ne (ne_of_none z nd)]
  exact z
theorem butI_same {H H1 H' : Hp} {p : Addr} (e : Same H H1) (np : H p = none) (b : ButI p H1 H') : Same H H' := fun c o z => b c o (ne_of_none z np) (e _ _ z)
theorem rSmD_of {K : PySem.W.Frag} {H : Hp} {t t2 : Addr} {us : List V} {Q : VK} (nt : H t = none) (nt2 : upd H t (.tup us) t2 = none) (fl : ∀ v ∈ us, Flat v) (q : ∀ H', Same H H' → Q (.bl false) H') : rSmD K (.ref t) (.ref t2) (upd (upd H t (.tup us)) t2 (.tup us)) Q :=
  ⟨.tuple (us.map dOf), .tup (SqT.of ((upd_ne (ne_of_none (show upd H t (.tup us) t = some (.tup us) from upd_same) nt2)).trans upd_same)) (dpAll_flat fl), .tup (SqT.of upd_same) (dpAll_flat fl), shT_flat fl, q _ ((same_new nt).trans (same_new nt2))⟩
theorem rSmE_of {K : PySem.W.Frag} {H : Hp} {t t2 : Addr} {us : List V} {Q : VK} (nt : H t = none) (nt2 : upd H t (.tup us) t2 = none) (fl : ∀ v ∈ us, Flat v) (q : ∀ H', Same H H' → Q (.bl true) H') : rSmE K (.ref t) (.ref t2) (upd (upd H t (.tup us)) t2 (.tup us)) Q :=
  ⟨.tuple (us.map dOf), .tup (SqT.of ((upd_ne (ne_of_none (show upd H t (.tup us) t = some (.tup us) from upd_same) nt2)).trans upd_same)) (dpAll_flat fl), .tup (SqT.of upd_same) (dpAll_flat fl), shT_flat fl, q _ ((same_new nt).trans (same_new nt2))⟩
theorem cutSeq {D : Ends} {t u : TS} {σ : St} {H : Hp} (R : St → Hp → Prop) (h1 : ∀ nx : St → Hp → Prop, (∀ σ' H', R σ' H' → nx σ' H') → t { D with nx := nx } σ H) (h2 : ∀ σ' H', R σ' H' → u D σ' H') : tSeq t u D σ H := h1 _ h2
end K40
set_option Elab.async false
set_option linter.all false
set_option maxRecDepth 100001
set_option maxHeartbeats 3999999
namespace K40
open PySem L2
open Builtin Builtin.Str Builtin.Int
/-- a number, in twos -/
def binT (n : Nat) : Str := ⟨((Nat.toDigits 2 n).map Char.toNat).toArray⟩
theorem name_int {a : Int} {t : Tok} {n : Nat} {k : String → Sem Fin} {m : Made} (g : Gives (k "int") m) : Gives (do let z ← typeNameOfCut n (.int a t); k z) m :=
  fun prog w A R s hq => wpAny_bind (PyProof.Rows.wpAny_typeNameOfCut_int (g prog w A R s hq))
theorem gives_ret {x y : Str} (h : x = y) : Gives (retStr x) (.str y) := by
  subst h
  exact .of_eq rfl
theorem dig2 (n : Nat) : ((Nat.toDigits 2 n).map fun c => (if (98 == 88) = true then c.toUpper else c).toNat) = (Nat.toDigits 2 n).map Char.toNat := rfl
theorem gives_bin (n : Nat) (t u : Tok) : Gives («int.__format__» ⟨[.int (n : Nat) t, .str "b" u], []⟩) (.str (binT n)) := by
  unfold «int.__format__»
  simp only [selfAndOne, noKeywords, Int.intOfSelf, asInt?, asStr?, List.isEmpty_nil, if_true, pure_bind, bind_pure, bind_assoc]
  rw [if_neg (fun z => nomatch z)]
  refine gives_after_typeNameOf (T := "str") (fun s => typeIs_str s _ _) (by decide) fun _ => ?_
  rw [if_neg (by decide +kernel), if_neg (by decide +kernel)]
  refine name_int ?_
  have hp : Float.parseFormatSpec (Str.ofString "b").cps.toList "int" 62 = .ok { fill := 32, align := 62, type := some 98 } := by rfl
  rw [hp]
  dsimp only
  rw [if_pos (by decide +kernel)]
  rw [show (some 98).getD (if ((Str.ofString "b").cps.back? == some 0) = true then 0 else 100) = 98 from rfl]
  clear hp
  generalize hf : ({ align := 62, type := some 98 } : Float.FormatSpec) = f
  have f1 : f.precision = none := by rw [← hf]
  have f2 : f.noNeg0 = false := by rw [← hf]
  have f3 : f.width = none := by rw [← hf]
  have f4 : f.alt = false := by rw [← hf]
  have f5 : f.sign = none := by rw [← hf]
  have f6 : f.grouping = none := by rw [← hf]
  have f7 : f.align = 62 := by rw [← hf]
  have f8 : f.fill = 32 := by rw [← hf]
  clear hf
  show Gives (if _ then _ else _) _
  rw [if_neg (by simp [f1])]
  show Gives (if _ then _ else _) _
  rw [if_neg (by simp [f2])]
  show Gives (if _ then _ else _) _
  rw [if_neg (by decide)]
  show Gives (if _ then _ else _) _
  rw [if_neg (by simp [f3])]
  show Gives (if _ then _ else _) _
  rw [if_neg (by simp [f3])]
  refine gives_ret ?_
  simp only [f4, Bool.false_eq_true, if_false]
  rw [decide_eq_false (show ¬ ((n : Nat) : Int) < 0 by omega), dig2, Int.natAbs_natCast, if_neg (by decide)]
  have ne : ((Nat.toDigits 2 n).map Char.toNat).isEmpty = false := by
    have := PyProof.Rows.tDigits_len_ge 2 n
    cases h : Nat.toDigits 2 n with
    | nil => rw [h] at this; simp at this
    | cons _ _ => rfl
  unfold binT
  generalize (Nat.toDigits 2 n).map Char.toNat = ds at ne ⊢
  obtain ⟨fl, al, sg, nz, at_, wd, gr, pr, ty⟩ := f
  dsimp only at f1 f2 f3 f4 f5 f6 f7 f8
  subst f1 f2 f3 f4 f5 f6 f7 f8
  conv => lhs; whnf
  simp [ne]
section
variable {X : Cx} {e : Expr} {te : TE} {p1 p2 p3 p4 p5 : Pos} {k : Option Str}
/-- a number, in twos -/
def tBin (te : TE) : TE := fun σ H Q => te σ H fun x H1 => ∃ n : Nat, x = .int (n : Nat) ∧ (binT n).length ≤ sizeLine ∧ Q (.str (binT n)) H1
open PyProof.Rows in
theorem pe_bin (he : PE X e te) : PE X (.JoinedStr [.FormattedValue e (-1) (some (.JoinedStr [.Constant (.str "b") 0 p1] p2)) p3] p4) (tBin te) := by
  refine pe_joined1 ⟨fun pins s σ H Q I h => ?_⟩
  refine wpAny_FormattedValue_spec (thn (he.run pins s σ H _ I h) fun v s1 hv => ?_)
  obtain ⟨x, H1, I1, r1, n, rfl, hz, q⟩ := hv
  obtain ⟨t, rfl⟩ := r1
  refine wpAny_JoinedStr_one (wpAny_Constant_str ⟨Str.ofString "b", _, rfl, ?_⟩)
  refine wpAny_formatField_spec (T := "int") (x := binT n) (by decide +kernel) (fun s' => typeIs_int s' _ _) PySem.F.slot_int_format PySem.F.entry_int_format PySem.F.args_int_format_2 (fun u => gives_bin n t u) ?_ (by decide +kernel) hz
  exact ⟨.str (binT n), H1, (I1.tok _).tok _, ⟨_, rfl⟩, q⟩
end
end K40
set_option linter.all false
set_option maxRecDepth 100001
set_option maxHeartbeats 3999999
namespace K40
/-! ### words of bits -/
abbrev W := List Bool
/-- no word begins another one -/
def PF (ws : List W) : Prop := ws.Pairwise fun a b => ¬ a <+: b ∧ ¬ b <+: a
def kr (L : Nat) (ws : List W) : Nat := (ws.map fun w => 2 ^ (L - w.length)).sum
inductive Full : List W → Prop
  | one : Full [[]]
  | two {zs os : List W} (a : Full zs) (b : Full os) : Full (zs.map (false :: ·) ++ os.map (true :: ·))
theorem Full.pos {ws : List W} (h : Full ws) : 1 ≤ ws.length := by
  induction h with
  | one => simp
  | two a b ia ib => rw [List.length_append, List.length_map]; omega
theorem Full.parts {ws : List W} (h : Full ws) (l : 2 ≤ ws.length) : ∃ zs os, Full zs ∧ Full os ∧ ws = zs.map (false :: ·) ++ os.map (true :: ·) := by
  cases h with
  | one => simp at l
  | two a b => exact ⟨_, _, a, b, rfl⟩
def tl (b : Bool) (ws : List W) : List W := ws.filterMap fun w => match w with
  | h :: t => if h = b then some t else none
  | [] => none
theorem kr_cons (L : Nat) (w : W) (ws : List W) : kr L (w :: ws) = 2 ^ (L - w.length) + kr L ws := by simp [kr]
theorem kr_split (L : Nat) : ∀ (ws : List W), (∀ w ∈ ws, w ≠ []) → kr (L + 1) ws = kr L (tl false ws) + kr L (tl true ws)
  | [], _ => rfl
  | [] :: r, h => absurd rfl (h _ List.mem_cons_self)
  | (x :: t) :: r, h => by
    have ih := kr_split L r fun w hw => h w (List.mem_cons_of_mem _ hw)
    have e : L + 1 - (x :: t).length = L - t.length := by rw [List.length_cons]; omega
    rw [kr_cons, e, ih]
    cases x with
    | false =>
      have e1 : tl false ((false :: t) :: r) = t :: tl false r := by simp [tl]
      have e2 : tl true ((false :: t) :: r) = tl true r := by simp [tl]
      rw [e1, e2, kr_cons]
      omega
    | true =>
      have e1 : tl true ((true :: t) :: r) = t :: tl true r := by simp [tl]
      have e2 : tl false ((true :: t) :: r) = tl false r := by simp [tl]
      rw [e1, e2, kr_cons]
      omega
theorem mem_tl {b : Bool} {ws : List W} {t : W} (h : t ∈ tl b ws) : b :: t ∈ ws := by
  unfold tl at h
  rw [List.mem_filterMap] at h
  obtain ⟨w, hw, e⟩ := h
  cases w with
  | nil => cases e
  | cons x r =>
    dsimp only at e
    by_cases c : x = b
    · rw [if_pos c] at e
      cases e
      rw [← c]
      exact hw
    · rw [if_neg c] at e
      cases e
theorem pf_tl {b : Bool} {ws : List W} (h : PF ws) : PF (tl b ws) := by
  unfold PF tl
  refine List.Pairwise.filterMap _ ?_ h
  intro a a' r t ht t' ht'
  cases a with
  | nil => cases ht
  | cons x s =>
    cases a' with
    | nil => cases ht'
    | cons x' s' =>
      dsimp only at ht ht'
      by_cases c : x = b
      · by_cases c' : x' = b
        · rw [if_pos c] at ht
          rw [if_pos c'] at ht'
          cases ht
          cases ht'
          subst c c'
          exact ⟨fun z => r.1 (List.cons_prefix_cons.mpr ⟨rfl, z⟩), fun z => r.2 (List.cons_prefix_cons.mpr ⟨rfl, z⟩)⟩
        · rw [if_neg c'] at ht'
          cases ht'
      · rw [if_neg c] at ht
        cases ht
theorem pf_nil {ws : List W} (h : PF ws) (m : [] ∈ ws) : ws = [[]] := by
  cases ws with
  | nil => cases m
  | cons w r =>
    obtain ⟨h1, h2⟩ := List.pairwise_cons.mp h
    rcases List.mem_cons.mp m with e | m
    · subst e
      cases r with
      | nil => rfl
      | cons v s => exact absurd (List.nil_prefix) (h1 v List.mem_cons_self).1
    · exact absurd (List.nil_prefix) (h1 [] m).2
theorem kraft : ∀ (L : Nat) (ws : List W), PF ws → (∀ w ∈ ws, w.length ≤ L) → kr L ws ≤ 2 ^ L
  | L, ws, h, hl => by
    by_cases m : [] ∈ ws
    · rw [pf_nil h m]
      simp [kr]
    · match L with
      | 0 =>
        cases ws with
        | nil => simp [kr]
        | cons w r =>
          have := hl w List.mem_cons_self
          have : w = [] := List.length_eq_zero_iff.mp (by omega)
          exact absurd (this ▸ List.mem_cons_self) m
      | L + 1 =>
        have nn : ∀ w ∈ ws, w ≠ [] := fun w hw z => m (z ▸ hw)
        rw [kr_split L ws nn]
        have a := kraft L (tl false ws) (pf_tl h) fun t ht => by have := hl _ (mem_tl ht); rw [List.length_cons] at this; omega
        have b := kraft L (tl true ws) (pf_tl h) fun t ht => by have := hl _ (mem_tl ht); rw [List.length_cons] at this; omega
        rw [Nat.pow_succ]
        omega
/-- in order -/
def cd (b : Bool) : Nat := if b then 49 else 48
def Asc (ws : List W) : Prop := ws.Pairwise fun a b => ¬ b.map cd < a.map cd
theorem asc_tl {b : Bool} {ws : List W} (h : Asc ws) : Asc (tl b ws) := by
  unfold Asc tl
  refine List.Pairwise.filterMap _ ?_ h
  intro a a' r t ht t' ht'
  cases a with
  | nil => cases ht
  | cons x s =>
    cases a' with
    | nil => cases ht'
    | cons x' s' =>
      dsimp only at ht ht'
      by_cases c : x = b
      · by_cases c' : x' = b
        · rw [if_pos c] at ht
          rw [if_pos c'] at ht'
          cases ht
          cases ht'
          subst c c'
          intro z
          exact r (by rw [List.map_cons, List.map_cons]; exact List.cons_lt_cons_self.mpr z)
        · rw [if_neg c'] at ht'
          cases ht'
      · rw [if_neg c] at ht
        cases ht
theorem asc_split : ∀ {ws : List W}, Asc ws → (∀ w ∈ ws, w ≠ []) → ws = (tl false ws).map (false :: ·) ++ (tl true ws).map (true :: ·)
  | [], _, _ => rfl
  | [] :: r, _, h => absurd rfl (h _ List.mem_cons_self)
  | (false :: t) :: r, a, h => by
    have ih := asc_split (List.pairwise_cons.mp a).2 fun w hw => h w (List.mem_cons_of_mem _ hw)
    have e1 : tl false ((false :: t) :: r) = t :: tl false r := by simp [tl]
    have e2 : tl true ((false :: t) :: r) = tl true r := by simp [tl]
    rw [e1, e2, List.map_cons, List.cons_append, ← ih]
  | (true :: t) :: r, a, h => by
    have ih := asc_split (List.pairwise_cons.mp a).2 fun w hw => h w (List.mem_cons_of_mem _ hw)
    have e1 : tl true ((true :: t) :: r) = t :: tl true r := by simp [tl]
    have e2 : tl false ((true :: t) :: r) = tl false r := by simp [tl]
    have z : tl false r = [] := by
      cases q : tl false r with
      | nil => rfl
      | cons s ss =>
        have m : s ∈ tl false r := by rw [q]; exact List.mem_cons_self
        have lt := (List.pairwise_cons.mp a).1 _ (mem_tl m)
        refine absurd ?_ lt
        rw [List.map_cons, List.map_cons]
        exact List.Lex.rel (by decide)
    rw [e1, e2, z]
    rw [z] at ih
    simp only [List.map_nil, List.nil_append, List.map_cons] at ih ⊢
    rw [← ih]
theorem full_of : ∀ (L : Nat) (ws : List W), PF ws → Asc ws → (∀ w ∈ ws, w.length ≤ L) → kr L ws = 2 ^ L → Full ws
  | L, ws, h, a, hl, e => by
    by_cases m : [] ∈ ws
    · rw [pf_nil h m]
      exact .one
    · match L with
      | 0 =>
        cases ws with
        | nil => simp [kr] at e
        | cons w r =>
          have := hl w List.mem_cons_self
          have : w = [] := List.length_eq_zero_iff.mp (by omega)
          exact absurd (this ▸ List.mem_cons_self) m
      | L + 1 =>
        have nn : ∀ w ∈ ws, w ≠ [] := fun w hw z => m (z ▸ hw)
        have l1 : ∀ b, ∀ t ∈ tl b ws, t.length ≤ L := fun b t ht => by have := hl _ (mem_tl ht); rw [List.length_cons] at this; omega
        rw [kr_split L ws nn, Nat.pow_succ] at e
        have k1 := kraft L (tl false ws) (pf_tl h) (l1 _)
        have k2 := kraft L (tl true ws) (pf_tl h) (l1 _)
        rw [asc_split a nn]
        exact .two (full_of L _ (pf_tl h) (asc_tl a) (l1 _) (by omega)) (full_of L _ (pf_tl h) (asc_tl a) (l1 _) (by omega))
end K40
set_option linter.all false
set_option maxRecDepth 100001
set_option maxHeartbeats 3999999
namespace K40
/-- so many bits of a number, the greatest first -/
def bits : Nat → Nat → W
  | 0, _ => []
  | l + 1, n => bits l (n / 2) ++ [decide (n % 2 = 1)]
theorem bits_len : ∀ (l n : Nat), (bits l n).length = l
  | 0, _ => rfl
  | l + 1, n => by rw [bits, List.length_append, bits_len l, List.length_singleton]
theorem bits_take : ∀ (d l n : Nat), (bits (l + d) n).take l = bits l (n / 2 ^ d)
  | 0, l, n => by
    rw [Nat.add_zero, Nat.pow_zero, Nat.div_one, List.take_of_length_le (by rw [bits_len]; exact Nat.le_refl _)]
  | d + 1, l, n => by
    rw [← Nat.add_assoc, bits, List.take_append_of_le_length (by rw [bits_len]; omega), bits_take d l, Nat.div_div_eq_div_mul, Nat.pow_succ, Nat.mul_comm]
theorem bits_inj : ∀ (l : Nat) {n m : Nat}, n < 2 ^ l → m < 2 ^ l → bits l n = bits l m → n = m
  | 0, n, m, hn, hm, _ => by
    rw [Nat.pow_zero] at hn hm
    omega
  | l + 1, n, m, hn, hm, e => by
    rw [bits, bits] at e
    obtain ⟨e1, e2⟩ := List.append_inj e (by rw [bits_len, bits_len])
    rw [Nat.pow_succ] at hn hm
    have := bits_inj l (n := n / 2) (m := m / 2) (by omega) (by omega) e1
    have e3 : decide (n % 2 = 1) = decide (m % 2 = 1) := List.singleton_inj.mp e2
    have : (n % 2 = 1 ↔ m % 2 = 1) := by
      rw [decide_eq_decide] at e3
      exact e3
    omega
/-- the words of a code told by its lengths alone; nx: the next number, of sz bits -/
def canoW : Nat → Nat → List Nat → List W
  | _, _, [] => []
  | nx, sz, l :: r => bits l (nx * 2 ^ (l - sz)) :: canoW (nx * 2 ^ (l - sz) + 1) l r
theorem canoW_lens : ∀ (nx sz : Nat) (ls : List Nat), (canoW nx sz ls).map List.length = ls
  | _, _, [] => rfl
  | nx, sz, l :: r => by rw [canoW, List.map_cons, bits_len, canoW_lens]
def kl (L : Nat) (ls : List Nat) : Nat := (ls.map fun l => 2 ^ (L - l)).sum
theorem kl_cons (L l : Nat) (ls : List Nat) : kl L (l :: ls) = 2 ^ (L - l) + kl L ls := by simp [kl]
theorem kr_kl (L : Nat) (ws : List W) : kr L ws = kl L (ws.map List.length) := by
  unfold kr kl
  rw [List.map_map]
  rfl
/-- the numbers stand in their room -/
structure Room_ (L nx sz : Nat) (ls : List Nat) : Prop where
  asc : ls.Pairwise (· ≤ ·)
  lo : ∀ l ∈ ls, sz ≤ l
  hi : ∀ l ∈ ls, l ≤ L
  szL : sz ≤ L
  fit : nx * 2 ^ (L - sz) + kl L ls ≤ 2 ^ L
theorem pow_cut {a b c : Nat} (h1 : a ≤ b) (h2 : b ≤ c) : 2 ^ (b - a) * 2 ^ (c - b) = 2 ^ (c - a) := by
  rw [← Nat.pow_add]
  congr 1
  omega
theorem Room_.next {L nx sz l : Nat} {r : List Nat} (h : Room_ L nx sz (l :: r)) : Room_ L (nx * 2 ^ (l - sz) + 1) l r := by
  obtain ⟨a1, a2⟩ := List.pairwise_cons.mp h.asc
  have l1 := h.lo l List.mem_cons_self
  have l2 := h.hi l List.mem_cons_self
  refine ⟨a2, a1, fun x hx => h.hi x (List.mem_cons_of_mem _ hx), l2, ?_⟩
  have f := h.fit
  rw [kl_cons] at f
  rw [Nat.add_mul, Nat.one_mul, Nat.mul_assoc, pow_cut l1 l2]
  omega
theorem canoW_mem : ∀ {L : Nat} {ls : List Nat} {nx sz : Nat}, Room_ L nx sz ls → ∀ w ∈ canoW nx sz ls, ∃ l n, w = bits l n ∧ l ∈ ls ∧ n < 2 ^ l ∧ nx * 2 ^ (L - sz) ≤ n * 2 ^ (L - l)
  | _, [], _, _, _, w, h => nomatch h
  | L, l :: r, nx, sz, R, w, h => by
    have l1 := R.lo l List.mem_cons_self
    have l2 := R.hi l List.mem_cons_self
    have R2 := R.next
    rw [canoW] at h
    rcases List.mem_cons.mp h with rfl | h
    · refine ⟨l, _, rfl, List.mem_cons_self, ?_, ?_⟩
      · have f := R2.fit
        have p : 0 < 2 ^ (L - l) := Nat.two_pow_pos _
        have : (nx * 2 ^ (l - sz) + 1) * 2 ^ (L - l) ≤ 2 ^ l * 2 ^ (L - l) := by
          rw [← Nat.pow_add, show l + (L - l) = L by omega]
          omega
        have := Nat.le_of_mul_le_mul_right this p
        omega
      · rw [Nat.mul_assoc, pow_cut l1 l2]
        exact Nat.le_refl _
    · obtain ⟨l', n, e, m, lt, le⟩ := canoW_mem R2 w h
      refine ⟨l', n, e, List.mem_cons_of_mem _ m, lt, Nat.le_trans ?_ le⟩
      rw [Nat.add_mul, Nat.mul_assoc, pow_cut l1 l2]
      omega
theorem bits_pre {l d n m : Nat} (hn : n < 2 ^ l) (hm : m < 2 ^ (l + d)) (h : bits l n <+: bits (l + d) m) : m < (n + 1) * 2 ^ d := by
  have e : bits l n = bits l (m / 2 ^ d) := by
    have := List.prefix_iff_eq_take.mp h
    rw [bits_len] at this
    rw [← bits_take]
    exact this
  have p : 0 < 2 ^ d := Nat.two_pow_pos _
  have lt : m / 2 ^ d < 2 ^ l := (Nat.div_lt_iff_lt_mul p).mpr (by rw [← Nat.pow_add]; exact hm)
  have := bits_inj l hn lt e
  rw [this, Nat.mul_comm]
  exact Nat.lt_mul_div_succ m p
theorem canoW_pf : ∀ {L : Nat} {ls : List Nat} {nx sz : Nat}, Room_ L nx sz ls → PF (canoW nx sz ls)
  | _, [], _, _, _ => .nil
  | L, l :: r, nx, sz, R => by
    have l2 := R.hi l List.mem_cons_self
    have R2 := R.next
    have n0 : nx * 2 ^ (l - sz) < 2 ^ l := by
      have f := R2.fit
      have p : 0 < 2 ^ (L - l) := Nat.two_pow_pos _
      have : (nx * 2 ^ (l - sz) + 1) * 2 ^ (L - l) ≤ 2 ^ l * 2 ^ (L - l) := by
        rw [← Nat.pow_add, show l + (L - l) = L by omega]
        omega
      have := Nat.le_of_mul_le_mul_right this p
      omega
    rw [canoW]
    refine List.Pairwise.cons (fun w hw => ?_) (canoW_pf R2)
    obtain ⟨l', n, rfl, m, lt, le⟩ := canoW_mem R2 w hw
    have ll : l ≤ l' := R2.lo l' m
    have lL : l' ≤ L := R2.hi l' m
    generalize nx * 2 ^ (l - sz) = k at n0 le ⊢
    have key : ¬ bits l k <+: bits l' n := fun h => by
      obtain ⟨d, rfl⟩ := Nat.exists_eq_add_of_le ll
      have b := bits_pre n0 lt h
      have c : n * 2 ^ (L - (l + d)) < (k + 1) * 2 ^ (L - l) := by
        have e : 2 ^ (L - l) = 2 ^ d * 2 ^ (L - (l + d)) := by
          rw [← Nat.pow_add]
          congr 1
          omega
        rw [e, ← Nat.mul_assoc]
        exact Nat.mul_lt_mul_of_pos_right b (Nat.two_pow_pos _)
      omega
    refine ⟨key, fun h => key ?_⟩
    have le2 := h.length_le
    rw [bits_len, bits_len] at le2
    have : bits l' n = bits l k := h.eq_of_length (by rw [bits_len, bits_len]; omega)
    rw [this]
    exact List.prefix_refl _
theorem room_start {L : Nat} {ls : List Nat} (a : ls.Pairwise (· ≤ ·)) (h : ∀ l ∈ ls, l ≤ L) (f : kl L ls ≤ 2 ^ L) : Room_ L 0 0 ls := ⟨a, fun _ _ => Nat.zero_le _, h, Nat.zero_le _, by rw [Nat.zero_mul, Nat.zero_add]; exact f⟩
end K40
set_option Elab.async false
set_option linter.all false
set_option maxRecDepth 100001
set_option maxHeartbeats 3999999
namespace K40
open PySem L2
/-! ### texts -/
def S (l : List Nat) : Str := ⟨l.toArray⟩
theorem S_list (l : List Nat) : (S l).cps.toList = l := rfl
theorem S_size (l : List Nat) : (S l).cps.size = l.length := by simp [S]
theorem S_len (l : List Nat) : (S l).length = l.length := S_size l
theorem S_get (l : List Nat) (i : Nat) : (S l).cps[i]? = l[i]? := by simp [S]
theorem S_inj {l m : List Nat} (h : S l = S m) : l = m := congrArg (fun z : Str => z.cps.toList) h
theorem S_of (z : Str) : z = S z.cps.toList := rfl
def isS : V → Bool
  | .str _ => true
  | _ => false
theorem ks_of {K : PySem.W.Frag} {t : String} {b : Bool} (h : kitB t "str" = some b) : PySem.W.kitOne K (.type t) (.type "str") = some b := h
theorem Kn.isStr (K : PySem.W.Frag) {H : Hp} {v : V} (k : Kn H v) : ∃ t : String, TyX K H v (.type t) ∧ PySem.W.kitOne K (.type t) (.type "str") = some (isS v) := by
  cases k with
  | non => exact ⟨_, .base .non, ks_of (show kitB "NoneType" "str" = some false by decide +kernel)⟩
  | bl b => exact ⟨_, .base (.bl b), ks_of (show kitB "bool" "str" = some false by decide +kernel)⟩
  | int i => exact ⟨_, .base (.int i), ks_of (show kitB "int" "str" = some false by decide +kernel)⟩
  | str x => exact ⟨_, .base (.str x), ks_of (show kitB "str" "str" = some true by decide +kernel)⟩
  | lst e => exact ⟨_, .base (.lst e), ks_of (show kitB "list" "str" = some false by decide +kernel)⟩
  | tup e => exact ⟨_, .base (.tup e), ks_of (show kitB "tuple" "str" = some false by decide +kernel)⟩
theorem yesT {te : TE} {σ : St} {H : Hp} {Q : VK} {N : Hp → Prop} (h : te σ H Q) : tYes σ H fun b H3 => if b = true then te σ H3 Q else N H3 := by
  unfold tYes
  exact iteT h
/-- a comprehension whose elements change nothing -/
theorem lcP {J : It} {n : Nat} {G : Hp → Prop} {Y : Nat → Hp → V → Hp → Prop} (wk : Walk J n G Y) {g : TG} {tt : L2.TT} {te : TE} {vs : List Nat} {σ : St} {H1 : Hp} {D : Addr} {Qd : Hp → Prop} (us fs : List V) (hn : us.length = n) (hf : fs.length = n) (hb : n ≤ 10000)
    (hY : ∀ (i : Nat) (x : V) (H H' : Hp), Y i H x H' → H' = H ∧ us[i]? = some x) (hG : ∀ H', Same H1 H' → G H') (nD : H1 D = none)
    (hs : ∀ (i : Nat) (x y : V) (H : Hp) (Q : VK) (N : Hp → Prop), us[i]? = some x → fs[i]? = some y → Same H1 H → Q y H → g x (wipe σ vs) H fun σ2 H2 => wipe σ2 vs = wipe σ vs ∧ tt σ2 H2 fun b H3 => if b = true then te σ2 H3 Q else N H3)
    (hd : ∀ H, Same H1 H → H D = some (.lst fs) → Qd H) :
    ∃ W : Nat → Nat → Hp → Prop, (∃ m, W 0 m (upd H1 D (.lst []))) ∧ ∀ i m H, W i m H →
      (J.stop i H ∧ Qd H) ∨ (J.go i H ∧ ∃ Nx : Hp → Prop, (∀ H', Nx H' → ∃ m', m' < m ∧ W (i + 1) m' H') ∧ ∀ x H', J.yld i H x H' → g x (wipe σ vs) H' fun σ2 H2 => wipe σ2 vs = wipe σ vs ∧ tt σ2 H2 fun b H3 =>
        if b = true then te σ2 H3 fun y H4 => ∃ acc, H4 D = some (.lst acc) ∧ acc.length < sizeLine ∧ Nx (upd H4 D (.lst (acc ++ [y]))) else Nx H3) := by
  refine lc_it wk (fun i H' => Same H1 H' ∧ H' D = some (.lst (fs.take i))) ⟨same_new nD, upd_same⟩ (fun i H' _ z => hG H' z.1) ?_ ?_
  · rintro i x H H' hi ⟨e1, hD⟩ y
    obtain ⟨rfl, hx⟩ := hY i x H H' y
    have hi2 : i < fs.length := by omega
    refine hs i x fs[i] H' _ _ hx (List.getElem?_eq_getElem hi2) e1 ⟨_, hD, ?_, fun b o z => ?_, ?_⟩
    · rw [List.length_take]
      exact small10 (by omega)
    · rw [upd_ne (ne_of_none z nD)]
      exact e1 _ _ z
    · rw [List.take_add_one, List.getElem?_eq_getElem hi2]
      exact upd_same
  · rintro H ⟨e1, hD⟩
    refine hd H e1 ?_
    rw [hD, List.take_of_length_le (by omega)]
/-- a comprehension over a text -/
theorem lcS {z : Str} {g : TG} {tt : L2.TT} {te : TE} {vs : List Nat} {σ : St} {H1 : Hp} {D : Addr} {Qd : Hp → Prop} (f : Nat → V) (hb : z.cps.size ≤ 10000) (nD : H1 D = none)
    (hs : ∀ c H (Q : VK) (N : Hp → Prop), c ∈ z.cps.toList → Same H1 H → Q (f c) H → g (.str ⟨#[c]⟩) (wipe σ vs) H fun σ2 H2 => wipe σ2 vs = wipe σ vs ∧ tt σ2 H2 fun b H3 => if b = true then te σ2 H3 Q else N H3)
    (hd : ∀ H, Same H1 H → H D = some (.lst (z.cps.toList.map f)) → Qd H) :
    ∃ W : Nat → Nat → Hp → Prop, (∃ m, W 0 m (upd H1 D (.lst []))) ∧ ∀ i m H, W i m H →
      ((Its z).stop i H ∧ Qd H) ∨ ((Its z).go i H ∧ ∃ Nx : Hp → Prop, (∀ H', Nx H' → ∃ m', m' < m ∧ W (i + 1) m' H') ∧ ∀ x H', (Its z).yld i H x H' → g x (wipe σ vs) H' fun σ2 H2 => wipe σ2 vs = wipe σ vs ∧ tt σ2 H2 fun b H3 =>
        if b = true then te σ2 H3 fun y H4 => ∃ acc, H4 D = some (.lst acc) ∧ acc.length < sizeLine ∧ Nx (upd H4 D (.lst (acc ++ [y]))) else Nx H3) := by
  refine lcP walk_str (sgns z) (z.cps.toList.map f) (by simp [sgns]) (by simp) hb ?_ (fun _ _ => True.intro) nD ?_ hd
  · rintro i x H H' ⟨rfl, c, hc, rfl⟩
    refine ⟨rfl, ?_⟩
    unfold sgns
    rw [List.getElem?_map, Array.getElem?_toList, hc]
    rfl
  · intro i x y H Q N hx hy e q
    unfold sgns at hx
    rw [List.getElem?_map] at hx hy
    cases hc : z.cps.toList[i]? with
    | none =>
      rw [hc] at hx
      cases hx
    | some c =>
      rw [hc] at hx hy
      cases hx
      cases hy
      exact hs c H Q N (List.mem_of_getElem? hc) e q
section
variable {X : Cx}
theorem pe_isStr {a : Expr} {es : List Expr} {t : TA} {p pos : Pos} (hm : X.mg "isinstance" = none) (ha : PA X (a :: es) t) (hg : Gl X "isinstance" := by rfl)
    (he : starEach (a :: es) X.env = (false, eval a X.env) :: starEach es X.env := by rfl) (hpl : (backTo pos (starEach es X.env)).any (·.1) = false := by rfl) :
    PE X (.Call (.Name "isinstance" p) (a :: es) [] pos) (tCB (rIsi X.K) t) := pe_isi hm ha hg he hpl
theorem pe_lenS {a : Expr} {es : List Expr} {t : TA} {p pos : Pos} (hm : X.mg "len" = none) (ha : PA X (a :: es) t) (hg : Gl X "len" := by rfl) (he : starEach (a :: es) X.env = (false, eval a X.env) :: starEach es X.env := by rfl)
    (hpl : (backTo pos (starEach es X.env)).any (·.1) = false := by rfl) :
    PE X (.Call (.Name "len" p) (a :: es) [] pos) (tCB (fun xs H Q => ∃ z, xs = [.str z] ∧ z.length ≤ sizeLine ∧ Q (.int z.length) H) t) := pe_callB call_len_str hg hm PySem.boot_len ha (he := he) (hpl := hpl)
theorem pe_all {a : Expr} {es : List Expr} {t : TA} {p pos : Pos} (hc : X.calm = true) (hm : X.mg "all" = none) (ha : PA X (a :: es) t) (hg : Gl X "all" := by rfl) (he : starEach (a :: es) X.env = (false, eval a X.env) :: starEach es X.env := by rfl)
    (hpl : (backTo pos (starEach es X.env)).any (·.1) = false := by rfl) :
    PE X (.Call (.Name "all" p) (a :: es) [] pos) (tCB (rAll X.K) t) := pe_callB (cr_all hc) hg hm (by decide +kernel) ha (he := he) (hpl := hpl)
end
/-! ### texts of bits -/
def bS (w : W) : Str := S (w.map cd)
theorem bS_len (w : W) : (bS w).length = w.length := by rw [bS, S_len, List.length_map]
def isBit (c : Nat) : Bool := c == 48 || c == 49
/-- a text of bits -/
def isBs : V → Bool
  | .str x => x.cps.toList.all isBit
  | _ => false
theorem cd_bit (b : Bool) : isBit (cd b) = true := by cases b <;> rfl
theorem bits_of : ∀ (l : List Nat), l.all isBit = true → ∃ w : W, l = w.map cd
  | [], _ => ⟨[], rfl⟩
  | c :: r, h => by
    rw [List.all_cons, Bool.and_eq_true] at h
    obtain ⟨w, e⟩ := bits_of r h.2
    have h1 := h.1
    unfold isBit at h1
    simp only [Bool.or_eq_true, beq_iff_eq] at h1
    rcases h1 with rfl | rfl
    · exact ⟨false :: w, by rw [e]; rfl⟩
    · exact ⟨true :: w, by rw [e]; rfl⟩
theorem isBs_of {v : V} (h : isBs v = true) : ∃ w : W, v = .str (bS w) := by
  cases v with
  | str x =>
    obtain ⟨w, e⟩ := bits_of _ h
    exact ⟨w, by rw [bS, ← e]; rfl⟩
  | _ => cases h
theorem isBs_bS (w : W) : isBs (.str (bS w)) = true := by
  show (w.map cd).all isBit = true
  rw [List.all_map, List.all_eq_true]
  intro b _
  exact cd_bit b
theorem cd_inj {a b : Bool} (h : cd a = cd b) : a = b := by cases a <;> cases b <;> first | rfl | cases h
theorem map_cd_inj : ∀ {a b : W}, a.map cd = b.map cd → a = b
  | [], [], _ => rfl
  | [], _ :: _, h => nomatch h
  | _ :: _, [], h => nomatch h
  | x :: a, y :: b, h => by
    rw [List.map_cons, List.map_cons] at h
    injection h with h1 h2
    rw [cd_inj h1, map_cd_inj h2]
theorem bS_inj {a b : W} (h : bS a = bS b) : a = b := map_cd_inj (S_inj h)
/-- what is left of a text whose ends are cut -/
theorem strip_some {g : Nat → Bool} {x : Str} (h : ¬ x.cps.toList.all g = true) : 0 < (Txt.stripBy g true true x).length := by
  unfold Txt.stripBy
  have key : stripLo g true x < stripHi g true x (stripLo g true x) ∧ stripHi g true x (stripLo g true x) ≤ x.length := by
    unfold stripLo stripHi
    rw [if_pos rfl, if_pos rfl]
    have hx : x.length = x.cps.toList.length := by rw [Array.length_toList]; rfl
    rw [hx]
    generalize x.cps.toList = l at h ⊢
    have e := List.takeWhile_append_dropWhile (p := g) (l := l)
    cases q : l.dropWhile g with
    | nil =>
      rw [q, List.append_nil] at e
      refine absurd ?_ h
      rw [List.all_eq_true]
      intro c hc
      rw [← e] at hc
      have := List.all_takeWhile (p := g) (l := l)
      exact List.all_eq_true.mp this c hc
    | cons c r =>
      have gc : g c = false := by
        have := List.head?_dropWhile_not g l
        rw [q] at this
        simpa using this
      have dl : l.drop (l.takeWhile g).length = c :: r := by
        have e2 : l = l.takeWhile g ++ (c :: r) := by rw [← q]; exact e.symm
        exact (congrArg (fun z => z.drop (l.takeWhile g).length) e2).trans List.drop_left
      rw [dl, List.reverse_cons]
      have tw : ((r.reverse ++ [c]).takeWhile g).length ≤ r.length := by
        have hh := (List.takeWhile_prefix (p := g) (l := r.reverse ++ [c])).length_le
        rw [List.length_append, List.length_reverse, List.length_singleton] at hh
        rcases Nat.lt_or_ge r.length ((r.reverse ++ [c]).takeWhile g).length with lt | ge
        · have full : (r.reverse ++ [c]).takeWhile g = r.reverse ++ [c] := (List.takeWhile_prefix (p := g) (l := r.reverse ++ [c])).eq_of_length (by rw [List.length_append, List.length_reverse, List.length_singleton]; omega)
          have ga := List.all_takeWhile (p := g) (l := r.reverse ++ [c])
          rw [full, List.all_eq_true] at ga
          rw [ga c (by simp)] at gc
          cases gc
        · exact ge
      have ll : l.length = (l.takeWhile g).length + (r.length + 1) := by
        have := congrArg List.length e
        rw [List.length_append, q, List.length_cons] at this
        omega
      omega
  cases z : stripSame g true true x with
  | true =>
    rw [if_pos rfl]
    omega
  | false =>
    rw [if_neg (by decide)]
    unfold stripped
    have : (Builtin.Str.strSub x (stripLo g true x) (stripHi g true x (stripLo g true x))).length = stripHi g true x (stripLo g true x) - stripLo g true x := by
      show (x.cps.extract _ _).size = _
      rw [Array.size_extract]
      have : x.cps.size = x.length := rfl
      omega
    omega
end K40
set_option Elab.async false
set_option linter.all false
set_option maxRecDepth 100001
set_option maxHeartbeats 3999999
namespace K40
open PySem L2
abbrev sFwb : Stmt := topS 29
structure Bs (mg : Str → Option Value) : Prop where
  str : mg "str" = none
  all : mg "all" = none
  any : mg "any" = none
  sum : mg "sum" = none
  zip : mg "zip" = none
  sorted : mg "sorted" = none
/-! ### words in order -/
theorem lt_nil {l : List Nat} : ¬ l < [] := fun h => nomatch h
/-- between a word and one that it begins there stand only words that it begins -/
theorem between : ∀ {a b c : W}, ¬ c.map cd < a.map cd → ¬ b.map cd < c.map cd → a <+: b → a <+: c
  | [], _, _, _, _, _ => List.nil_prefix
  | x :: a, b, c, h1, h2, p => by
    obtain ⟨t, rfl⟩ := p
    cases c with
    | nil => exact absurd List.Lex.nil h1
    | cons y c =>
      rw [List.map_cons, List.map_cons] at h1
      rw [List.cons_append, List.map_cons, List.map_cons] at h2
      have e : x = y := by
        refine cd_inj (Nat.le_antisymm ?_ ?_)
        · exact Nat.not_lt.mp fun z => h1 (List.Lex.rel z)
        · exact Nat.not_lt.mp fun z => h2 (List.Lex.rel z)
      subst e
      rw [List.cons_prefix_cons]
      exact ⟨rfl, between (fun z => h1 (List.Lex.cons z)) (fun z => h2 (List.Lex.cons z)) (List.prefix_append a t)⟩
theorem pre_lt : ∀ {a b : W}, b <+: a → ¬ b.map cd < a.map cd → b = a
  | [], b, p, _ => List.prefix_nil.mp p
  | x :: a, [], _, h => absurd List.Lex.nil h
  | x :: a, y :: b, p, h => by
    obtain ⟨e0, p2⟩ := List.cons_prefix_cons.mp p
    subst e0
    rw [List.map_cons, List.map_cons] at h
    have e := pre_lt p2 fun z => h (List.Lex.cons z)
    rw [e]
theorem pf_of_adj : ∀ {ws : List W}, Asc ws → (∀ (i : Nat) (a b : W), ws[i]? = some a → ws[i + 1]? = some b → ¬ a <+: b) → PF ws
  | [], _, _ => .nil
  | a :: r, s, h => by
    obtain ⟨s1, s2⟩ := List.pairwise_cons.mp s
    refine List.Pairwise.cons (fun b hb => ?_) (pf_of_adj s2 fun i x y hx hy => h (i + 1) x y (by simpa using hx) (by simpa using hy))
    cases r with
    | nil => cases hb
    | cons c r =>
      have nc : ¬ a <+: c := h 0 a c rfl rfl
      have np : ¬ a <+: b := fun p => nc (by
        rcases List.mem_cons.mp hb with rfl | hb
        · exact p
        · exact between (s1 c List.mem_cons_self) ((List.pairwise_cons.mp s2).1 b hb) p)
      exact ⟨np, fun p => np (by rw [pre_lt p (s1 b hb)]; exact List.prefix_refl _)⟩
/-! ### first_wrong_bit -/
theorem str1_eq (c d : Nat) : ((⟨#[d]⟩ : Str) == ⟨#[c]⟩) = (c == d) := by
  rw [Bool.eq_iff_iff]
  simp only [beq_iff_eq, Str.mk.injEq]
  constructor
  · intro h
    simpa using h.symm
  · intro h
    rw [h]
theorem inV_bit (c : Nat) : inV (.str ⟨#[c]⟩) [.str "0", .str "1"] = isBit c := by
  show ((⟨#[48]⟩ : Str) == ⟨#[c]⟩ || ((⟨#[49]⟩ : Str) == ⟨#[c]⟩ || false)) = isBit c
  rw [str1_eq, str1_eq, Bool.or_false]
  rfl

theorem kB_str {K : PySem.W.Frag} {H : Hp} {v : V} (k : Kn H v) : ∃ t : String, TyX K H v (.type t) ∧ PySem.W.kitOne K (.type t) (.type "str") = some (isS v) := k.isStr K
def spFwb : Sp := fun vs H Q _ => ∃ v, vs = [v] ∧ Kn H v ∧ (∀ x, v = .str x → x.length ≤ 10000) ∧ ∀ (r : Option Nat) H', Same H H' → (r = none ↔ isBs v = true) → Q (match r with | none => .non | some i => .int (i : Nat)) H'
section
variable {P : Program} {w : World} {K : PySem.W.Frag} {mg : Str → Option Value} {base : Heap}
theorem scFwb : FnScope ["value", "index", "bit"] ["value"] (defScope sFwb) := ⟨rfl, rfl, rfl, by decide +kernel, rfl, by decide +kernel, by decide +kernel⟩
theorem ok_fwb {f : Addr} {fd : FuncData} (F : Fun K "first_wrong_bit" "first_wrong_bit" sFwb f fd) (B : Bi mg) (Z : Bs mg) : FnOk P w K mg base CX0 1 f fd ["value"] spFwb := by
  refine F.ok scFwb (fun vs H Q E h => ?_) (fun cdv A outer s H vs Q E hr h => ?_)
  · obtain ⟨v, rfl, _⟩ := h
    rfl
  · obtain ⟨v, rfl, k, len, q⟩ := h
    refine ⟨_, pss_cons (ps_if (pt_not (pt_val (pe_isStr B.isi (pa_cons (pv 0) (pa_cons (pe_ty "str" Z.str) pa_nil))))) (pss_one (ps_ret pe_int)) pss_nil)
      (pss_cons (ps_if (pt_not (pt_truth (pe_bm PySem.F.plainAttrs_str PySem.F.slot_str_strip PySem.F.type_str_strip mt_stripChars (pv 0) (pa_cons pe_str pa_nil)) (fun _ => rfl))) (pss_one (ps_ret pe_non)) pss_nil)
      (pss_cons (ps_for PassesOwn.never rfl (L2.pi_enS rfl B.enum (pa_cons (pv 0) pa_nil)) (pg_tup rfl (pgs_cons (pg_name (i := 1) scFwb.nd rfl (.inl rfl)) (pgs_cons (pg_name (i := 2) scFwb.nd rfl (.inl rfl)) pgs_nil)))
        (pss_one (ps_if (pt_cmpR op_notIn_seq (pv 2) (pe_tup (pa_cons pe_str (pa_cons pe_str pa_nil))) rfl) (pss_one (ps_ret (pv 1))) pss_nil)))
      (pss_one (ps_ret pe_non)))), ?_⟩
    obtain ⟨t, ty, k1⟩ := k.isStr K
    refine ⟨_, rfl, _, _, _, _, _, rfl, .ty "str", ty, k1, _, rfl, ?_⟩
    cases v with
    | str x =>
      have lx : x.length ≤ 10000 := len x rfl
      refine iteF ⟨_, rfl, rfl, x, _, rfl, rfl, Nat.le_of_lt (small10 lx), _, ⟨?_, rfl⟩, ?_⟩
      · have h1 : (Txt.stripChars x "01").length ≤ x.length := by
          unfold Txt.stripChars Txt.stripBy
          split
          · exact Nat.le_refl _
          · unfold stripped
            show (x.cps.extract _ _).size ≤ x.cps.size
            rw [Array.size_extract]
            omega
        exact Nat.le_trans h1 (Nat.le_of_lt (small10 lx))
      have isB : isBs (.str x) = x.cps.toList.all isBit := rfl
      have bit01 : (("01" : Str).cps.contains : Nat → Bool) = isBit := by
        funext c
        show (#[48, 49] : Array Nat).contains c = isBit c
        unfold isBit
        simp [Array.contains]
      by_cases z : (((Txt.stripChars x "01").length : Int) != 0) = true
      · rw [z]
        refine iteF ?_
        refine ⟨_, rfl, x, rfl, for_it walk_enS (fun i σ H' => ∃ (a b : Option V), σ = [some (.str x), a, b] ∧ Same H H' ∧ ∀ j c, j < i → x.cps[j]? = some c → isBit c = true) ⟨none, none, rfl, Same.refl H, fun j c h => absurd h (Nat.not_lt_zero _)⟩ (fun _ _ _ _ _ => True.intro) ?_ ?_⟩
        · rintro i y σ H1 H2 hi ⟨a, b, rfl, e, ok⟩ ⟨T0, y1, y2, rfl, nT0, rfl, ey1, ey2⟩
          have ey1 : y1 = .int (i : Nat) := (Option.some.inj ey1).symm
          subst ey1
          have ey2 : (x.cps[i]?).map (fun c => V.str ⟨#[c]⟩) = some y2 := ey2
          cases hc : x.cps[i]? with
          | none => rw [hc] at ey2; cases ey2
          | some c =>
            rw [hc] at ey2
            have ey2 : y2 = .str ⟨#[c]⟩ := (Option.some.inj ey2).symm
            subst ey2
            have e2 : Same H (upd H1 T0 (.tup [.int (i : Nat), .str ⟨#[c]⟩])) := e.trans (same_new nT0)
            refine ⟨T0, _, rfl, SqT.of upd_same, rfl, _, _, rfl, _, _, rfl, rfl, ?_⟩
            refine ⟨_, rfl, by show 2 ≤ sizeLine; decide, fun t2 nt2 => ⟨t2, _, rfl, .inr (SqT.of upd_same), rfl, rfl, _, rfl, ?_⟩⟩
            have e3 := e2.trans (same_new (o := .tup [.str "0", .str "1"]) nt2)
            rw [show (if true = true then !inV (.str ⟨#[c]⟩) [.str "0", .str "1"] else inV (.str ⟨#[c]⟩) [.str "0", .str "1"]) = !isBit c by rw [if_pos rfl, inV_bit]]
            cases hb : isBit c with
            | false =>
              refine iteT ⟨_, rfl, q (some i) _ e3 ⟨(fun z => nomatch z), fun z => ?_⟩⟩
              rw [isB, List.all_eq_true] at z
              have := z c (by rw [← Array.getElem?_toList] at hc; exact List.mem_of_getElem? hc)
              rw [hb] at this
              cases this
            | true =>
              refine iteF ⟨_, _, rfl, e3, fun j d hj hd => ?_⟩
              rcases Nat.lt_succ_iff_lt_or_eq.mp hj with h | rfl
              · exact ok j d h hd
              · have := Option.some.inj (hc.symm.trans hd)
                rw [← this]
                exact hb
        · rintro σ H1 ⟨a, b, rfl, e, ok⟩
          refine q none H1 e ⟨fun _ => ?_, fun _ => rfl⟩
          rw [isB, List.all_eq_true]
          intro c hc
          obtain ⟨j, hj⟩ := List.getElem?_of_mem hc
          rw [Array.getElem?_toList] at hj
          exact ok j c (Array.getElem?_eq_some_iff.mp hj).1 hj
      · have z2 : (((Txt.stripChars x "01").length : Int) != 0) = false := by simpa using z
        rw [z2]
        refine iteT (q none H (Same.refl H) ⟨fun _ => ?_, fun _ => rfl⟩)
        rw [isB]
        by_cases c : x.cps.toList.all isBit = true
        · exact c
        · have := strip_some c
          rw [← bit01] at this
          have e : (Txt.stripChars x "01").length = (Txt.stripBy (("01" : Str).cps.contains) true true x).length := rfl
          rw [← e] at this
          simp at z2
          omega
    | _ => exact iteT (q (some 0) H (Same.refl H) ⟨(fun z => nomatch z), (fun z => nomatch z)⟩)
end
end K40
set_option Elab.async false
set_option linter.all false
set_option maxRecDepth 100001
set_option maxHeartbeats 3999999
namespace K40
open PySem L2
abbrev sChW : Stmt := topS 28
theorem sw_bS (a b : W) : Txt.startswith (bS a) (bS b) = decide (b <+: a) := by
  rw [Bool.eq_iff_iff, decide_eq_true_iff]
  unfold Txt.startswith
  rw [Bool.and_eq_true, decide_eq_true_iff, bS_len, bS_len, Nat.zero_add]
  unfold Builtin.Str.subAt
  rw [beq_iff_eq, bS_len, Nat.zero_add]
  have e : (bS a).cps.extract 0 b.length = (bS b).cps ↔ (a.map cd).take b.length = b.map cd := by
    rw [← Array.toList_inj, Array.toList_extract]
    show List.extract (a.map cd) 0 b.length = b.map cd ↔ _
    rw [List.extract_eq_take_drop, List.drop_zero, Nat.sub_zero]
  rw [e, ← List.map_take]
  constructor
  · rintro ⟨_, h⟩
    rw [List.prefix_iff_eq_take, map_cd_inj h]
  · intro h
    refine ⟨h.length_le, ?_⟩
    rw [← List.prefix_iff_eq_take.mp h]
def wV (w : W) : V := .str (bS w)
def okB (l : Nat) (v : V) : Bool := match v with
  | .str x => isBs (.str x) && decide (x.length = l)
  | _ => false
/-- one of two words begins the other -/
def bg (a b : W) : Prop := a <+: b ∨ b <+: a
def spChW (CB CE : Addr) : Sp := fun vs H Q E => ∃ (l s : Addr) (ls : List Nat) (ts : List V), vs = [.ref l, .ref s] ∧ H l = some (.lst (ls.map fun n : Nat => V.int (n : Nat))) ∧ LT H s ts ∧ ts.length = ls.length ∧ ts.length ≤ 60 ∧ (∀ v ∈ ts, Kn H v ∧ ∀ x, v = .str x → x.length ≤ 10000) ∧
  ((∃ i v, ts[i]? = some v ∧ okB (ls.getD i 0) v = false ∧ (∀ j u, j < i → ts[j]? = some u → okB (ls.getD j 0) u = true) ∧ ∀ d H', Rsd H H' d [("index", .int (i : Nat))] → E (.ref CB) (some d) H') ∨
   (∃ ws : List W, ts = ws.map wV ∧ ws.map List.length = ls ∧
     ((H s = some (.lst ts) ∧ ∃ i j a b, i < j ∧ ws[i]? = some a ∧ ws[j]? = some b ∧ bg a b ∧ (∀ i' j' x y, i' < j' → (i' < i ∨ (i' = i ∧ j' < j)) → ws[i']? = some x → ws[j']? = some y → ¬ bg x y) ∧ ∀ d H', Rsd H H' d [("other", .int (j : Nat)), ("index", .int (i : Nat))] → E (.ref CE) (some d) H') ∨
      (PF ws ∧ ∀ H', Same H H' → Q .non H'))))
abbrev NChW : List Str := ["lengths", "words", "index", "word", "order", "other", "at"]
section
variable {X : Cx}
theorem pe_any {a : Expr} {es : List Expr} {t : TA} {p pos : Pos} (hc : X.calm = true) (hm : X.mg "any" = none) (ha : PA X (a :: es) t) (hg : Gl X "any" := by rfl) (he : starEach (a :: es) X.env = (false, eval a X.env) :: starEach es X.env := by rfl)
    (hpl : (backTo pos (starEach es X.env)).any (·.1) = false := by rfl) :
    PE X (.Call (.Name "any" p) (a :: es) [] pos) (tCB (rAny X.K) t) := pe_callB (cr_any hc) hg hm (by decide +kernel) ha (he := he) (hpl := hpl)
end
section
variable {X : Cx} {tg e : Expr}
/-- enumerate of a list or a tuple -/
def iEnS (K : PySem.W.Frag) (ta : TA) : TI := fun σ H R => ta σ H fun vs H1 => ∃ a xs, vs = [.ref a] ∧ Sq K H1 a xs ∧ ∀ (J : It) (G : Hp → Prop), Walk J xs.length G (YPair (fun i => some (.int (i : Nat))) (fun i => xs[i]?)) → (∀ H', (∀ o, H1 a = some o → H' a = some o) → G H') → R J H1
open PySem.Spec PyProof.Rows in
theorem pi_en {ta : TA} {p pos tp : Pos} {es : List Expr} {kk : Nat} (hm : X.mg "enumerate" = none) (ha : PA X [e] ta) (hg : Gl X "enumerate" := by rfl) (hs : starEach [e] X.env = [(false, eval e X.env)] := by rfl) :
    PI X (.Tuple es kk tp) (.Call (.Name "enumerate" p) [e] [] pos) (iEnS X.K ta) := by
  constructor
  intro pins s σ H R I h
  refine Call_ (ld_blt I hg hm PyProof.Rows.boot_enumerate (PyProof.Rows.callWith_type1 (thn (ha.run pos pins s σ H _ I h) fun us s1 hh => ?_) hs rfl))
  obtain ⟨vs, H1, I1, r1, a, xs, ev, sq, k⟩ := hh
  subst ev
  have near : ∀ b ∈ [s1.heap.objs.size + 1, s1.heap.objs.size], FpOk X pins H1 b := fun b hb => by
    have ge : s1.heap.objs.size ≤ b := by
      rcases two_of hb with z | z
      · rw [z]; exact Nat.le_add_right _ _
      · rw [z]; exact Nat.le_refl _
    exact I1.fpOk ge (I1.hok.fresh ge)
  cases r1 with
  | cons r rr =>
    cases rr
    cases r
    rcases sq with hq | hq
    · obtain ⟨its, rv, p1, hz⟩ := I1.list hq
      refine call_enumerate_list p1.isList fun h2 he hd _ hk => wpAny_pyIter_enum he ?_
      exact ⟨s1.heap.objs.size + 1, _, _, _, H1, rfl, I1.kept (t' := s1.toks) hk, turn_enum a (s1.heap.objs.size + 1) s1.heap.objs.size, ⟨⟨.none, he⟩, hd, Nat.succ_ne_self _⟩, near, k _ _ walk_enum fun H' e => sqL_at hq e⟩
    · obtain ⟨its, rv, p2, hz⟩ := I1.tuple hq
      refine enumT_call (begins_tuple a its.toArray) p2 fun h2 he hd hk => wpAny_pyIter_enum he ?_
      exact ⟨s1.heap.objs.size + 1, _, _, _, H1, rfl, I1.kept (t' := s1.toks) hk, turn_enT a (s1.heap.objs.size + 1) s1.heap.objs.size, ⟨⟨.none, he⟩, ⟨_, hd, rfl, rfl⟩, Nat.succ_ne_self _⟩, near, k _ _ walk_enT fun H' e => sqT_at hq e⟩
end
theorem pe_bmK {X : Cx} (K : PySem.W.Frag) (hK : X.K = K) {o e : Expr} {es : List Expr} {to : TE} {t : TA} {name : Str} {apos cpos : Pos} {T id : String} {r : V → List V → Hp → VK → Prop} (pa : PlainAttrs T) (slot : Slot T name id) (hty : typeOf (.builtin id) = pure (.type "method_descriptor")) (hm : MtR X id r) (ho : PE X o to) (ha : PA X (e :: es) t)
    (hbase : attributeBase o name X.env (eval o X.env) = eval o X.env := by rfl)
    (hfew : ((((backTo cpos (starEach (e :: es) X.env)).all fun x => !x.1) && (backToKw cpos (keywordEach [] X.env)).all fun x => x.1.isSome) && decide (((e :: es).length + ([] : List Keyword).length + if ([] : List Keyword).isEmpty = true then 0 else 1) < 30)) = true := by rfl)
    (hline : (apos.endLine == cpos.line) = true := by rfl) (hs : starEach (e :: es) X.env = (false, eval e X.env) :: starEach es X.env := by rfl) (hpl : ((backTo cpos (starEach es X.env)).any fun x => x.1) = false := by rfl) :
    PE X ((o.Attribute name apos).Call (e :: es) [] cpos) (tBM K T r to t) := by
  subst hK
  exact pe_bm pa slot hty hm ho ha hbase hfew hline hs hpl
section
variable {P : Program} {w : World} {K : PySem.W.Frag} {mg : Str → Option Value} {base : Heap}
/-- a comprehension whose i-th item is f i, whatever is made new -/
theorem lcM {J : It} {n : Nat} {G : Hp → Prop} {Y : Nat → Hp → V → Hp → Prop} (wk : Walk J n G Y) {g : TG} {te : TE} {vs : List Nat} {σ : St} {H1 : Hp} {D : Addr} {Qd : Hp → Prop} (f : Nat → V) (hb : n ≤ 10000) (nD : H1 D = none) (hG : ∀ H', Same H1 H' → G H')
    (hs : ∀ (i : Nat) (x : V) (H2 H3 : Hp) (N : VK), i < n → Same H1 H2 → Y i H2 x H3 → (∀ H4, Same H2 H4 → N (f i) H4) → g x (wipe σ vs) H3 fun σ2 H4 => wipe σ2 vs = wipe σ vs ∧ te σ2 H4 N)
    (hd : ∀ H', Same H1 H' → H' D = some (.lst ((List.range n).map f)) → Qd H') :
    ∃ W : Nat → Nat → Hp → Prop, (∃ m, W 0 m (upd H1 D (.lst []))) ∧ ∀ i m H, W i m H →
      (J.stop i H ∧ Qd H) ∨ (J.go i H ∧ ∃ Nx : Hp → Prop, (∀ H', Nx H' → ∃ m', m' < m ∧ W (i + 1) m' H') ∧ ∀ x H', J.yld i H x H' → g x (wipe σ vs) H' fun σ2 H2 => wipe σ2 vs = wipe σ vs ∧ tYes σ2 H2 fun b H3 =>
        if b = true then te σ2 H3 fun y H4 => ∃ acc, H4 D = some (.lst acc) ∧ acc.length < sizeLine ∧ Nx (upd H4 D (.lst (acc ++ [y]))) else Nx H3) := by
  refine lc_it wk (fun i H' => Same H1 H' ∧ H' D = some (.lst ((List.range i).map f))) ⟨same_new nD, upd_same⟩ (fun i H' _ z => hG H' z.1) ?_ (fun H' z => hd H' z.1 z.2)
  rintro i x H H' hi ⟨e1, hD⟩ y
  refine hs i x H H' _ hi e1 y fun H4 e4 => ⟨_, e4 _ _ hD, ?_, fun b o z => ?_, ?_⟩
  · rw [List.length_map, List.length_range]
    exact small10 (by omega)
  · rw [upd_ne (ne_of_none z nD)]
    exact e4 _ _ (e1 _ _ z)
  · rw [upd_same, List.range_succ, List.map_append]
    rfl
theorem nlt_trans {a b c : List Nat} (h1 : ¬ b < a) (h2 : ¬ c < b) : ¬ c < a := List.not_lt.mpr (List.le_trans (List.not_lt.mp h1) (List.not_lt.mp h2))
theorem rising : ∀ {r : List Str} {p : Str}, PyProof.Rows.risingS p r = true → (∀ y ∈ r, ¬ y.cps.toList < p.cps.toList) ∧ r.Pairwise fun a b => ¬ b.cps.toList < a.cps.toList
  | [], _, _ => ⟨(fun _ h => nomatch h), List.Pairwise.nil⟩
  | x :: r, p, h => by
    unfold PyProof.Rows.risingS at h
    rw [Bool.and_eq_true, PyProof.Rows.ltCps_eq] at h
    have h1 : ¬ x.cps.toList < p.cps.toList := by simpa using h.1
    obtain ⟨a, b⟩ := rising h.2
    refine ⟨fun y hy => ?_, .cons a b⟩
    rcases List.mem_cons.mp hy with rfl | hy
    · exact h1
    · exact nlt_trans h1 (a y hy)
theorem asc_of {ws : List W} (h : PyProof.Rows.sortedS (ws.map bS) = true) : Asc ws := by
  cases ws with
  | nil => exact .nil
  | cons x r =>
    obtain ⟨a, b⟩ := rising (r := r.map bS) h
    refine .cons (fun y hy => a (bS y) (List.mem_map.mpr ⟨y, hy, rfl⟩)) ?_
    exact (List.pairwise_map.mp b)
theorem perm_bS {ys : List Str} {ws : List W} (h : ys.Perm (ws.map bS)) : ∃ us : List W, ys = us.map bS ∧ us.Perm ws := by
  refine ⟨ys.map fun y => y.cps.toList.map (· == 49), ?_, ?_⟩
  · rw [List.map_map]
    conv => lhs; rw [← List.map_id ys]
    refine List.map_congr_left fun y hy => ?_
    obtain ⟨w, _, rfl⟩ := List.mem_map.mp (h.subset hy)
    show bS w = bS (((bS w).cps.toList).map (· == 49))
    congr 1
    show w = (w.map cd).map (· == 49)
    rw [List.map_map]
    conv => lhs; rw [← List.map_id w]
    exact List.map_congr_left fun b _ => by cases b <;> rfl
  · have := h.map fun y : Str => y.cps.toList.map (· == 49)
    rw [List.map_map] at this
    have e : ws.map ((fun y : Str => y.cps.toList.map (· == 49)) ∘ bS) = ws := by
      conv => rhs; rw [← List.map_id ws]
      refine List.map_congr_left fun w _ => ?_
      show (w.map cd).map (· == 49) = w
      rw [List.map_map]
      conv => rhs; rw [← List.map_id w]
      exact List.map_congr_left fun b _ => by cases b <;> rfl
    rw [e] at this
    exact this
theorem PF.perm {a b : List W} (h : PF a) (p : a.Perm b) : PF b := (p.pairwise_iff (fun {x y} z => ⟨z.2, z.1⟩)).mp h
theorem scChW : FnScope NChW ["lengths", "words"] (defScope sChW) := ⟨rfl, rfl, rfl, by decide +kernel, rfl, by decide +kernel, by decide +kernel⟩
theorem ok_chW {f CB CE : Addr} {fd : FuncData} (F : Fun K "check_words" "check_words" sChW f fd) (B : Bi mg) (Z : Bs mg) (cF : Cal CX0 P w K mg base 1 "first_wrong_bit" spFwb)
    (xB : Xc P w K mg base 2 "BadBits" CB (spX1 K "index")) (nB : PySem.W.findIn K (.ref CB) "index" = some none) (xE : Xc P w K mg base 2 "Begins" CE (spX2 K "index" "other")) (nE : PySem.W.findIn K (.ref CE) "index" = some none ∧ PySem.W.findIn K (.ref CE) "other" = some none) :
    FnOk P w K mg base (L2.CX P w) 4 f fd ["lengths", "words"] (spChW CB CE) := by
  refine F.okX scChW (fun vs H Q E h => ?_) (fun cdv A outer s H vs Q E hr h => ?_)
  · obtain ⟨l, s, ls, ts, rfl, _⟩ := h
    rfl
  · obtain ⟨l0, s0, ls, ts, rfl, hl, hs, len, l60, kn, out⟩ := h
    refine ⟨_, pss_cons (ps_for (passes_of rfl) rfl (pi_en B.enum (pa_cons (pv 1) pa_nil)) (pg_tup rfl (pgs_cons (pg_name (i := 2) scChW.nd rfl (.inl rfl)) (pgs_cons (pg_name (i := 3) scChW.nd rfl (.inl rfl)) pgs_nil)))
        (pss_one (ps_if (PW.pt (pw_or (pt_cmpR op_notN (pe_c cF hr pass0 (pa_cons (pv 3) pa_nil)) pe_non (nomark _)) (pw_or1 (pt_cmpR op_ne (pe_lenS B.len (pa_cons (pv 3) pa_nil)) (pe_ix (ix_listK K rfl) (pv 0) (pv 2) (fun _ _ => rfl)) (nomark _))))) (pss_one (ps_raise rfl (takes_of rfl rfl rfl rfl) (pmk_x xB hr (pa_cons (pv 2) pa_nil)))) pss_nil)))
      (pss_cons (ps_set (i := 4) scChW.nd rfl (Or.inr rfl) (pe_callB cr_sortedS rfl Z.sorted (by decide +kernel) (pa_cons (pe_callTy call_list_of rfl B.list (by decide +kernel) (pa_cons (pv 1) pa_nil)) pa_nil)))
      (pss_one (ps_if (pt_val (pe_any rfl Z.any (pa_cons (pe_lc (own := [("at", 6)]) rfl scChW.nd (pi_range1 rfl B.range (pa_cons (pe_op op_sub (pe_len B.len (pa_cons (pv 4) pa_nil)) pe_int) pa_nil)) (blkOk_by (N := NChW) (sc := defScope sChW) (by decide +kernel))
            (fun _ _ _ _ _ => pg_name (i := 6) scChW.nd rfl (Or.inl rfl)) (fun _ _ _ _ _ => pts_nil) (fun _ _ _ _ _ => pe_bmK K rfl PySem.F.plainAttrs_str PySem.F.slot_str_startswith PySem.F.type_str_startswith mt_startswith (pe_ix (ix_listK K rfl) (pv 4) (pe_op op_add (pv 6) pe_int) (fun _ _ => rfl)) (pa_cons (pe_ix (ix_listK K rfl) (pv 4) (pv 6) (fun _ _ => rfl)) pa_nil))) pa_nil)))
        (pss_one (ps_for (passes_of rfl) rfl (pi_en B.enum (pa_cons (pv 1) pa_nil)) (pg_tup rfl (pgs_cons (pg_name (i := 2) scChW.nd rfl (.inl rfl)) (pgs_cons (pg_name (i := 3) scChW.nd rfl (.inl rfl)) pgs_nil)))
          (pss_one (ps_for (passes_of rfl) rfl (pi_range2 rfl B.range (pa_cons (pe_op op_add (pv 2) pe_int) (pa_cons (pe_len B.len (pa_cons (pv 1) pa_nil)) pa_nil))) (pg_name (i := 5) scChW.nd rfl (.inl rfl))
            (pss_one (ps_if (PW.pt (pw_or (pt_val (pe_bm PySem.F.plainAttrs_str PySem.F.slot_str_startswith PySem.F.type_str_startswith mt_startswith (pe_ix (ix_listK K rfl) (pv 1) (pv 5) (fun _ _ => rfl)) (pa_cons (pv 3) pa_nil))) (pw_or1 (pt_val (pe_bm PySem.F.plainAttrs_str PySem.F.slot_str_startswith PySem.F.type_str_startswith mt_startswith (pv 3) (pa_cons (pe_ix (ix_listK K rfl) (pv 1) (pv 5) (fun _ _ => rfl)) pa_nil))))))
              (pss_one (ps_raise rfl (takes_of rfl rfl rfl rfl) (pmk_x xE hr (pa_cons (pv 2) (pa_cons (pv 5) pa_nil))))) pss_nil)))))) pss_nil))), ?_⟩
    have bad : ∀ (i : Nat) (v : V), ts[i]? = some v → okB (ls.getD i 0) v = false → (∀ j u, j < i → ts[j]? = some u → okB (ls.getD j 0) u = true) → ∀ H1, Same H H1 → ∀ d H', Rsd H1 H' d [("index", .int (i : Nat))] → E (.ref CB) (some d) H' := by
      intro i v hv hb ok H1 e1 d H' r
      have nb : ∀ (ws : List W), ts = ws.map wV → ws.map List.length = ls → False := fun ws e1 e2 => by
        subst e1 e2
        rw [List.getElem?_map] at hv
        cases q : ws[i]? with
        | none => rw [q] at hv; cases hv
        | some w =>
          rw [q] at hv
          cases hv
          have e3 : (ws.map List.length).getD i 0 = w.length := by rw [List.getD_eq_getElem?_getD, List.getElem?_map, q]; rfl
          rw [e3] at hb
          unfold okB wV at hb
          simp only [isBs_bS, bS_len, decide_true, Bool.and_self] at hb
          cases hb
      rcases out with ⟨i0, v0, h1, h2, h3, out⟩ | ⟨ws, h1, h2, _⟩
      · have ei : i = i0 := by
          rcases Nat.lt_trichotomy i i0 with z | z | z
          · rw [h3 i v z hv] at hb; cases hb
          · exact z
          · rw [ok i0 v0 z h1] at h2; cases h2
        subst ei
        exact out d H' ⟨e1.free r.new, e1.trans r.same, r.at_⟩
      · exact (nb ws h1 h2).elim
    refine ⟨_, rfl, s0, ts, rfl, hs.sq, fun J G wk hG => for_it wk (fun i σ H' => ∃ (a b : Option V), σ = [some (.ref l0), some (.ref s0), a, b, none, none, none] ∧ Same H H' ∧ ∀ j u, j < i → ts[j]? = some u → okB (ls.getD j 0) u = true) ⟨none, none, rfl, Same.refl H, fun j u h => absurd h (Nat.not_lt_zero _)⟩ (fun i σ H' _ ⟨_, _, _, e, _⟩ => hG H' fun o z => e _ _ z) ?_ ?_⟩
    · rintro i x σ H1 H2 hi ⟨a, b, rfl, e, ok⟩ ⟨T0, y, v, rfl, nT0, rfl, ey, hv⟩
      have ey : y = .int (i : Nat) := (Option.some.inj ey).symm
      have hv : ts[i]? = some v := hv
      subst ey
      have e2 : Same H (upd H1 T0 (.tup [.int (i : Nat), v])) := e.trans (same_new nT0)
      obtain ⟨kv, lv⟩ := kn v (List.mem_of_getElem? hv)
      refine ⟨T0, _, rfl, SqT.of upd_same, rfl, _, _, rfl, _, _, rfl, rfl, ?_⟩
      refine ⟨_, rfl, v, rfl, kv.same e2, lv, fun r H3 e3 iff => ⟨rfl, _, rfl, ?_⟩⟩
      have e13 := e2.trans e3
      have li : i < ls.length := by rw [← len]; exact (List.getElem?_eq_some_iff.mp hv).1
      have gl : ls.getD i 0 = ls[i] := by rw [List.getD_eq_getElem?_getD, List.getElem?_eq_getElem li]; rfl
      cases hb : isBs v with
      | false =>
        cases r with
        | none => rw [iff.mp rfl] at hb; cases hb
        | some r0 =>
          have ob : okB (ls.getD i 0) v = false := by
            unfold okB
            cases v with
            | str x => simp only [hb, Bool.false_and]
            | _ => rfl
          refine iteT (iteT ⟨_, rfl, raise1 xB.T nB True.intro fun d H' r => bad i v hv ob ok H3 e13 d H' r⟩)
      | true =>
        have rn := iff.mpr hb
        subst rn
        cases v with
        | str x =>
          have lx := lv x rfl
          refine iteF ⟨_, rfl, x, rfl, Nat.le_of_lt (small10 lx), _, rfl, _, rfl, l0, _, _, .int ((ls[i] : Nat) : Int), rfl, rfl, SqL.of (e13 _ _ hl), atI_nat (by rw [List.getElem?_map, List.getElem?_eq_getElem li]; rfl), rfl, _, rfl, ?_⟩
          have de : (!decide (V.int ((x.length : Nat) : Int) = V.int ((ls[i] : Nat) : Int))) = !okB (ls.getD i 0) (.str x) := by
            show (!decide (V.int ((x.length : Nat) : Int) = V.int ((ls[i] : Nat) : Int))) = !(isBs (.str x) && decide (x.length = ls.getD i 0))
            rw [hb, gl, Bool.true_and]
            congr 1
            exact decide_eq_decide.mpr ⟨fun z => by injection z with z; omega, fun z => by rw [z]⟩
          rw [de]
          cases ob : okB (ls.getD i 0) (.str x) with
          | false => exact iteT ⟨_, rfl, raise1 xB.T nB True.intro fun d H' r => bad i _ hv ob ok H3 e13 d H' r⟩
          | true =>
            refine iteF ⟨_, _, rfl, e13, fun j u hj hu => ?_⟩
            rcases Nat.lt_succ_iff_lt_or_eq.mp hj with h | rfl
            · exact ok j u h hu
            · have := Option.some.inj (hv.symm.trans hu)
              rw [← this]
              exact ob
        | _ => cases hb
    · rintro σ H1 ⟨a, b, rfl, e1, ok⟩
      clear wk hG
      obtain ⟨ws, rfl, hw, out⟩ : ∃ ws : List W, ts = ws.map wV ∧ ws.map List.length = ls ∧
          ((H s0 = some (.lst ts) ∧ ∃ i j a b, i < j ∧ ws[i]? = some a ∧ ws[j]? = some b ∧ bg a b ∧ (∀ i' j' x y, i' < j' → (i' < i ∨ (i' = i ∧ j' < j)) → ws[i']? = some x → ws[j']? = some y → ¬ bg x y) ∧ ∀ d H', Rsd H H' d [("other", .int (j : Nat)), ("index", .int (i : Nat))] → E (.ref CE) (some d) H') ∨
            (PF ws ∧ ∀ H', Same H H' → Q .non H')) := by
        rcases out with ⟨i0, v0, h1, h2, _⟩ | h
        · rw [ok i0 v0 (List.getElem?_eq_some_iff.mp h1).1 h1] at h2
          cases h2
        · exact h
      rw [List.length_map] at l60 len
      have ews : ws.map wV = (ws.map bS).map V.str := by rw [List.map_map]; rfl
      refine ⟨_, rfl, s0, _, rfl, (hs.same e1).sq, fun p1 np1 => ?_⟩
      have e2 := e1.trans (same_new (o := .lst (ws.map wV)) np1)
      have hp1 : upd H1 p1 (.lst (ws.map wV)) p1 = some (.lst (ws.map wV)) := upd_same
      generalize upd H1 p1 (.lst (ws.map wV)) = H2 at e2 hp1 ⊢
      refine ⟨p1, ws.map bS, rfl, SqL.of (by rw [← ews]; exact hp1), by rw [List.length_map]; omega, fun ys p2 perm srt np2 => ?_⟩
      obtain ⟨us, rfl, pu⟩ := perm_bS perm
      have asc := asc_of srt
      have lu : us.length = ws.length := pu.length_eq
      have e3 := e2.trans (same_new (o := .lst ((us.map bS).map V.str)) np2)
      have hp2 : upd H2 p2 (.lst ((us.map bS).map V.str)) p2 = some (.lst ((us.map bS).map V.str)) := upd_same
      generalize upd H2 p2 (.lst ((us.map bS).map V.str)) = H3 at e3 hp2 ⊢
      refine ⟨_, rfl, p2, _, rfl, .inl (SqL.of hp2), _, _, rfl, rfl, _, rfl, by rw [List.length_map, List.length_map]; omega, by rw [List.length_map, List.length_map]; omega, fun D nD => lcM walk_range (fun i => .bl (decide (us.getD i [] <+: us.getD (i + 1) []))) (by rw [List.length_map, List.length_map]; omega) nD (fun _ _ => True.intro) ?_ ?_⟩
      · rintro k x H4 H5 N2 hk e4 ⟨rfl, rfl⟩ fin
        have hk : k + 1 < us.length := by rw [List.length_map, List.length_map] at hk; omega
        have k0 : (0 : Int) + (k : Nat) = (k : Nat) := by omega
        have g1 : us.getD k [] = us[k] := by rw [List.getD_eq_getElem?_getD, List.getElem?_eq_getElem (by omega)]; rfl
        have g2 : us.getD (k + 1) [] = us[k + 1] := by rw [List.getD_eq_getElem?_getD, List.getElem?_eq_getElem hk]; rfl
        have fin : ∀ H6, Same H5 H6 → N2 (.bl (decide (us.getD k [] <+: us.getD (k + 1) []))) H6 := fin
        rw [g1, g2, ← sw_bS] at fin
        show gName 6 (V.int (0 + (k : Nat))) _ _ _
        rw [k0]
        refine ⟨rfl, ?_⟩
        refine ⟨_, rfl, _, rfl, _, _, rfl, rfl, p2, _, _, .str (bS us[k + 1]), rfl, rfl, SqL.of (e4 _ _ hp2), ?_, rfl, _, rfl, _, rfl, p2, _, _, .str (bS us[k]), rfl, rfl, SqL.of (e4 _ _ hp2), ?_, _, _, rfl, rfl, fin _ (Same.refl _)⟩
        · rw [show ((k : Nat) : Int) + 1 = ((k + 1 : Nat) : Int) by omega]
          exact atI_nat (by rw [List.getElem?_map, List.getElem?_map, List.getElem?_eq_getElem hk]; rfl)
        · exact atI_nat (by rw [List.getElem?_map, List.getElem?_map, List.getElem?_eq_getElem (by omega)]; rfl)
      intro H4 e4 hD
      have mb : ∀ (b : Nat → Bool) (n : Nat), (List.range n).map (fun i => V.bl (b i)) = ((List.range n).map b).map V.bl := fun b n => by rw [List.map_map]; rfl
      rw [mb] at hD
      refine ⟨D, _, rfl, SqL.of hD, _, rfl, ?_⟩
      have e14 := e3.trans e4
      have pf : PF ws ↔ ((List.range ((((((us.map bS).map V.str).length : Nat) : Int) - 1).toNat)).map fun i => decide (us.getD i [] <+: us.getD (i + 1) [])).any id = false := by
        rw [List.any_map, List.any_eq_false]
        constructor
        · intro h k hk z
          have hk := List.mem_range.mp hk
          have hk : k + 1 < us.length := by rw [List.length_map, List.length_map] at hk; omega
          have z := of_decide_eq_true z
          rw [List.getD_eq_getElem?_getD, List.getD_eq_getElem?_getD, List.getElem?_eq_getElem (by omega), List.getElem?_eq_getElem hk] at z
          exact ((List.pairwise_iff_getElem.mp (h.perm pu.symm)) k (k + 1) (by omega) hk (by omega)).1 z
        · intro h
          refine (pf_of_adj asc fun i a b ha hb z => ?_).perm pu
          have hi := (List.getElem?_eq_some_iff.mp hb).1
          refine h i (List.mem_range.mpr (by rw [List.length_map, List.length_map]; omega)) ?_
          show decide _ = true
          rw [List.getD_eq_getElem?_getD, List.getD_eq_getElem?_getD, ha, hb]
          exact decide_eq_true z
      cases hb : ((List.range ((((((us.map bS).map V.str).length : Nat) : Int) - 1).toNat)).map fun i => decide (us.getD i [] <+: us.getD (i + 1) [])).any id with
      | false =>
        refine iteF ?_
        have p := pf.mpr hb
        rcases out with ⟨_, i, j, wa, wb, lt, ha, hb2, g, _⟩ | ⟨_, q⟩
        · obtain ⟨l1, e5⟩ := List.getElem?_eq_some_iff.mp ha
          obtain ⟨l2, e6⟩ := List.getElem?_eq_some_iff.mp hb2
          have := (List.pairwise_iff_getElem.mp p) i j l1 l2 lt
          rw [e5, e6] at this
          exact (g.elim this.1 this.2).elim
        · exact q H4 e14
      | true =>
        refine iteT ?_
        rcases out with ⟨hl2, i0, j0, wa, wb, lt, ha, hb2, g, first, out⟩ | ⟨p, _⟩
        · have li0 := (List.getElem?_eq_some_iff.mp ha).1
          have lj0 := (List.getElem?_eq_some_iff.mp hb2).1
          have hs4 := e14 _ _ hl2
          refine ⟨_, rfl, s0, _, rfl, .inl (SqL.of hs4), fun J G wk hG => for_it wk (fun i σ H' => ∃ (a b c d : Option V), σ = [some (.ref l0), some (.ref s0), a, b, c, d, none] ∧ Same H4 H' ∧ i ≤ i0) ⟨_, _, _, _, rfl, Same.refl H4, Nat.zero_le _⟩ (fun i σ H' _ ⟨_, _, _, _, _, e, _⟩ => hG H' fun o z => e _ _ z) ?_ ?_⟩
          · rintro i x σ H5 H6 hi ⟨a', b', c', d', rfl, e5, le⟩ ⟨T0, y, v, rfl, nT0, rfl, ey, hv⟩
            have ey : y = .int (i : Nat) := (Option.some.inj ey).symm
            have hv : (ws.map wV)[i]? = some v := hv
            subst ey
            rw [List.getElem?_map] at hv
            cases hwi : ws[i]? with
            | none => rw [hwi] at hv; cases hv
            | some wi =>
              rw [hwi] at hv
              have hv : v = wV wi := (Option.some.inj hv).symm
              subst hv
              have e6 := e5.trans (same_new (o := .tup [.int (i : Nat), wV wi]) nT0)
              refine ⟨T0, _, rfl, SqT.of upd_same, rfl, _, _, rfl, _, _, rfl, rfl, ?_⟩
              have hs6 := e6 _ _ hs4
              generalize upd H5 T0 (.tup [.int (i : Nat), wV wi]) = H6 at e6 hs6 ⊢
              refine ⟨_, rfl, _, _, rfl, rfl, _, rfl, s0, _, rfl, .inl (SqL.of hs6), _, _, rfl, ⟨by omega, by omega, by omega, by rw [List.length_map]; omega⟩, for_range (fun k σ H' => ∃ c d : Option V, σ = [some (.ref l0), some (.ref s0), some (.int (i : Nat)), some (wV wi), c, d, none] ∧ H' = H6 ∧ (i = i0 → i + 1 + k ≤ j0)) ⟨_, _, rfl, rfl, fun z => by omega⟩ ?_ ?_⟩
              · rintro k σ H7 hk ⟨c2, d2, rfl, rfl, hk2⟩
                have hk3 : i + 1 + k < ws.length := by rw [List.length_map] at hk; omega
                have ek : ((i : Nat) : Int) + 1 + ((k : Nat) : Int) = ((i + 1 + k : Nat) : Int) := by omega
                show gName 5 (V.int (((i : Nat) : Int) + 1 + ((k : Nat) : Int))) _ _ _
                rw [ek]
                have at_ : atI (ws.map wV) ((i + 1 + k : Nat) : Int) = some (.str (bS ws[i + 1 + k])) := atI_nat (by rw [List.getElem?_map, List.getElem?_eq_getElem hk3]; rfl)
                refine ⟨_, rfl, _, rfl, s0, _, _, _, rfl, rfl, SqL.of hs6, at_, rfl, _, rfl, _, _, rfl, rfl, _, rfl, ?_⟩
                rw [sw_bS]
                have rz : ∀ (c : bg wi ws[i + 1 + k]), i = i0 ∧ i + 1 + k = j0 := fun c => by
                  have h1 : ws[i + 1 + k]? = some ws[i + 1 + k] := List.getElem?_eq_getElem hk3
                  rcases Nat.lt_or_ge i i0 with z | z
                  · exact (first i (i + 1 + k) wi _ (by omega) (.inl z) hwi h1 c).elim
                  · have ei : i = i0 := by omega
                    have := hk2 ei
                    rcases Nat.lt_or_ge (i + 1 + k) j0 with z2 | z2
                    · exact (first i (i + 1 + k) wi _ (by omega) (.inr ⟨ei, z2⟩) hwi h1 c).elim
                    · exact ⟨ei, by omega⟩
                have go : ∀ (c : bg wi ws[i + 1 + k]), ∀ d H', Rsd H7 H' d [("other", .int ((i + 1 + k : Nat) : Int)), ("index", .int (i : Nat))] → E (.ref CE) (some d) H' := fun c d H' r => by
                  obtain ⟨z1, z2⟩ := rz c
                  rw [z2, z1] at r
                  exact out d H' ⟨(e14.trans e6).free r.new, (e14.trans e6).trans r.same, r.at_⟩
                cases c1 : decide (wi <+: ws[i + 1 + k]) with
                | true => exact iteT (iteT ⟨_, rfl, _, rfl, raise2 xE.T nE.1 nE.2 True.intro True.intro (go (.inl (of_decide_eq_true c1)))⟩)
                | false =>
                  refine iteF ⟨_, rfl, rfl, _, rfl, _, rfl, s0, _, _, _, rfl, rfl, SqL.of hs6, at_, _, _, rfl, rfl, _, rfl, ?_⟩
                  rw [sw_bS]
                  cases c2 : decide (ws[i + 1 + k] <+: wi) with
                  | true => exact iteT ⟨_, rfl, _, rfl, raise2 xE.T nE.1 nE.2 True.intro True.intro (go (.inr (of_decide_eq_true c2)))⟩
                  | false =>
                    refine iteF ⟨_, _, rfl, rfl, fun z => ?_⟩
                    have := hk2 z
                    rcases Nat.lt_or_ge (i + 1 + k) j0 with z2 | z2
                    · omega
                    · have ej : i + 1 + k = j0 := by omega
                      have gg := g
                      subst z ej
                      rw [hwi] at ha
                      rw [List.getElem?_eq_getElem hk3] at hb2
                      cases ha
                      cases hb2
                      exact (gg.elim (of_decide_eq_false c1) (of_decide_eq_false c2)).elim
              · rintro σ H7 ⟨c2, d2, rfl, rfl, hk2⟩
                refine ⟨_, _, _, _, rfl, e6, ?_⟩
                rcases Nat.lt_or_ge i i0 with z | z
                · exact z
                · have ei : i = i0 := by omega
                  have := hk2 ei
                  rw [List.length_map] at this
                  omega
          · rintro σ H5 ⟨a', b', c', d', rfl, e5, le⟩
            rw [List.length_map] at le
            omega
        · rw [pf.mp p] at hb
          cases hb
end
end K40
set_option Elab.async false
set_option linter.all false
set_option maxRecDepth 100001
set_option maxHeartbeats 3999999
namespace K40
open PySem L2
abbrev sFo : Stmt := topS 22
abbrev sTrI : Stmt := inClass (topS 21) 0
/-- the bit at d of the i-th word in order -/
def obit (ws : List W) (os : List Nat) (d i : Nat) : Option Bool := (os[i]?).bind fun o => (ws[o]?).bind fun w => w[d]?
def spFo (K : PySem.W.Frag) : Sp := fun vs H Q _ => ∃ (wp op : Addr) (ws : List W) (os : List Nat) (d f m b : Nat), vs = [.ref wp, .ref op, .int (d : Nat), .int (f : Nat), .int (b : Nat)] ∧ H wp = some (.tup (ws.map wV)) ∧ H op = some (.lst (os.map fun n : Nat => V.int (n : Nat))) ∧
  f ≤ m ∧ m ≤ b ∧ b ≤ 100000 ∧ (∀ i, f ≤ i → i < m → obit ws os d i = some false) ∧ (∀ i, m ≤ i → i < b → obit ws os d i = some true) ∧ (∀ w ∈ ws, w.length ≤ 10000) ∧ Q (.int (m : Nat)) H
section
variable {P : Program} {w : World} {K : PySem.W.Frag} {mg : Str → Option Value} {base : Heap}
theorem scFo : FnScope ["words", "order", "depth", "first", "behind", "middle"] ["words", "order", "depth", "first", "behind"] (defScope sFo) := ⟨rfl, rfl, rfl, by decide +kernel, rfl, by decide +kernel, by decide +kernel⟩
theorem ok_fo {f : Addr} {fd : FuncData} (F : Fun K "first_one" "first_one" sFo f fd) : FnOk P w K mg base CX0 1 f fd ["words", "order", "depth", "first", "behind"] (spFo K) := by
  refine F.ok scFo (fun vs H Q E h => ?_) (fun cdv A outer s H vs Q E hr h => ?_)
  · obtain ⟨wp, op, ws, os, d, f, m, b, rfl, _⟩ := h
    rfl
  · obtain ⟨wp, op, ws, os, d, f0, m, b0, rfl, hw, ho, fm, mb, b1, lo, hi, ln, q⟩ := h
    refine ⟨_, pss_cons (ps_while PassesOwn.never (pt_cmpR op_lt (pv 3) (pv 4) (nomark _))
        (pss_cons (ps_set (i := 5) scFo.nd rfl (Or.inl rfl) (pe_op op_fdiv (pe_op op_add (pv 3) (pv 4)) pe_int))
        (pss_one (ps_if (pt_cmpR op_eq (pe_ix ix_str (pe_ix ix_tup (pv 0) (pe_ix ix_list (pv 1) (pv 5) (fun _ _ => rfl)) (fun _ _ => rfl)) (pv 2) (fun _ _ => rfl)) pe_str (nomark _))
          (pss_one (ps_set (i := 4) scFo.nd rfl (Or.inl rfl) (pv 5))) (pss_one (ps_set (i := 3) scFo.nd rfl (Or.inl rfl) (pe_op op_add (pv 5) pe_int)))))))
      (pss_one (ps_ret (pv 3))), ?_⟩
    show tWhile _ _ _ [some (.ref wp), some (.ref op), some (.int (d : Nat)), some (.int (f0 : Nat)), some (.int (b0 : Nat)), none] H
    refine ⟨fun k σ H' => ∃ (f b : Nat) (x5 : Option V), k = b - f ∧ σ = [some (.ref wp), some (.ref op), some (.int (d : Nat)), some (.int (f : Nat)), some (.int (b : Nat)), x5] ∧ H' = H ∧ f0 ≤ f ∧ f ≤ m ∧ m ≤ b ∧ b ≤ b0, ⟨_, f0, b0, none, rfl, rfl, rfl, Nat.le_refl _, fm, mb, Nat.le_refl _⟩, ?_⟩
    rintro k σ G ⟨f, b, x5, rfl, rfl, rfl, h1, h2, h3, h4⟩
    refine ⟨_, rfl, _, rfl, _, _, rfl, rfl, _, rfl, ?_⟩
    by_cases c : f < b
    · rw [decide_eq_true (show ((f : Nat) : Int) < ((b : Nat) : Int) by omega)]
      refine iteT ⟨fun σ' H' => ∃ k', k' < b - f ∧ ∃ (f b : Nat) (x5 : Option V), k' = b - f ∧ σ' = [some (.ref wp), some (.ref op), some (.int (d : Nat)), some (.int (f : Nat)), some (.int (b : Nat)), x5] ∧ H' = G ∧ f0 ≤ f ∧ f ≤ m ∧ m ≤ b ∧ b ≤ b0, fun σ' H' ⟨k', l, z⟩ => ⟨k', l, z⟩, ?_⟩
      refine ⟨_, rfl, _, rfl, _, _, rfl, rfl, _, _, rfl, rfl, ⟨by decide, by decide⟩, ?_⟩
      have em : (((f : Nat) : Int) + ((b : Nat) : Int)) / 2 = (((f + b) / 2 : Nat) : Int) := by omega
      show gName 5 (V.int ((((f : Nat) : Int) + ((b : Nat) : Int)) / 2)) _ _ _
      rw [em]
      have m1 : f ≤ (f + b) / 2 := by omega
      have m2 : (f + b) / 2 < b := by omega
      generalize (f + b) / 2 = mm at m1 m2 ⊢
      have hb : obit ws os d mm = some (decide (m ≤ mm)) := by
        by_cases z : m ≤ mm
        · rw [hi mm z (by omega), decide_eq_true z]
        · rw [lo mm (by omega) (by omega), decide_eq_false z]
      unfold obit at hb
      cases ho2 : os[mm]? with
      | none => rw [ho2] at hb; cases hb
      | some o =>
        rw [ho2] at hb
        cases hw2 : ws[o]? with
        | none =>
          rw [show ((some o).bind fun o => (ws[o]?).bind fun w => w[d]?) = (ws[o]?).bind fun w => w[d]? from rfl, hw2] at hb
          cases hb
        | some wo =>
          rw [show ((some o).bind fun o => (ws[o]?).bind fun w => w[d]?) = (ws[o]?).bind fun w => w[d]? from rfl, hw2] at hb
          have hb : wo[d]? = some (decide (m ≤ mm)) := hb
          have lw := ln wo (List.mem_of_getElem? hw2)
          refine ⟨_, rfl, _, rfl, _, rfl, op, _, _, .int ((o : Nat) : Int), rfl, rfl, SqL.of ho, atI_nat (by rw [List.getElem?_map, ho2]; rfl), wp, _, _, wV wo, rfl, rfl, SqT.of hw, atI_nat (by rw [List.getElem?_map, hw2]; rfl), _, rfl, _, _, cd (decide (m ≤ mm)), rfl, rfl, ?_, ?_, rfl, _, rfl, ?_⟩
          · rw [bS_len]
            exact Nat.le_of_lt (small10 lw)
          · refine atI_nat ?_
            show (wo.map cd)[d]? = _
            rw [List.getElem?_map, hb]
            rfl
          · by_cases z : m ≤ mm
            · rw [decide_eq_true z]
              rw [show decide (V.str ⟨#[cd true]⟩ = V.str "1") = true from decide_eq_true rfl]
              exact iteT ⟨_, rfl, _, by omega, f, mm, _, rfl, rfl, rfl, h1, h2, z, by omega⟩
            · rw [decide_eq_false z]
              rw [show decide (V.str ⟨#[cd false]⟩ = V.str "1") = false from decide_eq_false (fun z => by
                injection z with z
                exact absurd z (by decide +kernel))]
              exact iteF ⟨_, rfl, _, _, rfl, rfl, _, by omega, mm + 1, b, _, rfl, rfl, rfl, by omega, by omega, h3, h4⟩
    · rw [decide_eq_false (show ¬ ((f : Nat) : Int) < ((b : Nat) : Int) by omega)]
      have e : f = m := by omega
      subst e
      exact iteF ⟨_, rfl, q⟩
end
end K40
set_option Elab.async false
set_option linter.all false
set_option maxRecDepth 100001
set_option maxHeartbeats 3999999
namespace K40
open PySem L2
structure FunL (K : PySem.W.Frag) (base : Heap) (mg : Str → Option Value) (x q : Str) (st : Stmt) (f c T : Addr) (fd : FuncData) : Prop where
  ex : ∃ (oc : Value) (od : Option Addr) (kV doc pm : Value) (an : Option Addr) (ct : Value) (osl : Array (Option Value)),
    fd = PySem.W.fnOf x q (defArgs st) (defBody st) (defScope st) .none kV doc pm an (.ref c) ct ∧ K.lookup f = some ⟨oc, od, .func fd, osl⟩ ∧ PySem.W.codeIn K (.ref c) q = true
  tab : LamX.TabB base mg c T
section
variable {P : Program} {w : World} {K : PySem.W.Frag} {mg : Str → Option Value} {base : Heap}
theorem FunL.okX {CX : CXT} {x q : Str} {st : Stmt} {f c T : Addr} {fd : FuncData} {N ps : List Str} {k : Nat} {sp : Sp} (F : FunL K base mg x q st f c T fd) (S : FnScope N ps (defScope st)) (len : ∀ vs H Q E, sp vs H Q E → vs.length = ps.length)
    (hbody : ∀ (A : Around) (outer : List Env) (s : Shared) (H : Hp) (vs : List V) (Q : VK) (E : XK), Room k (A.deeper (PyProof.Rows.envOfC q (defScope st) s.heap.objs.size f (.ref c))) → sp vs H Q E →
      ∃ t, PSs (cxOf CX P w K mg base N q (defScope st) f (.ref c) A outer s H E).nox (defBody st) t ∧ t { nx := fun _ H' => Q .non H', rt := Q } (L2.start N vs) H) : FnOk P w K mg base CX (k + 1) f fd ps sp := by
  obtain ⟨oc, od, kV, doc, pm, an, ct, osl, rfl, lk, hcd⟩ := F.ex
  refine fn_of lk hcd S len fun A outer s H vs Q E hr hsp => ?_
  obtain ⟨t, h, q⟩ := hbody A outer s H vs Q E hr hsp
  exact ⟨t, h.nox, q⟩
end
theorem pg_pairK {X : Cx} (K : PySem.W.Frag) (hK : X.K = K) (hc : X.calm = true) {e1 e2 : Expr} {t1 t2 : TG} {k : Nat} {pos : Pos} (h1 : PG X e1 t1) (h2 : PG X e2 t2) (he1 : (assignEach [e1, e2] X.env).map (·.2) = assign e1 X.env :: (assignEach [e2] X.env).map (·.2) := by rfl)
    (he2 : (assignEach [e2] X.env).map (·.2) = assign e2 X.env :: (assignEach [] X.env).map (·.2) := by rfl) (hn : (assignEach [e1, e2] X.env).length = 2 := by rfl) (hf : (assignEach [e1, e2] X.env).findIdx? (·.1) = none := by rfl) : PG X (.Tuple [e1, e2] k pos) (gTup K 2 (gCons t1 (gCons t2 gNil))) := by
  subst hK
  have h := pg_tup (k := k) (pos := pos) hc (pgs_cons h1 (pgs_cons h2 pgs_nil he2) he1) hn hf
  exact h

/-- a dict comprehension over numbered items: what it holds is left open -/
theorem dcL {J : It} {n : Nat} {G : Hp → Prop} {f1 f2 : Nat → Option V} (wk : Walk J n G (YPair f1 f2)) {g : TG} {tt : L2.TT} {tk tv : TE} {vs : List Nat} {σ : St} {H1 : Hp} {D : Addr} {Qd : Hp → Prop} (kf : Nat → Key) (vf : Nat → V) (hb : n ≤ 10000) (hG : ∀ H', Same H1 H' → G H') (nD : H1 D = none)
    (hs : ∀ (i : Nat) (T : Addr) (a b : V) (H : Hp) (R : V → V → Hp → Prop) (N : Hp → Prop), i < n → f1 i = some a → f2 i = some b → Same H1 H → H T = some (.tup [a, b]) → R (kV (kf i)) (vf i) H → g (.ref T) (wipe σ vs) H fun σ2 H2 => wipe σ2 vs = wipe σ vs ∧ tt σ2 H2 fun b H3 => if b = true then tk σ2 H3 fun y H4 => tv σ2 H4 fun z H5 => R y z H5 else N H3)
    (hd : ∀ H kvs, Same H1 H → H D = some (.dK kvs) → Qd H) :
    ∃ W : Nat → Nat → Hp → Prop, (∃ m, W 0 m (upd H1 D (.dK []))) ∧ ∀ i m H, W i m H →
      (J.stop i H ∧ Qd H) ∨ (J.go i H ∧ ∃ Nx : Hp → Prop, (∀ H', Nx H' → ∃ m', m' < m ∧ W (i + 1) m' H') ∧ ∀ x H', J.yld i H x H' → g x (wipe σ vs) H' fun σ2 H2 => wipe σ2 vs = wipe σ vs ∧ tt σ2 H2 fun b H3 =>
        if b = true then tk σ2 H3 fun y H4 => tv σ2 H4 fun z H5 => ∃ kvs k, y = kV k ∧ H5 D = some (.dK kvs) ∧ kvs.length < sizeLine ∧ Nx (upd H5 D (.dK (putK kvs k z))) else Nx H3) := by
  refine ⟨fun i m H => m = n - i ∧ i ≤ n ∧ Same H1 H ∧ ∃ kvs, H D = some (.dK kvs) ∧ kvs.length ≤ i, ⟨n, rfl, Nat.zero_le _, same_new nD, [], upd_same, Nat.zero_le _⟩, ?_⟩
  rintro i m H ⟨rfl, hi, e1, kvs, hD, kl⟩
  by_cases lt : i < n
  · refine .inr ⟨wk.goes i H lt (hG H e1), fun H' => Same H1 H' ∧ ∃ kvs, H' D = some (.dK kvs) ∧ kvs.length ≤ i + 1, fun H' p => ⟨n - (i + 1), by omega, rfl, lt, p.1, p.2⟩, fun x H' y => ?_⟩
    obtain ⟨T, a, b, rfl, nT, rfl, ea, eb⟩ := wk.yields i H x H' lt (hG H e1) y
    refine hs i T a b _ _ _ lt ea eb (e1.trans (same_new nT)) upd_same ⟨kvs, kf i, rfl, ?_, ?_, fun c o z => ?_, _, upd_same, ?_⟩
    · rw [upd_ne (ne_of_none hD nT)]
      exact hD
    · exact small10 (by omega)
    · rw [upd_ne (ne_of_none z nD)]
      exact (e1.trans (same_new nT)) _ _ z
    · have := length_putK kvs (kf i) (vf i)
      omega
  · obtain rfl : i = n := by omega
    exact .inl ⟨wk.stops H (hG H e1), hd H kvs e1 hD⟩
abbrev NTr : List Str := ["self", "words", "order", "todo", "node", "first", "behind", "depth", "middle", "bit", "low", "high", "below", "name", "sign"]
theorem scTr : FnScope NTr ["self", "words"] (defScope sTrI) := ⟨rfl, rfl, rfl, by decide +kernel, rfl, by decide +kernel, by decide +kernel⟩
structure TxR (K : PySem.W.Frag) (C : Addr) : Prop where
  cl : Cls K C
  n : NoAttr K C "names"
  z : NoAttr K C "zeros"
  o : NoAttr K C "ones"
  b : NoAttr K C "numbers"
/-- all but what is at p, and tables, stays -/
def ButT (p : Addr) (H H' : Hp) : Prop := ∀ b o, b ≠ p → H b = some o → (∀ ps, o ≠ .tbl ps) → H' b = some o
def spTrI (C : Addr) (Tb : List (Addr × Str)) : Sp := fun vs H Q _ => ∃ (p dx wp : Addr) (ws : List W) (L : Nat), vs = [.ref p, .ref wp] ∧ H p = some (.ins C dx []) ∧ H wp = some (.tup (ws.map wV)) ∧ PF ws ∧ 2 ≤ ws.length ∧ ws.length ≤ 2000 ∧ (∀ w ∈ ws, w.length ≤ L) ∧ L ≤ 5000 ∧ kr L ws = 2 ^ L ∧ LamX.Tabs Tb H ∧
  ∀ H' fs, ButT p H H' → H' p = some (.ins C dx fs) → LamX.Tabs Tb H' → Q .non H'
theorem tabs_put {Tb : List (Addr × Str)} {H : Hp} {D : Addr} {xs ys : List V} (t : LamX.Tabs Tb H) (hD : H D = some (.lst xs)) : LamX.Tabs Tb (upd H D (.lst ys)) := tabs_at t hD (fun _ z => nomatch z) (fun _ z => nomatch z) fun c o n z => (upd_ne n).trans z
def trF (a1 a2 a3 : Addr) : List (Str × V) := putF "ones" (.ref a3) (putF "zeros" (.ref a2) (putF "names" (.ref a1) []))
theorem tr_names (a1 a2 a3 : Addr) : (trF a1 a2 a3).lookup ("names" : Str) = some (.ref a1) := by
  unfold trF
  rw [lookup_putF, if_neg (by decide +kernel), lookup_putF, if_neg (by decide +kernel), lookup_putF, if_pos rfl]
theorem tr_zeros (a1 a2 a3 : Addr) : (trF a1 a2 a3).lookup ("zeros" : Str) = some (.ref a2) := by
  unfold trF
  rw [lookup_putF, if_neg (by decide +kernel), lookup_putF, if_pos rfl]
theorem tr_ones (a1 a2 a3 : Addr) : (trF a1 a2 a3).lookup ("ones" : Str) = some (.ref a3) := by
  unfold trF
  rw [lookup_putF, if_pos rfl]
/-- the word's number -/
def nO : V → Nat
  | .int i => i.toNat
  | _ => 0
theorem order_of {ws : List W} {ys : List V} {L : Nat} (pm : ys.Perm (rgV 0 ((ws.length : Nat) : Int))) (sr : SrtO.Srtd (SrtL.ltG SrtL.ordStr fun v => bS (ws.getD (nO v) [])) ys) (pf : PF ws) (hL : ∀ w ∈ ws, w.length ≤ L) (ek : kr L ws = 2 ^ L) :
    ∃ os : List Nat, ys = os.map (fun n : Nat => V.int (n : Nat)) ∧ (∀ o ∈ os, o < ws.length) ∧ os.length = ws.length ∧ Full (os.map fun o => ws.getD o []) := by
  have er : rgV 0 ((ws.length : Nat) : Int) = (List.range ws.length).map fun n : Nat => V.int (n : Nat) := by
    unfold rgV
    rw [show (((ws.length : Nat) : Int) - 0).toNat = ws.length by omega]
    refine List.map_congr_left fun i _ => ?_
    show V.int (0 + (i : Nat)) = V.int (i : Nat)
    rw [show (0 : Int) + (i : Nat) = (i : Nat) by omega]
  rw [er] at pm
  have e1 : ys = (ys.map nO).map fun n : Nat => V.int (n : Nat) := by
    rw [List.map_map]
    conv => lhs; rw [← List.map_id ys]
    refine List.map_congr_left fun v hv => ?_
    obtain ⟨i, _, rfl⟩ := List.mem_map.mp (pm.subset hv)
    rfl
  have p2 : (ys.map nO).Perm (List.range ws.length) := by
    have := pm.map nO
    rw [List.map_map] at this
    have e : (List.range ws.length).map (nO ∘ fun n : Nat => V.int (n : Nat)) = List.range ws.length := by
      conv => rhs; rw [← List.map_id (List.range ws.length)]
      exact List.map_congr_left fun i _ => rfl
    rw [e] at this
    exact this
  have pw : ((ys.map nO).map fun o => ws.getD o []).Perm ws := by
    have h := p2.map fun o => ws.getD o []
    have e : (List.range ws.length).map (fun o => ws.getD o []) = ws := by
      refine List.ext_getElem (by rw [List.length_map, List.length_range]) fun i h1 h2 => ?_
      rw [List.getElem_map, List.getElem_range, List.getD_eq_getElem?_getD, List.getElem?_eq_getElem h2]
      rfl
    rw [e] at h
    exact h
  refine ⟨ys.map nO, e1, fun o ho => List.mem_range.mp (p2.subset ho), by rw [p2.length_eq, List.length_range], ?_⟩
  refine full_of L _ (pf.perm pw.symm) ?_ (fun w hw => hL w (pw.subset hw)) ?_
  · unfold Asc
    rw [List.pairwise_map, List.pairwise_map]
    refine List.Pairwise.imp (fun {a b} h => ?_) sr
    exact of_decide_eq_false h
  · unfold kr at ek ⊢
    rw [← ek]
    exact (pw.map _).sum_nat
/-- a node and the words below it: from, up to -/
abbrev It3 := Nat × Nat × Nat
def wgt (its : List It3) : Nat := (its.map fun t => 2 * (t.2.2 - t.2.1) - 3).sum
/-- the words on one side below a node -/
def Half (ws : List W) (os : List Nat) (u : W) (b : Bool) (lo hi : Nat) : Prop := lo < hi ∧ ∃ us : List W, Full us ∧ us.length = hi - lo ∧ ∀ i v, us[i]? = some v → ∃ o, os[lo + i]? = some o ∧ ws[o]? = some ((u ++ [b]) ++ v)
theorem halves {ws : List W} {os : List Nat} {u : W} {us : List W} {fi be : Nat} (l : fi + 2 ≤ be) (hf : Full us) (hl : us.length = be - fi) (h : ∀ i v, us[i]? = some v → ∃ o, os[fi + i]? = some o ∧ ws[o]? = some (u ++ v)) :
    ∃ m, fi < m ∧ m < be ∧ Half ws os u true m be ∧ Half ws os u false fi m ∧ (∀ i, fi ≤ i → i < m → obit ws os u.length i = some false) ∧ (∀ i, m ≤ i → i < be → obit ws os u.length i = some true) := by
  obtain ⟨zs, o1, fz, fo, rfl⟩ := hf.parts (by omega)
  have p1 := fz.pos
  have p2 := fo.pos
  rw [List.length_append, List.length_map, List.length_map] at hl
  have gz : ∀ i v, zs[i]? = some v → ∃ o, os[fi + i]? = some o ∧ ws[o]? = some (u ++ (false :: v)) := fun i v hv => by
    refine h i (false :: v) ?_
    have li : i < zs.length := (List.getElem?_eq_some_iff.mp hv).1
    rw [List.getElem?_append_left (by rw [List.length_map]; exact li), List.getElem?_map, hv]
    rfl
  have go : ∀ i v, o1[i]? = some v → ∃ o, os[fi + zs.length + i]? = some o ∧ ws[o]? = some (u ++ (true :: v)) := fun i v hv => by
    have := h (zs.length + i) (true :: v) (by
      rw [List.getElem?_append_right (by rw [List.length_map]; omega), List.length_map, Nat.add_sub_cancel_left, List.getElem?_map, hv]
      rfl)
    rw [Nat.add_assoc]
    exact this
  have ob : ∀ (i o : Nat) (b : Bool) (v : W), os[i]? = some o → ws[o]? = some (u ++ (b :: v)) → obit ws os u.length i = some b := fun i o b v h1 h2 => by
    unfold obit
    rw [h1]
    show (ws[o]?).bind _ = _
    rw [h2]
    show (u ++ b :: v)[u.length]? = _
    rw [List.getElem?_append_right (Nat.le_refl _), Nat.sub_self]
    rfl
  refine ⟨fi + zs.length, by omega, by omega, ⟨by omega, o1, fo, by omega, fun i v hv => ?_⟩, ⟨by omega, zs, fz, by omega, fun i v hv => ?_⟩, fun i i1 i2 => ?_, fun i i1 i2 => ?_⟩
  · obtain ⟨o, h1, h2⟩ := go i v hv
    exact ⟨o, h1, by rw [h2, List.append_assoc]; rfl⟩
  · obtain ⟨o, h1, h2⟩ := gz i v hv
    exact ⟨o, h1, by rw [h2, List.append_assoc]; rfl⟩
  · have li : i - fi < zs.length := by omega
    obtain ⟨o, h1, h2⟩ := gz (i - fi) _ (List.getElem?_eq_getElem li)
    rw [show fi + (i - fi) = i by omega] at h1
    exact ob i o _ _ h1 h2
  · have li : i - (fi + zs.length) < o1.length := by omega
    obtain ⟨o, h1, h2⟩ := go (i - (fi + zs.length)) _ (List.getElem?_eq_getElem li)
    rw [show fi + zs.length + (i - (fi + zs.length)) = i by omega] at h1
    exact ob i o _ _ h1 h2
theorem bS_snoc (u : W) (b : Bool) : bS (u ++ [b]) = bS u ++ (⟨#[cd b]⟩ : Str) := by
  rw [bS, bS, List.map_append]
  show S _ = (⟨(S _).cps ++ _⟩ : Str)
  unfold S
  simp
/-- what stands below a node -/
def Gd (ws : List W) (os : List Nat) (nm : List W) (t : It3) : Prop := t.2.1 + 2 ≤ t.2.2 ∧ ∃ (u : W) (us : List W), nm[t.1]? = some u ∧ Full us ∧ us.length = t.2.2 - t.2.1 ∧ ∀ i v, us[i]? = some v → ∃ o, os[t.2.1 + i]? = some o ∧ ws[o]? = some (u ++ v)
theorem Gd.more {ws : List W} {os : List Nat} {nm ex : List W} {t : It3} (h : Gd ws os nm t) : Gd ws os (nm ++ ex) t := by
  obtain ⟨h1, u, us, h2, h3, h4, h5⟩ := h
  refine ⟨h1, u, us, ?_, h3, h4, h5⟩
  rw [List.getElem?_append_left (List.getElem?_eq_some_iff.mp h2).1]
  exact h2
theorem wgt_len {ws : List W} {os : List Nat} {nm : List W} : ∀ {its : List It3}, (∀ t ∈ its, Gd ws os nm t) → its.length ≤ wgt its
  | [], _ => Nat.zero_le _
  | t :: r, h => by
    have ih := wgt_len (its := r) fun x hx => h x (List.mem_cons_of_mem _ hx)
    have := (h t List.mem_cons_self).1
    show r.length + 1 ≤ ((t :: r).map _).sum
    rw [List.map_cons, List.sum_cons]
    have e : (r.map fun t : It3 => 2 * (t.2.2 - t.2.1) - 3).sum = wgt r := rfl
    rw [e]
    omega
theorem wgt_snoc (its : List It3) (t : It3) : wgt (its ++ [t]) = wgt its + (2 * (t.2.2 - t.2.1) - 3) := by simp [wgt]
def cc (fi mi be : Nat) : Nat → Nat
  | 0 => 0
  | 1 => 2 * (be - mi) - 2
  | _ => 2 * (be - mi) - 2 + (2 * (mi - fi) - 2)
theorem ixn {n j : Nat} (h : j < n) : ixN n (j : Int) = some j := by
  rw [ixN, if_pos (by omega), if_pos (by omega), Int.toNat_natCast]
theorem paired_snoc {α β : Type} {F : α → β → Prop} {x : α} {y : β} (h : F x y) : ∀ {xs : List α} {ys : List β}, Paired F xs ys → Paired F (xs ++ [x]) (ys ++ [y])
  | _, _, .nil => .cons h .nil
  | _, _, .cons a r => .cons a (paired_snoc h r)
theorem Half.gd {ws : List W} {os : List Nat} {u : W} {b : Bool} {lo hi : Nat} {nm : List W} (h : Half ws os u b lo hi) (c : lo + 2 ≤ hi) : Gd ws os (nm ++ [u ++ [b]]) (nm.length, lo, hi) := by
  obtain ⟨_, us, f, l, g⟩ := h
  refine ⟨c, u ++ [b], us, ?_, f, l, g⟩
  rw [List.getElem?_append_right (Nat.le_refl _), Nat.sub_self]
  rfl
def ItAt (H : Hp) (v : V) (t : It3) : Prop := ∃ a, v = .ref a ∧ H a = some (.tup [.int (t.1 : Nat), .int (t.2.1 : Nat), .int (t.2.2 : Nat)])
theorem ItAt.lst {H : Hp} {D : Addr} {xs ys : List V} {v : V} {t : It3} (h : ItAt H v t) (hD : H D = some (.lst xs)) : ItAt (upd H D (.lst ys)) v t := let ⟨a, e, h⟩ := h; ⟨a, e, TT.lst hD _ _ h⟩
theorem ItAt.same {H H' : Hp} {v : V} {t : It3} (h : ItAt H v t) (e : Same H H') : ItAt H' v t := let ⟨a, e1, h⟩ := h; ⟨a, e1, e _ _ h⟩
/-- the heap while the tree grows -/
structure TrH (C dx p wp OR TD a1 a2 a3 : Addr) (H0 H : Hp) (Tb : List (Addr × Str)) (ws : List W) (os : List Nat) (nm : List W) (its : List It3) : Prop where
  frm : ButT p H0 H
  tabs : LamX.Tabs Tb H
  hp : H p = some (.ins C dx (trF a1 a2 a3))
  hw : H wp = some (.tup (ws.map wV))
  hO : H OR = some (.lst (os.map fun n : Nat => V.int (n : Nat)))
  h1 : H a1 = some (.lst (nm.map wV))
  h2 : ∃ xs, H a2 = some (.lst xs) ∧ xs.length = nm.length
  h3 : ∃ xs, H a3 = some (.lst xs) ∧ xs.length = nm.length
  hT : ∃ vs, H TD = some (.lst vs) ∧ Paired (ItAt H) vs its
  good : ∀ t ∈ its, Gd ws os nm t
/-- nothing but a table was there -/
def Fr0 (H0 : Hp) (a : Addr) : Prop := ∀ o, H0 a = some o → ∃ ps, o = .tbl ps
theorem fr_ne {H0 : Hp} {a b : Addr} {o : HO} (h : Fr0 H0 a) (z : H0 b = some o) (m : ∀ ps, o ≠ .tbl ps) : b ≠ a := fun e => by
  subst e
  obtain ⟨ps, rfl⟩ := h o z
  exact m ps rfl
theorem fr_none {H0 : Hp} {a : Addr} (h : H0 a = none) : Fr0 H0 a := fun o z => by rw [h] at z; cases z
/-- the lists are apart and new -/
structure TrN (OR TD a1 a2 a3 : Addr) (H0 : Hp) : Prop where
  n1 : Fr0 H0 a1
  n2 : Fr0 H0 a2
  n3 : Fr0 H0 a3
  nT : Fr0 H0 TD
  d12 : a1 ≠ a2
  d13 : a1 ≠ a3
  d23 : a2 ≠ a3
  dT1 : TD ≠ a1
  dT2 : TD ≠ a2
  dT3 : TD ≠ a3
  dO1 : OR ≠ a1
  dO2 : OR ≠ a2
  dO3 : OR ≠ a3
  dOT : OR ≠ TD
section
variable {C dx p wp OR TD a1 a2 a3 : Addr} {H0 H H' : Hp} {Tb : List (Addr × Str)} {ws : List W} {os : List Nat} {nm : List W} {its : List It3}
theorem TrH.same (h : TrH C dx p wp OR TD a1 a2 a3 H0 H Tb ws os nm its) (e : Same H H') : TrH C dx p wp OR TD a1 a2 a3 H0 H' Tb ws os nm its :=
  let ⟨x2, e2, l2⟩ := h.h2; let ⟨x3, e3, l3⟩ := h.h3; let ⟨vs, eT, pT⟩ := h.hT
  ⟨fun b o n z m => e _ _ (h.frm b o n z m), h.tabs.ext e, e _ _ h.hp, e _ _ h.hw, e _ _ h.hO, e _ _ h.h1, ⟨x2, e _ _ e2, l2⟩, ⟨x3, e _ _ e3, l3⟩, ⟨vs, e _ _ eT, Paired.mapP pT fun _ _ z => z.same e⟩, h.good⟩
/-- the list of what is to be done is written -/
theorem TrH.todo (N : TrN OR TD a1 a2 a3 H0) (h : TrH C dx p wp OR TD a1 a2 a3 H0 H Tb ws os nm its) {ys : List V} {its2 : List It3} (pr : Paired (ItAt H) ys its2) (g : ∀ t ∈ its2, Gd ws os nm t) : TrH C dx p wp OR TD a1 a2 a3 H0 (upd H TD (.lst ys)) Tb ws os nm its2 := by
  obtain ⟨x2, e2, l2⟩ := h.h2
  obtain ⟨x3, e3, l3⟩ := h.h3
  obtain ⟨vs, eT, pT⟩ := h.hT
  refine ⟨fun b o n z m => (upd_ne (fr_ne N.nT z m)).trans (h.frm b o n z m), tabs_put h.tabs eT, (upd_ne (ne_of h.hp eT fun y => nomatch y)).trans h.hp, (upd_ne (ne_of h.hw eT fun y => nomatch y)).trans h.hw, (upd_ne N.dOT).trans h.hO, (upd_ne (Ne.symm N.dT1)).trans h.h1, ⟨x2, (upd_ne (Ne.symm N.dT2)).trans e2, l2⟩, ⟨x3, (upd_ne (Ne.symm N.dT3)).trans e3, l3⟩, ⟨ys, upd_same, Paired.mapP pr fun _ _ z => z.lst eT⟩, g⟩
/-- one number is written at a node -/
theorem TrH.put2 (N : TrN OR TD a1 a2 a3 H0) (h : TrH C dx p wp OR TD a1 a2 a3 H0 H Tb ws os nm its) {xs ys : List V} (ex : H a2 = some (.lst xs)) (ly : ys.length = nm.length) : TrH C dx p wp OR TD a1 a2 a3 H0 (upd H a2 (.lst ys)) Tb ws os nm its := by
  obtain ⟨x3, e3, l3⟩ := h.h3
  obtain ⟨vs, eT, pT⟩ := h.hT
  exact ⟨fun b o n z m => (upd_ne (fr_ne N.n2 z m)).trans (h.frm b o n z m), tabs_put h.tabs ex, (upd_ne (ne_of h.hp ex fun y => nomatch y)).trans h.hp, (upd_ne (ne_of h.hw ex fun y => nomatch y)).trans h.hw, (upd_ne N.dO2).trans h.hO, (upd_ne N.d12).trans h.h1, ⟨ys, upd_same, ly⟩, ⟨x3, (upd_ne (Ne.symm N.d23)).trans e3, l3⟩, ⟨vs, (upd_ne N.dT2).trans eT, Paired.mapP pT fun _ _ z => z.lst ex⟩, h.good⟩
theorem TrH.put3 (N : TrN OR TD a1 a2 a3 H0) (h : TrH C dx p wp OR TD a1 a2 a3 H0 H Tb ws os nm its) {xs ys : List V} (ex : H a3 = some (.lst xs)) (ly : ys.length = nm.length) : TrH C dx p wp OR TD a1 a2 a3 H0 (upd H a3 (.lst ys)) Tb ws os nm its := by
  obtain ⟨x2, e2, l2⟩ := h.h2
  obtain ⟨vs, eT, pT⟩ := h.hT
  exact ⟨fun b o n z m => (upd_ne (fr_ne N.n3 z m)).trans (h.frm b o n z m), tabs_put h.tabs ex, (upd_ne (ne_of h.hp ex fun y => nomatch y)).trans h.hp, (upd_ne (ne_of h.hw ex fun y => nomatch y)).trans h.hw, (upd_ne N.dO3).trans h.hO, (upd_ne N.d13).trans h.h1, ⟨x2, (upd_ne N.d23).trans e2, l2⟩, ⟨ys, upd_same, ly⟩, ⟨vs, (upd_ne N.dT3).trans eT, Paired.mapP pT fun _ _ z => z.lst ex⟩, h.good⟩
/-- a node more -/
theorem TrH.grow (N : TrN OR TD a1 a2 a3 H0) (h : TrH C dx p wp OR TD a1 a2 a3 H0 H Tb ws os nm its) {x2 x3 : List V} (e2 : H a2 = some (.lst x2)) (e3 : H a3 = some (.lst x3)) (l2 : x2.length = nm.length) (l3 : x3.length = nm.length) (u : W) :
    TrH C dx p wp OR TD a1 a2 a3 H0 (upd (upd (upd H a1 (.lst (nm.map wV ++ [wV u]))) a2 (.lst (x2 ++ [.non]))) a3 (.lst (x3 ++ [.non]))) Tb ws os (nm ++ [u]) its := by
  obtain ⟨vs, eT, pT⟩ := h.hT
  have f2 : upd H a1 (.lst (nm.map wV ++ [wV u])) a2 = some (.lst x2) := (upd_ne (Ne.symm N.d12)).trans e2
  have f3 : upd (upd H a1 (.lst (nm.map wV ++ [wV u]))) a2 (.lst (x2 ++ [.non])) a3 = some (.lst x3) := (upd_ne (Ne.symm N.d23)).trans ((upd_ne (Ne.symm N.d13)).trans e3)
  have far : ∀ b o, H b = some o → b ≠ a1 → b ≠ a2 → b ≠ a3 → upd (upd (upd H a1 (.lst (nm.map wV ++ [wV u]))) a2 (.lst (x2 ++ [.non]))) a3 (.lst (x3 ++ [.non])) b = some o := fun b o z n1 n2 n3 => (upd_ne n3).trans ((upd_ne n2).trans ((upd_ne n1).trans z))
  have tup : ∀ b xs, H b = some (.tup xs) → upd (upd (upd H a1 (.lst (nm.map wV ++ [wV u]))) a2 (.lst (x2 ++ [.non]))) a3 (.lst (x3 ++ [.non])) b = some (.tup xs) := fun b xs z => far b _ z (ne_of z h.h1 fun y => nomatch y) (ne_of z e2 fun y => nomatch y) (ne_of z e3 fun y => nomatch y)
  refine ⟨fun b o n z m => far b o (h.frm b o n z m) (fr_ne N.n1 z m) (fr_ne N.n2 z m) (fr_ne N.n3 z m), tabs_put (tabs_put (tabs_put h.tabs h.h1) f2) f3, far _ _ h.hp (ne_of h.hp h.h1 fun y => nomatch y) (ne_of h.hp e2 fun y => nomatch y) (ne_of h.hp e3 fun y => nomatch y), tup _ _ h.hw, far _ _ h.hO N.dO1 N.dO2 N.dO3, ?_, ⟨_, (upd_ne N.d23).trans upd_same, by rw [List.length_append, List.length_append, l2]; rfl⟩, ⟨_, upd_same, by rw [List.length_append, List.length_append, l3]; rfl⟩, ⟨vs, far _ _ eT N.dT1 N.dT2 N.dT3, Paired.mapP pT fun v t ⟨a, e, z⟩ => ⟨a, e, tup _ _ z⟩⟩, fun t ht => (h.good t ht).more⟩
  rw [List.map_append]
  exact (upd_ne N.d13).trans ((upd_ne N.d12).trans upd_same)
end
section
variable {P : Program} {w : World} {K : PySem.W.Frag} {mg : Str → Option Value} {base : Heap}
theorem ok_trI {f c T C : Addr} {fd : FuncData} {Tb : List (Addr × Str)} (F : FunL K base mg "__init__" "Tree.__init__" sTrI f c T fd) (B : Bi mg) (Z : Bs mg) (TX : TxR K C) (cO : Cal CX0 P w K mg base 1 "first_one" (spFo K))
    (hmT : (T, (("Tree.__init__.<locals>.<lambda>" : String) : Str)) ∈ Tb) (hu : ∀ p ∈ Tb, p.1 = T → p.2 = (("Tree.__init__.<locals>.<lambda>" : String) : Str)) : FnOk P w K mg base CX0 6 f fd ["self", "words"] (spTrI C Tb) := by
  refine F.okX scTr (fun vs H Q E h => ?_) (fun A outer s H vs Q E hr h => ?_)
  · obtain ⟨p, dx, wp, ws, L, rfl, _⟩ := h
    rfl
  · obtain ⟨p, dx, wp, ws, L, rfl, hp, hw, pf, l2, lN, hL, L5, ek, tabs, q⟩ := h
    refine ⟨_, pss_cons (ps_fld (pv 0) (pe_lst (pa_cons pe_str pa_nil)) rfl)
      (pss_cons (ps_fld (pv 0) (pe_lst (pa_cons pe_non pa_nil)) rfl)
      (pss_cons (ps_fld (pv 0) (pe_lst (pa_cons pe_non pa_nil)) rfl)
      (pss_cons (ps_set (i := 2) scTr.nd rfl (Or.inl rfl) (by exact SrtL.pe_sortLam (k := 1) (i := 14) SrtL.ordStr rfl Z.sorted (pe_listRg rfl rfl B.list (prg_1 rfl B.range (pe_len B.len (pa_cons (pv 1) pa_nil)))) F.tab hmT hu (hr.mono (by decide)) (LamX.lamP_by (sc := defScope sTrI) (by decide +kernel)) scTr.nd rfl (fun s H f c' hr' => pe_ix (ix_tupK K rfl) (pv 1) (pv 14) (fun _ _ => rfl))))
      (pss_cons (ps_set (i := 3) scTr.nd rfl (Or.inl rfl) (pe_lst (pa_cons (pe_tup (pa_cons pe_int (pa_cons pe_int (pa_cons (pe_len B.len (pa_cons (pv 1) pa_nil)) pa_nil)))) pa_nil)))
      (pss_cons (ps_while PassesOwn.never (pt_truth (pv 3) (by intro _; rfl))
        (pss_cons (ps_asg (pe_bm0 PySem.F.plainAttrs_list PySem.F.slot_list_pop PySem.F.type_list_pop mt_pop (pv 3)) (pg_tup rfl (pgs_cons (pg_name (i := 4) scTr.nd rfl (.inl rfl)) (pgs_cons (pg_name (i := 5) scTr.nd rfl (.inl rfl)) (pgs_cons (pg_name (i := 6) scTr.nd rfl (.inl rfl)) pgs_nil)))))
        (pss_cons (ps_set (i := 7) scTr.nd rfl (Or.inl rfl) (pe_lenS B.len (pa_cons (pe_ix ix_list (pe_fld (pv 0) rfl) (pv 4) (fun _ _ => rfl)) pa_nil)))
        (pss_cons (ps_set (i := 8) scTr.nd rfl (Or.inl rfl) (pe_c cO hr pass0 (pa_cons (pv 1) (pa_cons (pv 2) (pa_cons (pv 7) (pa_cons (pv 5) (pa_cons (pv 6) pa_nil)))))))
        (pss_one (ps_for PassesOwn.never rfl (pi_sqA (pe_tup (pa_cons (pe_tup (pa_cons pe_str (pa_cons (pv 8) (pa_cons (pv 6) pa_nil)))) (pa_cons (pe_tup (pa_cons pe_str (pa_cons (pv 5) (pa_cons (pv 8) pa_nil)))) pa_nil)))) (pg_tup rfl (pgs_cons (pg_name (i := 9) scTr.nd rfl (.inl rfl)) (pgs_cons (pg_name (i := 10) scTr.nd rfl (.inl rfl)) (pgs_cons (pg_name (i := 11) scTr.nd rfl (.inl rfl)) pgs_nil))))
          (pss_cons (ps_set (i := 12) scTr.nd rfl (Or.inl rfl) (pe_op op_sub (pe_un un_neg pe_int) (pe_ix ix_list (pv 2) (pv 10) (fun _ _ => rfl))))
          (pss_cons (ps_if (pt_cmpR op_gt (pe_op op_sub (pv 11) (pv 10)) pe_int (nomark _))
            (pss_cons (ps_set (i := 12) scTr.nd rfl (Or.inl rfl) (pe_len B.len (pa_cons (pe_fld (pv 0) rfl) pa_nil)))
            (pss_cons (ps_expr (pe_bm PySem.F.plainAttrs_list PySem.F.slot_list_append PySem.F.type_list_append mt_append (pe_fld (pv 0) rfl) (pa_cons (pe_op op_add_str (pe_ix ix_list (pe_fld (pv 0) rfl) (pv 4) (fun _ _ => rfl)) (pv 9)) pa_nil)))
            (pss_cons (ps_expr (pe_bm PySem.F.plainAttrs_list PySem.F.slot_list_append PySem.F.type_list_append mt_append (pe_fld (pv 0) rfl) (pa_cons pe_non pa_nil)))
            (pss_cons (ps_expr (pe_bm PySem.F.plainAttrs_list PySem.F.slot_list_append PySem.F.type_list_append mt_append (pe_fld (pv 0) rfl) (pa_cons pe_non pa_nil)))
            (pss_one (ps_expr (pe_bm PySem.F.plainAttrs_list PySem.F.slot_list_append PySem.F.type_list_append mt_append (pv 3) (pa_cons (pe_tup (pa_cons (pv 12) (pa_cons (pv 10) (pa_cons (pv 11) pa_nil)))) pa_nil)))))))) pss_nil)
          (pss_one (ps_if (pt_cmpR op_eq (pv 9) pe_str (nomark _)) (pss_one (ps_asg (pv 12) (pg_sub (pe_fld (pv 0) rfl) (pv 4) set_list))) (pss_one (ps_asg (pv 12) (pg_sub (pe_fld (pv 0) rfl) (pv 4) set_list)))))))))))))
      (pss_one (ps_fld (pv 0) (pe_dc (own := [("node", 4), ("name", 13)]) rfl scTr.nd (pi_en B.enum (pa_cons (pe_fld (pv 0) rfl) pa_nil)) (blkOk_by (N := NTr) (sc := defScope sTrI) (by decide +kernel))
          (fun _ _ _ _ _ => pg_pairK K rfl rfl (pg_name (i := 4) scTr.nd rfl (Or.inl rfl) (.inr rfl)) (pg_name (i := 13) scTr.nd rfl (Or.inl rfl) (.inr rfl))) (fun _ _ _ _ _ => pts_nil) (fun _ _ _ _ _ => pv 13) (fun _ _ _ _ _ => pv 4)) rfl))))))), ?_⟩
    refine ⟨by show 1 ≤ sizeLine; decide, fun a1 n1 => ⟨_, rfl, p, C, dx, [], rfl, same_new n1 _ _ hp, TX.cl, TX.n, by decide, ?_⟩⟩
    have e1 := same_new (o := .lst [.str ""]) n1
    have pa1 : p ≠ a1 := ne_of_none hp n1
    have hp1 : upd (upd H a1 (.lst [.str ""])) p (.ins C dx (putF "names" (.ref a1) [])) p = some (.ins C dx (putF "names" (.ref a1) [])) := upd_same
    have g1 : upd (upd H a1 (.lst [.str ""])) p (.ins C dx (putF "names" (.ref a1) [])) a1 = some (.lst [.str ""]) := (upd_ne (Ne.symm pa1)).trans upd_same
    have f1 : ButI p H (upd (upd H a1 (.lst [.str ""])) p (.ins C dx (putF "names" (.ref a1) []))) := fun b o n z => (upd_ne n).trans (e1 _ _ z)
    generalize upd (upd H a1 (.lst [.str ""])) p (.ins C dx (putF "names" (.ref a1) [])) = H1 at hp1 g1 f1 ⊢
    refine ⟨by show 1 ≤ sizeLine; decide, fun a2 n2 => ⟨_, rfl, p, C, dx, _, rfl, same_new n2 _ _ hp1, TX.cl, TX.z, by show 1 < 1000; decide, ?_⟩⟩
    have e2 := same_new (o := .lst [.non]) n2
    have pa2 : p ≠ a2 := ne_of_none hp1 n2
    have d12 : a1 ≠ a2 := ne_of_none g1 n2
    have hp2 : upd (upd H1 a2 (.lst [.non])) p (.ins C dx (putF "zeros" (.ref a2) (putF "names" (.ref a1) []))) p = some (.ins C dx (putF "zeros" (.ref a2) (putF "names" (.ref a1) []))) := upd_same
    have g2 : upd (upd H1 a2 (.lst [.non])) p (.ins C dx (putF "zeros" (.ref a2) (putF "names" (.ref a1) []))) a2 = some (.lst [.non]) := (upd_ne (Ne.symm pa2)).trans upd_same
    have f2 : ButI p H1 (upd (upd H1 a2 (.lst [.non])) p (.ins C dx (putF "zeros" (.ref a2) (putF "names" (.ref a1) [])))) := fun b o n z => (upd_ne n).trans (e2 _ _ z)
    generalize upd (upd H1 a2 (.lst [.non])) p (.ins C dx (putF "zeros" (.ref a2) (putF "names" (.ref a1) []))) = H2 at hp2 g2 f2 ⊢
    refine ⟨by show 1 ≤ sizeLine; decide, fun a3 n3 => ⟨_, rfl, p, C, dx, _, rfl, same_new n3 _ _ hp2, TX.cl, TX.o, by show 2 < 1000; decide, ?_⟩⟩
    have e3 := same_new (o := .lst [.non]) n3
    have pa3 : p ≠ a3 := ne_of_none hp2 n3
    have h1n2 := f2 a1 _ (Ne.symm pa1) g1
    have d13 : a1 ≠ a3 := ne_of_none h1n2 n3
    have d23 : a2 ≠ a3 := ne_of_none g2 n3
    have hp3 : upd (upd H2 a3 (.lst [.non])) p (.ins C dx (trF a1 a2 a3)) p = some (.ins C dx (trF a1 a2 a3)) := upd_same
    have g3 : upd (upd H2 a3 (.lst [.non])) p (.ins C dx (trF a1 a2 a3)) a3 = some (.lst [.non]) := (upd_ne (Ne.symm pa3)).trans upd_same
    have f3 : ButI p H2 (upd (upd H2 a3 (.lst [.non])) p (.ins C dx (trF a1 a2 a3))) := fun b o n z => (upd_ne n).trans (e3 _ _ z)
    show (fun H' => _) (upd (upd H2 a3 (.lst [.non])) p (.ins C dx (trF a1 a2 a3)))
    generalize upd (upd H2 a3 (.lst [.non])) p (.ins C dx (trF a1 a2 a3)) = H3 at hp3 g3 f3 ⊢
    have g13 := f3 a1 _ (Ne.symm pa1) h1n2
    have g23 := f3 a2 _ (Ne.symm pa2) g2
    have f13 : ButI p H H3 := fun b o n z => f3 b o n (f2 b o n (f1 b o n z))
    have pw : wp ≠ p := ne_of hw hp fun y => nomatch y
    have hw3 := f13 wp _ pw hw
    have tab3 : LamX.Tabs Tb H3 := tabs_at tabs hp (fun _ z => nomatch z) (fun _ z => nomatch z) f13
    have lw : (ws.map wV).length = ws.length := List.length_map _
    refine ⟨_, rfl, wp, _, rfl, .inr (SqT.of hw3), _, rfl, ?_, fun a4 n4 => ?_⟩
    · rw [lw]
      exact RgOk.of_le (by omega) (by omega) (by omega) (by omega)
    rw [lw]
    have e4 := same_new (o := .lst (rgV 0 ((ws.length : Nat) : Int))) n4
    have g4 : upd H3 a4 (.lst (rgV 0 ((ws.length : Nat) : Int))) a4 = some (.lst (rgV 0 ((ws.length : Nat) : Int))) := upd_same
    refine ⟨a4, _, fun v => bS (ws.getD (nO v) []), rfl, SqL.of g4, tab3.ext e4, fun H5 en5 tab5 => ⟨SqL.of (en5 _ _ g4 fun _ z => nomatch z), fun v hv => ?_, fun ys OR srt stb nOR => ?_⟩⟩
    · obtain ⟨i, hi, rfl⟩ := List.mem_map.mp hv
      have hi := List.mem_range.mp hi
      have hi : i < ws.length := by omega
      have i0 : (0 : Int) + ((i : Nat) : Int) = (i : Nat) := by omega
      rw [i0]
      have eg : ws.getD (nO (.int (i : Nat))) [] = ws[i] := by
        show ws.getD ((i : Nat) : Int).toNat [] = _
        rw [Int.toNat_natCast, List.getD_eq_getElem?_getD, List.getElem?_eq_getElem hi]
        rfl
      refine ⟨_, rfl, _, rfl, wp, _, _, wV ws[i], rfl, rfl, SqT.of (en5 _ _ (e4 _ _ hw3) fun _ z => nomatch z), atI_nat (by rw [List.getElem?_map, List.getElem?_eq_getElem hi]; rfl), ?_, rfl⟩
      show wV ws[i] = V.str (bS (ws.getD (nO (.int (i : Nat))) []))
      rw [eg]
      rfl
    obtain ⟨os, rfl, osl, oln, full⟩ := order_of stb.perm srt pf hL ek
    have e6 := same_new (o := .lst (os.map fun n : Nat => V.int (n : Nat))) nOR
    have gOR : upd H5 OR (.lst (os.map fun n : Nat => V.int (n : Nat))) OR = some (.lst (os.map fun n : Nat => V.int (n : Nat))) := upd_same
    have h51 := en5 _ _ (e4 _ _ g13) fun _ z => nomatch z
    have h52 := en5 _ _ (e4 _ _ g23) fun _ z => nomatch z
    have h53 := en5 _ _ (e4 _ _ g3) fun _ z => nomatch z
    have dO1 : OR ≠ a1 := (ne_of_none h51 nOR).symm
    have dO2 : OR ≠ a2 := (ne_of_none h52 nOR).symm
    have dO3 : OR ≠ a3 := (ne_of_none h53 nOR).symm
    have fr6 : ButT p H (upd H5 OR (.lst (os.map fun n : Nat => V.int (n : Nat)))) := fun b o n z m => e6 _ _ (en5 _ _ (e4 _ _ (f13 b o n z)) m)
    have hp6 := e6 _ _ (en5 _ _ (e4 _ _ hp3) fun _ z => nomatch z)
    have tab6 := tab5.ext e6
    have h61 := e6 _ _ h51
    have h62 := e6 _ _ h52
    have h63 := e6 _ _ h53
    have hw6 := e6 _ _ (en5 _ _ (e4 _ _ hw3) fun _ z => nomatch z)
    have m2 : H a2 = none := by
      cases z : H a2 with
      | none => rfl
      | some o =>
        rw [f1 a2 o (Ne.symm pa2) z] at n2
        exact absurd n2 (fun y => nomatch y)
    have m3 : H a3 = none := by
      cases z : H a3 with
      | none => rfl
      | some o =>
        rw [f2 a3 o (Ne.symm pa3) (f1 a3 o (Ne.symm pa3) z)] at n3
        exact absurd n3 (fun y => nomatch y)
    clear f1 f2 f3 e1 e2 e3 hp1 hp2 hp3 g1 g2 g3 h1n2 g13 g23 h51 h52 h53 f13 hw3 tab3 e4 g4 en5 tab5 stb srt n2 n3 nOR n4
    generalize upd H5 OR (.lst (os.map fun n : Nat => V.int (n : Nat))) = H6 at e6 gOR fr6 hp6 tab6 h61 h62 h63 hw6 ⊢
    clear e6
    -- the work to do
    refine ⟨_, rfl, wp, _, rfl, .inr (SqT.of hw6), by show 3 ≤ sizeLine; decide, fun t0 nt0 => ⟨by show 1 ≤ sizeLine; decide, fun TD nTD => ?_⟩⟩
    rw [lw]
    have e7 := same_new (o := .tup [.int 0, .int 0, .int ((ws.length : Nat) : Int)]) nt0
    have ht0 : upd H6 t0 (.tup [.int 0, .int 0, .int ((ws.length : Nat) : Int)]) t0 = some (.tup [.int 0, .int 0, .int ((ws.length : Nat) : Int)]) := upd_same
    rw [lw] at nTD
    generalize upd H6 t0 (.tup [.int 0, .int 0, .int ((ws.length : Nat) : Int)]) = H7 at e7 ht0 nTD ⊢
    have e8 := same_new (o := .lst [.ref t0]) nTD
    have hTD : upd H7 TD (.lst [.ref t0]) TD = some (.lst [.ref t0]) := upd_same
    have e78 := e7.trans e8
    have mT : Fr0 H TD := fun o z => by
      by_cases ep : TD = p
      · rw [ep, e7 _ _ hp6] at nTD
        exact absurd nTD (fun y => nomatch y)
      · by_cases et : ∃ ps, o = .tbl ps
        · exact et
        · rw [e7 _ _ (fr6 TD o ep z fun ps y => et ⟨ps, y⟩)] at nTD
          exact absurd nTD (fun y => nomatch y)
    have N : TrN OR TD a1 a2 a3 H := ⟨fr_none n1, fr_none m2, fr_none m3, mT, d12, d13, d23, (ne_of_none (e7 _ _ h61) nTD).symm, (ne_of_none (e7 _ _ h62) nTD).symm, (ne_of_none (e7 _ _ h63) nTD).symm, dO1, dO2, dO3, ne_of_none (e7 _ _ gOR) nTD⟩
    have R0 : TrH C dx p wp OR TD a1 a2 a3 H (upd H7 TD (.lst [.ref t0])) Tb ws os [[]] [(0, 0, ws.length)] := by
      refine ⟨fun b o n z m => e78 _ _ (fr6 b o n z m), tab6.ext e78, e78 _ _ hp6, e78 _ _ hw6, e78 _ _ gOR, e78 _ _ h61, ⟨_, e78 _ _ h62, rfl⟩, ⟨_, e78 _ _ h63, rfl⟩, ⟨_, hTD, .cons ⟨t0, rfl, e8 _ _ ht0⟩ .nil⟩, fun t ht => ?_⟩
      rw [List.mem_singleton.mp ht]
      refine ⟨by show 0 + 2 ≤ ws.length; omega, [], _, rfl, full, by rw [List.length_map, oln]; rfl, fun i v hv => ?_⟩
      rw [List.getElem?_map] at hv
      cases ho : os[i]? with
      | none => rw [ho] at hv; cases hv
      | some o =>
        rw [ho] at hv
        have hv : v = ws.getD o [] := (Option.some.inj hv).symm
        have lo := osl o (List.mem_of_getElem? ho)
        refine ⟨o, by rw [show ((0, 0, ws.length) : It3).2.1 + i = i from Nat.zero_add i]; exact ho, ?_⟩
        rw [hv, List.nil_append, List.getD_eq_getElem?_getD, List.getElem?_eq_getElem lo]
        rfl
    clear hTD e8 e78 ht0 e7 nTD nt0 hw6 h61 h62 h63 tab6 hp6 fr6 gOR m2 m3 mT n1
    generalize upd H7 TD (.lst [.ref t0]) = H8 at R0 ⊢
    refine ⟨fun k σ H' => ∃ (nm : List W) (its : List It3) (x4 x5 x6 x7 x8 x9 x10 x11 x12 : Option V), k = wgt its ∧ σ = [some (.ref p), some (.ref wp), some (.ref OR), some (.ref TD), x4, x5, x6, x7, x8, x9, x10, x11, x12, none, none] ∧ TrH C dx p wp OR TD a1 a2 a3 H H' Tb ws os nm its ∧ nm.length + wgt its ≤ 4000,
      ⟨_, [[]], [(0, 0, ws.length)], none, none, none, none, none, none, none, none, none, rfl, rfl, R0, by show 1 + (2 * (ws.length - 0) - 3 + 0) ≤ 4000; omega⟩, ?_⟩
    rintro k σ G ⟨nm, its, x4, x5, x6, x7, x8, x9, x10, x11, x12, rfl, rfl, R, bd⟩
    obtain ⟨vs, eT, pT⟩ := id R.hT
    refine ⟨_, rfl, !vs.isEmpty, .inl ⟨vs, SqL.of eT, rfl⟩, ?_⟩
    rcases List.eq_nil_or_concat its with rfl | ⟨its0, it, rfl⟩
    · cases pT
      refine iteF ?_
      have g1 := R.h1
      have hpg := R.hp
      refine ⟨_, rfl, p, C, dx, _, _, rfl, hpg, TX.cl, TX.n, tr_names a1 a2 a3, a1, nm.map wV, rfl, .inl (SqL.of g1), fun J Gd' wk hG D nD => dcL wk (fun i => .inr (bS (nm.getD i []))) (fun i => .int (i : Nat)) (by rw [List.length_map]; omega) (fun H' e => hG H' fun o z => e _ _ z) nD ?_ ?_⟩
      · intro i T0 a' b' H14 R' N3 hi ea eb e14 hT r
        rw [List.length_map] at hi
        cases ea
        have eb : (nm.map wV)[i]? = some b' := eb
        rw [List.getElem?_map, List.getElem?_eq_getElem hi] at eb
        cases eb
        have eg : nm.getD i [] = nm[i] := by
          rw [List.getD_eq_getElem?_getD, List.getElem?_eq_getElem hi]
          rfl
        rw [eg] at r
        refine ⟨T0, _, rfl, SqT.of hT, rfl, _, _, rfl, _, _, rfl, rfl, rfl, ?_⟩
        unfold tYes
        exact iteT ⟨_, rfl, _, rfl, r⟩
      · intro H14 kvs e14 hD
        refine ⟨_, rfl, p, C, dx, _, rfl, e14 _ _ hpg, TX.cl, TX.b, by show 3 < 1000; decide, ?_⟩
        refine q _ (putF "numbers" (.ref D) (trF a1 a2 a3)) (fun b o n z m => (upd_ne n).trans (e14 _ _ (R.frm b o n z m))) upd_same ?_
        exact tabs_at (R.tabs.ext e14) (e14 _ _ hpg) (fun _ z => nomatch z) (fun _ z => nomatch z) fun c o n z => (upd_ne n).trans z
    · rw [List.concat_eq_append] at pT R bd
      obtain ⟨vs0, v, rfl, pT0, ta, rfl, hta⟩ := paired_last pT
      obtain ⟨nd, fi, be⟩ := it
      have hta : G ta = some (.tup [.int ((nd : Nat) : Int), .int ((fi : Nat) : Int), .int ((be : Nat) : Int)]) := hta
      have gd := R.good (nd, fi, be) (List.mem_append_right _ List.mem_cons_self)
      have R2 := R.todo N pT0 fun t ht => R.good t (List.mem_append_left _ ht)
      have hta2 := TT.lst (ys := vs0) eT _ _ hta
      rw [wgt_snoc] at bd
      have bd : nm.length + (wgt its0 + (2 * (be - fi) - 3)) ≤ 4000 := bd
      obtain ⟨l22, u, us, hu2, hfull, hlen, hws⟩ := gd
      have l22 : fi + 2 ≤ be := l22
      have hu2 : nm[nd]? = some u := hu2
      have hlen : us.length = be - fi := hlen
      have hws : ∀ i v, us[i]? = some v → ∃ o, os[fi + i]? = some o ∧ ws[o]? = some (u ++ v) := hws
      rw [show (!(vs0 ++ [V.ref ta]).isEmpty) = true by simp]
      refine iteT ⟨fun σ' H' => ∃ k', k' < wgt (its0.concat (nd, fi, be)) ∧ ∃ (nm : List W) (its : List It3) (x4 x5 x6 x7 x8 x9 x10 x11 x12 : Option V), k' = wgt its ∧ σ' = [some (.ref p), some (.ref wp), some (.ref OR), some (.ref TD), x4, x5, x6, x7, x8, x9, x10, x11, x12, none, none] ∧ TrH C dx p wp OR TD a1 a2 a3 H H' Tb ws os nm its ∧ nm.length + wgt its ≤ 4000, fun σ' H' ⟨k', l, z⟩ => ⟨k', l, z⟩, ?_⟩
      rw [List.concat_eq_append, wgt_snoc]
      refine ⟨_, rfl, .inl ⟨rfl, _, SqL.of eT⟩, TD, vs0 ++ [V.ref ta], .ref ta, rfl, rfl, eT, by rw [List.length_append, List.length_singleton, Nat.add_sub_cancel, List.getElem?_append_right (Nat.le_refl _), Nat.sub_self]; rfl, ?_⟩
      rw [List.dropLast_concat]
      generalize upd G TD (.lst vs0) = G2 at R2 hta2 ⊢
      refine ⟨ta, _, rfl, SqT.of hta2, rfl, ?_⟩
      have g1 := R2.h1
      have hpg := R2.hp
      have nu : nm[nd]? = some u := hu2
      obtain ⟨mi, m1, m2, hA, hB, hb0, hb1⟩ := halves l22 hfull hlen hws
      have lwS : ∀ w ∈ ws, w.length ≤ 5000 := fun w hw => Nat.le_trans (hL w hw) L5
      have lu : u.length ≤ 5000 := by
        obtain ⟨_, vA, fA, nA, gA⟩ := hA
        obtain ⟨o, h1, h2⟩ := gA 0 _ (List.getElem?_eq_getElem (show 0 < vA.length by omega))
        have := lwS _ (List.mem_of_getElem? h2)
        rw [List.length_append, List.length_append] at this
        omega
      have lbe : be ≤ 2000 := by
        obtain ⟨_, vA, fA, nA, gA⟩ := hA
        obtain ⟨o, h1, h2⟩ := gA (be - mi - 1) _ (List.getElem?_eq_getElem (show be - mi - 1 < vA.length by omega))
        have := (List.getElem?_eq_some_iff.mp h1).1
        omega
      refine ⟨_, _, rfl, _, _, rfl, _, _, rfl, rfl, ?_⟩
      refine ⟨_, rfl, p, C, dx, _, _, rfl, hpg, TX.cl, TX.n, tr_names a1 a2 a3, _, rfl, a1, _, _, wV u, rfl, rfl, SqL.of g1, atI_nat (by rw [List.getElem?_map, nu]; rfl), bS u, rfl, ?_, ?_⟩
      · rw [bS_len]
        exact Nat.le_of_lt (small10 (by omega))
      rw [bS_len]
      refine ⟨_, rfl, _, rfl, _, rfl, _, rfl, _, rfl, wp, OR, ws, os, u.length, fi, mi, be, rfl, R2.hw, R2.hO, Nat.le_of_lt m1, Nat.le_of_lt m2, by omega, hb0, hb1, fun w hw => Nat.le_trans (lwS w hw) (by decide), ?_⟩
      refine ⟨_, rfl, _, rfl, by show 3 ≤ sizeLine; decide, fun q1 nq1 => ⟨_, rfl, _, rfl, by show 3 ≤ sizeLine; decide, fun q2 nq2 => ⟨by show 2 ≤ sizeLine; decide, fun q3 nq3 => ?_⟩⟩⟩
      have e1 := same_new (o := .tup [.str "1", .int ((mi : Nat) : Int), .int ((be : Nat) : Int)]) nq1
      have e2 := same_new (o := .tup [.str "0", .int ((fi : Nat) : Int), .int ((mi : Nat) : Int)]) nq2
      have t1 : upd G2 q1 (.tup [.str "1", .int ((mi : Nat) : Int), .int ((be : Nat) : Int)]) q1 = some _ := upd_same
      have t2 : upd (upd G2 q1 (.tup [.str "1", .int ((mi : Nat) : Int), .int ((be : Nat) : Int)])) q2 (.tup [.str "0", .int ((fi : Nat) : Int), .int ((mi : Nat) : Int)]) q2 = some _ := upd_same
      have t1 := e2 _ _ t1
      have R3 := (R2.same e1).same e2
      have h3 : upd (upd (upd G2 q1 (.tup [.str "1", .int ((mi : Nat) : Int), .int ((be : Nat) : Int)])) q2 (.tup [.str "0", .int ((fi : Nat) : Int), .int ((mi : Nat) : Int)])) q3 (.tup [.ref q1, .ref q2]) q3 = some (.tup [.ref q1, .ref q2]) := upd_same
      have e3 := same_new (o := .tup [.ref q1, .ref q2]) nq3
      have t1 := e3 _ _ t1
      have t2 := e3 _ _ t2
      have R3 := R3.same e3
      generalize upd (upd (upd G2 q1 (.tup [.str "1", .int ((mi : Nat) : Int), .int ((be : Nat) : Int)])) q2 (.tup [.str "0", .int ((fi : Nat) : Int), .int ((mi : Nat) : Int)])) q3 (.tup [.ref q1, .ref q2]) = Hs at h3 t1 t2 R3 ⊢
      refine ⟨q3, [.ref q1, .ref q2], rfl, .inr (SqT.of h3), fun J GG wk hG => for_it wk (fun i σ H' => ∃ (nm' : List W) (its' : List It3) (x9 x10 x11 x12 : Option V), σ = [some (.ref p), some (.ref wp), some (.ref OR), some (.ref TD), some (.int ((nd : Nat) : Int)), some (.int ((fi : Nat) : Int)), some (.int ((be : Nat) : Int)), some (.int ((u.length : Nat) : Int)), some (.int ((mi : Nat) : Int)), x9, x10, x11, x12, none, none] ∧
        TrH C dx p wp OR TD a1 a2 a3 H H' Tb ws os nm' its' ∧ nm'[nd]? = some u ∧ TT Hs H' ∧ wgt its' ≤ wgt its0 + cc fi mi be i ∧ nm'.length + wgt its' ≤ nm.length + wgt its0 + cc fi mi be i)
        ⟨nm, its0, _, _, _, _, rfl, R3, nu, fun _ _ z => z, Nat.le_refl _, Nat.le_refl _⟩ (fun i σ H' _ ⟨_, _, _, _, _, _, _, _, _, tt, _⟩ => hG H' fun o z => by rw [h3] at z; cases z; exact tt _ _ h3) ?_ ?_⟩
      · rintro i x σ H5 H5' hi ⟨nm5, its5, x9', x10', x11', x12', rfl, R5, nu5, tt5, w5, b5⟩ ⟨rfl, hx⟩
        obtain ⟨b, lo, hh, qq, rfl, hq, hH, hc, hbe⟩ : ∃ (b : Bool) (lo hh : Nat) (qq : Addr), x = .ref qq ∧ Hs qq = some (.tup [.str ⟨#[cd b]⟩, .int ((lo : Nat) : Int), .int ((hh : Nat) : Int)]) ∧ Half ws os u b lo hh ∧ cc fi mi be (i + 1) = cc fi mi be i + (2 * (hh - lo) - 2) ∧ hh ≤ be := by
          match i, hi, hx with
          | 0, _, hx =>
            cases hx
            exact ⟨true, mi, be, q1, rfl, t1, hA, (Nat.zero_add _).symm, Nat.le_refl _⟩
          | 1, _, hx =>
            cases hx
            exact ⟨false, fi, mi, q2, rfl, t2, hB, rfl, Nat.le_of_lt m2⟩
        obtain ⟨o, ho, _⟩ : ∃ o, os[lo]? = some o ∧ True := by
          obtain ⟨l, us', _, ll, g⟩ := hH
          obtain ⟨o, h1, _⟩ := g 0 _ (List.getElem?_eq_getElem (show 0 < us'.length by omega))
          exact ⟨o, h1, True.intro⟩
        have lh := hH.1
        refine ⟨qq, _, rfl, SqT.of (tt5 _ _ hq), rfl, _, _, rfl, _, _, rfl, _, _, rfl, rfl, ?_⟩
        refine ⟨_, rfl, _, rfl, _, rfl, OR, _, _, .int ((o : Nat) : Int), rfl, rfl, SqL.of R5.hO, atI_nat (by rw [List.getElem?_map, ho]; rfl), _, _, rfl, rfl, ?_⟩
        refine ⟨_, rfl, _, rfl, _, _, rfl, rfl, _, _, rfl, rfl, _, rfl, ?_⟩
        by_cases c1 : lo + 1 < hh
        · rw [decide_eq_true (show (1 : Int) < ((hh : Nat) : Int) - ((lo : Nat) : Int) by omega)]
          have k1 := R5.h1
          obtain ⟨y2, k2, l2⟩ := R5.h2
          obtain ⟨y3, k3, l3⟩ := R5.h3
          have kp := R5.hp
          have nl := (List.getElem?_eq_some_iff.mp nu5).1
          have bd5 : nm5.length ≤ 9000 := by
            have : cc fi mi be i ≤ 4000 := by
              unfold cc
              split <;> omega
            omega
          have ew : V.str (bS u ++ (⟨#[cd b]⟩ : Str)) = wV (u ++ [b]) := congrArg V.str (bS_snoc u b).symm
          have R6 := R5.grow N k2 k3 l2 l3 (u ++ [b])
          have s1 : upd H5' a1 (.lst (nm5.map wV ++ [wV (u ++ [b])])) a2 = some (.lst y2) := (upd_ne (Ne.symm N.d12)).trans k2
          have p1 : upd H5' a1 (.lst (nm5.map wV ++ [wV (u ++ [b])])) p = some (.ins C dx (trF a1 a2 a3)) := (upd_ne (ne_of kp k1 fun y => nomatch y)).trans kp
          have s2 : upd (upd H5' a1 (.lst (nm5.map wV ++ [wV (u ++ [b])]))) a2 (.lst (y2 ++ [.non])) a3 = some (.lst y3) := (upd_ne (Ne.symm N.d23)).trans ((upd_ne (Ne.symm N.d13)).trans k3)
          have p2 : upd (upd H5' a1 (.lst (nm5.map wV ++ [wV (u ++ [b])]))) a2 (.lst (y2 ++ [.non])) p = some (.ins C dx (trF a1 a2 a3)) := (upd_ne (ne_of p1 s1 fun y => nomatch y)).trans p1
          refine iteT ⟨_, rfl, p, C, dx, _, _, rfl, kp, TX.cl, TX.n, tr_names a1 a2 a3, a1, _, rfl, .inl (SqL.of k1), ?_⟩
          rw [List.length_map]
          refine ⟨_, rfl, p, C, dx, _, _, rfl, kp, TX.cl, TX.n, tr_names a1 a2 a3, .inl ⟨rfl, _, SqL.of k1⟩, ?_⟩
          refine ⟨_, rfl, p, C, dx, _, _, rfl, kp, TX.cl, TX.n, tr_names a1 a2 a3, _, rfl, a1, _, _, wV u, rfl, rfl, SqL.of k1, atI_nat (by rw [List.getElem?_map, nu5]; rfl), _, rfl, _, _, rfl, rfl, ?_, a1, _, wV (u ++ [b]), rfl, congrArg (fun z => [z]) ew, k1, ?_, ?_⟩
          · rw [bS_len]
            show u.length + 1 ≤ sizeLine
            exact Nat.le_of_lt (small10 (by omega))
          · rw [List.length_map]
            exact small10 (by omega)
          refine ⟨_, rfl, p, C, dx, _, _, rfl, p1, TX.cl, TX.z, tr_zeros a1 a2 a3, .inl ⟨rfl, _, SqL.of s1⟩, a2, y2, .non, rfl, rfl, s1, small10 (by omega), ?_⟩
          refine ⟨_, rfl, p, C, dx, _, _, rfl, p2, TX.cl, TX.o, tr_ones a1 a2 a3, .inl ⟨rfl, _, SqL.of s2⟩, a3, y3, .non, rfl, rfl, s2, small10 (by omega), ?_⟩
          have tt6 : TT Hs (upd (upd (upd H5' a1 (.lst (nm5.map wV ++ [wV (u ++ [b])]))) a2 (.lst (y2 ++ [.non]))) a3 (.lst (y3 ++ [.non]))) := ((tt5.trans (TT.lst k1)).trans (TT.lst s1)).trans (TT.lst s2)
          clear s1 s2 p1 p2
          generalize upd (upd (upd H5' a1 (.lst (nm5.map wV ++ [wV (u ++ [b])]))) a2 (.lst (y2 ++ [.non]))) a3 (.lst (y3 ++ [.non])) = H6 at R6 tt6 ⊢
          obtain ⟨vs6, kT, pT6⟩ := id R6.hT
          have lv : vs6.length ≤ 9000 := by
            have := wgt_len R5.good
            have e := Paired.length pT6
            have : cc fi mi be i ≤ 4000 := by
              unfold cc
              split <;> omega
            omega
          refine ⟨_, rfl, .inl ⟨rfl, _, SqL.of kT⟩, _, rfl, _, rfl, _, rfl, by show 3 ≤ sizeLine; decide, fun q4 nq4 => ⟨TD, vs6, .ref q4, rfl, rfl, same_new nq4 _ _ kT, small10 (by omega), ?_⟩⟩
          have e7 := same_new (o := .tup [.int ((nm5.length : Nat) : Int), .int ((lo : Nat) : Int), .int ((hh : Nat) : Int)]) nq4
          have kT7 := e7 _ _ kT
          have pT7 : Paired (ItAt (upd H6 q4 (.tup [.int ((nm5.length : Nat) : Int), .int ((lo : Nat) : Int), .int ((hh : Nat) : Int)]))) (vs6 ++ [.ref q4]) (its5 ++ [(nm5.length, lo, hh)]) := paired_snoc ⟨q4, rfl, upd_same⟩ (Paired.mapP pT6 fun _ _ z => z.same e7)
          have R7 := (R6.same e7).todo N pT7 fun t ht => by
            rcases List.mem_append.mp ht with z | z
            · exact R6.good t z
            · rw [List.mem_singleton.mp z]
              exact hH.gd c1
          have tt7 := (tt6.trans (TT.same e7)).trans (TT.lst (ys := vs6 ++ [.ref q4]) kT7)
          have nu7 : (nm5 ++ [u ++ [b]])[nd]? = some u := by
            rw [List.getElem?_append_left nl]
            exact nu5
          have w7 : wgt (its5 ++ [(nm5.length, lo, hh)]) ≤ wgt its0 + cc fi mi be (i + 1) := by
            rw [wgt_snoc, hc]
            show wgt its5 + (2 * (hh - lo) - 3) ≤ _
            omega
          have b7 : (nm5 ++ [u ++ [b]]).length + wgt (its5 ++ [(nm5.length, lo, hh)]) ≤ nm.length + wgt its0 + cc fi mi be (i + 1) := by
            rw [wgt_snoc, hc, List.length_append]
            show nm5.length + 1 + (wgt its5 + (2 * (hh - lo) - 3)) ≤ _
            omega
          refine ⟨_, rfl, rfl, _, rfl, ?_⟩
          cases b
          · rw [show decide (V.str ⟨#[cd false]⟩ = V.str "1") = false from decide_eq_false (fun z => by
              injection z with z
              exact absurd z (by decide +kernel))]
            obtain ⟨y2, f2, l2⟩ := R7.h2
            exact iteF ⟨_, rfl, _, rfl, p, C, dx, _, _, rfl, R7.hp, TX.cl, TX.z, tr_zeros a1 a2 a3, _, rfl, a2, y2, _, nd, rfl, rfl, f2, ixn (by rw [l2]; exact (List.getElem?_eq_some_iff.mp (nu7)).1), _, _, _, _, _, _, rfl, R7.put2 N f2 (by rw [List.length_set, l2]), (nu7), tt7.trans (TT.lst f2), w7, b7⟩
          · rw [show decide (V.str ⟨#[cd true]⟩ = V.str "1") = true from decide_eq_true rfl]
            obtain ⟨y3, f3, l3⟩ := R7.h3
            exact iteT ⟨_, rfl, _, rfl, p, C, dx, _, _, rfl, R7.hp, TX.cl, TX.o, tr_ones a1 a2 a3, _, rfl, a3, y3, _, nd, rfl, rfl, f3, ixn (by rw [l3]; exact (List.getElem?_eq_some_iff.mp (nu7)).1), _, _, _, _, _, _, rfl, R7.put3 N f3 (by rw [List.length_set, l3]), (nu7), tt7.trans (TT.lst f3), w7, b7⟩
        · rw [decide_eq_false (show ¬ (1 : Int) < ((hh : Nat) : Int) - ((lo : Nat) : Int) by omega)]
          refine iteF ?_
          refine ⟨_, rfl, rfl, _, rfl, ?_⟩
          cases b
          · rw [show decide (V.str ⟨#[cd false]⟩ = V.str "1") = false from decide_eq_false (fun z => by
              injection z with z
              exact absurd z (by decide +kernel))]
            obtain ⟨y2, f2, l2⟩ := R5.h2
            exact iteF ⟨_, rfl, _, rfl, p, C, dx, _, _, rfl, R5.hp, TX.cl, TX.z, tr_zeros a1 a2 a3, _, rfl, a2, y2, _, nd, rfl, rfl, f2, ixn (by rw [l2]; exact (List.getElem?_eq_some_iff.mp nu5).1), nm5, its5, _, _, _, _, rfl, R5.put2 N f2 (by rw [List.length_set, l2]), nu5, tt5.trans (TT.lst f2), (by omega), (by omega)⟩
          · rw [show decide (V.str ⟨#[cd true]⟩ = V.str "1") = true from decide_eq_true rfl]
            obtain ⟨y3, f3, l3⟩ := R5.h3
            exact iteT ⟨_, rfl, _, rfl, p, C, dx, _, _, rfl, R5.hp, TX.cl, TX.o, tr_ones a1 a2 a3, _, rfl, a3, y3, _, nd, rfl, rfl, f3, ixn (by rw [l3]; exact (List.getElem?_eq_some_iff.mp nu5).1), nm5, its5, _, _, _, _, rfl, R5.put3 N f3 (by rw [List.length_set, l3]), nu5, tt5.trans (TT.lst f3), (by omega), (by omega)⟩
      · rintro σ H5 ⟨nm5, its5, x9', x10', x11', x12', rfl, R5, nu5, tt5, w5, b5⟩
        have w5 : wgt its5 ≤ wgt its0 + (2 * (be - mi) - 2 + (2 * (mi - fi) - 2)) := w5
        have b5 : nm5.length + wgt its5 ≤ nm.length + wgt its0 + (2 * (be - mi) - 2 + (2 * (mi - fi) - 2)) := b5
        exact ⟨_, by show wgt its5 < wgt its0 + (2 * (be - fi) - 3); omega, nm5, its5, _, _, _, _, _, _, _, _, _, rfl, rfl, R5, by omega⟩
end
end K40
set_option Elab.async false
set_option linter.all false
set_option maxRecDepth 100001
set_option maxHeartbeats 3999999
namespace K40
open PySem L2
theorem bits_more : ∀ (k d n : Nat), n < 2 ^ k → bits (k + d) n = List.replicate d false ++ bits k n
  | 0, 0, n, h => rfl
  | 0, d + 1, n, h => by
    have n0 : n = 0 := by
      rw [Nat.pow_zero] at h
      omega
    subst n0
    have ih := bits_more 0 d 0 h
    rw [Nat.zero_add] at ih ⊢
    rw [show bits (d + 1) 0 = bits d 0 ++ [false] from rfl, ih, show bits 0 0 = [] from rfl, List.append_nil, List.append_nil, List.replicate_succ']
  | k + 1, d, n, h => by
    have h2 : n / 2 < 2 ^ k := by
      rw [Nat.pow_succ] at h
      omega
    rw [show k + 1 + d = (k + d) + 1 by omega, bits, bits_more k d (n / 2) h2, bits, List.append_assoc]
theorem dig1 (n : Nat) (h : n < 2) : (Nat.digitChar n).toNat = cd (decide (n % 2 = 1)) := by
  match n, h with
  | 0, _ => rfl
  | 1, _ => rfl
theorem bin_bits (n : Nat) : ∃ k, 1 ≤ k ∧ (k = 1 ∨ 2 ^ (k - 1) ≤ n) ∧ n < 2 ^ k ∧ (Nat.toDigits 2 n).map Char.toNat = (bits k n).map cd := by
  induction n using Nat.strongRecOn with
  | _ n ih =>
    by_cases h : n < 2
    · refine ⟨1, Nat.le_refl _, .inl rfl, h, ?_⟩
      rw [Nat.toDigits_of_lt_base h, List.map_singleton, dig1 n h]
      rfl
    · obtain ⟨k, k1, k2, k3, e⟩ := ih (n / 2) (by omega)
      refine ⟨k + 1, by omega, .inr ?_, by rw [Nat.pow_succ]; omega, ?_⟩
      · rw [Nat.add_sub_cancel]
        rcases k2 with rfl | k2
        · omega
        · have : 2 ^ k = 2 ^ (k - 1) * 2 := by
            rw [← Nat.pow_succ]
            congr 1
            omega
          omega
      · rw [Nat.toDigits_of_base_le (by decide) (by omega), List.map_append, e, bits, List.map_append, List.map_singleton, List.map_singleton, dig1 (n % 2) (by omega), Nat.mod_mod]
theorem zfill_bits {l n : Nat} (l1 : 1 ≤ l) (h : n < 2 ^ l) : Txt.zfill (binT n) (l : Int) = bS (bits l n) := by
  obtain ⟨k, k1, k2, k3, e⟩ := bin_bits n
  have kl : k ≤ l := by
    rcases k2 with rfl | k2
    · exact l1
    · have : 2 ^ (k - 1) < 2 ^ l := Nat.lt_of_le_of_lt k2 h
      have := (Nat.pow_lt_pow_iff_right (by decide)).mp this
      omega
  have eb : binT n = bS (bits k n) := by
    unfold binT
    rw [e]
    rfl
  rw [eb]
  have ln : (bS (bits k n)).length = k := by rw [bS_len, bits_len]
  unfold Txt.zfill
  rw [ln]
  by_cases c : ((l : Nat) : Int) ≤ ((k : Nat) : Int)
  · rw [if_pos c]
    rw [show l = k by omega]
  · rw [if_neg c]
    obtain ⟨d, rfl⟩ := Nat.exists_eq_add_of_le kl
    rw [bits_more k d n k3, Int.toNat_natCast, Nat.add_sub_cancel_left]
    have lb := bits_len k n
    generalize bits k n = w at lb ⊢
    have fin : Builtin.Str.padded (bS w) d 0 48 = bS (List.replicate d false ++ w) := by
      unfold Builtin.Str.padded bS S
      rw [List.map_append, List.map_replicate]
      simp
      exact .inr rfl
    match w, lb with
    | [], lb => rw [← lb] at k1; exact absurd k1 (by decide)
    | b :: r, _ =>
      unfold zfilled
      have e0 : (bS (b :: r)).cps[0]? = some (cd b) := by
        unfold bS S
        simp
      rw [e0]
      cases b
      · exact fin
      · exact fin
end K40
set_option Elab.async false
set_option linter.all false
set_option maxRecDepth 100001
set_option maxHeartbeats 3999999
namespace K40
open PySem L2
abbrev sCan : Stmt := topS 30
/-- the length of the word at a sign -/
abbrev lAt (ls : List Nat) (o : Nat) : Nat := ls.getD o 0
def lexL (ls : List Nat) (a b : Nat) : Prop := lAt ls a < lAt ls b ∨ (lAt ls a = lAt ls b ∧ a < b)
/-- the signs by length, then by number -/
structure IsOrd (ls os : List Nat) : Prop where
  perm : os.Perm (List.range ls.length)
  lex : os.Pairwise (lexL ls)
theorem IsOrd.uniq {ls a b : List Nat} (h1 : IsOrd ls a) (h2 : IsOrd ls b) : a = b := by
  refine List.Perm.eq_of_pairwise (le := lexL ls) (fun x y _ _ h h' => ?_) h1.lex h2.lex (h1.perm.trans h2.perm.symm)
  unfold lexL at h h'
  omega
theorem IsOrd.asc {ls os : List Nat} (h : IsOrd ls os) : (os.map (lAt ls)).Pairwise (· ≤ ·) := by
  rw [List.pairwise_map]
  refine List.Pairwise.imp (fun {a b} h => ?_) h.lex
  unfold lexL at h
  omega
theorem IsOrd.len {ls os : List Nat} (h : IsOrd ls os) : os.length = ls.length := by
  rw [h.perm.length_eq, List.length_range]
theorem IsOrd.nodup {ls os : List Nat} (h : IsOrd ls os) : os.Nodup := h.perm.nodup_iff.mpr List.nodup_range
theorem IsOrd.lt {ls os : List Nat} (h : IsOrd ls os) : ∀ o ∈ os, o < ls.length := fun o ho => List.mem_range.mp (h.perm.subset ho)
theorem IsOrd.permL {ls os : List Nat} (h : IsOrd ls os) : (os.map (lAt ls)).Perm ls := by
  have p := h.perm.map (lAt ls)
  have e : (List.range ls.length).map (lAt ls) = ls := by
    refine List.ext_getElem (by rw [List.length_map, List.length_range]) fun i h1 h2 => ?_
    rw [List.getElem_map, List.getElem_range]
    show ls.getD i 0 = _
    rw [List.getD_eq_getElem?_getD, List.getElem?_eq_getElem h2]
    rfl
  rw [e] at p
  exact p
theorem ord_of {ls : List Nat} {ys : List V} (sr : SrtO.Srtd (SrtL.ltG SrtL.ordInt fun v => ((lAt ls (nO v) : Nat) : Int)) ys) (st : SrtO.Stb (SrtL.ltG SrtL.ordInt fun v => ((lAt ls (nO v) : Nat) : Int)) ys (rgV 0 ((ls.length : Nat) : Int))) :
    ∃ os : List Nat, ys = os.map (fun n : Nat => V.int (n : Nat)) ∧ IsOrd ls os := by
  have er : rgV 0 ((ls.length : Nat) : Int) = (List.range ls.length).map fun n : Nat => V.int (n : Nat) := by
    unfold rgV
    rw [show (((ls.length : Nat) : Int) - 0).toNat = ls.length by omega]
    refine List.map_congr_left fun i _ => ?_
    show V.int (0 + (i : Nat)) = V.int (i : Nat)
    rw [show (0 : Int) + (i : Nat) = (i : Nat) by omega]
  rw [er] at st
  have e1 : ys = (ys.map nO).map fun n : Nat => V.int (n : Nat) := by
    rw [List.map_map]
    conv => lhs; rw [← List.map_id ys]
    refine List.map_congr_left fun v hv => ?_
    obtain ⟨i, _, rfl⟩ := List.mem_map.mp (st.perm.subset hv)
    rfl
  generalize ys.map nO = os at e1
  subst e1
  have nn : ∀ l : List Nat, (l.map fun n : Nat => V.int (n : Nat)).map nO = l := fun l => by
    rw [List.map_map]
    conv => rhs; rw [← List.map_id l]
    exact List.map_congr_left fun i _ => rfl
  refine ⟨os, rfl, ?_, ?_⟩
  · have := st.perm.map nO
    rw [nn, nn] at this
    exact this
  · rw [List.pairwise_iff_forall_sublist]
    intro a b hab
    have sr2 : os.Pairwise fun a b => lAt ls a ≤ lAt ls b := by
      have := List.pairwise_map.mp sr
      refine List.Pairwise.imp (fun {a b} h => ?_) this
      have h := of_decide_eq_false h
      have h : ¬ ((lAt ls b : Nat) : Int) < ((lAt ls a : Nat) : Int) := h
      omega
    have le := List.pairwise_iff_forall_sublist.mp sr2 hab
    by_cases e : lAt ls a = lAt ls b
    · refine .inr ⟨e, ?_⟩
      have c := congrArg (List.map nO) (st.cls (V.int ((a : Nat) : Int)))
      rw [List.filter_map, List.filter_map, nn, nn] at c
      have s2 := hab.filter ((SrtO.eqv (SrtL.ltG SrtL.ordInt fun v => ((lAt ls (nO v) : Nat) : Int)) (V.int ((a : Nat) : Int))) ∘ fun n : Nat => V.int (n : Nat))
      rw [c] at s2
      have fa : ∀ x, lAt ls a = lAt ls x → ((SrtO.eqv (SrtL.ltG SrtL.ordInt fun v => ((lAt ls (nO v) : Nat) : Int)) (V.int ((a : Nat) : Int))) ∘ fun n : Nat => V.int (n : Nat)) x = true := fun x hx => by
        refine SrtO.eqv_iff.mpr ⟨decide_eq_false ?_, decide_eq_false ?_⟩
        · show ¬ ((lAt ls a : Nat) : Int) < ((lAt ls x : Nat) : Int)
          omega
        · show ¬ ((lAt ls x : Nat) : Int) < ((lAt ls a : Nat) : Int)
          omega
      rw [List.filter_cons_of_pos (fa a rfl), List.filter_cons_of_pos (fa b e)] at s2
      have s3 := s2.trans List.filter_sublist
      exact List.pairwise_iff_forall_sublist.mp List.pairwise_lt_range s3
    · exact .inl (by omega)
/-- the canonical words, by sign -/
def CanoOf (ls os : List Nat) (ws : List W) : Prop := ws.length = ls.length ∧ ∀ (i o : Nat), os[i]? = some o → ws[o]? = (canoW 0 0 (os.map (lAt ls)))[i]?
theorem CanoOf.uniq {ls os : List Nat} {a b : List W} (O : IsOrd ls os) (h1 : CanoOf ls os a) (h2 : CanoOf ls os b) : a = b := by
  refine List.ext_getElem? fun o => ?_
  by_cases ho : o < ls.length
  · obtain ⟨i, hi, e⟩ := List.getElem_of_mem (O.perm.symm.subset (List.mem_range.mpr ho))
    have e2 : os[i]? = some o := by rw [List.getElem?_eq_getElem hi, e]
    rw [h1.2 i o e2, h2.2 i o e2]
  · rw [List.getElem?_eq_none (by rw [h1.1]; omega), List.getElem?_eq_none (by rw [h2.1]; omega)]
theorem LT.ix {K : PySem.W.Frag} {H : Hp} {p : Addr} {xs : List V} {i : Int} {v : V} {Q : VK} (h : LT H p xs) (e : atI xs i = some v) (q : Q v H) : rIx K (.ref p) (.int i) H Q :=
  h.elim (fun z => .inl ⟨p, xs, i, v, rfl, rfl, SqL.of z, e, q⟩) fun z => .inr (.inl ⟨p, xs, i, v, rfl, rfl, SqT.of z, e, q⟩)
theorem LT.ext {H H' : Hp} {p : Addr} {xs : List V} (h : LT H p xs) (e : LamX.ExtN H H') : LT H' p xs := h.imp (fun z => e _ _ z fun _ y => nomatch y) fun z => e _ _ z fun _ y => nomatch y
theorem LT.ne {H : Hp} {p D : Addr} {xs : List V} (h : LT H p xs) (n : H D = none) : p ≠ D := h.elim (fun z => ne_of_none z n) fun z => ne_of_none z n
theorem LT.upd {H : Hp} {p D : Addr} {xs : List V} {o : HO} (h : LT H p xs) (n : p ≠ D) : LT (L2.upd H D o) p xs := h.imp (fun z => (upd_ne n).trans z) fun z => (upd_ne n).trans z
theorem ix_seqK {X : Cx} (K : PySem.W.Frag) (hK : X.K = K) : IxR X (rIx K) := by
  subst hK
  exact ix_seq
def spCa (Tb : List (Addr × Str)) : Sp := fun vs H Q _ => ∃ (lp : Addr) (ls : List Nat) (L : Nat), vs = [.ref lp] ∧ LT H lp (ls.map fun n : Nat => V.int (n : Nat)) ∧ ls.length ≤ 2000 ∧ (∀ l ∈ ls, 1 ≤ l ∧ l ≤ L) ∧ L ≤ 60 ∧ kl L ls ≤ 2 ^ L ∧ LamX.Tabs Tb H ∧
  ∀ os ws D H', IsOrd ls os → CanoOf ls os ws → LamX.ExtN H H' → LamX.Tabs Tb H' → Fr0 H D → H' D = some (.lst (ws.map wV)) → Q (.ref D) H'
theorem updS {H : Hp} {a : Addr} {o : HO} (h : H a = some o) : upd H a o = H := by
  funext b
  by_cases e : b = a
  · subst e
    rw [upd_same, h]
  · exact upd_ne e
theorem updU {H : Hp} {a : Addr} {o o' : HO} : upd (upd H a o) a o' = upd H a o' := by
  funext b
  by_cases e : b = a
  · subst e
    rw [upd_same, upd_same]
  · rw [upd_ne e, upd_ne e, upd_ne e]
theorem padOk : ∀ n : Nat, n < 61 → PadOk (n : Int) = true := by decide +kernel
theorem bin_len {n l : Nat} (l1 : 1 ≤ l) (h : n < 2 ^ l) : (binT n).length ≤ l := by
  show (List.toArray _).size ≤ l
  rw [List.size_toArray, List.length_map]
  exact (Nat.length_toDigits_le_iff (by decide) (by omega)).mpr h
abbrev NCa : List Str := ["lengths", "words", "number", "size", "sign", "place"]
theorem scCa : FnScope NCa ["lengths"] (defScope sCan) := ⟨rfl, rfl, rfl, by decide +kernel, rfl, by decide +kernel, by decide +kernel⟩
section
variable {P : Program} {w : World} {K : PySem.W.Frag} {mg : Str → Option Value} {base : Heap}
theorem ok_can {f c T : Addr} {fd : FuncData} {Tb : List (Addr × Str)} (F : FunL K base mg "canonical_words" "canonical_words" sCan f c T fd) (B : Bi mg) (Z : Bs mg)
    (hmT : (T, (("canonical_words.<locals>.<lambda>" : String) : Str)) ∈ Tb) (hu : ∀ p ∈ Tb, p.1 = T → p.2 = (("canonical_words.<locals>.<lambda>" : String) : Str)) : FnOk P w K mg base CX0 6 f fd ["lengths"] (spCa Tb) := by
  refine F.okX scCa (fun vs H Q E h => ?_) (fun A outer s H vs Q E hr h => ?_)
  · obtain ⟨lp, ls, L, rfl, _⟩ := h
    rfl
  · obtain ⟨lp, ls, L, rfl, hl, l2, lb, L6, ek, tabs, q⟩ := h
    refine ⟨_, pss_cons (ps_set (i := 1) scCa.nd rfl (Or.inl rfl) (pe_op op_rep (pe_lst (pa_cons pe_str pa_nil)) (pe_len B.len (pa_cons (pv 0) pa_nil))))
      (pss_cons (ps_asg (pe_tup (pa_cons (pe_un un_neg pe_int) (pa_cons pe_int pa_nil))) (pg_tup rfl (pgs_cons (pg_name (i := 2) scCa.nd rfl (.inl rfl)) (pgs_cons (pg_name (i := 3) scCa.nd rfl (.inl rfl)) pgs_nil))))
      (pss_cons (ps_for PassesOwn.never rfl (pi_sqA (by exact SrtL.pe_sortLam (k := 1) (i := 5) SrtL.ordInt rfl Z.sorted (pe_listRg rfl rfl B.list (prg_1 rfl B.range (pe_len B.len (pa_cons (pv 0) pa_nil)))) F.tab hmT hu (hr.mono (by decide)) (LamX.lamP_by (sc := defScope sCan) (by decide +kernel)) scCa.nd rfl (fun s H f c' hr' => pe_ix (ix_seqK K rfl) (pv 0) (pv 5) (fun _ _ => rfl)))) (pg_name (i := 4) scCa.nd rfl (.inl rfl))
        (pss_cons (ps_set (i := 2) scCa.nd rfl (Or.inl rfl) (pe_op op_shl (pe_op op_add (pv 2) pe_int) (pe_op op_sub (pe_ix ix_seq (pv 0) (pv 4) (fun _ _ => rfl)) (pv 3))))
        (pss_cons (ps_set (i := 3) scCa.nd rfl (Or.inl rfl) (pe_ix ix_seq (pv 0) (pv 4) (fun _ _ => rfl)))
        (pss_one (ps_asg (pe_bm PySem.F.plainAttrs_str PySem.F.slot_str_zfill PySem.F.type_str_zfill mt_zfill (pe_bin (pv 2)) (pa_cons (pv 3) pa_nil)) (pg_sub (pv 1) (pv 4) set_list))))))
      (pss_one (ps_ret (pv 1))))), ?_⟩
    have lN : (ls.map fun n : Nat => V.int (n : Nat)).length = ls.length := List.length_map _
    have fl : ∀ (k : Nat) (x : V), (List.replicate k [x]).flatten = List.replicate k x := fun k x => by simp
    refine ⟨by show 1 ≤ sizeLine; decide, fun a1 n1 => ⟨_, rfl, lp, _, rfl, (hl.same (same_new n1)).sq, a1, _, _, rfl, rfl, upd_same, ?_, ?_, ?_, fun D nD => ?_⟩⟩
    · omega
    · rw [lN]
      omega
    · rw [lN]
      show 1 * (((ls.length : Nat) : Int)).toNat ≤ sizeLine
      rw [Nat.one_mul, Int.toNat_natCast]
      exact Nat.le_of_lt (small10 (by omega))
    rw [fl, lN, Int.toNat_natCast]
    have e1 := same_new (o := .lst [.str ""]) n1
    have e2 := same_new (o := .lst (List.replicate ls.length (.str ""))) nD
    have hD : upd (upd H a1 (.lst [.str ""])) D (.lst (List.replicate ls.length (.str ""))) D = some (.lst (List.replicate ls.length (.str ""))) := upd_same
    have mD : H D = none := by
      cases z : H D with
      | none => rfl
      | some o =>
        rw [e1 D o z] at nD
        exact absurd nD (fun y => nomatch y)
    have e12 := e1.trans e2
    generalize upd (upd H a1 (.lst [.str ""])) D (.lst (List.replicate ls.length (.str ""))) = H2 at hD e12 ⊢
    refine ⟨_, rfl, by show 2 ≤ sizeLine; decide, fun tp ntp => ⟨tp, _, rfl, SqT.of upd_same, rfl, _, _, rfl, _, _, rfl, rfl, ?_⟩⟩
    have e3 := same_new (o := .tup [.int (-1), .int 0]) ntp
    have hD3 := e3 _ _ hD
    have e13 := e12.trans e3
    generalize upd H2 tp (.tup [.int (-1), .int 0]) = H3 at hD3 e13 ⊢
    have hl3 := hl.same e13
    have tab3 := tabs.ext e13
    clear e1 e2 e12 e3 hD ntp nD n1
    refine ⟨_, rfl, lp, _, rfl, hl3.sq, _, rfl, ?_, fun a4 n4 => ?_⟩
    · rw [lN]
      exact RgOk.of_le (by omega) (by omega) (by omega) (by omega)
    rw [lN]
    have e4 := same_new (o := .lst (rgV 0 ((ls.length : Nat) : Int))) n4
    have g4 : upd H3 a4 (.lst (rgV 0 ((ls.length : Nat) : Int))) a4 = some (.lst (rgV 0 ((ls.length : Nat) : Int))) := upd_same
    refine ⟨a4, _, fun v => ((lAt ls (nO v) : Nat) : Int), rfl, SqL.of g4, tab3.ext e4, fun H5 en5 tab5 => ⟨SqL.of (en5 _ _ g4 fun _ z => nomatch z), fun v hv => ?_, fun ys OR srt stb nOR => ?_⟩⟩
    · obtain ⟨i, hi, rfl⟩ := List.mem_map.mp hv
      have hi := List.mem_range.mp hi
      have hi : i < ls.length := by omega
      have i0 : (0 : Int) + ((i : Nat) : Int) = (i : Nat) := by omega
      rw [i0]
      refine ⟨_, rfl, _, rfl, ((hl3.same e4).ext en5).ix (v := .int ((ls[i] : Nat) : Int)) (atI_nat (by rw [List.getElem?_map, List.getElem?_eq_getElem hi]; rfl)) ⟨?_, rfl⟩⟩
      show _ = V.int ((ls.getD ((i : Nat) : Int).toNat 0 : Nat) : Int)
      rw [Int.toNat_natCast, List.getD_eq_getElem?_getD, List.getElem?_eq_getElem hi]
      rfl
    obtain ⟨os, rfl, O⟩ := ord_of srt stb
    have e6 := same_new (o := .lst (os.map fun n : Nat => V.int (n : Nat))) nOR
    have gOR : upd H5 OR (.lst (os.map fun n : Nat => V.int (n : Nat))) OR = some (.lst (os.map fun n : Nat => V.int (n : Nat))) := upd_same
    have hl6 := ((hl3.same e4).ext en5).same e6
    have hD6 := e6 _ _ (en5 _ _ (e4 _ _ hD3) fun _ z => nomatch z)
    have x6 : LamX.ExtN H (upd H5 OR (.lst (os.map fun n : Nat => V.int (n : Nat)))) := fun b o z m => e6 _ _ (en5 _ _ (e4 _ _ (e13 _ _ z)) m)
    have tab6 := tab5.ext e6
    have dO : D ≠ OR := ne_of_none (en5 _ _ (e4 _ _ hD3) fun _ z => nomatch z) nOR
    clear e4 e6 g4 n4 nOR srt stb en5 tab5 hl3 hD3 e13 tab3
    generalize upd H5 OR (.lst (os.map fun n : Nat => V.int (n : Nat))) = H6 at gOR hl6 hD6 x6 tab6 ⊢
    have lD : lp ≠ D := hl.ne mD
    have R0 : Room_ L 0 0 (os.map (lAt ls)) := by
      refine room_start O.asc (fun l h => (lb l (O.permL.subset h)).2) ?_
      unfold kl at ek ⊢
      rw [(O.permL.map _).sum_nat]
      exact ek
    refine ⟨OR, os.map fun n : Nat => V.int (n : Nat), rfl, .inl (SqL.of gOR), fun J GG wk hG => for_it wk (fun j σ H' => ∃ (ws : List W) (nx sz : Nat) (x4 : Option V), σ = [some (.ref lp), some (.ref D), some (.int (((nx : Nat) : Int) - 1)), some (.int ((sz : Nat) : Int)), x4, none] ∧ H' = upd H6 D (.lst (ws.map wV)) ∧ ws.length = ls.length ∧
        Room_ L nx sz ((os.map (lAt ls)).drop j) ∧ (canoW 0 0 (os.map (lAt ls))).drop j = canoW nx sz ((os.map (lAt ls)).drop j) ∧ ∀ (i o : Nat), i < j → os[i]? = some o → ws[o]? = (canoW 0 0 (os.map (lAt ls)))[i]?)
      ⟨List.replicate ls.length [], 0, 0, _, rfl, ?_, List.length_replicate, R0, rfl, fun i o h => absurd h (Nat.not_lt_zero _)⟩ (fun j σ H' _ ⟨_, _, _, _, _, e, _⟩ => hG H' fun o z => by rw [e, upd_ne (Ne.symm dO)]; exact z) ?_ ?_⟩
    · rw [List.map_replicate]
      exact (updS hD6).symm
    · rintro j x σ G G' hj ⟨ws, nx, sz, x4, rfl, rfl, lws, R, ec, hd⟩ ⟨rfl, hx⟩
      rw [List.length_map] at hj
      rw [List.getElem?_map, List.getElem?_eq_getElem hj] at hx
      cases hx
      have ol := O.lt os[j] (List.getElem_mem hj)
      have ho := List.getElem?_eq_getElem hj
      generalize os[j] = o at ol ho ⊢
      have lj : j < (os.map (lAt ls)).length := by rw [List.length_map]; exact hj
      have dj : (os.map (lAt ls)).drop j = lAt ls o :: (os.map (lAt ls)).drop (j + 1) := by
        rw [List.drop_eq_getElem_cons lj, List.getElem_map]
        rw [List.getElem?_eq_getElem hj] at ho
        rw [Option.some.inj ho]
      rw [dj] at R ec
      have eg : ls[o]? = some (lAt ls o) := by
        show _ = some (ls.getD o 0)
        rw [List.getD_eq_getElem?_getD, List.getElem?_eq_getElem ol]
        rfl
      have l1 := (lb (lAt ls o) (List.mem_of_getElem? eg)).1
      have lL := (lb (lAt ls o) (List.mem_of_getElem? eg)).2
      have R2 := R.next
      have sl := R.lo (lAt ls o) List.mem_cons_self
      obtain ⟨l', n', en, m', lt', _⟩ := canoW_mem R _ (by rw [canoW]; exact List.mem_cons_self)
      have nlt : nx * 2 ^ (lAt ls o - sz) < 2 ^ lAt ls o := by
        have f := R2.fit
        have p : 0 < 2 ^ (L - lAt ls o) := Nat.two_pow_pos _
        have : (nx * 2 ^ (lAt ls o - sz) + 1) * 2 ^ (L - lAt ls o) ≤ 2 ^ lAt ls o * 2 ^ (L - lAt ls o) := by
          rw [← Nat.pow_add, show lAt ls o + (L - lAt ls o) = L by omega]
          omega
        have := Nat.le_of_mul_le_mul_right this p
        omega
      clear en m' lt'
      have eC : (canoW 0 0 (os.map (lAt ls)))[j]? = some (bits (lAt ls o) (nx * 2 ^ (lAt ls o - sz))) := by
        have := congrArg (fun l => l[0]?) ec
        rw [canoW] at this
        rw [List.getElem?_drop] at this
        exact this
      have eD : (canoW 0 0 (os.map (lAt ls))).drop (j + 1) = canoW (nx * 2 ^ (lAt ls o - sz) + 1) (lAt ls o) ((os.map (lAt ls)).drop (j + 1)) := by
        have := congrArg List.tail ec
        rw [canoW] at this
        rw [List.tail_drop] at this
        exact this
      have hlG : LT (upd H6 D (.lst (ws.map wV))) lp (ls.map fun n : Nat => V.int (n : Nat)) := hl6.upd lD
      have nx2 : nx < 2 ^ 64 := by
        have : nx ≤ nx * 2 ^ (lAt ls o - sz) := Nat.le_mul_of_pos_right _ (Nat.two_pow_pos _)
        have : 2 ^ lAt ls o ≤ 2 ^ 64 := Nat.pow_le_pow_right (by decide) (by omega)
        omega
      refine ⟨_, rfl, _, _, rfl, rfl, ?_⟩
      refine ⟨_, rfl, _, rfl, hlG.ix (v := .int ((lAt ls o : Nat) : Int)) (atI_nat (by rw [List.getElem?_map, eg]; rfl)) ⟨_, rfl, _, _, rfl, rfl, _, _, rfl, rfl, ⟨by omega, by omega, by omega⟩, ?_⟩⟩
      have ev : (((nx : Nat) : Int) - 1 + 1) * 2 ^ (((lAt ls o : Nat) : Int) - ((sz : Nat) : Int)).toNat = ((nx * 2 ^ (lAt ls o - sz) : Nat) : Int) := by
        rw [show (((lAt ls o : Nat) : Int) - ((sz : Nat) : Int)).toNat = lAt ls o - sz by omega, show ((nx : Nat) : Int) - 1 + 1 = (nx : Nat) by omega, Int.natCast_mul, Int.natCast_pow]
        rfl
      show gName 2 (V.int ((((nx : Nat) : Int) - 1 + 1) * 2 ^ (((lAt ls o : Nat) : Int) - ((sz : Nat) : Int)).toNat)) _ _ _
      rw [ev]
      generalize nx * 2 ^ (lAt ls o - sz) = y at R2 nlt eC eD ⊢
      refine ⟨_, rfl, _, rfl, hlG.ix (v := .int ((lAt ls o : Nat) : Int)) (atI_nat (by rw [List.getElem?_map, eg]; rfl)) ?_⟩
      refine ⟨_, rfl, y, rfl, Nat.le_trans (bin_len l1 nlt) (Nat.le_of_lt (small10 (by omega))), rfl, _, rfl, binT y, _, rfl, rfl, ?_, ?_⟩
      · exact padOk _ (by omega)
      rw [zfill_bits l1 nlt]
      refine ⟨_, rfl, _, rfl, D, _, _, o, rfl, rfl, upd_same, ixn (by rw [List.length_map, lws]; exact ol), ?_⟩
      refine ⟨ws.set o (bits (lAt ls o) y), y + 1, lAt ls o, some (.int ((o : Nat) : Int)), ?_, ?_, by rw [List.length_set, lws], R2, eD, fun i o' hi ho' => ?_⟩
      · show [some (V.ref lp), some (V.ref D), some (V.int ((y : Nat) : Int)), some (V.int ((lAt ls o : Nat) : Int)), some (V.int ((o : Nat) : Int)), none] = _
        rw [show (((y + 1 : Nat) : Int) - 1) = (y : Nat) by omega]
      · rw [updU, List.map_set]
        rfl
      · by_cases e : i = j
        · subst e
          rw [ho] at ho'
          cases ho'
          rw [List.getElem?_set_self (by rw [lws]; exact ol), eC]
        · have no : o ≠ o' := fun eo => e (by
            subst eo
            have h1 := List.getElem?_eq_some_iff.mp ho
            have h2 := List.getElem?_eq_some_iff.mp ho'
            exact ((List.getElem_inj O.nodup).mp (h2.2.trans h1.2.symm)))
          rw [List.getElem?_set_ne no]
          exact hd i o' (by omega) ho'
    · rintro σ G ⟨ws, nx, sz, x4, rfl, rfl, lws, R, ec, hd⟩
      rw [List.length_map] at hd
      refine ⟨_, rfl, q os ws D _ O ⟨lws, fun i o h => hd i o (List.getElem?_eq_some_iff.mp h).1 h⟩ (fun b o z m => (upd_ne fun e => by rw [e, mD] at z; cases z).trans (x6 b o z m)) (tabs_put tab6 hD6) (fr_none mD) upd_same⟩
end
end K40
set_option Elab.async false
set_option linter.all false
set_option maxRecDepth 100001
set_option maxHeartbeats 3999999
namespace K40
open PySem L2
abbrev sCoI : Stmt := inClass (topS 27) 0
structure Cm (mg : Str → Option Value) : Prop where
  signs : ∃ u, mg "MOST_SIGNS" = some u ∧ RelV (.int 2000) u
  length : ∃ u, mg "MOST_LENGTH" = some u ∧ RelV (.int 1999) u
  max : mg "max" = none
structure TxC (K : PySem.W.Frag) (C : Addr) : Prop where
  cl : Cls K C
  g : NoAttr K C "longest"
  l : NoAttr K C "lengths"
  w : NoAttr K C "words"
  s : NoAttr K C "size"
  t : NoAttr K C "tree"
structure ErC (K : PySem.W.Frag) (CT CL : Addr) : Prop where
  t1 : PySem.W.findIn K (.ref CT) "what" = some none
  t2 : PySem.W.findIn K (.ref CT) "many" = some none
  t3 : PySem.W.findIn K (.ref CT) "most" = some none
  l1 : PySem.W.findIn K (.ref CL) "index" = some none
def coF (L n : Nat) (lt wt tr : Addr) : List (Str × V) := putF "tree" (.ref tr) (putF "size" (.int (n : Nat)) (putF "words" (.ref wt) (putF "lengths" (.ref lt) (putF "longest" (.int (L : Nat)) []))))
/-- behind a raise within the making of what is at p -/
structure RsB (p : Addr) (H H' : Hp) (d : Addr) (fs : List (Str × V)) : Prop where
  new : H d = none
  same : ButI p H H'
  at_ : H' d = some (.xd fs)
def spCoI (C CT CL CN CB CE : Addr) (Tb : List (Addr × Str)) : Sp := fun vs H Q E => ∃ (p dx lp : Addr) (wv : V) (ts : List V), vs = [.ref p, .ref lp, wv] ∧ H p = some (.ins C dx []) ∧ LT H lp ts ∧ (∀ v ∈ ts, Kn H v) ∧ LamX.Tabs Tb H ∧ ts.length ≤ 5000 ∧
  ((¬ (2 ≤ ts.length ∧ ts.length ≤ 2000) ∧ ∀ d H', Rsd H H' d [("most", .int 2000), ("many", .int (ts.length : Nat)), ("what", .str "signs")] → E (.ref CT) (some d) H') ∨
   (2 ≤ ts.length ∧ ts.length ≤ 2000 ∧ ∃ i v, ts[i]? = some v ∧ btw v 1 1999 = false ∧ (∀ j u, j < i → ts[j]? = some u → btw u 1 1999 = true) ∧ ∀ d H', Rsd H H' d [("index", .int (i : Nat))] → E (.ref CL) (some d) H') ∨
   (2 ≤ ts.length ∧ ts.length ≤ 2000 ∧ ∃ (ls : List Nat) (L : Nat), ts = (ls.map fun n : Nat => V.int (n : Nat)) ∧ (∀ l ∈ ls, 1 ≤ l ∧ l ≤ L) ∧ L ∈ ls ∧ L ≤ 60 ∧
     ((kl L ls ≠ 2 ^ L ∧ ∀ H', ButI p H H' → E (.ref CN) none H') ∨
      (kl L ls = 2 ^ L ∧ wv = .non ∧ ∀ os ws H' lt wt tr, IsOrd ls os → CanoOf ls os ws → ButT p H H' → LamX.Tabs Tb H' → H' p = some (.ins C dx (coF L ls.length lt wt tr)) → H' lt = some (.tup ts) → H' wt = some (.tup (ws.map wV)) → Q .non H') ∨
      (kl L ls = 2 ^ L ∧ H lp = some (.lst ts) ∧ ∃ (s : Addr) (us : List V), wv = .ref s ∧ LT H s us ∧ us.length = ls.length ∧ us.length ≤ 60 ∧ (∀ v ∈ us, Kn H v ∧ ∀ x, v = .str x → x.length ≤ 10000) ∧
        ((∃ i v, us[i]? = some v ∧ okB (ls.getD i 0) v = false ∧ (∀ j u, j < i → us[j]? = some u → okB (ls.getD j 0) u = true) ∧ ∀ d H', RsB p H H' d [("index", .int (i : Nat))] → E (.ref CB) (some d) H') ∨
         (∃ ws : List W, us = ws.map wV ∧ ws.map List.length = ls ∧
           ((H s = some (.lst us) ∧ ∃ i j a b, i < j ∧ ws[i]? = some a ∧ ws[j]? = some b ∧ bg a b ∧ (∀ i' j' x y, i' < j' → (i' < i ∨ (i' = i ∧ j' < j)) → ws[i']? = some x → ws[j']? = some y → ¬ bg x y) ∧ ∀ d H', RsB p H H' d [("other", .int (j : Nat)), ("index", .int (i : Nat))] → E (.ref CE) (some d) H') ∨
            (PF ws ∧ ∀ H' lt wt tr, ButT p H H' → LamX.Tabs Tb H' → H' p = some (.ins C dx (coF L ls.length lt wt tr)) → H' lt = some (.tup ts) → H' wt = some (.tup (ws.map wV)) → Q .non H'))))))))
theorem sum_cast : ∀ l : List Nat, (l.map fun n : Nat => (n : Int)).sum = ((l.sum : Nat) : Int)
  | [] => rfl
  | x :: r => by
    rw [List.map_cons, List.sum_cons, List.sum_cons, sum_cast r, Int.natCast_add]
theorem lAt_range (ls : List Nat) : (List.range ls.length).map (lAt ls) = ls := by
  refine List.ext_getElem (by rw [List.length_map, List.length_range]) fun i h1 h2 => ?_
  rw [List.getElem_map, List.getElem_range]
  show ls.getD i 0 = _
  rw [List.getD_eq_getElem?_getD, List.getElem?_eq_getElem h2]
  rfl
theorem kl_range (L : Nat) (ls : List Nat) : ((List.range ls.length).map fun i => ((2 ^ (L - lAt ls i) : Nat) : Int)).sum = ((kl L ls : Nat) : Int) := by
  have e : kl L ls = ((List.range ls.length).map fun i => 2 ^ (L - lAt ls i)).sum := by
    conv => lhs; rw [← lAt_range ls]
    unfold kl
    rw [List.map_map]
    rfl
  rw [e, ← sum_cast, List.map_map]
  rfl
theorem Same.none' {H H1 : Hp} {d : Addr} (e : Same H H1) (n : H1 d = none) : H d = none := by
  cases z : H d with
  | none => rfl
  | some o =>
    rw [e _ _ z] at n
    cases n
theorem Rsd.back {H H1 H' : Hp} {d : Addr} {fs : List (Str × V)} (r : Rsd H1 H' d fs) (e : Same H H1) : Rsd H H' d fs := ⟨Same.none' e r.new, e.trans r.same, r.at_⟩
theorem CanoOf.good {ls os : List Nat} {ws : List W} {L : Nat} (O : IsOrd ls os) (c : CanoOf ls os ws) (lb : ∀ l ∈ ls, l ≤ L) (ek : kl L ls = 2 ^ L) : PF ws ∧ (∀ w ∈ ws, w.length ≤ L) ∧ kr L ws = 2 ^ L := by
  have hc : os.map (fun o => ws.getD o []) = canoW 0 0 (os.map (lAt ls)) := by
    have len : (canoW 0 0 (os.map (lAt ls))).length = os.length := by
      have := congrArg List.length (canoW_lens 0 0 (os.map (lAt ls)))
      rw [List.length_map, List.length_map] at this
      exact this
    refine List.ext_getElem (by rw [List.length_map, len]) fun i h1 h2 => ?_
    rw [List.length_map] at h1
    have := c.2 i os[i] (List.getElem?_eq_getElem h1)
    rw [List.getElem_map, List.getD_eq_getElem?_getD, this, List.getElem?_eq_getElem h2]
    rfl
  have pw : (os.map fun o => ws.getD o []).Perm ws := by
    have p := O.perm.map fun o => ws.getD o []
    have e : (List.range ls.length).map (fun o => ws.getD o []) = ws := by
      refine List.ext_getElem (by rw [List.length_map, List.length_range, c.1]) fun i h1 h2 => ?_
      rw [List.getElem_map, List.getElem_range, List.getD_eq_getElem?_getD, List.getElem?_eq_getElem h2]
      rfl
    rw [e] at p
    exact p
  rw [hc] at pw
  have ko : kl L (os.map (lAt ls)) = 2 ^ L := by
    rw [← ek]
    exact (O.permL.map _).sum_nat
  have R0 : Room_ L 0 0 (os.map (lAt ls)) := room_start O.asc (fun l h => lb l (O.permL.subset h)) (by rw [ko]; exact Nat.le_refl _)
  refine ⟨(canoW_pf R0).perm pw, fun w hw => ?_, ?_⟩
  · obtain ⟨l, n, rfl, m, _, _⟩ := canoW_mem R0 w (pw.symm.subset hw)
    rw [bits_len]
    exact lb l (O.permL.subset m)
  · have : kr L ws = kr L (canoW 0 0 (os.map (lAt ls))) := (pw.symm.map _).sum_nat
    rw [this, kr_kl, canoW_lens, ko]
abbrev NCo : List Str := ["self", "lengths", "words", "index", "length"]
theorem LT.butI {H H' : Hp} {a p C dx : Addr} {xs : List V} {fs : List (Str × V)} (h : LT H a xs) (hp : H p = some (.ins C dx fs)) (b : ButI p H H') : LT H' a xs := by
  rcases h with z | z
  · exact .inl (b _ _ (ne_of z hp fun y => nomatch y) z)
  · exact .inr (b _ _ (ne_of z hp fun y => nomatch y) z)
theorem LT.tup {K : PySem.W.Frag} {H : Hp} {p : Addr} {xs : List V} {Q : VK} (h : LT H p xs) (q : ∀ t H', Same H H' → H' t = some (.tup xs) → Q (.ref t) H') : kTup K (.ref p) H Q :=
  h.elim (fun z => .inl ⟨p, xs, rfl, SqL.of z, fun t nt => q t _ (same_new nt) upd_same⟩) fun z => .inr ⟨p, xs, rfl, SqT.of z, q p H (Same.refl _) z⟩
theorem scCoI : FnScope NCo ["self", "lengths", "words"] (defScope sCoI) := ⟨rfl, rfl, rfl, by decide +kernel, rfl, by decide +kernel, by decide +kernel⟩
section
variable {X : Cx}
theorem pe_sum {a : Expr} {es : List Expr} {t : TA} {p pos : Pos} (hc : X.calm = true) (hm : X.mg "sum" = none) (ha : PA X (a :: es) t) (hg : Gl X "sum" := by rfl) (he : starEach (a :: es) X.env = (false, eval a X.env) :: starEach es X.env := by rfl)
    (hpl : (backTo pos (starEach es X.env)).any (·.1) = false := by rfl) :
    PE X (.Call (.Name "sum" p) (a :: es) [] pos) (tCB (rSum X.K) t) := pe_callB (cr_sum hc) hg hm (by decide +kernel) ha (he := he) (hpl := hpl)
end
/-- a def of which some parameters may have values of their own -/
structure FunW (K : PySem.W.Frag) (x qual : Str) (st : Stmt) (f : Addr) (fd : FuncData) : Prop where
  ex : ∃ (oc : Value) (od : Option Addr) (dV kV doc pm : Value) (an : Option Addr) (cdv ct : Value) (osl : Array (Option Value)),
    fd = PySem.W.fnOf x qual (defArgs st) (defBody st) (defScope st) dV kV doc pm an cdv ct ∧ K.lookup f = some ⟨oc, od, .func fd, osl⟩ ∧ PySem.W.codeIn K cdv qual = true
section
variable {P : Program} {w : World} {K : PySem.W.Frag} {mg : Str → Option Value} {base : Heap}
theorem FunW.okX {x qual : Str} {st : Stmt} {f : Addr} {fd : FuncData} {N ps : List Str} {k : Nat} {sp : Sp} (F : FunW K x qual st f fd) (S : FnScope N ps (defScope st)) (len : ∀ vs H Q E, sp vs H Q E → vs.length = ps.length)
    (hbody : ∀ (cdv : Value) (A : Around) (outer : List Env) (s : Shared) (H : Hp) (vs : List V) (Q : VK) (E : XK), Room k (A.deeper (PyProof.Rows.envOfC qual (defScope st) s.heap.objs.size f cdv)) → sp vs H Q E →
      ∃ t, PSs (cxOf (L2.CX P w) P w K mg base N qual (defScope st) f cdv A outer s H E) (defBody st) t ∧ t { nx := fun _ H' => Q .non H', rt := Q } (L2.start N vs) H) : FnOk P w K mg base (L2.CX P w) (k + 1) f fd ps sp := by
  obtain ⟨oc, od, dV, kV, doc, pm, an, cdv, ct, osl, rfl, lk, hcd⟩ := F.ex
  exact fn_of lk hcd S len fun A outer s H vs Q E hr hsp => hbody cdv A outer s H vs Q E hr hsp
theorem ok_coI {f C CT CL CN CB CE CR : Addr} {fd : FuncData} {Tb : List (Addr × Str)} (F : FunW K "__init__" "Code.__init__" sCoI f fd) (B : Bi mg) (Z : Bs mg) (M : Cm mg) (T : TxC K C) (R : ErC K CT CL) (cB : Cal CX0 P w K mg base 2 "is_between" spBetween)
    (xT : Xc P w K mg base 2 "TooMany" CT (spX3 K "what" "many" "most")) (xL : Xc P w K mg base 2 "BadLength" CL (spX1 K "index")) (xN : Xc P w K mg base 1 "NotFull" CN spX0) (cW : Cal (L2.CX P w) P w K mg base 4 "check_words" (spChW CB CE)) (cC : Cal CX0 P w K mg base 6 "canonical_words" (spCa Tb))
    (mT : Mak CX0 P w K mg base 6 "Tree" CR (spTrI CR Tb)) : FnOk P w K mg base (L2.CX P w) 8 f fd ["self", "lengths", "words"] (spCoI C CT CL CN CB CE Tb) := by
  refine F.okX scCoI (fun vs H Q E h => ?_) (fun cdv A outer s H vs Q E hr h => ?_)
  · obtain ⟨p, dx, lp, wv, ts, rfl, _⟩ := h
    rfl
  · obtain ⟨p, dx, lp, wv, ts, rfl, hp, hl, kn, tabs, l5, out⟩ := h
    refine ⟨_, pss_cons (ps_if (pt_not (pt_chain op_le op_le pe_int (pe_len B.len (pa_cons (pv 1) pa_nil)) (C8.pe_gc rfl M.signs))) (pss_one (ps_raise rfl (takes_of rfl rfl rfl rfl) (pmk_x xT hr (pa_cons pe_str (pa_cons (pe_len B.len (pa_cons (pv 1) pa_nil)) (pa_cons (C8.pe_gc rfl M.signs) pa_nil)))))) pss_nil)
      (pss_cons (ps_for (passes_of rfl) rfl (pi_en B.enum (pa_cons (pv 1) pa_nil)) (pg_tup rfl (pgs_cons (pg_name (i := 3) scCoI.nd rfl (.inl rfl)) (pgs_cons (pg_name (i := 4) scCoI.nd rfl (.inl rfl)) pgs_nil)))
        (pss_one (ps_if (pt_not (pt_val (pe_c cB hr pass0 (pa_cons (pv 4) (pa_cons pe_int (pa_cons (C8.pe_gc rfl M.length) pa_nil)))))) (pss_one (ps_raise rfl (takes_of rfl rfl rfl rfl) (pmk_x xL hr (pa_cons (pv 3) pa_nil)))) pss_nil)))
      (pss_cons (ps_fld (pv 0) (pe_callB (cr_max rfl) rfl M.max (by decide +kernel) (pa_cons (pe_callTy call_list_of rfl B.list (by decide +kernel) (pa_cons (pv 1) pa_nil)) pa_nil)) rfl)
      (pss_cons (ps_if (pt_cmpR op_ne (pe_sum rfl Z.sum (pa_cons (pe_lc (own := [("length", 4)]) rfl scCoI.nd (pi_sqA (pv 1)) (blkOk_by (N := NCo) (sc := defScope sCoI) (by decide +kernel))
          (fun _ _ _ _ _ => pg_name (i := 4) scCoI.nd rfl (Or.inl rfl)) (fun _ _ _ _ _ => pts_nil) (fun _ _ _ _ _ => pe_op op_shl pe_int (pe_op op_sub (pe_fldK K rfl (pv 0)) (pv 4)))) pa_nil)) (pe_op op_shl pe_int (pe_fld (pv 0) rfl)) (nomark _)) (pss_one (ps_raise rfl (takes_of rfl rfl rfl rfl) (pmk_x0 xN hr))) pss_nil)
      (pss_cons (ps_if (pt_cmpR op_notN (pv 2) pe_non (nomark _)) (pss_one (ps_expr (pe_c cW hr (passes_call (takes_of rfl rfl rfl rfl) fun _ _ _ _ h => h) (pa_cons (pv 1) (pa_cons (pv 2) pa_nil))))) pss_nil)
      (pss_cons (ps_fld (pv 0) (pe_tupleOf rfl B.tuple (pv 1)) rfl)
      (pss_cons (ps_fld (pv 0) (pe_tupleOf rfl B.tuple (pe_ifExp (pt_cmpR op_isN (pv 2) pe_non (nomark _)) (pe_c cC hr pass0 (pa_cons (pv 1) pa_nil)) (pv 2))) rfl)
      (pss_cons (ps_fld (pv 0) (pe_len B.len (pa_cons (pe_fld (pv 0) rfl) pa_nil)) rfl)
      (pss_one (ps_fld (pv 0) (pe_mk mT hr pass0 (pa_cons (pe_fld (pv 0) rfl) pa_nil)) rfl))))))))), ?_⟩
    have hs := hl.sq (K := K)
    have one : ∀ (D : Hp → Prop), True := fun _ => True.intro
    rcases out with ⟨h, out⟩ | ⟨n1, n2, i0, x0, hx0, bad, good, out⟩ | ⟨n1, n2, ls, L, rfl, lb, Lm, L6, out⟩
    · refine ⟨_, rfl, lp, ts, rfl, hs, _, _, rfl, rfl, _, rfl, ?_⟩
      by_cases c1 : 2 ≤ ts.length
      · rw [decide_eq_true (show (2 : Int) ≤ ((ts.length : Nat) : Int) by omega)]
        refine iteT ⟨_, _, rfl, rfl, _, rfl, ?_⟩
        rw [decide_eq_false (show ¬ ((ts.length : Nat) : Int) ≤ 2000 by omega)]
        exact iteT ⟨_, rfl, lp, ts, rfl, hs, raise3 xT.T R.t1 R.t2 R.t3 (by show PyData.strOk _ = true; decide +kernel) True.intro True.intro fun d H' r => out d H' r⟩
      · rw [decide_eq_false (show ¬ (2 : Int) ≤ ((ts.length : Nat) : Int) by omega)]
        exact iteF ⟨_, rfl, iteT ⟨_, rfl, lp, ts, rfl, hs, raise3 xT.T R.t1 R.t2 R.t3 (by show PyData.strOk _ = true; decide +kernel) True.intro True.intro fun d H' r => out d H' r⟩⟩
    · refine ⟨_, rfl, lp, ts, rfl, hs, _, _, rfl, rfl, _, rfl, ?_⟩
      rw [decide_eq_true (show (2 : Int) ≤ ((ts.length : Nat) : Int) by omega)]
      refine iteT ⟨_, _, rfl, rfl, _, rfl, ?_⟩
      rw [decide_eq_true (show ((ts.length : Nat) : Int) ≤ 2000 by omega)]
      refine iteF ⟨_, rfl, lp, ts, rfl, hs, fun J G wk hG => for_it wk (fun i σ H' => ∃ (a b : Option V), σ = [some (.ref p), some (.ref lp), some wv, a, b] ∧ Same H H' ∧ i ≤ i0) ⟨none, none, rfl, Same.refl _, Nat.zero_le _⟩ (fun i σ H' _ ⟨_, _, _, e, _⟩ => hG H' fun o z => e _ _ z) ?_ ?_⟩
      · rintro i x σ H2 H3 hi ⟨a, b, rfl, e, le⟩ ⟨T0, y, v', rfl, nT0, rfl, ey, hv⟩
        have ey : y = .int (i : Nat) := (Option.some.inj ey).symm
        subst ey
        have e3 : Same H (upd H2 T0 (.tup [.int (i : Nat), v'])) := e.trans (same_new nT0)
        have kv := kn v' (List.mem_of_getElem? hv)
        refine ⟨T0, _, rfl, SqT.of upd_same, rfl, _, _, rfl, _, _, rfl, rfl, ?_⟩
        refine ⟨v', rfl, v', 1, 1999, rfl, kv.same e3, _, rfl, ?_⟩
        by_cases c : i = i0
        · subst c
          have hxv : x0 = v' := Option.some.inj (hx0.symm.trans hv)
          subst hxv
          rw [bad]
          exact iteT ⟨_, rfl, raise1 xL.T R.l1 True.intro fun d H' r => out d H' (r.back e3)⟩
        · rw [good i v' (by omega) hv]
          exact iteF ⟨_, _, rfl, e3, by omega⟩
      · rintro σ H2 ⟨a, b, rfl, e, le⟩
        have := (List.getElem?_eq_some_iff.mp hx0).1
        omega
    · have lN : (ls.map fun n : Nat => V.int (n : Nat)).length = ls.length := List.length_map _
      rw [lN] at n1 n2
      refine ⟨_, rfl, lp, _, rfl, hs, _, _, rfl, rfl, _, rfl, ?_⟩
      rw [lN, decide_eq_true (show (2 : Int) ≤ ((ls.length : Nat) : Int) by omega)]
      refine iteT ⟨_, _, rfl, rfl, _, rfl, ?_⟩
      rw [decide_eq_true (show ((ls.length : Nat) : Int) ≤ 2000 by omega)]
      refine iteF ⟨_, rfl, lp, _, rfl, hs, fun J G wk hG => for_it wk (fun i σ H' => ∃ (a b : Option V), σ = [some (.ref p), some (.ref lp), some wv, a, b] ∧ Same H H') ⟨none, none, rfl, Same.refl _⟩ (fun i σ H' _ ⟨_, _, _, e⟩ => hG H' fun o z => e _ _ z) ?_ ?_⟩
      · rintro i x σ H2 H3 hi ⟨a, b, rfl, e⟩ ⟨T0, y, v', rfl, nT0, rfl, ey, hv⟩
        have e3 : Same H (upd H2 T0 (.tup [y, v'])) := e.trans (same_new nT0)
        have kv := kn v' (List.mem_of_getElem? hv)
        have gv : btw v' 1 1999 = true := by
          obtain ⟨l, ml, rfl⟩ := List.mem_map.mp (List.mem_of_getElem? hv)
          have := lb l ml
          exact decide_eq_true ⟨by omega, by omega⟩
        refine ⟨T0, _, rfl, SqT.of upd_same, rfl, _, _, rfl, _, _, rfl, rfl, ?_⟩
        refine ⟨v', rfl, v', 1, 1999, rfl, kv.same e3, _, rfl, ?_⟩
        rw [gv]
        exact iteF ⟨_, _, rfl, e3⟩
      · rintro σ H2 ⟨a, b, rfl, e⟩
        clear wk hG
        have hl2 := hl.same e
        have hp2 := e _ _ hp
        refine ⟨_, rfl, lp, _, rfl, hl2.sq, fun a1 n1' => ⟨a1, ls.map fun n : Nat => (n : Int), rfl, SqL.of (by rw [List.map_map]; exact upd_same), by rw [List.length_map]; omega, fun m hm hx => ?_⟩⟩
        have em : m = ((L : Nat) : Int) := by
          obtain ⟨l, ml, rfl⟩ := List.mem_map.mp hm
          have h1 := (lb l ml).2
          have h2 := hx ((L : Nat) : Int) (List.mem_map.mpr ⟨L, Lm, rfl⟩)
          omega
        subst em
        have e1 := same_new (o := .lst (ls.map fun n : Nat => V.int (n : Nat))) n1'
        refine ⟨_, rfl, p, C, dx, [], rfl, e1 _ _ hp2, T.cl, T.g, by decide, ?_⟩
        have f3 : ButI p H (upd (upd H2 a1 (.lst (ls.map fun n : Nat => V.int (n : Nat)))) p (.ins C dx (putF "longest" (.int (L : Nat)) []))) := fun b o n z => (upd_ne n).trans (e1 _ _ (e _ _ z))
        have hp3 : upd (upd H2 a1 (.lst (ls.map fun n : Nat => V.int (n : Nat)))) p (.ins C dx (putF "longest" (.int (L : Nat)) [])) p = some (.ins C dx (putF "longest" (.int (L : Nat)) [])) := upd_same
        generalize upd (upd H2 a1 (.lst (ls.map fun n : Nat => V.int (n : Nat)))) p (.ins C dx (putF "longest" (.int (L : Nat)) [])) = H3 at f3 hp3 ⊢
        have np : ∀ b o, H b = some o → (∀ C dx fs, o ≠ .ins C dx fs) → H3 b = some o := fun b o z no => f3 b o (fun eb => by
          subst eb
          rw [hp] at z
          exact no _ _ _ (Option.some.inj z).symm) z
        have hl3 : LT H3 lp (ls.map fun n : Nat => V.int (n : Nat)) := hl.imp (fun z => np _ _ z fun _ _ _ y => nomatch y) fun z => np _ _ z fun _ _ _ y => nomatch y
        have tab3 : LamX.Tabs Tb H3 := tabs_at tabs hp (fun _ z => nomatch z) (fun _ z => nomatch z) f3
        have lg : (putF "longest" (V.int ((L : Nat) : Int)) []).lookup ("longest" : Str) = some (.int (L : Nat)) := by
          rw [lookup_putF, if_pos rfl]
        refine ⟨_, rfl, lp, _, rfl, hl3.sq, fun J G wk hG D nD => lcM wk (fun i => .int ((2 ^ (L - lAt ls i) : Nat) : Int)) (by rw [lN]; omega) nD (fun H' e => hG H' fun o z => e _ _ z) ?_ ?_⟩
        · rintro i x H4 H5 N hi e4 ⟨rfl, hxi⟩ hN
          rw [lN] at hi
          rw [List.getElem?_map, List.getElem?_eq_getElem hi] at hxi
          cases hxi
          have gi : lAt ls i = ls[i] := by
            show ls.getD i 0 = _
            rw [List.getD_eq_getElem?_getD, List.getElem?_eq_getElem hi]
            rfl
          have bi := (lb _ (List.getElem_mem hi)).2
          refine ⟨rfl, _, rfl, p, C, dx, _, _, rfl, e4 _ _ hp3, T.cl, T.g, lg, _, rfl, _, _, rfl, rfl, _, _, rfl, rfl, ⟨by omega, by omega, by decide⟩, ?_⟩
          have ev : (1 : Int) * 2 ^ (((L : Nat) : Int) - ((ls[i] : Nat) : Int)).toNat = ((2 ^ (L - lAt ls i) : Nat) : Int) := by
            rw [gi, show (((L : Nat) : Int) - ((ls[i] : Nat) : Int)).toNat = L - ls[i] by omega, Int.one_mul, Int.natCast_pow]
            rfl
          show N (V.int ((1 : Int) * 2 ^ (((L : Nat) : Int) - ((ls[i] : Nat) : Int)).toNat)) _
          rw [ev]
          exact hN _ (Same.refl _)
        intro H4 e4 hD4
        rw [lN] at hD4
        refine ⟨D, (List.range ls.length).map fun i => ((2 ^ (L - lAt ls i) : Nat) : Int), rfl, SqL.of (by rw [List.map_map]; exact hD4), ?_⟩
        rw [kl_range]
        have hp4 := e4 _ _ hp3
        have f4 : ButI p H H4 := fun b o n z => e4 _ _ (f3 b o n z)
        have np4 : ∀ b o, H b = some o → (∀ C dx fs, o ≠ .ins C dx fs) → H4 b = some o := fun b o z no => e4 _ _ (np b o z no)
        have tab4 := tab3.ext e4
        refine ⟨_, rfl, p, C, dx, _, _, rfl, hp4, T.cl, T.g, lg, _, _, rfl, rfl, ⟨by omega, by omega, by decide⟩, ?_⟩
        have ev : (1 : Int) * 2 ^ (((L : Nat) : Int)).toNat = ((2 ^ L : Nat) : Int) := by
          rw [Int.toNat_natCast, Int.one_mul, Int.natCast_pow]
          rfl
        show rNe (V.int ((kl L ls : Nat) : Int)) (V.int ((1 : Int) * 2 ^ (((L : Nat) : Int)).toNat)) _ _
        rw [ev]
        refine ⟨rfl, _, rfl, ?_⟩
        have dk : decide (V.int ((kl L ls : Nat) : Int) = V.int ((2 ^ L : Nat) : Int)) = decide (kl L ls = 2 ^ L) := by
          rw [dec_int, Bool.eq_iff_iff, beq_iff_eq, decide_eq_true_iff]
          omega
        rw [dk]
        clear e4 hD4 dk ev lg e1 n1' hm hx np nD f3 hp3 hl3 tab3
        have out2 : (kl L ls ≠ 2 ^ L ∧ ∀ H', ButI p H H' → E (.ref CN) none H') ∨ (kl L ls = 2 ^ L ∧ ((wv = .non ∧ ∀ os ws H' lt wt tr, IsOrd ls os → CanoOf ls os ws → ButT p H H' → LamX.Tabs Tb H' → H' p = some (.ins C dx (coF L ls.length lt wt tr)) → H' lt = some (.tup (ls.map fun n : Nat => V.int (n : Nat))) → H' wt = some (.tup (ws.map wV)) → Q .non H') ∨
            (H lp = some (.lst (ls.map fun n : Nat => V.int (n : Nat))) ∧ ∃ (s : Addr) (us : List V), wv = .ref s ∧ LT H s us ∧ us.length = ls.length ∧ us.length ≤ 60 ∧ (∀ v ∈ us, Kn H v ∧ ∀ x, v = .str x → x.length ≤ 10000) ∧
        ((∃ i v, us[i]? = some v ∧ okB (ls.getD i 0) v = false ∧ (∀ j u, j < i → us[j]? = some u → okB (ls.getD j 0) u = true) ∧ ∀ d H', RsB p H H' d [("index", .int (i : Nat))] → E (.ref CB) (some d) H') ∨
         (∃ ws : List W, us = ws.map wV ∧ ws.map List.length = ls ∧
           ((H s = some (.lst us) ∧ ∃ i j a b, i < j ∧ ws[i]? = some a ∧ ws[j]? = some b ∧ bg a b ∧ (∀ i' j' x y, i' < j' → (i' < i ∨ (i' = i ∧ j' < j)) → ws[i']? = some x → ws[j']? = some y → ¬ bg x y) ∧ ∀ d H', RsB p H H' d [("other", .int (j : Nat)), ("index", .int (i : Nat))] → E (.ref CE) (some d) H') ∨
            (PF ws ∧ ∀ H' lt wt tr, ButT p H H' → LamX.Tabs Tb H' → H' p = some (.ins C dx (coF L ls.length lt wt tr)) → H' lt = some (.tup (ls.map fun n : Nat => V.int (n : Nat))) → H' wt = some (.tup (ws.map wV)) → Q .non H'))))))) := by
          rcases out with z | ⟨z1, z2, z3⟩ | ⟨z1, z⟩
          · exact .inl z
          · exact .inr ⟨z1, .inl ⟨z2, z3⟩⟩
          · exact .inr ⟨z1, .inr z⟩
        clear out
        rcases out2 with ⟨ne, out⟩ | ⟨ek, out⟩
        · rw [decide_eq_false ne]
          exact iteT (raise0 (K := K) fun H' e' => out H' fun b o n z => e' _ _ (f4 b o n z))
        rw [decide_eq_true ek]
        refine iteF ?_
        clear wk hG
        unfold tNext
        dsimp only
        refine cutSeq (t := tIfS _ _ _) (fun σ' H' => σ' = [some (.ref p), some (.ref lp), some wv, a, b] ∧ ButI p H H' ∧ H' p = some (.ins C dx (putF "longest" (.int (L : Nat)) [])) ∧ LamX.Tabs Tb H' ∧
          ((wv = .non ∧ ∀ os ws H' lt wt tr, IsOrd ls os → CanoOf ls os ws → ButT p H H' → LamX.Tabs Tb H' → H' p = some (.ins C dx (coF L ls.length lt wt tr)) → H' lt = some (.tup (ls.map fun n : Nat => V.int (n : Nat))) → H' wt = some (.tup (ws.map wV)) → Q .non H') ∨
           (∃ (s : Addr) (ws : List W), wv = .ref s ∧ LT H s (ws.map wV) ∧ ws.map List.length = ls ∧ PF ws ∧ ∀ H' lt wt tr, ButT p H H' → LamX.Tabs Tb H' → H' p = some (.ins C dx (coF L ls.length lt wt tr)) → H' lt = some (.tup (ls.map fun n : Nat => V.int (n : Nat))) → H' wt = some (.tup (ws.map wV)) → Q .non H'))) (fun nx hnx => ?_) ?_
        · rcases out with ⟨rfl, out⟩ | ⟨hlL, s0, us, rfl, hu, lu, lu60, ku, out⟩
          · refine ⟨_, rfl, rfl, _, rfl, ?_⟩
            exact iteF (hnx _ _ ⟨rfl, f4, hp4, tab4, .inl ⟨rfl, out⟩⟩)
          · refine ⟨_, rfl, rfl, _, rfl, ?_⟩
            have hl4 : H4 lp = some (.lst (ls.map fun n : Nat => V.int (n : Nat))) := np4 _ _ hlL fun _ _ _ z => nomatch z
            have hu4 : LT H4 s0 us := hu.imp (fun z => np4 _ _ z fun _ _ _ y => nomatch y) fun z => np4 _ _ z fun _ _ _ y => nomatch y
            have kn4 : ∀ v ∈ us, Kn H4 v ∧ ∀ x, v = .str x → x.length ≤ 10000 := fun v hv => by
              refine ⟨?_, (ku v hv).2⟩
              cases (ku v hv).1 with
              | non => exact .non
              | bl b => exact .bl b
              | int i => exact .int i
              | str x => exact .str x
              | lst z => exact .lst (np4 _ _ z fun _ _ _ y => nomatch y)
              | tup z => exact .tup (np4 _ _ z fun _ _ _ y => nomatch y)
            have nw : ∀ d, H4 d = none → H d = none := fun d n => by
              cases z : H d with
              | none => rfl
              | some o =>
                have nd : d ≠ p := fun ed => by
                  rw [ed, hp4] at n
                  cases n
                rw [f4 d o nd z] at n
                cases n
            have rb : ∀ d H' fs, Rsd H4 H' d fs → RsB p H H' d fs := fun d H' fs r => ⟨nw d r.new, fun b o n z => r.same _ _ (f4 b o n z), r.at_⟩
            refine iteT ⟨_, rfl, _, rfl, lp, s0, ls, us, rfl, hl4, hu4, lu, lu60, kn4, ?_⟩
            rcases out with ⟨i, v, h1, h2, h3, out⟩ | ⟨ws, rfl, h2, ⟨hls, i, j, x, y, g1, g2, g3, g4, g5, out⟩ | ⟨pf, out⟩⟩
            · exact .inl ⟨i, v, h1, h2, h3, fun d H' r => out d H' (rb d H' _ r)⟩
            · exact .inr ⟨ws, rfl, h2, .inl ⟨np4 _ _ hls (fun _ _ _ y => nomatch y), i, j, x, y, g1, g2, g3, g4, g5, fun d H' r => out d H' (rb d H' _ r)⟩⟩
            · exact .inr ⟨ws, rfl, h2, .inr ⟨pf, fun H' e' => hnx _ _ ⟨rfl, fun b o n z => e' _ _ (f4 b o n z), e' _ _ hp4, tab4.ext e', .inr ⟨s0, ws, rfl, hu, h2, pf, out⟩⟩⟩⟩
        · clear out
          rintro σ' H5 ⟨rfl, f5, hp5, tab5, go⟩
          have hl5 : LT H5 lp (ls.map fun n : Nat => V.int (n : Nat)) := hl.butI hp f5
          refine ⟨_, rfl, hl5.tup fun lt H5' e6 ht5 => ?_⟩
          refine ⟨_, rfl, p, C, dx, _, rfl, e6 _ _ hp5, T.cl, T.l, by show 1 < 1000; decide, ?_⟩
          have f6 : ButI p H (upd (H5') p (.ins C dx (putF "lengths" (.ref lt) (putF "longest" (.int (L : Nat)) [])))) := fun b o n z => (upd_ne n).trans (e6 _ _ (f5 _ _ n z))
          have hp6 : upd (H5') p (.ins C dx (putF "lengths" (.ref lt) (putF "longest" (.int (L : Nat)) []))) p = some (.ins C dx (putF "lengths" (.ref lt) (putF "longest" (.int (L : Nat)) []))) := upd_same
          have nlp : lt ≠ p := ne_of ht5 (e6 _ _ hp5) fun z => nomatch z
          have ht6 : upd (H5') p (.ins C dx (putF "lengths" (.ref lt) (putF "longest" (.int (L : Nat)) []))) lt = some (.tup (ls.map fun n : Nat => V.int (n : Nat))) := (upd_ne nlp).trans ht5
          have tab6 : LamX.Tabs Tb (upd (H5') p (.ins C dx (putF "lengths" (.ref lt) (putF "longest" (.int (L : Nat)) [])))) := tabs_at (tab5.ext e6) (e6 _ _ hp5) (fun _ z => nomatch z) (fun _ z => nomatch z) fun b o n z => (upd_ne n).trans z
          show (fun H' => _) (upd (H5') p (.ins C dx (putF "lengths" (.ref lt) (putF "longest" (.int (L : Nat)) []))))
          generalize upd (H5') p (.ins C dx (putF "lengths" (.ref lt) (putF "longest" (.int (L : Nat)) []))) = H6 at f6 hp6 ht6 tab6 ⊢
          have hl6 : LT H6 lp (ls.map fun n : Nat => V.int (n : Nat)) := hl.butI hp f6
          clear e6 f5 hp5 tab5 hl5 ht5
          dsimp only
          refine cutSeq (t := sFld _ _ _ _) (fun σ' H' => ∃ (wt : Addr) (ws : List W), σ' = [some (.ref p), some (.ref lp), some wv, a, b] ∧ ButT p H H' ∧ LamX.Tabs Tb H' ∧ H' p = some (.ins C dx (putF "words" (.ref wt) (putF "lengths" (.ref lt) (putF "longest" (.int (L : Nat)) [])))) ∧
            H' lt = some (.tup (ls.map fun n : Nat => V.int (n : Nat))) ∧ H' wt = some (.tup (ws.map wV)) ∧ PF ws ∧ ws.length = ls.length ∧ (∀ w ∈ ws, w.length ≤ L) ∧ kr L ws = 2 ^ L ∧
            ∀ H' lt wt tr, ButT p H H' → LamX.Tabs Tb H' → H' p = some (.ins C dx (coF L ls.length lt wt tr)) → H' lt = some (.tup (ls.map fun n : Nat => V.int (n : Nat))) → H' wt = some (.tup (ws.map wV)) → Q .non H') (fun nx hnx => ?_) ?_
          · have fin : ∀ (H8 : Hp) (wt : Addr) (ws : List W), LamX.ExtN H6 H8 → LamX.Tabs Tb H8 → H8 wt = some (.tup (ws.map wV)) → PF ws → ws.length = ls.length → (∀ w ∈ ws, w.length ≤ L) → kr L ws = 2 ^ L →
                (∀ H' lt wt tr, ButT p H H' → LamX.Tabs Tb H' → H' p = some (.ins C dx (coF L ls.length lt wt tr)) → H' lt = some (.tup (ls.map fun n : Nat => V.int (n : Nat))) → H' wt = some (.tup (ws.map wV)) → Q .non H') →
                nx [some (.ref p), some (.ref lp), some wv, a, b] (upd H8 p (.ins C dx (putF "words" (.ref wt) (putF "lengths" (.ref lt) (putF "longest" (.int (L : Nat)) []))))) := fun H8 wt ws en tab8 hw pf lw lL kw out => by
              have hp8 := en _ _ hp6 fun _ z => nomatch z
              refine hnx _ _ ⟨wt, ws, rfl, fun b o n z m => (upd_ne n).trans (en _ _ (f6 b o n z) m), tabs_at tab8 hp8 (fun _ z => nomatch z) (fun _ z => nomatch z) fun b o n z => (upd_ne n).trans z, upd_same, (upd_ne nlp).trans (en _ _ ht6 fun _ z => nomatch z), (upd_ne (ne_of hw hp8 fun z => nomatch z)).trans hw, pf, lw, lL, kw, out⟩
            rcases go with ⟨rfl, out⟩ | ⟨s0, ws, rfl, hu, ll, pf, out⟩
            · refine ⟨_, rfl, rfl, _, rfl, ?_⟩
              refine iteT ⟨_, rfl, lp, ls, L, rfl, hl6, n2, lb, L6, Nat.le_of_eq ek, tab6, fun os ws D H7 O c en tab7 fr hD => ?_⟩
              refine .inl ⟨D, _, rfl, SqL.of hD, fun wt nwt => ?_⟩
              have e8 := same_new (o := .tup (ws.map wV)) nwt
              obtain ⟨g1, g2, g3⟩ := c.good O (fun l h => (lb l h).2) ek
              refine ⟨_, rfl, p, C, dx, _, rfl, e8 _ _ (en _ _ hp6 fun _ z => nomatch z), T.cl, T.w, by show 2 < 1000; decide, ?_⟩
              exact fin _ wt ws (fun b o z m => e8 _ _ (en _ _ z m)) (tab7.ext e8) upd_same g1 c.1 g2 g3 fun H' lt wt tr => out os ws H' lt wt tr O c
            · refine ⟨_, rfl, rfl, _, rfl, ?_⟩
              have lw : ws.length = ls.length := by rw [← ll, List.length_map]
              have g2 : ∀ w ∈ ws, w.length ≤ L := fun w hw => (lb w.length (by rw [← ll]; exact List.mem_map_of_mem hw)).2
              have g3 : kr L ws = 2 ^ L := by rw [kr_kl, ll, ek]
              refine iteF ⟨_, rfl, ?_⟩
              rcases hu with hu | hu
              · have hu6 := f6 _ _ (ne_of hu hp fun z => nomatch z) hu
                refine .inl ⟨s0, _, rfl, SqL.of hu6, fun wt nwt => ?_⟩
                have e8 := same_new (o := .tup (ws.map wV)) nwt
                refine ⟨_, rfl, p, C, dx, _, rfl, e8 _ _ hp6, T.cl, T.w, by show 2 < 1000; decide, ?_⟩
                exact fin _ wt ws (fun b o z m => e8 _ _ z) (tab6.ext e8) upd_same pf lw g2 g3 out
              · have hu6 := f6 _ _ (ne_of hu hp fun z => nomatch z) hu
                refine .inr ⟨s0, _, rfl, SqT.of hu6, ?_⟩
                refine ⟨_, rfl, p, C, dx, _, rfl, hp6, T.cl, T.w, by show 2 < 1000; decide, ?_⟩
                exact fin _ s0 ws (fun b o z m => z) tab6 hu6 pf lw g2 g3 out
          · rintro σ' H9 ⟨wt, ws, rfl, f9, tab9, hp9, hlt9, hwt9, pf, lw, lL, kw, out⟩
            have c1 : (putF "words" (V.ref wt) (putF "lengths" (.ref lt) (putF "longest" (.int (L : Nat)) []))).lookup ("lengths" : Str) = some (.ref lt) := by
              rw [lookup_putF, if_neg (by decide +kernel), lookup_putF, if_pos rfl]
            refine ⟨_, rfl, p, C, dx, _, _, rfl, hp9, T.cl, T.l, c1, lt, _, rfl, .inr (SqT.of hlt9), ?_⟩
            rw [lN]
            refine ⟨_, rfl, p, C, dx, _, rfl, hp9, T.cl, T.s, by show 3 < 1000; decide, ?_⟩
            have c2 : (putF "size" (V.int (ls.length : Nat)) (putF "words" (V.ref wt) (putF "lengths" (.ref lt) (putF "longest" (.int (L : Nat)) [])))).lookup ("words" : Str) = some (.ref wt) := by
              rw [lookup_putF, if_neg (by decide +kernel), lookup_putF, if_pos rfl]
            have hp10 : upd H9 p (.ins C dx (putF "size" (.int (ls.length : Nat)) (putF "words" (.ref wt) (putF "lengths" (.ref lt) (putF "longest" (.int (L : Nat)) []))))) p = some (.ins C dx (putF "size" (.int (ls.length : Nat)) (putF "words" (.ref wt) (putF "lengths" (.ref lt) (putF "longest" (.int (L : Nat)) []))))) := upd_same
            have f10 : ButT p H (upd H9 p (.ins C dx (putF "size" (.int (ls.length : Nat)) (putF "words" (.ref wt) (putF "lengths" (.ref lt) (putF "longest" (.int (L : Nat)) [])))))) := fun b o n z m => (upd_ne n).trans (f9 b o n z m)
            have hlt10 : upd H9 p (.ins C dx (putF "size" (.int (ls.length : Nat)) (putF "words" (.ref wt) (putF "lengths" (.ref lt) (putF "longest" (.int (L : Nat)) []))))) lt = _ := (upd_ne nlp).trans hlt9
            have hwt10 : upd H9 p (.ins C dx (putF "size" (.int (ls.length : Nat)) (putF "words" (.ref wt) (putF "lengths" (.ref lt) (putF "longest" (.int (L : Nat)) []))))) wt = _ := (upd_ne (ne_of hwt9 hp9 fun z => nomatch z)).trans hwt9
            have tab10 : LamX.Tabs Tb (upd H9 p (.ins C dx (putF "size" (.int (ls.length : Nat)) (putF "words" (.ref wt) (putF "lengths" (.ref lt) (putF "longest" (.int (L : Nat)) [])))))) := tabs_at tab9 hp9 (fun _ z => nomatch z) (fun _ z => nomatch z) fun b o n z => (upd_ne n).trans z
            dsimp only
            generalize upd H9 p (.ins C dx (putF "size" (.int (ls.length : Nat)) (putF "words" (.ref wt) (putF "lengths" (.ref lt) (putF "longest" (.int (L : Nat)) []))))) = H10 at hp10 f10 hlt10 hwt10 tab10 ⊢
            refine ⟨_, rfl, p, C, dx, _, _, rfl, hp10, T.cl, T.w, c2, fun x dx2 nx ndx ne => ?_⟩
            have e11 : Same H10 (upd (upd H10 dx2 (.own x)) x (.ins CR dx2 [])) := fun b o z => (upd_ne (ne_of_none z nx)).trans ((upd_ne (ne_of_none z ndx)).trans z)
            refine ⟨x, dx2, wt, ws, L, rfl, upd_same, e11 _ _ hwt10, pf, by omega, by omega, lL, by omega, kw, tab10.ext e11, fun H' fs bt hx tab' => ⟨rfl, _, rfl, p, C, dx, _, rfl, bt _ _ (ne_of_none hp10 nx) (e11 _ _ hp10) (fun _ z => nomatch z), T.cl, T.t, by show 4 < 1000; decide, ?_⟩⟩
            refine out _ lt wt x (fun b o n z m => (upd_ne n).trans (bt b o (ne_of_none (f10 b o n z m) nx) (e11 _ _ (f10 b o n z m)) m)) ?_ upd_same ?_ ?_
            · exact tabs_at tab' (bt _ _ (ne_of_none hp10 nx) (e11 _ _ hp10) fun _ z => nomatch z) (fun _ z => nomatch z) (fun _ z => nomatch z) fun b o n z => (upd_ne n).trans z
            · exact (upd_ne nlp).trans (bt _ _ (ne_of_none hlt10 nx) (e11 _ _ hlt10) fun _ z => nomatch z)
            · exact (upd_ne (ne_of hwt10 hp10 fun z => nomatch z)).trans (bt _ _ (ne_of_none hwt10 nx) (e11 _ _ hwt10) fun _ z => nomatch z)
end
end K40
set_option Elab.async false
set_option linter.all false
set_option maxRecDepth 100001
set_option maxHeartbeats 3999999
namespace K40
open PySem L2
abbrev sCoE : Stmt := inClass (topS 27) 1
abbrev sChC : Stmt := topS 26
abbrev sCostOf : Stmt := topS 32
theorem flat_w (w : W) : Flat (wV w) := by
  show ((bS w).cps.all (· < 0x110000)) = true
  rw [Array.all_eq_true']
  intro c hc
  have : c ∈ w.map cd := by simpa [bS, S] using hc
  obtain ⟨b, _, rfl⟩ := List.mem_map.mp this
  cases b <;> rfl
theorem flat_ws (ws : List W) : ∀ v ∈ ws.map wV, Flat v := fun v hv => by
  obtain ⟨w, _, rfl⟩ := List.mem_map.mp hv
  exact flat_w w
theorem eqvAll_ws : ∀ (as bs : List W), PyData.eqvAll ((as.map wV).map dOf) ((bs.map wV).map dOf) = decide (as = bs)
  | [], [] => by simp [PyData.eqvAll]
  | [], _ :: _ => by simp [PyData.eqvAll]
  | _ :: _, [] => by simp [PyData.eqvAll]
  | a :: as, b :: bs => by
    have ih := eqvAll_ws as bs
    have e : PyData.eqvAll (((a :: as).map wV).map dOf) (((b :: bs).map wV).map dOf) = (PyData.eqv (.str (bS a)) (.str (bS b)) && PyData.eqvAll ((as.map wV).map dOf) ((bs.map wV).map dOf)) := by simp only [List.map_cons, PyData.eqvAll, wV, dOf]
    have e2 : PyData.eqv (.str (bS a)) (.str (bS b)) = decide (a = b) := by
      have : PyData.eqv (.str (bS a)) (.str (bS b)) = (bS a == bS b) := by simp only [PyData.eqv]
      rw [this, Bool.eq_iff_iff, decide_eq_true_iff, beq_iff_eq]
      exact ⟨bS_inj, fun h => h ▸ rfl⟩
    rw [e, ih, e2]
    by_cases h1 : a = b
    · by_cases h2 : as = bs
      · simp [h1, h2]
      · simp [h1, h2]
    · simp [h1]
/-- two tuples of words -/
def rEqW (K : PySem.W.Frag) (neg : Bool) : R2 := fun x y H Q => ∃ (a b : Addr) (us vs : List W), x = .ref a ∧ y = .ref b ∧ SqT K H a (us.map wV) ∧ SqT K H b (vs.map wV) ∧ Q (.bl (if neg then !decide (us = vs) else decide (us = vs))) H
section
variable {X : Cx}
theorem op_eqW (hu : X.A.units + 64 < cLine) : OpR X (compareOp .Eq) (rEqW X.K false) := by
  intro pins s σ H x y v u Q I rx ry h
  obtain ⟨a, b, us, vs, rfl, rfl, d1, d2, q⟩ := h
  refine op_eqD hu pins s σ H _ _ v u Q I rx ry ⟨_, _, .tup d1 (dpAll_flat (flat_ws us)), .tup d2 (dpAll_flat (flat_ws vs)), shT_flat (flat_ws us), shT_flat (flat_ws vs), ?_⟩
  rw [show PyData.eqv (.tuple ((us.map wV).map dOf)) (.tuple ((vs.map wV).map dOf)) = decide (us = vs) by rw [← eqvAll_ws]; simp only [PyData.eqv]]
  exact q
theorem op_neW (hu : X.A.units + 64 < cLine) : OpR X (compareOp .NotEq) (rEqW X.K true) := by
  intro pins s σ H x y v u Q I rx ry h
  obtain ⟨a, b, us, vs, rfl, rfl, d1, d2, q⟩ := h
  refine op_neD hu pins s σ H _ _ v u Q I rx ry ⟨_, _, .tup d1 (dpAll_flat (flat_ws us)), .tup d2 (dpAll_flat (flat_ws vs)), shT_flat (flat_ws us), shT_flat (flat_ws vs), ?_⟩
  rw [show PyData.eqv (.tuple ((us.map wV).map dOf)) (.tuple ((vs.map wV).map dOf)) = decide (us = vs) by rw [← eqvAll_ws]; simp only [PyData.eqv]]
  exact q
end
/-- a code -/
def IsCo (C : Addr) (H : Hp) (q : Addr) (L : Nat) (ls : List Nat) (ws : List W) : Prop := ∃ dx lt wt tr, H q = some (.ins C dx (coF L ls.length lt wt tr)) ∧ H lt = some (.tup (ls.map fun n : Nat => V.int (n : Nat))) ∧ H wt = some (.tup (ws.map wV))
section
variable (L n : Nat) (lt wt tr : Addr)
theorem co_longest : (coF L n lt wt tr).lookup ("longest" : Str) = some (.int (L : Nat)) := by
  unfold coF
  rw [lookup_putF, if_neg (by decide +kernel), lookup_putF, if_neg (by decide +kernel), lookup_putF, if_neg (by decide +kernel), lookup_putF, if_neg (by decide +kernel), lookup_putF, if_pos rfl]
theorem co_lengths : (coF L n lt wt tr).lookup ("lengths" : Str) = some (.ref lt) := by
  unfold coF
  rw [lookup_putF, if_neg (by decide +kernel), lookup_putF, if_neg (by decide +kernel), lookup_putF, if_neg (by decide +kernel), lookup_putF, if_pos rfl]
theorem co_words : (coF L n lt wt tr).lookup ("words" : Str) = some (.ref wt) := by
  unfold coF
  rw [lookup_putF, if_neg (by decide +kernel), lookup_putF, if_neg (by decide +kernel), lookup_putF, if_pos rfl]
theorem co_size : (coF L n lt wt tr).lookup ("size" : Str) = some (.int (n : Nat)) := by
  unfold coF
  rw [lookup_putF, if_neg (by decide +kernel), lookup_putF, if_pos rfl]
end
structure TxE (K : PySem.W.Frag) (C : Addr) : Prop where
  cc : PySem.W.findIn K (.ref C) "__class__" = some (some (.builtin "object.__class__"))
  gg : PySem.W.specialIn K (.builtin "object.__class__") "__get__" = some (some (.builtin "getset_descriptor.__get__"))
  tk : PySem.W.takesIn K (.builtin "object.__class__") = some true
  mr : PySem.W.mroIn K C (.type "object") = some true
  kT : PySem.W.kitOne K (.type "tuple") (.ref C) = some false
theorem IsCo.ty {K : PySem.W.Frag} {C : Addr} {H : Hp} {p : Addr} {L : Nat} {ls : List Nat} {ws : List W} (T : TxC K C) (E : TxE K C) (q : IsCo C H p L ls ws) : TyX K H (.ref p) (.ref C) :=
  let ⟨_, _, _, _, h1, _⟩ := q
  .base (.ins h1 T.cl E.cc E.gg E.tk E.mr)
def spEqC (C : Addr) : Sp := fun vs H Q _ => ∃ (p : Addr) (y : V) (L : Nat) (ls : List Nat) (ws : List W), vs = [.ref p, y] ∧ IsCo C H p L ls ws ∧
  ((∃ (q : Addr) (L2 : Nat) (ls2 : List Nat) (ws2 : List W), y = .ref q ∧ IsCo C H q L2 ls2 ws2 ∧ Q (.bl (decide (ws = ws2))) H) ∨ (∃ t xs, y = .ref t ∧ H t = some (.tup xs) ∧ Q (.bl false) H))
/-- counts that are looked at -/
def spCC (CT CA : Addr) : Sp := fun vs H Q E => ∃ (cp : Addr) (ts : List V), vs = [.ref cp] ∧ LT H cp ts ∧ (∀ v ∈ ts, Kn H v) ∧ ts.length ≤ 5000 ∧
  ((¬ (2 ≤ ts.length ∧ ts.length ≤ 2000) ∧ ∀ d H', Rsd H H' d [("most", .int 2000), ("many", .int (ts.length : Nat)), ("what", .str "signs")] → E (.ref CT) (some d) H') ∨
   (2 ≤ ts.length ∧ ts.length ≤ 2000 ∧ ∃ i v, ts[i]? = some v ∧ frm v 0 = false ∧ (∀ j u, j < i → ts[j]? = some u → frm u 0 = true) ∧ ∀ d H', Rsd H H' d [("index", .int (i : Nat))] → E (.ref CA) (some d) H') ∨
   (2 ≤ ts.length ∧ ts.length ≤ 2000 ∧ (∀ v ∈ ts, frm v 0 = true) ∧ ∀ H', Same H H' → Q .non H'))
section
variable {P : Program} {w : World} {K : PySem.W.Frag} {mg : Str → Option Value} {base : Heap}
theorem scCoE : FnScope ["self", "other"] ["self", "other"] (defScope sCoE) := ⟨rfl, rfl, rfl, by decide +kernel, rfl, by decide +kernel, by decide +kernel⟩
theorem ok_eqC {f C : Addr} {fd : FuncData} (F : Fun K "__eq__" "Code.__eq__" sCoE f fd) (B : Bi mg) (T : TxC K C) (TE : TxE K C) (gC : mg "Code" = some (.ref C)) : FnOk P w K mg base CX0 1 f fd ["self", "other"] (spEqC C) := by
  refine F.ok scCoE (fun vs H Q E h => ?_) (fun cdv A outer s H vs Q E hr h => ?_)
  · obtain ⟨p, y, L, ls, ws, rfl, _⟩ := h
    rfl
  · obtain ⟨p, y, L, ls, ws, rfl, M, h⟩ := h
    refine ⟨_, pss_one (ps_ret (pe_and (pe_isi B.isi (pa_cons (pv 1) (pa_cons (pe_glob (v := .ref C) rfl gC rfl) pa_nil))) (pe_one (pe_cmpR (op_eqW (hu64 hr)) (pe_fld (pv 0) rfl) (pe_fld (pv 1) rfl) (nomark _))))), ?_⟩
    obtain ⟨dx, lt, wt, tr, h1, h2, h3⟩ := id M
    rcases h with ⟨q, L2, ls2, ws2, rfl, M2, h⟩ | ⟨t2, xs, rfl, ht, h⟩
    · obtain ⟨dx2, lt2, wt2, tr2, g1, g2, g3⟩ := id M2
      refine ⟨_, rfl, _, _, _, _, _, rfl, .own C, M2.ty T TE, kit_self, _, rfl, ?_⟩
      exact ⟨_, rfl, p, C, dx, _, _, rfl, h1, T.cl, T.w, co_words _ _ _ _ _, _, rfl, q, C, dx2, _, _, rfl, g1, T.cl, T.w, co_words _ _ _ _ _, _, _, ws, ws2, rfl, rfl, SqT.of h3, SqT.of g3, h⟩
    · exact ⟨_, rfl, _, _, _, _, _, rfl, .own C, .base (.tup ht), TE.kT, _, rfl, h⟩
theorem scChC : FnScope ["counts", "index", "count"] ["counts"] (defScope sChC) := ⟨rfl, rfl, rfl, by decide +kernel, rfl, by decide +kernel, by decide +kernel⟩
theorem ok_chC {f CT CA : Addr} {fd : FuncData} (F : Fun K "check_counts" "check_counts" sChC f fd) (B : Bi mg) (M : Cm mg) (cB : Cal CX0 P w K mg base 2 "is_from" spFrom)
    (xT : Xc P w K mg base 2 "TooMany" CT (spX3 K "what" "many" "most")) (xA : Xc P w K mg base 2 "BadTally" CA (spX1 K "index")) (R : ErC K CT CA) : FnOk P w K mg base (L2.CX P w) 4 f fd ["counts"] (spCC CT CA) := by
  refine F.okX scChC (fun vs H Q E h => ?_) (fun cdv A outer s H vs Q E hr h => ?_)
  · obtain ⟨cp, ts, rfl, _⟩ := h
    rfl
  · obtain ⟨cp, ts, rfl, hl, kn, l5, out⟩ := h
    refine ⟨_, pss_cons (ps_if (pt_not (pt_chain op_le op_le pe_int (pe_len B.len (pa_cons (pv 0) pa_nil)) (C8.pe_gc rfl M.signs))) (pss_one (ps_raise rfl (takes_of rfl rfl rfl rfl) (pmk_x xT hr (pa_cons pe_str (pa_cons (pe_len B.len (pa_cons (pv 0) pa_nil)) (pa_cons (C8.pe_gc rfl M.signs) pa_nil)))))) pss_nil)
      (pss_one (ps_for (passes_of rfl) rfl (pi_en B.enum (pa_cons (pv 0) pa_nil)) (pg_tup rfl (pgs_cons (pg_name (i := 1) scChC.nd rfl (.inl rfl)) (pgs_cons (pg_name (i := 2) scChC.nd rfl (.inl rfl)) pgs_nil)))
        (pss_one (ps_if (pt_not (pt_val (pe_c cB hr pass0 (pa_cons (pv 2) (pa_cons pe_int pa_nil))))) (pss_one (ps_raise rfl (takes_of rfl rfl rfl rfl) (pmk_x xA hr (pa_cons (pv 1) pa_nil)))) pss_nil)))), ?_⟩
    have hs := hl.sq (K := K)
    rcases out with ⟨h, out⟩ | ⟨n1, n2, i0, x0, hx0, bad, good, out⟩ | ⟨n1, n2, good, out⟩
    · refine ⟨_, rfl, cp, ts, rfl, hs, _, _, rfl, rfl, _, rfl, ?_⟩
      by_cases c1 : 2 ≤ ts.length
      · rw [decide_eq_true (show (2 : Int) ≤ ((ts.length : Nat) : Int) by omega)]
        refine iteT ⟨_, _, rfl, rfl, _, rfl, ?_⟩
        rw [decide_eq_false (show ¬ ((ts.length : Nat) : Int) ≤ 2000 by omega)]
        exact iteT ⟨_, rfl, cp, ts, rfl, hs, raise3 xT.T R.t1 R.t2 R.t3 (by show PyData.strOk _ = true; decide +kernel) True.intro True.intro fun d H' r => out d H' r⟩
      · rw [decide_eq_false (show ¬ (2 : Int) ≤ ((ts.length : Nat) : Int) by omega)]
        exact iteF ⟨_, rfl, iteT ⟨_, rfl, cp, ts, rfl, hs, raise3 xT.T R.t1 R.t2 R.t3 (by show PyData.strOk _ = true; decide +kernel) True.intro True.intro fun d H' r => out d H' r⟩⟩
    · refine ⟨_, rfl, cp, ts, rfl, hs, _, _, rfl, rfl, _, rfl, ?_⟩
      rw [decide_eq_true (show (2 : Int) ≤ ((ts.length : Nat) : Int) by omega)]
      refine iteT ⟨_, _, rfl, rfl, _, rfl, ?_⟩
      rw [decide_eq_true (show ((ts.length : Nat) : Int) ≤ 2000 by omega)]
      refine iteF ⟨_, rfl, cp, ts, rfl, hs, fun J G wk hG => for_it wk (fun i σ H' => ∃ (a b : Option V), σ = [some (.ref cp), a, b] ∧ Same H H' ∧ i ≤ i0) ⟨none, none, rfl, Same.refl _, Nat.zero_le _⟩ (fun i σ H' _ ⟨_, _, _, e, _⟩ => hG H' fun o z => e _ _ z) ?_ ?_⟩
      · rintro i x σ H2 H3 hi ⟨a, b, rfl, e, le⟩ ⟨T0, y, v', rfl, nT0, rfl, ey, hv⟩
        have ey : y = .int (i : Nat) := (Option.some.inj ey).symm
        subst ey
        have e3 : Same H (upd H2 T0 (.tup [.int (i : Nat), v'])) := e.trans (same_new nT0)
        have kv := kn v' (List.mem_of_getElem? hv)
        refine ⟨T0, _, rfl, SqT.of upd_same, rfl, _, _, rfl, _, _, rfl, rfl, ?_⟩
        refine ⟨v', rfl, v', 0, rfl, kv.same e3, _, rfl, ?_⟩
        by_cases c : i = i0
        · subst c
          have hxv : x0 = v' := Option.some.inj (hx0.symm.trans hv)
          subst hxv
          rw [bad]
          exact iteT ⟨_, rfl, raise1 xA.T R.l1 True.intro fun d H' r => out d H' (r.back e3)⟩
        · rw [good i v' (by omega) hv]
          exact iteF ⟨_, _, rfl, e3, by omega⟩
      · rintro σ H2 ⟨a, b, rfl, e, le⟩
        have := (List.getElem?_eq_some_iff.mp hx0).1
        omega
    · refine ⟨_, rfl, cp, ts, rfl, hs, _, _, rfl, rfl, _, rfl, ?_⟩
      rw [decide_eq_true (show (2 : Int) ≤ ((ts.length : Nat) : Int) by omega)]
      refine iteT ⟨_, _, rfl, rfl, _, rfl, ?_⟩
      rw [decide_eq_true (show ((ts.length : Nat) : Int) ≤ 2000 by omega)]
      refine iteF ⟨_, rfl, cp, ts, rfl, hs, fun J G wk hG => for_it wk (fun i σ H' => ∃ (a b : Option V), σ = [some (.ref cp), a, b] ∧ Same H H') ⟨none, none, rfl, Same.refl _⟩ (fun i σ H' _ ⟨_, _, _, e⟩ => hG H' fun o z => e _ _ z) ?_ ?_⟩
      · rintro i x σ H2 H3 hi ⟨a, b, rfl, e⟩ ⟨T0, y, v', rfl, nT0, rfl, ey, hv⟩
        have e3 : Same H (upd H2 T0 (.tup [y, v'])) := e.trans (same_new nT0)
        have kv := kn v' (List.mem_of_getElem? hv)
        refine ⟨T0, _, rfl, SqT.of upd_same, rfl, _, _, rfl, _, _, rfl, rfl, ?_⟩
        refine ⟨v', rfl, v', 0, rfl, kv.same e3, _, rfl, ?_⟩
        rw [good v' (List.mem_of_getElem? hv)]
        exact iteF ⟨_, _, rfl, e3⟩
      · rintro σ H2 ⟨a, b, rfl, e⟩
        exact out _ e
end
end K40
set_option Elab.async false
set_option linter.all false
set_option maxRecDepth 100001
set_option maxHeartbeats 3999999
namespace K40
open PySem L2
theorem _root_.L2.FnOk.or {P : Program} {w : World} {K : PySem.W.Frag} {mg : Str → Option Value} {base : Heap} {CX : CXT} {k : Nat} {f : Addr} {fd : FuncData} {ps : List Str} {sp sp' : Sp} (F : FnOk P w K mg base CX k f fd ps sp) (G : FnOk P w K mg base CX k f fd ps sp') :
    FnOk P w K mg base CX k f fd ps (fun vs H Q E => sp vs H Q E ∨ sp' vs H Q E) :=
  ⟨fun vs H Q E h => h.elim (F.len vs H Q E) (G.len vs H Q E), fun A outer s H args us vs Q E hr he hb hv h => h.elim (F.run A outer s H args us vs Q E hr he hb hv) (G.run A outer s H args us vs Q E hr he hb hv)⟩
section
variable {P : Program} {w : World} {K : PySem.W.Frag} {mg : Str → Option Value} {base : Heap}
end
end K40
set_option Elab.async false
set_option linter.all false
set_option maxRecDepth 100001
/-! zip over sources of either kind: a list with its iterator, or a tuple with its iterator -/
namespace ZM
open PySem PySem.Spec PyProof.Rows L2
/-- an iterator of a tuple (t) or of a list, k items on -/
def ItB (t : Bool) (h : Heap) (it l : Addr) (k : Nat) : Prop := match t with
  | true => h.IsTupleIter it l k
  | false => h.IsListIter it l k
/-- a tuple (t) or a list of these items -/
def InB (t : Bool) (h : Heap) (a : Addr) (its : Array Value) : Prop := match t with
  | true => h.IsTuple a its
  | false => h.IsList a its
/-- at it an iterator, k items on, over what lies at l: xs, a list or a tuple -/
def Src (t : Bool) (h : Heap) (it l : Addr) (k : Nat) (xs : Array Value) : Prop := ItB t h it l k ∧ InB t h l xs
theorem ItB.keep {t : Bool} {h h' : Heap} {it l : Addr} {k : Nat} (b : ItB t h it l k) (e : ∀ o, h.get? it = some o → h'.get? it = some o) : ItB t h' it l k := by
  cases t <;> exact b.at e
theorem ItB.obj {t : Bool} {h : Heap} {it l : Addr} {k : Nat} (b : ItB t h it l k) : ∃ o, h.get? it = some o ∧ ∀ v, o.data ≠ .cell v := by
  cases t <;> (obtain ⟨o, e, _, d⟩ := b; exact ⟨o, e, fun v q => by rw [d] at q; cases q⟩)
section
variable {prog : Program} {w : World} {A : Around} {E : Value → Shared → Prop} {s : Shared} {t : Bool}
theorem Src.next {it l : Addr} {k : Nat} {xs : Array Value} {x : Value} {Q : Value → Shared → Prop} (ne : it ≠ l) (h : Src t s.heap it l k xs) (hx : xs[k]? = some x)
    (hQ : ∀ h', Src t h' it l (k + 1) xs → Heap.SameBut it s.heap h' → Q x { s with heap := h' }) : wpAny (model prog w) A (Builtin.SmallTypes.nextOf (.ref it)) Q E s := by
  obtain ⟨h1, h2⟩ := h
  cases t
  · exact wpAny_nextOf_list_item h1 h2 hx fun h' z sb => hQ h' ⟨z, Heap.IsList.extBut h2 sb.extBut (Ne.symm ne)⟩ sb
  · exact RZ.nextOf_tuple_item h1 h2 hx fun h' z sb => hQ h' ⟨z, Heap.IsTuple.extBut h2 sb.extBut (Ne.symm ne)⟩ sb
theorem Src.ends {it l : Addr} {k : Nat} {xs : Array Value} {Q : Value → Shared → Prop} (hh : A.handled = none) (h : Src t s.heap it l k xs) (hx : xs[k]? = none)
    (hE : ∀ h' e, Heap.ExtBut it s.heap h' → (∃ o, h'.get? e = some o ∧ o.cls = .type "StopIteration") → E (.ref e) { s with heap := h' }) : wpAny (model prog w) A (Builtin.SmallTypes.nextOf (.ref it)) Q E s := by
  obtain ⟨h1, h2⟩ := h
  cases t
  · exact wpAny_nextOf_list_end hh h1 h2 hx hE
  · exact RZ.nextOf_tuple_end hh h1 h2 hx hE
end
theorem Src.at {t : Bool} {h h' : Heap} {it l : Addr} {k : Nat} {xs : Array Value} (s : Src t h it l k xs) (e1 : ∀ o, h.get? it = some o → h'.get? it = some o) (e2 : ∀ o, h.get? l = some o → h'.get? l = some o) : Src t h' it l k xs := by
  obtain ⟨h1, h2⟩ := s
  refine ⟨h1.keep e1, ?_⟩
  cases t <;> (obtain ⟨o, z, r⟩ := h2; exact ⟨o, e2 _ z, r⟩)
end ZM
set_option Elab.async false
set_option linter.all false
set_option maxRecDepth 100001
set_option maxHeartbeats 999999
/-! zip of two sources, of which each is a list or a tuple -/
namespace ZM
open PySem PySem.Spec PyProof.Rows L2
theorem Src.off {t : Bool} {h h' : Heap} {it l c : Addr} {k : Nat} {xs : Array Value} (s : Src t h it l k xs) (n1 : it ≠ c) (n2 : l ≠ c) (e : Heap.ExtBut c h h') : Src t h' it l k xs :=
  s.at (fun o z => e it o n1 z) fun o z => e l o n2 z
/-- what a zip that goes holds: itself, its pair of iterators, its pair of items, both sources -/
structure Zp (t u : Bool) (h : Heap) (g ti to ja jb la lb : Addr) (k : Nat) (xs ys : Array Value) : Prop where
  zi : IsZip h g ti to .none
  pi : IsPair h ti (.ref ja) (.ref jb)
  po : ∃ x y, IsPair h to x y
  sa : Src t h ja la k xs
  sb : Src u h jb lb k ys
section
variable {prog : Program} {w : World} {A : Around} {E : Value → Shared → Prop} {s : Shared} {g ti to ja jb la lb : Addr} {k : Nat} {xs ys : Array Value} {t t2 : Bool}
theorem Zp.item {x y : Value} {Q : Option Value → Shared → Prop} (D : ZipApart g ti to ja jb la lb) (Z : Zp t t2 s.heap g ti to ja jb la lb k xs ys) (hx : xs[k]? = some x) (hy : ys[k]? = some y)
    (hQ : ∀ h', IsZip h' g ti to (rawInt s.heap.objs.size) → IsPair h' ti (.ref ja) (.ref jb) → IsPair h' to x y → Src t h' ja la (k + 1) xs → Src t2 h' jb lb (k + 1) ys → IsPair h' s.heap.objs.size x y → h'.objs.size = s.heap.objs.size + 1 →
      (∀ c o, c ≠ g → c ≠ to → c ≠ ja → c ≠ jb → s.heap.get? c = some o → h'.get? c = some o) → Q (some (.ref s.heap.objs.size)) { s with heap := h' }) :
    wpAny (model prog w) A (pyNext (.ref g)) Q E s := by
  obtain ⟨zi, pi, ⟨u, v, po⟩, sa, sb⟩ := Z
  have ty : s.TypeIs (.ref g) "zip" := ⟨_, zi, rfl⟩
  unfold pyNext
  refine PySem.wpAny_bind (wpAny_attempt (wpAny_callSpecial?_slot (name := Str.ofString "__next__") ty F.slot_zip_next
    (wpAny_call_entry F.slot_zip_next ty F.entry_zip_next (Q := fun r s1 => wpAny (model prog w) A (pure (some r)) Q E s1) ?_ (F.args_zip_next_1 _))))
  show wpAny _ _ (field (.ref g) 2 >>= _) _ _ _
  refine PySem.wpAny_bind (wpAny_field zi rfl (x := .bool false) rfl ?_)
  show wpAny _ _ (field (.ref g) 3 >>= _) _ _ _
  refine PySem.wpAny_bind (wpAny_field zi rfl (x := .ref ti) rfl ?_)
  refine PySem.wpAny_bind (wpAny_seqItems pi rfl ?_)
  show wpAny _ _ (Builtin.SmallTypes.ownedTupleIsFree (.ref g) >>= _) _ _ _
  refine PySem.wpAny_bind ?_
  unfold Builtin.SmallTypes.ownedTupleIsFree
  refine PySem.wpAny_bind (wpAny_field zi rfl (x := .none) rfl (wpAny_pure ?_))
  simp only [if_true]
  refine PySem.wpAny_bind (wpAny_rule ?_)
  refine PySem.wpAny_bind (wpAny_field zi rfl (x := .ref to) rfl ?_)
  refine PySem.wpAny_bind (wpAny_setField_rec zi (by simp) fun g1 zi1 s1 => ?_)
  replace zi1 : IsZip g1 g ti to .ellipsis := zi1
  refine PySem.wpAny_bind ?_
  simp only [List.zipIdx_cons, List.zipIdx_nil, List.forIn_cons, List.forIn_nil]
  refine PySem.wpAny_bind (PySem.wpAny_bind (wpAny_onRaise ?_))
  show wpAny _ _ (Builtin.SmallTypes.nextOf (.ref ja) >>= _) _ _ _
  refine PySem.wpAny_bind ((sa.off D.i1z D.l1z s1.extBut).next (Ne.symm D.l1i1) hx fun g2 sa2 s2 => wpAny_pure ?_)
  have po2 : IsPair g2 to u v := s2.extBut _ _ D.TOi1 (s1.extBut _ _ D.TOz po)
  refine PySem.wpAny_bind (wpAny_seqItems po2 rfl ?_)
  refine PySem.wpAny_bind (wpAny_updateSeq_pair po2 fun g3 po3 s3 => ?_)
  replace po3 : IsPair g3 to x v := po3
  refine PySem.wpAny_bind (wpAny_letGo (wpAny_pure ?_))
  refine PySem.wpAny_bind (PySem.wpAny_bind (wpAny_onRaise ?_))
  show wpAny _ _ (Builtin.SmallTypes.nextOf (.ref jb) >>= _) _ _ _
  refine PySem.wpAny_bind ((((sb.off D.i2z D.l2z s1.extBut).off D.i12.symm D.l2i1 s2.extBut).off D.TOi2.symm D.l2TO s3.extBut).next (Ne.symm D.l2i2) hy fun g4 sb4 s4 => wpAny_pure ?_)
  have po4 : IsPair g4 to x v := s4.extBut _ _ D.TOi2 po3
  refine PySem.wpAny_bind (wpAny_seqItems po4 rfl ?_)
  refine PySem.wpAny_bind (wpAny_updateSeq_pair po4 fun g5 po5 s5 => ?_)
  replace po5 : IsPair g5 to x y := po5
  refine PySem.wpAny_bind (wpAny_letGo (wpAny_pure (wpAny_pure ?_)))
  refine PySem.wpAny_bind (wpAny_seqItems po5 rfl ?_)
  refine PySem.wpAny_bind (wpAny_newTuple ?_)
  have sz : g5.objs.size = s.heap.objs.size := by rw [s5.1, s4.1, s3.1, s2.1, s1.1]
  have zi5 : IsZip g5 g ti to .ellipsis := s5.extBut _ _ D.TOz.symm (s4.extBut _ _ D.i2z.symm (s3.extBut _ _ D.TOz.symm (s2.extBut _ _ D.i1z.symm zi1)))
  have keep5 : ∀ c o, c ≠ g → c ≠ to → c ≠ ja → c ≠ jb → s.heap.get? c = some o → g5.get? c = some o := fun c o c1 c2 c3 c4 e =>
    s5.extBut _ _ c2 (s4.extBut _ _ c4 (s3.extBut _ _ c2 (s2.extBut _ _ c3 (s1.extBut _ _ c1 e))))
  have sa5 : Src t g5 ja la (k + 1) xs := ((sa2.off D.TOi1.symm D.l1TO s3.extBut).off D.i12 D.l1i2 s4.extBut).off D.TOi1.symm D.l1TO s5.extBut
  have sb5 : Src t2 g5 jb lb (k + 1) ys := sb4.off D.TOi2.symm D.l2TO s5.extBut
  have glt : g < g5.objs.size := Heap.lt_size zi5
  show wpAny _ _ (Builtin.SmallTypes.ownedTupleHandOut (.ref g) (.ref g5.objs.size) >>= _) _ _ _
  refine PySem.wpAny_bind ?_
  unfold Builtin.SmallTypes.ownedTupleHandOut
  have zi6 : IsZip (g5.push { cls := .type "tuple", data := .seq #[x, y] }) g ti to .ellipsis := Heap.get?_push_of_some _ zi5
  refine PySem.wpAny_bind (wpAny_setField_rec zi6 (by simp) fun g7 zi7 s7 => ?_)
  replace zi7 : IsZip g7 g ti to (rawInt g5.objs.size) := zi7
  refine wpAny_setField_rec zi7 (by simp) fun g8 zi8 s8 => ?_
  replace zi8 : IsZip g8 g ti to (rawInt g5.objs.size) := zi8
  have up : ∀ c o, c ≠ g → g5.get? c = some o → g8.get? c = some o := fun c o c1 e => s8.extBut _ _ c1 (s7.extBut _ _ c1 (Heap.get?_push_of_some _ e))
  have np8 : IsPair g8 g5.objs.size x y := s8.extBut _ _ (Nat.ne_of_gt glt) (s7.extBut _ _ (Nat.ne_of_gt glt) (Heap.get?_push_size _ rfl))
  have sz8 : g8.objs.size = g5.objs.size + 1 := by rw [s8.1, s7.1, Heap.size_push]
  rw [sz] at zi8 np8 sz8
  refine wpAny_pure ⟨_, rfl, ?_⟩
  show wpAny _ _ (pure (some (Value.ref g5.objs.size))) _ _ _
  rw [sz]
  refine wpAny_pure (hQ g8 zi8 (up _ _ D.TIz (keep5 _ _ D.TIz D.TITO D.TIi1 D.TIi2 pi)) (up _ _ D.TOz po5) (sa5.at (fun o e => up _ o D.i1z e) fun o e => up _ o D.l1z e) (sb5.at (fun o e => up _ o D.i2z e) fun o e => up _ o D.l2z e) np8 sz8 fun c o c1 c2 c3 c4 e => up c o c1 (keep5 c o c1 c2 c3 c4 e))
theorem Zp.ends {Q : Option Value → Shared → Prop} (hh : A.handled = none) (D : ZipApart g ti to ja jb la lb) (Z : Zp t t2 s.heap g ti to ja jb la lb k xs ys) (no : xs[k]? = none ∨ ys[k]? = none)
    (hQ : ∀ h', (∀ c o, c ≠ g → c ≠ to → c ≠ ja → c ≠ jb → s.heap.get? c = some o → h'.get? c = some o) → Q none { s with heap := h' }) : wpAny (model prog w) A (pyNext (.ref g)) Q E s := by
  obtain ⟨zi, pi, ⟨u, v, po⟩, sa, sb⟩ := Z
  have ty : s.TypeIs (.ref g) "zip" := ⟨_, zi, rfl⟩
  have fin : ∀ (h' : Heap) (e : Addr), (∀ c o, c ≠ g → c ≠ to → c ≠ ja → c ≠ jb → s.heap.get? c = some o → h'.get? c = some o) → (∃ o, h'.get? e = some o ∧ o.cls = .type "StopIteration") →
      wpAny (model prog w) A (do if (← isInstance (.ref e) (.type "StopIteration")) then pure none else throw (.ref e)) Q E { s with heap := h' } := fun h' e kp ⟨o, ho, hc⟩ =>
    PySem.wpAny_bind (wpAny_isInstance (T := "StopIteration") (b := true) ⟨o, ho, hc⟩ isSubtype_stop (wpAny_pure (hQ _ kp)))
  unfold pyNext
  refine PySem.wpAny_bind (wpAny_attempt (wpAny_callSpecial?_slot (name := Str.ofString "__next__") ty F.slot_zip_next
    (wpAny_call_entry F.slot_zip_next ty F.entry_zip_next ?_ (F.args_zip_next_1 _))))
  show wpAny _ _ (field (.ref g) 2 >>= _) _ _ _
  refine PySem.wpAny_bind (wpAny_field zi rfl (x := .bool false) rfl ?_)
  show wpAny _ _ (field (.ref g) 3 >>= _) _ _ _
  refine PySem.wpAny_bind (wpAny_field zi rfl (x := .ref ti) rfl ?_)
  refine PySem.wpAny_bind (wpAny_seqItems pi rfl ?_)
  show wpAny _ _ (Builtin.SmallTypes.ownedTupleIsFree (.ref g) >>= _) _ _ _
  refine PySem.wpAny_bind ?_
  unfold Builtin.SmallTypes.ownedTupleIsFree
  refine PySem.wpAny_bind (wpAny_field zi rfl (x := .none) rfl (wpAny_pure ?_))
  simp only [if_true]
  refine PySem.wpAny_bind (wpAny_rule ?_)
  refine PySem.wpAny_bind (wpAny_field zi rfl (x := .ref to) rfl ?_)
  refine PySem.wpAny_bind (wpAny_setField_rec zi (by simp) fun g1 zi1 s1 => ?_)
  replace zi1 : IsZip g1 g ti to .ellipsis := zi1
  refine PySem.wpAny_bind ?_
  simp only [List.zipIdx_cons, List.zipIdx_nil, List.forIn_cons, List.forIn_nil]
  refine PySem.wpAny_bind (PySem.wpAny_bind (wpAny_onRaise ?_))
  show wpAny _ _ (Builtin.SmallTypes.nextOf (.ref ja) >>= _) _ _ _
  cases hx : xs[k]? with
  | none =>
    refine PySem.wpAny_bind ((sa.off D.i1z D.l1z s1.extBut).ends hh hx fun g2 e s2 he => ?_)
    obtain ⟨oe, ho, hc⟩ := he
    have zi2 : IsZip g2 g ti to .ellipsis := s2 _ _ D.i1z.symm zi1
    have ne : e ≠ g := fun z => by subst z; rw [zi2] at ho; cases ho; simp at hc
    refine wpAny_setField_rec zi2 (by simp) fun g3 _ s3 => fin g3 e (fun c o c1 _ c3 _ z => s3.extBut _ _ c1 (s2 _ _ c3 (s1.extBut _ _ c1 z))) ⟨oe, s3.extBut _ _ ne ho, hc⟩
  | some x =>
    have hy : ys[k]? = none := by
      rcases no with h | h
      · rw [hx] at h; cases h
      · exact h
    refine PySem.wpAny_bind ((sa.off D.i1z D.l1z s1.extBut).next (Ne.symm D.l1i1) hx fun g2 sa2 s2 => wpAny_pure ?_)
    have po2 : IsPair g2 to u v := s2.extBut _ _ D.TOi1 (s1.extBut _ _ D.TOz po)
    refine PySem.wpAny_bind (wpAny_seqItems po2 rfl ?_)
    refine PySem.wpAny_bind (wpAny_updateSeq_pair po2 fun g3 po3 s3 => ?_)
    refine PySem.wpAny_bind (wpAny_letGo (wpAny_pure ?_))
    refine PySem.wpAny_bind (PySem.wpAny_bind (wpAny_onRaise ?_))
    show wpAny _ _ (Builtin.SmallTypes.nextOf (.ref jb) >>= _) _ _ _
    refine PySem.wpAny_bind ((((sb.off D.i2z D.l2z s1.extBut).off D.i12.symm D.l2i1 s2.extBut).off D.TOi2.symm D.l2TO s3.extBut).ends hh hy fun g4 e s4 he => ?_)
    obtain ⟨oe, ho, hc⟩ := he
    have zi4 : IsZip g4 g ti to .ellipsis := s4 _ _ D.i2z.symm (s3.extBut _ _ D.TOz.symm (s2.extBut _ _ D.i1z.symm (zi1)))
    have ne : e ≠ g := fun z => by subst z; rw [zi4] at ho; cases ho; simp at hc
    refine wpAny_setField_rec zi4 (by simp) fun g5 _ s5 => fin g5 e (fun c o c1 c2 c3 c4 z => s5.extBut _ _ c1 (s4 _ _ c4 (s3.extBut _ _ c2 (s2.extBut _ _ c3 (s1.extBut _ _ c1 z))))) ⟨oe, s5.extBut _ _ ne ho, hc⟩
/-! how it begins -/
theorem zipB_new {v1 v2 : Value} {o1 o2 : Obj} {G1 G2 : Heap → Prop} (B1 : Begins v1 o1 G1) (B2 : Begins v2 o2 G2) : Meets (Builtin.«zip.__new__» ⟨[.type "zip", v1, v2], []⟩)
    (fun _ R z => G1 z.heap ∧ G2 z.heap ∧ ∀ h3 h4 h5, h3 = ((z.heap.push o1).push o2).push { cls := .type "tuple", data := .seq #[.ref z.heap.objs.size, .ref (z.heap.push o1).objs.size] } → h4 = h3.push { cls := .type "tuple", data := .seq #[.none, .none] } →
      h5 = h4.push { cls := .type "zip", data := .fields #[.none, .bool false, .bool false, .ref ((z.heap.push o1).push o2).objs.size, .ref h3.objs.size] } → R (.ok (.ret (.ref h4.objs.size))) { z with heap := h5 }) :=
  .of_wp fun prog w A R z hz => by
    obtain ⟨hp, gs, dr, tk, os⟩ := z
    obtain ⟨g1, g2, r⟩ := hz
    have su := sub_zip
    have it1 : ∀ {A' : Around} {E : Value → Shared → Prop} {Q : Value → Shared → Prop}, Q (.ref hp.objs.size) ⟨hp.push o1, gs, dr, tk, os⟩ → wpAny (model prog w) A' (pyIter v1) Q E ⟨hp, gs, dr, tk, os⟩ :=
      fun q => B1.iter prog w _ _ ⟨hp, gs, dr, tk, os⟩ _ g1 q
    have it2 : ∀ {A' : Around} {E : Value → Shared → Prop} {Q : Value → Shared → Prop}, Q (.ref (hp.push o1).objs.size) ⟨(hp.push o1).push o2, gs, dr, tk, os⟩ → wpAny (model prog w) A' (pyIter v2) Q E ⟨hp.push o1, gs, dr, tk, os⟩ :=
      fun q => B2.iter prog w _ _ ⟨hp.push o1, gs, dr, tk, os⟩ _ (B2.keeps _ _ g2 fun b u e => Heap.get?_push_of_some _ e) q
    wp_walk using it1, it2
    exact ⟨_, rfl, r _ _ _ rfl rfl rfl⟩
end
end ZM
set_option Elab.async false
set_option linter.all false
set_option maxRecDepth 100001
set_option maxHeartbeats 999999
/-! zip of two sources, of which each is a list or a tuple: the rule -/
namespace ZM
open PySem PySem.Spec PyProof.Rows L2
/-- a tuple (t) or a list of these items -/
def SqB (K : PySem.W.Frag) (t : Bool) (H : Hp) (a : Addr) (xs : List V) : Prop := match t with
  | true => SqT K H a xs
  | false => SqL K H a xs
def obB (t : Bool) (a : Addr) : Obj := match t with
  | true => { cls := .type "tuple_iterator", data := .fields #[.ref a, .int 0 0] }
  | false => { cls := .type "list_iterator", data := .fields #[.ref a, .int 0 0] }
theorem begB (t : Bool) (a : Addr) (its : Array Value) : Begins (.ref a) (obB t a) fun h => InB t h a its := by
  cases t
  · exact begins_list a its
  · exact begins_tuple a its
theorem itB0 (t : Bool) {h : Heap} {it a : Addr} (e : h.get? it = some (obB t a)) : ItB t h it a 0 := by
  cases t <;> exact ⟨_, e, rfl, rfl⟩
section
variable {X : Cx} {pins : List (Addr × Obj)} {σ : L2.St} {H : Hp} {s : Shared} {a : Addr} {xs ys : List V} {t : Bool}
theorem inB_of (I : Inv X pins σ H s) (h : SqB X.K t H a xs) : ∃ its : List Value, Vals xs its ∧ InB t s.heap a its.toArray ∧ a < s.heap.objs.size := by
  cases t
  · obtain ⟨its, r, p, _⟩ := I.list h
    exact ⟨its, r, p.isList, p.lt⟩
  · obtain ⟨its, r, p, _⟩ := I.tuple h
    exact ⟨its, r, p, p.lt⟩
theorem sqB_inj (I : Inv X pins σ H s) (h : SqB X.K t H a xs) (h' : SqB X.K t H a ys) : xs = ys := by
  cases t
  · exact I.list_inj h h'
  · exact I.tuple_inj h h'
end
def ItzM (K : PySem.W.Frag) (t u : Bool) (a b : Addr) : It where
  go := fun i H => ∃ (xs ys : List V) (x y : V), SqB K t H a xs ∧ SqB K u H b ys ∧ xs[i]? = some x ∧ ys[i]? = some y
  yld := fun i H v H2 => ∃ p x y, v = .ref p ∧ H p = none ∧ H2 = upd H p (.tup [x, y]) ∧ (∀ xs, SqB K t H a xs → xs[i]? = some x) ∧ ∀ ys, SqB K u H b ys → ys[i]? = some y
  stop := fun i H => ∃ xs ys : List V, SqB K t H a xs ∧ SqB K u H b ys ∧ (xs.length ≤ i ∨ ys.length ≤ i)
theorem five {c g ti to ja jb : Addr} (h : c ∈ [g, ti, to, ja, jb]) : c = g ∨ c = ti ∨ c = to ∨ c = ja ∨ c = jb := by simpa using h
theorem turn_zipM {P : Program} {W : World} {K : PySem.W.Frag} {es : List Expr} {kk : Nat} {tp : Pos} {t u : Bool} {a b g ti to ja jb : Addr} (D : ZipApart g ti to ja jb a b) :
    Turn P W K (.Tuple es kk tp) (ItzM K t u a b) [g, ti, to, ja, jb] g (fun i h => IsZip h g ti to .none ∧ IsPair h ti (.ref ja) (.ref jb) ∧ (∃ x y, IsPair h to x y) ∧ ItB t h ja a i ∧ ItB u h jb b i) where
  mem := List.mem_cons_self
  obj := fun i h st c hc => by
    obtain ⟨zi, pi, ⟨x, y, po⟩, b1, b2⟩ := st
    rcases five hc with q | q | q | q | q
    · rw [q]; exact ⟨_, zi, fun v z => nomatch z⟩
    · rw [q]; exact ⟨_, pi, fun v z => nomatch z⟩
    · rw [q]; exact ⟨_, po, fun v z => nomatch z⟩
    · rw [q]; exact b1.obj
    · rw [q]; exact b2.obj
  keep := fun i h h2 st k => ⟨k g (by simp) _ st.1, k ti (by simp) _ st.2.1, let ⟨x, y, po⟩ := st.2.2.1; ⟨x, y, k to (by simp) _ po⟩, st.2.2.2.1.keep fun o q => k ja (by simp) o q, st.2.2.2.2.keep fun o q => k jb (by simp) o q⟩
  item := by
    intro X hP hW hK hc i pins s σ H E I hf st hg
    subst hP hW hK
    obtain ⟨zi, pi, po, b1, b2⟩ := st
    obtain ⟨xs, ys, x, y, q1, q2, hx, hy⟩ := hg
    obtain ⟨i1, r1, p1, _⟩ := inB_of I q1
    obtain ⟨i2, r2, p2, _⟩ := inB_of I q2
    obtain ⟨v1, hv1, rv1⟩ := r1.get hx
    obtain ⟨v2, hv2, rv2⟩ := r2.get hy
    have lg : g < s.heap.objs.size := Heap.lt_size zi
    have hts : ti < s.heap.objs.size ∧ to < s.heap.objs.size ∧ ja < s.heap.objs.size ∧ jb < s.heap.objs.size := by
      obtain ⟨_, _, po⟩ := po
      obtain ⟨_, e1, _⟩ := b1.obj
      obtain ⟨_, e2, _⟩ := b2.obj
      exact ⟨Heap.lt_size pi, Heap.lt_size po, Heap.lt_size e1, Heap.lt_size e2⟩
    have Z : Zp t u s.heap g ti to ja jb a b i i1.toArray i2.toArray := ⟨zi, pi, po, ⟨b1, p1⟩, ⟨b2, p2⟩⟩
    refine Z.item D (x := v1) (y := v2) (by simpa using hv1) (by simpa using hv2) fun h' zi' pi' po' a' b' np' sz' kp' => ?_
    refine ⟨_, rfl, wpAny_letOwnedTupleGo_zip (s := { s with heap := h' }) zi' fun h'' zi'' sb => ?_⟩
    have np'' : h''.get? s.heap.objs.size = some { cls := .type "tuple", data := .seq #[v1, v2] } := (sb.2 _ (Nat.ne_of_gt lg)).trans np'
    have new : ObjOk X.prog X.w (upd H s.heap.objs.size (.tup [x, y])) h'' s.heap.objs.size (.tup [x, y]) :=
      ⟨by show 2 ≤ sizeLine; decide, [v1, v2], .cons rv1 (.cons rv2 .nil), ⟨_, np'', rfl, _, rfl⟩⟩
    have J : Inv X pins σ (upd H s.heap.objs.size (.tup [x, y])) { s with heap := h'' } :=
      I.turnedNew (t' := s.toks) (ch := [g, ti, to, ja, jb]) (fun c o hb q => (sb.2 c fun z => hb (by simp [z])).trans (kp' c o (fun z => hb (by simp [z])) (fun z => hb (by simp [z])) (fun z => hb (by simp [z])) (fun z => hb (by simp [z])) q)) hf (Nat.le_refl _) new
    refine ⟨.ref s.heap.objs.size, _, J, rfl, ⟨_, x, y, rfl, I.hok.fresh (Nat.le_refl _), rfl, fun l hl => by rw [sqB_inj I hl q1]; exact hx, fun l hl => by rw [sqB_inj I hl q2]; exact hy⟩, ⟨zi'', ?_, ⟨v1, v2, ?_⟩, ?_, ?_⟩, fun c hcm => ?_⟩
    · exact (sb.2 _ D.TIz).trans pi'
    · exact (sb.2 _ D.TOz).trans po'
    · exact a'.1.keep fun o q => (sb.2 _ D.i1z).trans q
    · exact b'.1.keep fun o q => (sb.2 _ D.i2z).trans q
    · have lc : c < s.heap.objs.size := by
        rcases five hcm with q | q | q | q | q <;> rw [q]
        · exact lg
        · exact hts.1
        · exact hts.2.1
        · exact hts.2.2.1
        · exact hts.2.2.2
      rw [upd_ne (Nat.ne_of_lt lc)]
      exact (hf c hcm).1
  done := by
    intro X hP hW hK hc i pins s σ H E I hf st hg
    subst hP hW hK
    obtain ⟨zi, pi, po, b1, b2⟩ := st
    obtain ⟨xs, ys, q1, q2, no⟩ := hg
    obtain ⟨i1, r1, p1, _⟩ := inB_of I q1
    obtain ⟨i2, r2, p2, _⟩ := inB_of I q2
    have l1 := r1.length
    have l2 := r2.length
    have Z : Zp t u s.heap g ti to ja jb a b i i1.toArray i2.toArray := ⟨zi, pi, po, ⟨b1, p1⟩, ⟨b2, p2⟩⟩
    refine Z.ends (I.ok.hd hc) D (no.imp (fun z => by simp; omega) fun z => by simp; omega) fun h' kp => ⟨rfl, I.turnedL (t' := s.toks) (ch := [g, ti, to, ja, jb]) (fun c o hb q =>
      kp c o (fun z => hb (by simp [z])) (fun z => hb (by simp [z])) (fun z => hb (by simp [z])) (fun z => hb (by simp [z])) q) hf⟩
  self := fun A i s Q E st h => wpAny_pyIter_zip st.1 h
/-- zip(x, y): x a tuple (t) or a list, y a tuple (u) or a list -/
def iZipM (K : PySem.W.Frag) (t u : Bool) (ta : TA) : TI := fun σ H R => ta σ H fun vs H1 => ∃ a b xs ys, vs = [.ref a, .ref b] ∧ SqB K t H1 a xs ∧ SqB K u H1 b ys ∧ R (ItzM K t u a b) H1
theorem pi_zipM (t u : Bool) {X : Cx} {e e2 : Expr} {ta : TA} {p pos tp : Pos} {es : List Expr} {kk : Nat} (hm : X.mg "zip" = none) (ha : PA X [e, e2] ta) (hg : Gl X "zip" := by rfl)
    (hs : starEach [e, e2] X.env = (false, eval e X.env) :: starEach [e2] X.env := by rfl) (hpl : (backTo pos (starEach [e2] X.env)).any (·.1) = false := by rfl) :
    PI X (.Tuple es kk tp) (.Call (.Name "zip" p) [e, e2] [] pos) (iZipM X.K t u ta) := by
  constructor
  intro pins s σ H R I h
  refine Call_ (ld_blt I hg hm PyProof.Rows.boot_zip (PyProof.Rows.callWith_type1 (thn (ha.run pos pins s σ H _ I h) fun us s1 hh => ?_) hs hpl))
  obtain ⟨vs, H1, I1, r1, a, b, xs, ys, ex, q1, q2, q⟩ := hh
  subst ex
  cases r1 with
  | cons r rr =>
    cases rr with
    | cons r' rr =>
      cases rr
      cases r
      cases r'
      obtain ⟨i1, _, p1, l1⟩ := inB_of I1 q1
      obtain ⟨i2, _, p2, l2⟩ := inB_of I1 q2
      refine callType_new F.called_zip (by decide) (F.typeCall_zip_2 _ _) (F.newCall_zip_2 _ _) (fun ob => F.args_object_init_3 ob _ _) F.entry_zip_new (zipB_new (begB t a i1.toArray) (begB u b i2.toArray)) ⟨p1, p2, ?_⟩
      intro h3 h4 h5 e3 e4 e5
      have z1 : (s1.heap.push (obB t a)).objs.size = s1.heap.objs.size + 1 := Heap.size_push ..
      have z2 : ((s1.heap.push (obB t a)).push (obB u b)).objs.size = s1.heap.objs.size + 2 := by rw [Heap.size_push, z1]
      have z3 : h3.objs.size = s1.heap.objs.size + 3 := by rw [e3, Heap.size_push, z2]
      have z4 : h4.objs.size = s1.heap.objs.size + 4 := by rw [e4, Heap.size_push, z3]
      have up3 : ∀ c o, h3.get? c = some o → h5.get? c = some o := fun c o z => by rw [e5, e4]; exact Heap.get?_push_of_some _ (Heap.get?_push_of_some _ z)
      have k5 : h5.get? h4.objs.size = some { cls := .type "zip", data := .fields #[.none, .bool false, .bool false, .ref ((s1.heap.push (obB t a)).push (obB u b)).objs.size, .ref h3.objs.size] } := by rw [e5]; exact Heap.get?_push_size _ rfl
      have k4 : h5.get? h3.objs.size = some { cls := .type "tuple", data := .seq #[.none, .none] } := by rw [e5, e4]; exact Heap.get?_push_of_some _ (Heap.get?_push_size _ rfl)
      have k3 := up3 ((s1.heap.push (obB t a)).push (obB u b)).objs.size { cls := .type "tuple", data := .seq #[.ref s1.heap.objs.size, .ref (s1.heap.push (obB t a)).objs.size] } (by rw [e3]; exact Heap.get?_push_size _ rfl)
      have k2 := up3 (s1.heap.push (obB t a)).objs.size (obB u b) (by rw [e3]; exact Heap.get?_push_of_some _ (Heap.get?_push_size _ (begB u b #[]).free))
      have k1 := up3 s1.heap.objs.size (obB t a) (by rw [e3]; exact Heap.get?_push_of_some _ (Heap.get?_push_of_some _ (Heap.get?_push_size _ (begB t a #[]).free)))
      have kp : ∀ c o, s1.heap.get? c = some o → h5.get? c = some o := fun c o z => up3 c o (by rw [e3]; exact Heap.get?_push_of_some _ (Heap.get?_push_of_some _ (Heap.get?_push_of_some _ z)))
      rw [z2, z3, z4] at k5
      rw [z3] at k4
      rw [z1, z2] at k3
      rw [z1] at k2
      show _ ∧ _
      rw [z4]
      refine ⟨⟨_, k5, rfl⟩, wpAny_pyIter_zip k5 ?_⟩
      have J : Inv X pins σ H1 { s1 with heap := h5 } := I1.kept (t' := s1.toks) kp
      refine ⟨s1.heap.objs.size + 4, [s1.heap.objs.size + 4, s1.heap.objs.size + 2, s1.heap.objs.size + 3, s1.heap.objs.size, s1.heap.objs.size + 1], _, _, H1, rfl, J, turn_zipM (PySem.W.ktu_apart s1.heap.objs.size a b l1 l2), ⟨k5, k3, ⟨_, _, k4⟩, itB0 t k1, itB0 u k2⟩, fun c hcm => ?_, q⟩
      have ge : s1.heap.objs.size ≤ c := by
        rcases five hcm with z | z | z | z | z <;> rw [z]
        · exact Nat.le_add_right _ _
        · exact Nat.le_add_right _ _
        · exact Nat.le_add_right _ _
        · exact Nat.le_refl _
        · exact Nat.le_add_right _ _
      exact I1.fpOk ge (I1.hok.fresh ge)
theorem walk_zipM {K : PySem.W.Frag} {t u : Bool} {a b : Addr} {xs ys : List V} {n : Nat} (hn : n = min xs.length ys.length) : Walk (ItzM K t u a b) n (fun H => SqB K t H a xs ∧ SqB K u H b ys) (YPair (fun i => xs[i]?) fun i => ys[i]?) where
  goes := fun i _ hi q => ⟨xs, ys, xs[i]'(by omega), ys[i]'(by omega), q.1, q.2, List.getElem?_eq_getElem _, List.getElem?_eq_getElem _⟩
  stops := fun _ q => ⟨xs, ys, q.1, q.2, by omega⟩
  yields := fun i H v H2 _ q y => let ⟨p, x, z, h1, h2, h3, h4, h5⟩ := y; ⟨p, x, z, h1, h2, h3, h4 xs q.1, h5 ys q.2⟩
end ZM
set_option linter.all false
namespace Huff
/-! ### the least cost by joining the two least counts, again and again -/
abbrev Asc (l : List Nat) : Prop := l.Pairwise (· ≤ ·)
def ins (a : Nat) : List Nat → List Nat
  | [] => [a]
  | b :: r => if a ≤ b then a :: b :: r else b :: ins a r
def srt : List Nat → List Nat
  | [] => []
  | a :: r => ins a (srt r)
theorem ins_perm (a : Nat) : ∀ l : List Nat, (ins a l).Perm (a :: l)
  | [] => .refl _
  | b :: r => by
    unfold ins
    split
    · exact .refl _
    · exact ((ins_perm a r).cons b).trans (.swap a b r)
theorem srt_perm : ∀ l : List Nat, (srt l).Perm l
  | [] => .refl _
  | a :: r => (ins_perm a (srt r)).trans ((srt_perm r).cons a)
theorem ins_asc (a : Nat) : ∀ {l : List Nat}, Asc l → Asc (ins a l)
  | [], _ => .cons (fun _ h => nomatch h) .nil
  | b :: r, h => by
    obtain ⟨h1, h2⟩ := List.pairwise_cons.mp h
    unfold ins
    split
    · rename_i c
      refine .cons (fun z hz => ?_) h
      rcases List.mem_cons.mp hz with rfl | hz
      · exact c
      · exact Nat.le_trans c (h1 z hz)
    · rename_i c
      refine .cons (fun z hz => ?_) (ins_asc a h2)
      rcases List.mem_cons.mp ((ins_perm a r).subset hz) with rfl | hz
      · omega
      · exact h1 z hz
theorem srt_asc : ∀ l : List Nat, Asc (srt l)
  | [] => .nil
  | a :: r => ins_asc a (srt_asc r)
theorem asc_uniq : ∀ {a b : List Nat}, Asc a → Asc b → a.Perm b → a = b
  | [], b, _, _, p => (List.nil_perm.mp p).symm
  | x :: a, [], _, _, p => by
    have := p.length_eq
    simp at this
  | x :: a, y :: b, h1, h2, p => by
    obtain ⟨g1, g2⟩ := List.pairwise_cons.mp h1
    obtain ⟨k1, k2⟩ := List.pairwise_cons.mp h2
    have e : x = y := by
      have m1 : x ∈ y :: b := p.subset List.mem_cons_self
      have m2 : y ∈ x :: a := p.symm.subset List.mem_cons_self
      rcases List.mem_cons.mp m1 with e | m1
      · exact e
      · rcases List.mem_cons.mp m2 with e | m2
        · exact e.symm
        · exact Nat.le_antisymm (g1 y m2) (k1 x m1)
    subst e
    rw [asc_uniq g2 k2 ((List.perm_cons x).mp p)]
theorem srt_eq {a b : List Nat} (h : Asc b) (p : a.Perm b) : srt a = b := asc_uniq (srt_asc a) h ((srt_perm a).trans p)
theorem srt_congr {a b : List Nat} (p : a.Perm b) : srt a = srt b := asc_uniq (srt_asc a) (srt_asc b) ((srt_perm a).trans (p.trans (srt_perm b).symm))
def hfF : Nat → List Nat → Nat
  | f + 1, a :: b :: r => (a + b) + hfF f (ins (a + b) r)
  | _, _ => 0
def hf (l : List Nat) : Nat := hfF l.length (srt l)
theorem hf_perm {a b : List Nat} (p : a.Perm b) : hf a = hf b := by
  unfold hf
  rw [p.length_eq, srt_congr p]
theorem hf_one (a : Nat) : hf [a] = 0 := rfl
theorem hf_two {l g : List Nat} {x y : Nat} (p : l.Perm (x :: y :: g)) (h : x ≤ y) (hg : ∀ z ∈ g, y ≤ z) : hf l = (x + y) + hf ((x + y) :: g) := by
  have e : srt l = x :: y :: srt g := by
    refine srt_eq (.cons (fun z hz => ?_) (.cons (fun z hz => hg z ((srt_perm g).subset hz)) (srt_asc g))) (p.trans (((srt_perm g).symm.cons y).cons x))
    rcases List.mem_cons.mp hz with rfl | hz
    · exact h
    · exact Nat.le_trans h (hg z ((srt_perm g).subset hz))
  unfold hf
  rw [e, p.length_eq]
  rfl
/-! ### full codes -/
def kl (L : Nat) (ls : List Nat) : Nat := (ls.map fun l => 2 ^ (L - l)).sum
theorem kl_cons (L a : Nat) (r : List Nat) : kl L (a :: r) = 2 ^ (L - a) + kl L r := rfl
theorem sum_perm {a b : List Nat} (p : a.Perm b) : a.sum = b.sum := p.sum_nat
theorem kl_perm {L : Nat} {a b : List Nat} (p : a.Perm b) : kl L a = kl L b := sum_perm (p.map _)
/-- counts with lengths: what they cost -/
def cst (ps : List (Nat × Nat)) : Nat := (ps.map fun p => p.1 * p.2).sum
theorem cst_cons (p : Nat × Nat) (r : List (Nat × Nat)) : cst (p :: r) = p.1 * p.2 + cst r := rfl
theorem cst_perm {a b : List (Nat × Nat)} (p : a.Perm b) : cst a = cst b := sum_perm (p.map _)
theorem le_min : ∀ {l : List Nat}, l ≠ [] → ∃ m ∈ l, ∀ z ∈ l, m ≤ z
  | [], h => absurd rfl h
  | [a], _ => ⟨a, List.mem_cons_self, fun z hz => by rw [List.mem_singleton.mp hz]; exact Nat.le_refl _⟩
  | a :: b :: r, _ => by
    obtain ⟨m, h1, h2⟩ := le_min (l := b :: r) (by simp)
    by_cases c : a ≤ m
    · refine ⟨a, List.mem_cons_self, fun z hz => ?_⟩
      rcases List.mem_cons.mp hz with rfl | hz
      · exact Nat.le_refl _
      · exact Nat.le_trans c (h2 z hz)
    · refine ⟨m, List.mem_cons_of_mem _ h1, fun z hz => ?_⟩
      rcases List.mem_cons.mp hz with rfl | hz
      · omega
      · exact h2 z hz
theorem le_max : ∀ {l : List Nat}, l ≠ [] → ∃ m ∈ l, ∀ z ∈ l, z ≤ m
  | [], h => absurd rfl h
  | [a], _ => ⟨a, List.mem_cons_self, fun z hz => by rw [List.mem_singleton.mp hz]; exact Nat.le_refl _⟩
  | a :: b :: r, _ => by
    obtain ⟨m, h1, h2⟩ := le_max (l := b :: r) (by simp)
    by_cases c : m ≤ a
    · refine ⟨a, List.mem_cons_self, fun z hz => ?_⟩
      rcases List.mem_cons.mp hz with rfl | hz
      · exact Nat.le_refl _
      · exact Nat.le_trans (h2 z hz) c
    · refine ⟨m, List.mem_cons_of_mem _ h1, fun z hz => ?_⟩
      rcases List.mem_cons.mp hz with rfl | hz
      · omega
      · exact h2 z hz
theorem mem_perm {α : Type} {a : α} : ∀ {l : List α}, a ∈ l → ∃ r, l.Perm (a :: r)
  | b :: r, h => by
    rcases List.mem_cons.mp h with rfl | h
    · exact ⟨r, .refl _⟩
    · obtain ⟨s, hs⟩ := mem_perm h
      exact ⟨b :: s, (hs.cons b).trans (.swap a b s)⟩
/-- the exchange: the least count takes the greatest length -/
theorem exch {ps : List (Nat × Nat)} {w M : Nat} (hw : w ∈ ps.map (·.1)) (hM : M ∈ ps.map (·.2)) (lw : ∀ p ∈ ps, w ≤ p.1) (lM : ∀ p ∈ ps, p.2 ≤ M) :
    ∃ r, (ps.map (·.1)).Perm (w :: r.map (·.1)) ∧ (ps.map (·.2)).Perm (M :: r.map (·.2)) ∧ w * M + cst r ≤ cst ps := by
  obtain ⟨⟨w', l⟩, m1, rfl⟩ := List.mem_map.mp hw
  obtain ⟨⟨v, M'⟩, m2, rfl⟩ := List.mem_map.mp hM
  obtain ⟨s, hs⟩ := mem_perm m1
  dsimp only at lw lM ⊢
  rcases List.mem_cons.mp (hs.subset m2) with e | m3
  · cases e
    refine ⟨s, hs.map (·.1), hs.map (·.2), ?_⟩
    rw [cst_perm hs, cst_cons]
    exact Nat.le_refl _
  · obtain ⟨t, ht⟩ := mem_perm m3
    have hp := hs.trans (ht.cons _)
    refine ⟨(v, l) :: t, ?_, ?_, ?_⟩
    · exact hp.map (·.1)
    · exact (hp.map (·.2)).trans (.swap _ _ _)
    · rw [cst_perm hp, cst_cons, cst_cons, cst_cons]
      dsimp only
      have h1 := lw _ m2
      have h2 := lM _ m1
      dsimp only at h1 h2
      obtain ⟨a, rfl⟩ := Nat.exists_eq_add_of_le h1
      obtain ⟨b, rfl⟩ := Nat.exists_eq_add_of_le h2
      simp only [Nat.mul_add, Nat.add_mul]
      have : 0 ≤ a * b := Nat.zero_le _
      omega
theorem kl_parity {M : Nat} : ∀ {ls : List Nat}, (∀ l ∈ ls, l ≤ M) → kl M ls % 2 = ls.count M % 2
  | [], _ => rfl
  | a :: r, h => by
    have ih := kl_parity (ls := r) fun l hl => h l (List.mem_cons_of_mem _ hl)
    have ha := h a List.mem_cons_self
    rw [kl_cons, List.count_cons]
    by_cases c : a = M
    · subst c
      rw [Nat.sub_self, if_pos (by exact beq_self_eq_true a)]
      show (1 + _) % 2 = _
      omega
    · rw [if_neg (by simpa using c), show M - a = (M - a - 1) + 1 by omega, Nat.pow_succ]
      omega
theorem kl_scale {L M : Nat} (h : M ≤ L) : ∀ {ls : List Nat}, (∀ l ∈ ls, l ≤ M) → kl L ls = 2 ^ (L - M) * kl M ls
  | [], _ => by simp [kl]
  | a :: r, hl => by
    have ha := hl a List.mem_cons_self
    rw [kl_cons, kl_cons, kl_scale h (ls := r) fun l z => hl l (List.mem_cons_of_mem _ z), Nat.mul_add, ← Nat.pow_add, show L - M + (M - a) = L - a by omega]
theorem kl_max {L M : Nat} (h : M ≤ L) {ls : List Nat} (hl : ∀ l ∈ ls, l ≤ M) (k : kl L ls = 2 ^ L) : kl M ls = 2 ^ M := by
  rw [kl_scale h hl, show L = (L - M) + M by omega, Nat.pow_add, show L - M + M - M = L - M by omega] at k
  exact Nat.eq_of_mul_eq_mul_left (Nat.two_pow_pos _) k
theorem kl_pos : ∀ {ls : List Nat}, ls ≠ [] → ∀ L, 0 < kl L ls
  | [], h, _ => absurd rfl h
  | a :: r, _, L => by
    rw [kl_cons]
    have := Nat.two_pow_pos (L - a)
    omega
/-- two words of the greatest length at least -/
theorem kl_twice {L M : Nat} {ls : List Nat} (n : 2 ≤ ls.length) (h : M ≤ L) (hl : ∀ l ∈ ls, l ≤ M) (m : M ∈ ls) (k : kl L ls = 2 ^ L) : 1 ≤ M ∧ ∃ r, ls.Perm (M :: M :: r) := by
  have k2 := kl_max h hl k
  have M1 : 1 ≤ M := by
    cases M with
    | zero =>
      exfalso
      match ls, n with
      | a :: b :: r, _ =>
        rw [kl_cons, kl_cons, Nat.zero_sub, Nat.zero_sub] at k2
        simp only [Nat.pow_zero] at k2
        omega
    | succ M => omega
  refine ⟨M1, ?_⟩
  obtain ⟨r, hr⟩ := mem_perm m
  have pr := kl_parity hl
  rw [k2, hr.count_eq, List.count_cons_self, show M = (M - 1) + 1 by omega, Nat.pow_succ] at pr
  have : 0 < r.count (M - 1 + 1) := by omega
  rw [show M - 1 + 1 = M by omega] at this
  obtain ⟨s, hs⟩ := mem_perm (List.count_pos_iff.mp this)
  exact ⟨s, hr.trans (hs.cons M)⟩
/-- no full code costs less -/
theorem opt : ∀ (n : Nat) (ps : List (Nat × Nat)) (L : Nat), ps.length = n → 1 ≤ n → (∀ p ∈ ps, p.2 ≤ L) → kl L (ps.map (·.2)) = 2 ^ L → hf (ps.map (·.1)) ≤ cst ps
  | 0, _, _, _, h, _, _ => absurd h (by decide)
  | 1, [p], _, _, _, _, _ => Nat.zero_le _
  | n + 2, ps, L, en, _, lb, k => by
    have ne : ps.map (·.2) ≠ [] := by
      intro e
      have := congrArg List.length e
      rw [List.length_map, en] at this
      cases this
    have ne1 : ps.map (·.1) ≠ [] := by
      intro e
      have := congrArg List.length e
      rw [List.length_map, en] at this
      cases this
    obtain ⟨M, mM, hM⟩ := le_max ne
    obtain ⟨w, mw, hw⟩ := le_min ne1
    have M_L : M ≤ L := by
      obtain ⟨p, mp, rfl⟩ := List.mem_map.mp mM
      exact lb p mp
    obtain ⟨M1, s, hs⟩ := kl_twice (by rw [List.length_map, en]; omega) M_L hM mM k
    obtain ⟨r, p1, p2, c1⟩ := exch mw mM (fun p hp => hw _ (List.mem_map_of_mem hp)) (fun p hp => hM _ (List.mem_map_of_mem hp))
    have pr2 : (r.map (·.2)).Perm (M :: s) := (List.perm_cons M).mp (p2.symm.trans hs)
    have mM2 : M ∈ r.map (·.2) := pr2.symm.subset List.mem_cons_self
    have lr : r.length = n + 1 := by
      have := p1.length_eq
      rw [List.length_map, List.length_cons, List.length_map, en] at this
      omega
    have ne2 : r.map (·.1) ≠ [] := by
      intro e
      have := congrArg List.length e
      rw [List.length_map, lr] at this
      cases this
    obtain ⟨v, mv, hv⟩ := le_min ne2
    have hM2 : ∀ p ∈ r, p.2 ≤ M := fun p hp => hM _ (p2.symm.subset (List.mem_cons_of_mem _ (List.mem_map_of_mem hp)))
    obtain ⟨q, q1, q2, c2⟩ := exch mv mM2 (fun p hp => hv _ (List.mem_map_of_mem hp)) hM2
    have pw := p1.trans (q1.cons w)
    have pl := p2.trans (q2.cons M)
    have wv : w ≤ v := hw v (p1.symm.subset (List.mem_cons_of_mem _ mv))
    have vq : ∀ z ∈ q.map (·.1), v ≤ z := fun z hz => hv z (q1.symm.subset (List.mem_cons_of_mem _ hz))
    rw [hf_two pw wv vq]
    have lq : q.length = n := by
      have := q1.length_eq
      rw [List.length_map, List.length_cons, List.length_map, lr] at this
      omega
    have ih : hf ((w + v) :: q.map (·.1)) ≤ (w + v) * (M - 1) + cst q := opt (n + 1) ((w + v, M - 1) :: q) L (by rw [List.length_cons, lq]) (by omega) (fun p hp => ?_) ?_
    · have e : (w + v) * M = (w + v) * (M - 1) + (w + v) := by
        conv => lhs; rw [show M = (M - 1) + 1 by omega]
        rw [Nat.mul_add, Nat.mul_one]
      rw [Nat.add_mul w v M] at e
      omega
    · rcases List.mem_cons.mp hp with rfl | hp
      · show M - 1 ≤ L
        omega
      · have := hM _ (pl.symm.subset (List.mem_cons_of_mem _ (List.mem_cons_of_mem _ (List.mem_map_of_mem (f := (·.2)) hp))))
        exact Nat.le_trans this M_L
    · rw [kl_perm pl, kl_cons, kl_cons] at k
      show kl L ((M - 1) :: q.map (·.2)) = _
      rw [kl_cons, ← k, show L - (M - 1) = (L - M) + 1 by omega, Nat.pow_succ]
      omega
end Huff
set_option linter.all false
namespace Huff
/-- a count with the number of its node -/
abbrev It := Nat × Nat
inductive Chain (n : Nat) (I0 : List It) : List (Nat × Nat) → List Nat → List It → Prop
  | nil {I : List It} : I.Perm I0 → Chain n I0 [] [] I
  | snoc {js : List (Nat × Nat)} {ms : List Nat} {I I' G : List It} {x y : It} : Chain n I0 js ms I → I.Perm (x :: y :: G) → x.1 ≤ y.1 → (∀ z ∈ G, y.1 ≤ z.1) → I'.Perm ((x.1 + y.1, n + js.length) :: G) →
      Chain n I0 (js ++ [(x.2, y.2)]) (ms ++ [x.1 + y.1]) I'
variable {n : Nat} {I0 I : List It} {js : List (Nat × Nat)} {ms : List Nat}
theorem Chain.len (c : Chain n I0 js ms I) : ms.length = js.length ∧ I.length + js.length = I0.length := by
  induction c with
  | nil p => exact ⟨rfl, p.length_eq⟩
  | snoc c p _ _ p' ih =>
    have h1 := p.length_eq
    have h2 := p'.length_eq
    simp only [List.length_append, List.length_cons, List.length_nil] at *
    omega
theorem Chain.hf (c : Chain n I0 js ms I) : Huff.hf (I0.map (·.1)) = ms.sum + Huff.hf (I.map (·.1)) := by
  induction c with
  | nil p => rw [hf_perm (p.map (·.1))]; simp
  | @snoc js ms I I' G x y c p h1 h2 p' ih =>
    have e : Huff.hf (I.map (·.1)) = (x.1 + y.1) + Huff.hf ((x.1 + y.1) :: G.map (·.1)) := hf_two (p.map (·.1)) h1 (fun z hz => by obtain ⟨v, hv, rfl⟩ := List.mem_map.mp hz; exact h2 v hv)
    have e2 : Huff.hf (I'.map (·.1)) = Huff.hf ((x.1 + y.1) :: G.map (·.1)) := hf_perm (p'.map (·.1))
    rw [ih, e, e2, List.sum_append, List.sum_singleton]
    omega
theorem Chain.ids (c : Chain n I0 js ms I) (nd : (I0.map (·.2)).Nodup) (lt : ∀ v ∈ I0, v.2 < n) : (I.map (·.2)).Nodup ∧ ∀ v ∈ I, v.2 < n + js.length := by
  induction c with
  | nil p => exact ⟨(p.map (·.2)).nodup_iff.mpr nd, fun v hv => lt v (p.subset hv)⟩
  | @snoc js ms I I' G x y c p h1 h2 p' ih =>
    obtain ⟨a, b⟩ := ih
    have a2 := (p.map (·.2)).nodup_iff.mp a
    obtain ⟨_, a3⟩ := List.nodup_cons.mp a2
    obtain ⟨_, a4⟩ := List.nodup_cons.mp a3
    have bG : ∀ v ∈ G, v.2 < n + js.length := fun v hv => b v (p.symm.subset (List.mem_cons_of_mem _ (List.mem_cons_of_mem _ hv)))
    refine ⟨(p'.map (·.2)).nodup_iff.mpr (List.nodup_cons.mpr ⟨fun z => ?_, a4⟩), fun v hv => ?_⟩
    · obtain ⟨v, hv, e⟩ := List.mem_map.mp z
      have := bG v hv
      dsimp only at e
      omega
    · rw [List.length_append]
      rcases List.mem_cons.mp (p'.subset hv) with rfl | hv
      · exact Nat.lt_succ_self _
      · have := bG v hv
        exact Nat.lt_succ_of_lt this
/-- how deep the nodes lie -/
structure Deep (L : Nat) (d : Nat → Nat) (I : List It) (t b : Nat) : Prop where
  kr : (I.map fun v => 2 ^ (L - d v.2)).sum = 2 ^ L
  co : (I.map fun v => v.1 * d v.2).sum = t
  hi : ∀ v ∈ I, d v.2 ≤ b
theorem Deep.perm {L : Nat} {d : Nat → Nat} {I I' : List It} {t b : Nat} (h : Deep L d I t b) (p : I.Perm I') : Deep L d I' t b :=
  ⟨by rw [← h.kr]; exact (sum_perm (p.map _)).symm, by rw [← h.co]; exact (sum_perm (p.map _)).symm, fun v hv => h.hi v (p.symm.subset hv)⟩
theorem Chain.back {p q : Nat} {L t b : Nat} {d d' : Nat → Nat} (c : Chain n I0 (js ++ [(p, q)]) ms I) (nd : (I0.map (·.2)).Nodup) (lt : ∀ v ∈ I0, v.2 < n) (h : Deep L d I t b) (hb : b < L)
    (e1 : d' p = d (n + js.length) + 1) (e2 : d' q = d (n + js.length) + 1) (e3 : ∀ v, v ≠ p → v ≠ q → d' v = d v) :
    p < n + js.length ∧ q < n + js.length ∧ p ≠ q ∧ ∃ ms' s I', ms = ms' ++ [s] ∧ Chain n I0 js ms' I' ∧ Deep L d' I' (t + s) (b + 1) := by
  generalize ej : js ++ [(p, q)] = js2 at c
  cases c with
  | nil _ => simp at ej
  | @snoc js1 ms1 I1 _ G x y c pm h1 h2 p' =>
    obtain ⟨rfl, e⟩ := List.append_inj' ej rfl
    obtain ⟨a, bb⟩ := c.ids nd lt
    have a2 := (pm.map (·.2)).nodup_iff.mp a
    have ex : p = x.2 ∧ q = y.2 := by
      have := List.singleton_inj.mp e
      exact ⟨congrArg Prod.fst this, congrArg Prod.snd this⟩
    obtain ⟨rfl, rfl⟩ := ex
    obtain ⟨a3, a4⟩ := List.nodup_cons.mp a2
    obtain ⟨a5, _⟩ := List.nodup_cons.mp a4
    have ne : x.2 ≠ y.2 := fun z => a3 (by show x.2 ∈ _; rw [z]; exact List.mem_cons_self)
    have eG : ∀ v ∈ G, d' v.2 = d v.2 := fun v hv => e3 _ (fun z => a3 (List.mem_cons_of_mem _ (List.mem_map.mpr ⟨v, hv, z⟩))) (fun z => a5 (List.mem_map.mpr ⟨v, hv, z⟩))
    have H := h.perm p'
    have k1 := H.kr
    have k2 := H.co
    have k3 := H.hi _ List.mem_cons_self
    simp only [List.map_cons, List.sum_cons] at k1 k2
    dsimp only at k3
    refine ⟨bb x (pm.symm.subset List.mem_cons_self), bb y (pm.symm.subset (List.mem_cons_of_mem _ List.mem_cons_self)), ne, ms1, x.1 + y.1, I1, rfl, c, Deep.perm (I := x :: y :: G) ⟨?_, ?_, ?_⟩ pm.symm⟩
    · simp only [List.map_cons, List.sum_cons]
      rw [e1, e2, List.map_congr_left (fun v hv => by rw [eG v hv]) (g := fun v => 2 ^ (L - d v.2)), ← k1, show L - d (n + js.length) = (L - (d (n + js.length) + 1)) + 1 by omega, Nat.pow_succ]
      omega
    · simp only [List.map_cons, List.sum_cons]
      rw [e1, e2, List.map_congr_left (fun v hv => by rw [eG v hv]) (g := fun v => v.1 * d v.2), ← k2, Nat.mul_add, Nat.mul_add, Nat.add_mul]
      omega
    · intro v hv
      rcases List.mem_cons.mp hv with rfl | hv
      · rw [e1]
        omega
      · rcases List.mem_cons.mp hv with rfl | hv
        · rw [e2]
          omega
        · rw [eG v hv]
          have := H.hi v (List.mem_cons_of_mem _ hv)
          omega
/-! ### two rows, each ascending -/
abbrev AscI (l : List It) : Prop := l.Pairwise fun a b => a.1 ≤ b.1
def Pk (lv md : List It) (x : It) (lv' md' : List It) : Prop := (lv = x :: lv' ∧ md' = md ∧ ∀ z ∈ md, x.1 ≤ z.1) ∨ (md = x :: md' ∧ lv' = lv ∧ ∀ z ∈ lv, x.1 ≤ z.1)
theorem Pk.perm {lv md lv' md' : List It} {x : It} (h : Pk lv md x lv' md') : (lv ++ md).Perm (x :: (lv' ++ md')) := by
  rcases h with ⟨rfl, rfl, _⟩ | ⟨rfl, rfl, _⟩
  · exact .refl _
  · exact List.perm_middle
theorem Pk.asc {lv md lv' md' : List It} {x : It} (h : Pk lv md x lv' md') (a : AscI lv) (b : AscI md) : AscI lv' ∧ AscI md' ∧ ∀ z ∈ lv' ++ md', x.1 ≤ z.1 := by
  rcases h with ⟨rfl, rfl, h⟩ | ⟨rfl, rfl, h⟩
  · obtain ⟨a1, a2⟩ := List.pairwise_cons.mp a
    exact ⟨a2, b, fun z hz => (List.mem_append.mp hz).elim (a1 z) (h z)⟩
  · obtain ⟨a1, a2⟩ := List.pairwise_cons.mp b
    exact ⟨a, a2, fun z hz => (List.mem_append.mp hz).elim (h z) (a1 z)⟩
theorem Pk.sub {lv md lv' md' : List It} {x : It} (h : Pk lv md x lv' md') : (∀ z ∈ lv', z ∈ lv) ∧ ∀ z ∈ md', z ∈ md := by
  rcases h with ⟨rfl, rfl, h⟩ | ⟨rfl, rfl, h⟩
  · exact ⟨fun z hz => List.mem_cons_of_mem _ hz, fun z hz => hz⟩
  · exact ⟨fun z hz => hz, fun z hz => List.mem_cons_of_mem _ hz⟩
/-- the two rows, and what is known of them -/
structure Two (lv md : List It) : Prop where
  l : AscI lv
  m : AscI md
  pq : ∃ p q : Nat, (∀ z ∈ md, z.1 ≤ p + q) ∧ ∀ z ∈ lv ++ md, p ≤ z.1 ∧ q ≤ z.1
theorem Two.start {lv : List It} (h : AscI lv) : Two lv [] := ⟨h, .nil, 0, 0, (fun z hz => nomatch hz), fun z _ => ⟨Nat.zero_le _, Nat.zero_le _⟩⟩
theorem Two.step {lv md lv1 md1 lv2 md2 : List It} {x y : It} {i : Nat} (t : Two lv md) (k1 : Pk lv md x lv1 md1) (k2 : Pk lv1 md1 y lv2 md2) :
    (lv ++ md).Perm (x :: y :: (lv2 ++ md2)) ∧ x.1 ≤ y.1 ∧ (∀ z ∈ lv2 ++ md2, y.1 ≤ z.1) ∧ Two lv2 (md2 ++ [(x.1 + y.1, i)]) := by
  obtain ⟨a1, b1, c1⟩ := k1.asc t.l t.m
  obtain ⟨a2, b2, c2⟩ := k2.asc a1 b1
  have xy : x.1 ≤ y.1 := c1 y (k2.perm.symm.subset List.mem_cons_self)
  obtain ⟨p, q, h1, h2⟩ := t.pq
  have hx := h2 x (k1.perm.symm.subset List.mem_cons_self)
  have hy := h2 y (k1.perm.symm.subset (List.mem_cons_of_mem _ (k2.perm.symm.subset List.mem_cons_self)))
  have hm : ∀ z ∈ md2, z.1 ≤ x.1 + y.1 := fun z hz => by
    have := h1 z (k1.sub.2 z (k2.sub.2 z hz))
    omega
  refine ⟨k1.perm.trans (k2.perm.cons x), xy, c2, a2, List.pairwise_append.mpr ⟨b2, .cons (fun z hz => nomatch hz) .nil, fun z hz u hu => ?_⟩, x.1, y.1, fun z hz => ?_, fun z hz => ?_⟩
  · rw [List.mem_singleton.mp hu]
    exact hm z hz
  · rcases List.mem_append.mp hz with hz | hz
    · exact hm z hz
    · rw [List.mem_singleton.mp hz]
      exact Nat.le_refl _
  · rw [← List.append_assoc] at hz
    rcases List.mem_append.mp hz with hz | hz
    · have := c2 z hz
      omega
    · rw [List.mem_singleton.mp hz]
      dsimp only
      omega
end Huff
set_option linter.all false
namespace Huff
/-- lengths times counts, added up -/
def dot (ls cs : List Nat) : Nat := cst (cs.zip ls)
theorem cst_zip_fst {cs ls : List Nat} (h : cs.length = ls.length) : (cs.zip ls).map (·.1) = cs := by
  rw [← List.unzip_fst, List.unzip_zip_left (by omega)]
theorem cst_zip_snd {cs ls : List Nat} (h : cs.length = ls.length) : (cs.zip ls).map (·.2) = ls := by
  rw [← List.unzip_snd, List.unzip_zip_right (by omega)]
/-- lengths of a full code -/
def Full (ls : List Nat) : Prop := ∃ L, (∀ l ∈ ls, l ≤ L) ∧ kl L ls = 2 ^ L
/-- no full code costs less than joining -/
theorem hf_le {cs ls : List Nat} (h : cs.length = ls.length) (n : 1 ≤ ls.length) (f : Full ls) : hf cs ≤ dot ls cs := by
  obtain ⟨L, h1, h2⟩ := f
  have := opt ls.length (cs.zip ls) L (by rw [List.length_zip]; omega) n (fun p hp => h1 _ (List.of_mem_zip hp).2) (by rw [cst_zip_snd h]; exact h2)
  rw [cst_zip_fst h] at this
  exact this
theorem dot_cons (l c : Nat) (ls cs : List Nat) : dot (l :: ls) (c :: cs) = c * l + dot ls cs := rfl
theorem dot_nil (cs : List Nat) : dot [] cs = 0 := by
  unfold dot
  rw [List.zip_nil_right]
  rfl
/-- counts and so many steps -/
def stp (cs ss : List Nat) (m : Nat) : List Nat := List.zipWith (fun c s => c + m * s) cs ss
theorem stp_len {cs ss : List Nat} {m : Nat} (h : ss.length = cs.length) : (stp cs ss m).length = cs.length := by
  unfold stp
  rw [List.length_zipWith]
  omega
theorem dot_stp : ∀ (ls cs ss : List Nat) (m : Nat), ss.length = cs.length → dot ls (stp cs ss m) = dot ls cs + m * dot ls ss
  | [], _, _, _, _ => by rw [dot_nil, dot_nil, dot_nil]; rfl
  | l :: ls, [], [], m, _ => by simp [stp, dot, cst]
  | l :: ls, c :: cs, s :: ss, m, h => by
    have ih := dot_stp ls cs ss m (by simpa using h)
    show dot (l :: ls) ((c + m * s) :: stp cs ss m) = _
    rw [dot_cons, dot_cons, dot_cons, ih, Nat.add_mul, Nat.mul_add, Nat.mul_assoc]
    omega
  | _ :: _, [], _ :: _, _, h => by simp at h
  | _ :: _, _ :: _, [], _, h => by simp at h
theorem dot_le : ∀ {ls cs : List Nat} {b : Nat}, (∀ l ∈ ls, l ≤ b) → ls.length = cs.length → dot ls cs ≤ b * cs.sum
  | [], [], b, _, _ => by rw [dot_nil]; exact Nat.zero_le _
  | l :: ls, c :: cs, b, h, e => by
    have ih := dot_le (ls := ls) (cs := cs) (fun x hx => h x (List.mem_cons_of_mem _ hx)) (by simpa using e)
    have hl := h l List.mem_cons_self
    rw [dot_cons, List.sum_cons, Nat.mul_add, Nat.mul_comm c l]
    exact Nat.add_le_add (Nat.mul_le_mul_right _ hl) ih
  | [], _ :: _, _, _, e => by simp at e
  | _ :: _, [], _, _, e => by simp at e
theorem sum_le : ∀ {ls cs : List Nat}, (∀ l ∈ ls, 1 ≤ l) → ls.length = cs.length → cs.sum ≤ dot ls cs
  | [], [], _, _ => by rw [dot_nil]; exact Nat.le_refl _
  | l :: ls, c :: cs, h, e => by
    have ih := sum_le (ls := ls) (cs := cs) (fun x hx => h x (List.mem_cons_of_mem _ hx)) (by simpa using e)
    have hl := h l List.mem_cons_self
    rw [dot_cons, List.sum_cons]
    have : c ≤ c * l := Nat.le_mul_of_pos_right c hl
    omega
  | [], _ :: _, _, e => by simp at e
  | _ :: _, [], _, e => by simp at e
theorem dot_range {ls cs : List Nat} (h : cs.length = ls.length) : ((List.range ls.length).map fun i => cs.getD i 0 * ls.getD i 0).sum = dot ls cs := by
  unfold dot cst
  congr 1
  refine List.ext_getElem (by simp [h]) fun i h1 h2 => ?_
  simp only [List.length_map, List.length_range] at h1
  simp [List.getElem?_eq_getElem (show i < cs.length by omega), List.getElem?_eq_getElem h1]
/-- the items that a row of counts gives -/
theorem zipIdx_fst (cs : List Nat) : cs.zipIdx.map (·.1) = cs := by
  rw [List.zipIdx_map_fst]
theorem zipIdx_snd (cs : List Nat) : cs.zipIdx.map (·.2) = List.range cs.length := by
  rw [List.zipIdx_map_snd, List.range_eq_range']
theorem zipIdx_nd (cs : List Nat) : (cs.zipIdx.map (·.2)).Nodup := by
  rw [zipIdx_snd]
  exact List.nodup_range
theorem zipIdx_lt {cs : List Nat} : ∀ v ∈ cs.zipIdx, v.2 < cs.length := fun v hv => by
  have : v.2 ∈ cs.zipIdx.map (·.2) := List.mem_map_of_mem hv
  rw [zipIdx_snd] at this
  exact List.mem_range.mp this
/-- the joined rows' depths are a full code's lengths, and cost what the joins cost -/
theorem Deep.end_ {L : Nat} {d : Nat → Nat} {cs : List Nat} {I : List It} {t b : Nat} (h : Deep L d I t b) (p : I.Perm cs.zipIdx) :
    kl L ((List.range cs.length).map d) = 2 ^ L ∧ dot ((List.range cs.length).map d) cs = t ∧ ∀ l ∈ (List.range cs.length).map d, l ≤ b := by
  have H := h.perm p
  refine ⟨?_, ?_, fun l hl => ?_⟩
  · rw [← H.kr, ← zipIdx_snd]
    unfold kl
    rw [List.map_map, List.map_map]
    rfl
  · rw [← H.co]
    unfold dot cst
    congr 1
    refine List.ext_getElem (by simp) fun i h1 h2 => ?_
    simp at h1
    simp
  · obtain ⟨i, hi, rfl⟩ := List.mem_map.mp hl
    have : i ∈ cs.zipIdx.map (·.2) := by rw [zipIdx_snd]; exact hi
    obtain ⟨v, hv, rfl⟩ := List.mem_map.mp this
    exact H.hi v hv
theorem full_pos {ls : List Nat} {L : Nat} (n : 2 ≤ ls.length) (k : kl L ls = 2 ^ L) : ∀ l ∈ ls, 1 ≤ l := fun l hl => by
  obtain ⟨r, hr⟩ := mem_perm hl
  rw [kl_perm hr, kl_cons] at k
  have ne : r ≠ [] := by
    rintro rfl
    have := hr.length_eq
    simp at this
    omega
  have := kl_pos ne L
  by_cases c : 1 ≤ l
  · exact c
  · have : l = 0 := by omega
    subst this
    rw [Nat.sub_zero] at k
    omega
/-! ### how long a code stays the least one -/
def Least (ls cs : List Nat) : Prop := dot ls cs = hf cs
/-- what is known of a code that costs least -/
structure Best (bs cs : List Nat) : Prop where
  len : bs.length = cs.length
  full : Full bs
  eq : dot bs cs = hf cs
theorem least_both {ls cs ss : List Nat} {m : Nat} {b : List Nat} (e1 : ls.length = cs.length) (e2 : ss.length = cs.length) (n : 1 ≤ ls.length) (f : Full ls) (hc : Least ls cs) (hs : Least ls ss) (hb : Best b (stp cs ss m)) : Least ls (stp cs ss m) := by
  unfold Least
  refine Nat.le_antisymm ?_ (hf_le (by rw [stp_len e2]; exact e1.symm) n f)
  have lb := hb.len
  rw [stp_len e2] at lb
  rw [← hb.eq, dot_stp _ _ _ _ e2, dot_stp _ _ _ _ e2]
  have h1 := hf_le (cs := cs) (ls := b) lb.symm (by omega) hb.full
  have h2 := hf_le (cs := ss) (ls := b) (by omega) (by omega) hb.full
  rw [← hc] at h1
  rw [← hs] at h2
  exact Nat.add_le_add h1 (Nat.mul_le_mul_left m h2)
/-- between nought and a number at which it is least -/
theorem least_between {ls cs ss : List Nat} {m M : Nat} {b : List Nat} (e1 : ls.length = cs.length) (e2 : ss.length = cs.length) (n : 1 ≤ ls.length) (f : Full ls) (hc : Least ls cs) (hM : Least ls (stp cs ss M)) (le : m ≤ M) (hb : Best b (stp cs ss m)) : Least ls (stp cs ss m) := by
  unfold Least
  refine Nat.le_antisymm ?_ (hf_le (by rw [stp_len e2]; exact e1.symm) n f)
  have lb := hb.len
  rw [stp_len e2] at lb
  rw [← hb.eq, dot_stp _ _ _ _ e2, dot_stp _ _ _ _ e2]
  have h1 := hf_le (cs := cs) (ls := b) lb.symm (by omega) hb.full
  have h2 := hf_le (cs := stp cs ss M) (ls := b) (by rw [stp_len e2]; omega) (by omega) hb.full
  rw [← hc] at h1
  rw [← hM, dot_stp _ _ _ _ e2, dot_stp _ _ _ _ e2] at h2
  by_cases c : dot ls ss ≤ dot b ss
  · exact Nat.add_le_add h1 (Nat.mul_le_mul_left m c)
  · obtain ⟨d, hd⟩ := Nat.exists_eq_add_of_le (show dot b ss ≤ dot ls ss by omega)
    rw [hd, Nat.mul_add] at h2 ⊢
    have : m * d ≤ M * d := Nat.mul_le_mul_right d le
    omega
/-- a code that is better by some steps is better for all greater numbers -/
theorem not_least {ls cs ss b : List Nat} {m : Nat} (e1 : b.length = cs.length) (e2 : ss.length = cs.length) (n : 1 ≤ b.length) (f : Full b) (h : dot b cs + m * dot b ss < dot ls cs + m * dot ls ss) : ¬ Least ls (stp cs ss m) := fun z => by
  have := hf_le (cs := stp cs ss m) (ls := b) (by rw [stp_len e2]; exact e1.symm) n f
  rw [← z, dot_stp _ _ _ _ e2, dot_stp _ _ _ _ e2] at this
  omega
/-- the first number is great enough -/
theorem last_start {ls cs ss b : List Nat} (e1 : ls.length = cs.length) (e2 : ss.length = cs.length) (n : 2 ≤ ls.length) (p : ∀ l ∈ ls, 1 ≤ l) (hb : Best b ss) (bb : ∀ l ∈ b, l ≤ ls.length) (hs : ¬ Least ls ss) (f : Full ls) {m : Nat} (hm : dot ls cs * ls.length + 1 ≤ m) :
    ¬ Least ls (stp cs ss m) := by
  have lb := hb.len
  refine not_least (by omega) e2 (by omega) hb.full ?_
  have h1 : dot b ss < dot ls ss := by
    have := hf_le (cs := ss) (ls := ls) (by omega) (by omega) f
    rw [hb.eq]
    unfold Least at hs
    omega
  have h2 : dot b cs ≤ ls.length * cs.sum := dot_le bb (by omega)
  have h3 : cs.sum ≤ dot ls cs := sum_le p e1
  have h4 : ls.length * cs.sum ≤ ls.length * dot ls cs := Nat.mul_le_mul_left _ h3
  rw [Nat.mul_comm ls.length (dot ls cs)] at h4
  have h5 : m * (dot b ss + 1) ≤ m * dot ls ss := Nat.mul_le_mul_left m h1
  rw [Nat.mul_add, Nat.mul_one] at h5
  omega
/-- one turn: a better code is met -/
theorem last_turn {ls cs ss b : List Nat} {many : Nat} (e1 : ls.length = cs.length) (e2 : ss.length = cs.length) (n : 1 ≤ ls.length) (hc : Least ls cs) (hb : Best b (stp cs ss many)) (g : dot b (stp cs ss many) < dot ls (stp cs ss many)) :
    dot ls cs ≤ dot b cs ∧ dot b ss < dot ls ss ∧ (dot b cs - dot ls cs) / (dot ls ss - dot b ss) < many ∧ ∀ m, (dot b cs - dot ls cs) / (dot ls ss - dot b ss) < m → ¬ Least ls (stp cs ss m) := by
  have lb := hb.len
  rw [stp_len e2] at lb
  have h1 := hf_le (cs := cs) (ls := b) lb.symm (by omega) hb.full
  rw [← hc] at h1
  rw [dot_stp _ _ _ _ e2, dot_stp _ _ _ _ e2] at g
  have h2 : dot b ss < dot ls ss := by
    refine Nat.lt_of_not_le fun z => ?_
    have := Nat.mul_le_mul_left many z
    omega
  obtain ⟨d, hd⟩ := Nat.exists_eq_add_of_lt h2
  obtain ⟨a, ha⟩ := Nat.exists_eq_add_of_le h1
  have key : ∀ m, a < m * (d + 1) → dot b cs + m * dot b ss < dot ls cs + m * dot ls ss := fun m hm => by
    rw [hd, ha, show dot b ss + d + 1 = dot b ss + (d + 1) by omega, Nat.mul_add m (dot b ss) (d + 1)]
    omega
  have ea : dot b cs - dot ls cs = a := by omega
  have ed : dot ls ss - dot b ss = d + 1 := by omega
  rw [ea, ed]
  refine ⟨h1, h2, ?_, fun m hm => ?_⟩
  · rw [hd, ha, show dot b ss + d + 1 = dot b ss + (d + 1) by omega, Nat.mul_add] at g
    exact (Nat.div_lt_iff_lt_mul (by omega)).mpr (by omega)
  · exact not_least lb e2 (by omega) hb.full (key m ((Nat.div_lt_iff_lt_mul (by omega)).mp hm))
end Huff
set_option Elab.async false
set_option linter.all false
set_option maxRecDepth 100001
set_option maxHeartbeats 3999999
namespace K40
open PySem L2
open Huff (hf dot Full Least Best stp)
abbrev sCostOf' : Stmt := sCostOf
def nV (ns : List Nat) : List V := ns.map fun n : Nat => V.int (n : Nat)
theorem nV_len (cs : List Nat) : (nV cs).length = cs.length := List.length_map _
theorem nV_app (a b : List Nat) : nV (a ++ b) = nV a ++ nV b := List.map_append
theorem nV_frm (cs : List Nat) : ∀ v ∈ nV cs, frm v 0 = true := fun v hv => by
  obtain ⟨c, _, rfl⟩ := List.mem_map.mp hv
  exact decide_eq_true (Int.natCast_nonneg c)
theorem nV_kn {H : Hp} (cs : List Nat) : ∀ v ∈ nV cs, Kn H v := fun v hv => by
  obtain ⟨c, _, rfl⟩ := List.mem_map.mp hv
  exact .int _
theorem nV_num (cs : List Nat) : ∀ v ∈ nV cs, Num v := fun v hv => by
  obtain ⟨c, _, rfl⟩ := List.mem_map.mp hv
  exact .inr ⟨_, rfl⟩
theorem lAt_get {ls : List Nat} {i : Nat} (h : i < ls.length) : lAt ls i = ls[i] := by
  show ls.getD i 0 = _
  rw [List.getD_eq_getElem?_getD, List.getElem?_eq_getElem h]
  rfl
theorem nV_get {ls : List Nat} {i : Nat} {x : V} (e : (nV ls)[i]? = some x) : i < ls.length ∧ x = .int ((lAt ls i : Nat) : Int) := by
  unfold nV at e
  rw [List.getElem?_map] at e
  cases h : ls[i]? with
  | none => rw [h] at e; cases e
  | some y =>
    rw [h] at e
    obtain ⟨lt, ey⟩ := List.getElem?_eq_some_iff.mp h
    cases e
    exact ⟨lt, by rw [lAt_get lt, ey]⟩
theorem nV_at {ls : List Nat} {i : Nat} (h : i < ls.length) : (nV ls)[i]? = some (.int ((lAt ls i : Nat) : Int)) := by
  unfold nV
  rw [List.getElem?_map, List.getElem?_eq_getElem h, lAt_get h]
  rfl
theorem nV_range (f : Nat → Nat) (n : Nat) : (List.range n).map (fun i => V.int ((f i : Nat) : Int)) = nV ((List.range n).map f) := by
  unfold nV
  rw [List.map_map]
  rfl
theorem dot_sum {ls cs : List Nat} (h : cs.length = ls.length) : ((List.range ls.length).map fun i => ((lAt cs i * lAt ls i : Nat) : Int)).sum = ((dot ls cs : Nat) : Int) := by
  rw [← Huff.dot_range h, ← sum_cast, List.map_map]
  rfl
/-- small lengths -/
def Sm (ls : List Nat) : Prop := ∀ l ∈ ls, l ≤ 100
def spCOf : Sp := fun vs H Q _ => ∃ (lt cp : Addr) (ls cs : List Nat), vs = [.ref lt, .ref cp] ∧ H lt = some (.tup (nV ls)) ∧ H cp = some (.lst (nV cs)) ∧ cs.length = ls.length ∧ ls.length ≤ 5000 ∧ Sm ls ∧
  ∀ H', Same H H' → Q (.int ((dot ls cs : Nat) : Int)) H'
def spCOfT : Sp := fun vs H Q _ => ∃ (lt cp : Addr) (ls cs : List Nat), vs = [.ref lt, .ref cp] ∧ H lt = some (.tup (nV ls)) ∧ H cp = some (.tup (nV cs)) ∧ cs.length = ls.length ∧ ls.length ≤ 5000 ∧ Sm ls ∧
  ∀ H', Same H H' → Q (.int ((dot ls cs : Nat) : Int)) H'
def spCOfA : Sp := fun vs H Q _ => ∃ (lt cp : Addr) (ls cs : List Nat), vs = [.ref lt, .ref cp] ∧ H lt = some (.tup (nV ls)) ∧ LT H cp (nV cs) ∧ cs.length = ls.length ∧ ls.length ≤ 5000 ∧ Sm ls ∧
  ∀ H', Same H H' → Q (.int ((dot ls cs : Nat) : Int)) H'
section
variable {P : Program} {w : World} {K : PySem.W.Frag} {mg : Str → Option Value} {base : Heap}
theorem scCOf : FnScope ["lengths", "counts", "count", "length"] ["lengths", "counts"] (defScope sCostOf) := ⟨rfl, rfl, rfl, by decide +kernel, rfl, by decide +kernel, by decide +kernel⟩
theorem ok_cof {f : Addr} {fd : FuncData} (F : Fun K "cost_of" "cost_of" sCostOf f fd) (Z : Bs mg) (mz : mg "zip" = none) : FnOk P w K mg base CX0 1 f fd ["lengths", "counts"] spCOf := by
  refine F.ok scCOf (fun vs H Q E h => ?_) (fun cdv A outer s H vs Q E hr h => ?_)
  · obtain ⟨lt, cp, ls, cs, rfl, _⟩ := h
    rfl
  · obtain ⟨lt, cp, ls, cs, rfl, hl, hc, el, l5, sm, q⟩ := h
    refine ⟨_, pss_one (ps_ret (pe_sum rfl Z.sum (pa_cons (pe_lc (own := [("count", 2), ("length", 3)]) rfl scCOf.nd (ZM.pi_zipM false true mz (pa_cons (pv 1) (pa_cons (pv 0) pa_nil))) (blkOk_by (N := ["lengths", "counts", "count", "length"]) (sc := defScope sCostOf) (by decide +kernel))
          (fun _ _ _ _ _ => pg_pairK K rfl rfl (pg_name (i := 2) scCOf.nd rfl (Or.inl rfl) (.inr rfl)) (pg_name (i := 3) scCOf.nd rfl (Or.inl rfl) (.inr rfl))) (fun _ _ _ _ _ => pts_nil) (fun _ _ _ _ _ => pe_op op_mul (pv 2) (pv 3))) pa_nil))), ?_⟩
    have eN : min (nV cs).length (nV ls).length = ls.length := by rw [nV_len, nV_len, el, Nat.min_self]
    refine ⟨_, rfl, _, rfl, cp, lt, nV cs, nV ls, rfl, SqL.of hc, SqT.of hl, fun D nD => lcM (ZM.walk_zipM eN.symm) (fun i => .int ((lAt cs i * lAt ls i : Nat) : Int)) (by omega) nD (fun H' e => ⟨SqL.of (e _ _ hc), SqT.of (e _ _ hl)⟩) ?_ ?_⟩
    · rintro i x H2 H3 N hi e ⟨T0, y, z, rfl, nT0, rfl, hy, hz⟩ hN
      obtain ⟨i1, rfl⟩ := nV_get hy
      obtain ⟨i2, rfl⟩ := nV_get hz
      have b1 := sm _ (List.getElem_mem i2)
      rw [← lAt_get i2] at b1
      refine ⟨T0, _, rfl, SqT.of upd_same, rfl, _, _, rfl, _, _, rfl, rfl, rfl, ?_⟩
      refine ⟨_, rfl, _, rfl, _, _, rfl, rfl, .inr ⟨by omega, by omega⟩, ?_⟩
      have := hN _ (same_new (o := .tup [.int ((lAt cs i : Nat) : Int), .int ((lAt ls i : Nat) : Int)]) nT0)
      rw [Int.natCast_mul] at this
      exact this
    · intro H4 e4 hD
      refine ⟨D, (List.range ls.length).map fun i => ((lAt cs i * lAt ls i : Nat) : Int), rfl, SqL.of (by rw [List.map_map]; exact hD), ?_⟩
      rw [dot_sum el]
      exact q H4 e4
theorem ok_cofT {f : Addr} {fd : FuncData} (F : Fun K "cost_of" "cost_of" sCostOf f fd) (Z : Bs mg) (mz : mg "zip" = none) : FnOk P w K mg base CX0 1 f fd ["lengths", "counts"] spCOfT := by
  refine F.ok scCOf (fun vs H Q E h => ?_) (fun cdv A outer s H vs Q E hr h => ?_)
  · obtain ⟨lt, cp, ls, cs, rfl, _⟩ := h
    rfl
  · obtain ⟨lt, cp, ls, cs, rfl, hl, hc, el, l5, sm, q⟩ := h
    refine ⟨_, pss_one (ps_ret (pe_sum rfl Z.sum (pa_cons (pe_lc (own := [("count", 2), ("length", 3)]) rfl scCOf.nd (ZM.pi_zipM true true mz (pa_cons (pv 1) (pa_cons (pv 0) pa_nil))) (blkOk_by (N := ["lengths", "counts", "count", "length"]) (sc := defScope sCostOf) (by decide +kernel))
          (fun _ _ _ _ _ => pg_pairK K rfl rfl (pg_name (i := 2) scCOf.nd rfl (Or.inl rfl) (.inr rfl)) (pg_name (i := 3) scCOf.nd rfl (Or.inl rfl) (.inr rfl))) (fun _ _ _ _ _ => pts_nil) (fun _ _ _ _ _ => pe_op op_mul (pv 2) (pv 3))) pa_nil))), ?_⟩
    have eN : min (nV cs).length (nV ls).length = ls.length := by rw [nV_len, nV_len, el, Nat.min_self]
    refine ⟨_, rfl, _, rfl, cp, lt, nV cs, nV ls, rfl, SqT.of hc, SqT.of hl, fun D nD => lcM (ZM.walk_zipM eN.symm) (fun i => .int ((lAt cs i * lAt ls i : Nat) : Int)) (by omega) nD (fun H' e => ⟨SqT.of (e _ _ hc), SqT.of (e _ _ hl)⟩) ?_ ?_⟩
    · rintro i x H2 H3 N hi e ⟨T0, y, z, rfl, nT0, rfl, hy, hz⟩ hN
      obtain ⟨i1, rfl⟩ := nV_get hy
      obtain ⟨i2, rfl⟩ := nV_get hz
      have b1 := sm _ (List.getElem_mem i2)
      rw [← lAt_get i2] at b1
      refine ⟨T0, _, rfl, SqT.of upd_same, rfl, _, _, rfl, _, _, rfl, rfl, rfl, ?_⟩
      refine ⟨_, rfl, _, rfl, _, _, rfl, rfl, .inr ⟨by omega, by omega⟩, ?_⟩
      have := hN _ (same_new (o := .tup [.int ((lAt cs i : Nat) : Int), .int ((lAt ls i : Nat) : Int)]) nT0)
      rw [Int.natCast_mul] at this
      exact this
    · intro H4 e4 hD
      refine ⟨D, (List.range ls.length).map fun i => ((lAt cs i * lAt ls i : Nat) : Int), rfl, SqL.of (by rw [List.map_map]; exact hD), ?_⟩
      rw [dot_sum el]
      exact q H4 e4
theorem ok_cofA {f : Addr} {fd : FuncData} (F : Fun K "cost_of" "cost_of" sCostOf f fd) (Z : Bs mg) (mz : mg "zip" = none) : FnOk P w K mg base CX0 1 f fd ["lengths", "counts"] spCOfA :=
  ((ok_cof F Z mz).or (ok_cofT F Z mz)).imp fun vs H Q E ⟨lt, cp, ls, cs, e, hl, hc, r⟩ => hc.elim (fun z => .inl ⟨lt, cp, ls, cs, e, hl, z, r⟩) fun z => .inr ⟨lt, cp, ls, cs, e, hl, z, r⟩
end
end K40
set_option linter.all false
namespace Huff
theorem zipIdx_lenN (ms : List Nat) (n : Nat) : (ms.zipIdx n).length = ms.length := List.length_zipIdx
theorem zipIdx_at {ms : List Nat} {n am : Nat} (h : am < ms.length) : (ms.zipIdx n).drop am = (ms[am], n + am) :: (ms.zipIdx n).drop (am + 1) := by
  rw [List.drop_eq_getElem_cons (by rw [zipIdx_lenN]; exact h)]
  simp
theorem zipIdx_snoc (ms : List Nat) (n s : Nat) : (ms ++ [s]).zipIdx n = ms.zipIdx n ++ [(s, n + ms.length)] := by
  rw [List.zipIdx_append]
  rfl
theorem zipIdx_drop {ms : List Nat} {n s am : Nat} (h : am ≤ ms.length) : ((ms ++ [s]).zipIdx n).drop am = (ms.zipIdx n).drop am ++ [(s, n + ms.length)] := by
  rw [zipIdx_snoc, List.drop_append_of_le_length (by rw [zipIdx_lenN]; exact h)]
theorem pick_leaf {lv : List It} {ms : List Nat} {n al am : Nat} (h : al < lv.length) (a : AscI ((ms.zipIdx n).drop am)) (c : ms.length ≤ am ∨ ∃ h2 : am < ms.length, lv[al].1 ≤ ms[am]) :
    Pk (lv.drop al) ((ms.zipIdx n).drop am) lv[al] (lv.drop (al + 1)) ((ms.zipIdx n).drop am) := by
  refine .inl ⟨List.drop_eq_getElem_cons h, rfl, fun z hz => ?_⟩
  rcases c with c | ⟨h2, c⟩
  · rw [List.drop_eq_nil_of_le (by rw [zipIdx_lenN]; exact c)] at hz
    cases hz
  · rw [zipIdx_at h2] at a hz
    obtain ⟨a1, _⟩ := List.pairwise_cons.mp a
    rcases List.mem_cons.mp hz with rfl | hz
    · exact c
    · exact Nat.le_trans c (a1 z hz)
theorem pick_made {lv : List It} {ms : List Nat} {n al am : Nat} (h : am < ms.length) (a : AscI (lv.drop al)) (c : lv.length ≤ al ∨ ∃ h2 : al < lv.length, ms[am] < lv[al].1) :
    Pk (lv.drop al) ((ms.zipIdx n).drop am) (ms[am], n + am) (lv.drop al) ((ms.zipIdx n).drop (am + 1)) := by
  refine .inr ⟨zipIdx_at h, rfl, fun z hz => ?_⟩
  rcases c with c | ⟨h2, c⟩
  · rw [List.drop_eq_nil_of_le c] at hz
    cases hz
  · rw [List.drop_eq_getElem_cons h2] at a hz
    obtain ⟨a1, _⟩ := List.pairwise_cons.mp a
    rcases List.mem_cons.mp hz with rfl | hz
    · exact Nat.le_of_lt c
    · exact Nat.le_trans (Nat.le_of_lt c) (a1 z hz)
inductive PkL (lv md : List It) : List It → List It → List It → Prop
  | nil : PkL lv md [] lv md
  | snoc {xs l m l' m' : List It} {x : It} : PkL lv md xs l m → Pk l m x l' m' → PkL lv md (xs ++ [x]) l' m'
theorem PkL.asc {lv md xs l m : List It} (k : PkL lv md xs l m) (a : AscI lv) (b : AscI md) : AscI l ∧ AscI m ∧ l.length + m.length + xs.length = lv.length + md.length := by
  induction k with
  | nil => exact ⟨a, b, rfl⟩
  | snoc k p ih =>
    obtain ⟨h1, h2, h3⟩ := ih
    obtain ⟨g1, g2, _⟩ := p.asc h1 h2
    have := p.perm.length_eq
    refine ⟨g1, g2, ?_⟩
    simp only [List.length_append, List.length_cons, List.length_nil] at *
    omega
theorem PkL.two {lv md xs l m : List It} (k : PkL lv md xs l m) (e : xs.length = 2) : ∃ x y l1 m1, xs = [x, y] ∧ Pk lv md x l1 m1 ∧ Pk l1 m1 y l m := by
  cases k with
  | nil => cases e
  | snoc k p =>
    rename_i xs0 l0 m0 x0
    cases k with
    | nil => cases e
    | snoc k q =>
      rename_i xs1 l1 m1 x1
      cases k with
      | nil => exact ⟨_, _, _, _, rfl, q, p⟩
      | snoc k r => simp at e
theorem two_lengths {lv : List It} {ms : List Nat} {n al am : Nat} (h1 : al ≤ lv.length) (h2 : am ≤ ms.length) : (lv.drop al).length + ((ms.zipIdx n).drop am).length = (lv.length - al) + (ms.length - am) := by
  rw [List.length_drop, List.length_drop, zipIdx_lenN]
/-- at the end one node is left, and the joins cost as much as the least code -/
theorem Chain.done {cs : List Nat} {js : List (Nat × Nat)} {ms : List Nat} {I : List It} (c : Chain cs.length cs.zipIdx js ms I) (h : cs.length ≤ js.length + 1) (n : 1 ≤ cs.length) : I.length ≤ 1 ∧ ms.sum = Huff.hf cs := by
  have l := c.len
  rw [zipIdx_lenN] at l
  have := c.hf
  rw [zipIdx_fst] at this
  have i1 : I.length ≤ 1 := by omega
  refine ⟨i1, ?_⟩
  rw [this]
  match I, i1 with
  | [], _ => rfl
  | [v], _ => rfl
end Huff
set_option Elab.async false
set_option linter.all false
set_option maxRecDepth 100001
set_option maxHeartbeats 3999999
namespace K40
open PySem L2
open Huff (hf dot Full Least Best stp Two Chain PkL Pk AscI two_lengths)
abbrev sJC : Stmt := topS 34
/-- a pair of numbers at a value -/
def PR (H : Hp) (v : V) (p : Nat × Nat) : Prop := ∃ t, v = .ref t ∧ H t = some (.tup [.int ((p.1 : Nat) : Int), .int ((p.2 : Nat) : Int)])
theorem PR.tt {H H' : Hp} {v : V} {p : Nat × Nat} (e : TT H H') (h : PR H v p) : PR H' v p := let ⟨t, h1, h2⟩ := h; ⟨t, h1, e _ _ h2⟩
theorem paired_imp {α β : Type} {F G : α → β → Prop} (h : ∀ a b, F a b → G a b) : ∀ {ts : List α} {ps : List β}, Paired F ts ps → Paired G ts ps
  | _, _, .nil => .nil
  | _, _, .cons x t => .cons (h _ _ x) (paired_imp h t)
theorem paired_len {α β : Type} {F : α → β → Prop} : ∀ {ts : List α} {ps : List β}, Paired F ts ps → ts.length = ps.length
  | _, _, .nil => rfl
  | _, _, .cons _ t => by rw [List.length_cons, List.length_cons, paired_len t]
theorem paired_of {α β : Type} {F : α → β → Prop} : ∀ {ts : List α} {ps : List β}, ts.length = ps.length → (∀ (i : Nat) (a : α) (b : β), ts[i]? = some a → ps[i]? = some b → F a b) → Paired F ts ps
  | [], [], _, _ => .nil
  | a :: ts, b :: ps, e, h => .cons (h 0 a b rfl rfl) (paired_of (by simpa using e) fun i x y h1 h2 => h (i + 1) x y (by simpa using h1) (by simpa using h2))
  | [], _ :: _, e, _ => by simp at e
  | _ :: _, [], e, _ => by simp at e
def PL (H : Hp) (xs : List V) (ps : List (Nat × Nat)) : Prop := Paired (PR H) xs ps
theorem PL.tt {H H' : Hp} {xs : List V} {ps : List (Nat × Nat)} (e : TT H H') (h : PL H xs ps) : PL H' xs ps := paired_imp (fun _ _ z => PR.tt e z) h
theorem PL.len {H : Hp} {xs : List V} {ps : List (Nat × Nat)} (h : PL H xs ps) : xs.length = ps.length := paired_len h
theorem PL.at {H : Hp} {xs : List V} {ps : List (Nat × Nat)} (h : PL H xs ps) {i : Nat} (hi : i < ps.length) : ∃ t, xs[i]? = some (.ref t) ∧ H t = some (.tup [.int ((ps[i].1 : Nat) : Int), .int ((ps[i].2 : Nat) : Int)]) := by
  obtain ⟨v, h1, t, rfl, h2⟩ := paired_to h (List.getElem?_eq_getElem hi)
  exact ⟨t, h1, h2⟩
/-- a comprehension of which R tells the items; R stays as long as tuples do -/
theorem lcR {J : It} {n : Nat} {G : Hp → Prop} {Y : Nat → Hp → V → Hp → Prop} (wk : Walk J n G Y) {g : TG} {te : TE} {vs : List Nat} {σ : St} {H1 : Hp} {D : Addr} {Qd : Hp → Prop} (R : Nat → V → Hp → Prop) (st : ∀ i v H H', TT H H' → R i v H → R i v H') (hb : n ≤ 10000) (nD : H1 D = none) (hG : ∀ H', Same H1 H' → G H')
    (hs : ∀ (i : Nat) (x : V) (H2 H3 : Hp) (N : VK), i < n → Same H1 H2 → Y i H2 x H3 → (∀ v H4, Same H2 H4 → R i v H4 → N v H4) → g x (wipe σ vs) H3 fun σ2 H4 => wipe σ2 vs = wipe σ vs ∧ te σ2 H4 N)
    (hd : ∀ acc H', Same H1 H' → acc.length = n → (∀ i v, acc[i]? = some v → R i v H') → H' D = some (.lst acc) → Qd H') :
    ∃ W : Nat → Nat → Hp → Prop, (∃ m, W 0 m (upd H1 D (.lst []))) ∧ ∀ i m H, W i m H →
      (J.stop i H ∧ Qd H) ∨ (J.go i H ∧ ∃ Nx : Hp → Prop, (∀ H', Nx H' → ∃ m', m' < m ∧ W (i + 1) m' H') ∧ ∀ x H', J.yld i H x H' → g x (wipe σ vs) H' fun σ2 H2 => wipe σ2 vs = wipe σ vs ∧ tYes σ2 H2 fun b H3 =>
        if b = true then te σ2 H3 fun y H4 => ∃ acc, H4 D = some (.lst acc) ∧ acc.length < sizeLine ∧ Nx (upd H4 D (.lst (acc ++ [y]))) else Nx H3) := by
  refine lc_it wk (fun i H' => Same H1 H' ∧ ∃ acc, H' D = some (.lst acc) ∧ acc.length = i ∧ ∀ j v, acc[j]? = some v → R j v H') ⟨same_new nD, [], upd_same, rfl, fun j v e => by simp at e⟩ (fun i H' _ z => hG H' z.1) ?_ (fun H' ⟨e, acc, h1, h2, h3⟩ => hd acc H' e h2 h3 h1)
  rintro i x H H' hi ⟨e1, acc, hD, la, ra⟩ y
  refine hs i x H H' _ hi e1 y fun v H4 e4 r => ⟨acc, e4 _ _ hD, by rw [la]; exact small10 (by omega), fun b o z => ?_, acc ++ [v], upd_same, by rw [List.length_append, la]; rfl, fun j u ju => ?_⟩
  · rw [upd_ne (ne_of_none z nD)]
    exact e4 _ _ (e1 _ _ z)
  · have tt : TT H4 (upd H4 D (.lst (acc ++ [v]))) := TT.lst (e4 _ _ hD)
    by_cases c : j < acc.length
    · rw [List.getElem?_append_left c] at ju
      exact st j u _ _ tt (st j u _ _ (TT.same e4) (ra j u ju))
    · rw [List.getElem?_append_right (by omega)] at ju
      obtain ⟨j0, hj⟩ : ∃ k, j - acc.length = k := ⟨_, rfl⟩
      rw [hj] at ju
      cases j0 with
      | zero =>
        cases ju
        have : j = i := by omega
        subst this
        exact st _ _ _ _ tt r
      | succ k => simp at ju
/-- what pair lies at a value -/
def kP (H : Hp) : V → Int × Int
  | .ref t => match H t with
    | some (.tup [.int a, .int b]) => (a, b)
    | _ => (0, 0)
  | _ => (0, 0)
theorem kP_of {H : Hp} {t : Addr} {a b : Int} (h : H t = some (.tup [.int a, .int b])) : kP H (.ref t) = (a, b) := by simp only [kP, h]
theorem kP_PR {H : Hp} {v : V} {p : Nat × Nat} (h : PR H v p) : kP H v = (((p.1 : Nat) : Int), ((p.2 : Nat) : Int)) := by
  obtain ⟨t, rfl, e⟩ := h
  exact kP_of e
/-- pairs in order -/
theorem pl_sorted {H : Hp} {acc ys : List V} {zs : List (Nat × Nat)} (h : PL H acc zs) (sr : SrtO.Srtd (ltP (kP H)) ys) (pm : ys.Perm acc) : ∃ lv : List (Nat × Nat), PL H ys lv ∧ lv.Perm zs ∧ AscI lv := by
  have key : ∀ v ∈ acc, ∃ p ∈ zs, PR H v p := fun v hv => by
    obtain ⟨i, hi⟩ := List.mem_iff_getElem?.mp hv
    obtain ⟨p, h1, h2⟩ := paired_get h hi
    exact ⟨p, List.mem_of_getElem? h1, h2⟩
  let g : V → Nat × Nat := fun v => ((kP H v).1.toNat, (kP H v).2.toNat)
  have gp : ∀ v p, PR H v p → g v = p := fun v p z => by
    show ((kP H v).1.toNat, (kP H v).2.toNat) = p
    rw [kP_PR z]
    show (((p.1 : Nat) : Int).toNat, ((p.2 : Nat) : Int).toNat) = p
    rw [Int.toNat_natCast, Int.toNat_natCast]
  have ez : acc.map g = zs := by
    have l := h.len
    refine List.ext_getElem (by rw [List.length_map, l]) fun i h1 h2 => ?_
    obtain ⟨t, e1, e2⟩ := h.at h2
    have e3 : acc[i]'(by rw [l]; exact h2) = .ref t := by
      have := List.getElem?_eq_getElem (l := acc) (i := i) (by rw [l]; exact h2)
      rw [this] at e1
      exact Option.some.inj e1
    rw [List.getElem_map, e3]
    exact gp _ _ ⟨t, rfl, e2⟩
  refine ⟨ys.map g, paired_of (by rw [List.length_map]) fun i a b h1 h2 => ?_, by rw [← ez]; exact pm.map g, ?_⟩
  · rw [List.getElem?_map, h1] at h2
    cases h2
    obtain ⟨p, _, hp⟩ := key a (pm.subset (List.mem_of_getElem? h1))
    rw [gp a p hp]
    exact hp
  · show (ys.map g).Pairwise _
    rw [List.pairwise_map]
    refine sr.imp_of_mem fun {a b} ha hb z => ?_
    obtain ⟨p, _, hp⟩ := key a (pm.subset ha)
    obtain ⟨q, _, hq⟩ := key b (pm.subset hb)
    have z := SrtO.lexB_no.mp z
    rw [kP_PR hp, kP_PR hq] at z
    rw [gp a p hp, gp b q hq]
    simp only at z
    omega
abbrev NJc : List Str := ["counts", "leaves", "made", "joins", "at_leaf", "at_made", "total", "whole", "parts", "_", "sign", "count"]
theorem LT.butN {H H' : Hp} {a p : Addr} {xs : List V} (h : LT H a xs) (n : a ≠ p) (b : ButI p H H') : LT H' a xs := by
  rcases h with z | z
  · exact .inl (b _ _ n z)
  · exact .inr (b _ _ n z)
theorem LT.butI' {H H' : Hp} {a p : Addr} {xs : List V} (h : LT H a xs) (n : H p = none) (b : ButI p H H') : LT H' a xs := by
  rcases h with z | z
  · exact .inl (b _ _ (ne_of_none z n) z)
  · exact .inr (b _ _ (ne_of_none z n) z)
def spJC : Sp := fun vs H Q _ => ∃ (cp : Addr) (cs : List Nat), vs = [.ref cp] ∧ LT H cp (nV cs) ∧ 2 ≤ cs.length ∧ cs.length ≤ 2000 ∧
  ∀ (t jo : Addr) (jv : List V) (js : List (Nat × Nat)) (ms : List Nat) (I : List (Nat × Nat)) H', Same H H' → H t = none → H jo = none → H' t = some (.tup [.ref jo, .int ((hf cs : Nat) : Int)]) → H' jo = some (.lst jv) → PL H' jv js → Chain cs.length cs.zipIdx js ms I → js.length + 1 = cs.length → ms.sum = hf cs → Q (.ref t) H'
theorem tIfS_dec {tt : L2.TT} {t1 t2 : TS} {D : Ends} {σ : St} {H : Hp} {c : Prop} [Decidable c] (ht : ∀ Q : Bool → Hp → Prop, Q (decide c) H → tt σ H Q) (h1 : c → t1 D σ H) (h2 : ¬ c → t2 D σ H) : tIfS tt t1 t2 D σ H := by
  refine ht _ ?_
  by_cases z : c
  · rw [decide_eq_true z]
    exact iteT (h1 z)
  · rw [decide_eq_false z]
    exact iteF (h2 z)
theorem PL.atI {H : Hp} {xs : List V} {ps : List (Nat × Nat)} (h : PL H xs ps) {i : Nat} (hi : i < ps.length) : ∃ t, atI xs ((i : Nat) : Int) = some (.ref t) ∧ H t = some (.tup [.int ((ps[i].1 : Nat) : Int), .int ((ps[i].2 : Nat) : Int)]) := by
  obtain ⟨t, h1, h2⟩ := h.at hi
  exact ⟨t, atI_nat h1, h2⟩
theorem nV_atI {ls : List Nat} {i : Nat} (h : i < ls.length) : atI (nV ls) ((i : Nat) : Int) = some (.int ((ls[i] : Nat) : Int)) := by
  have := atI_nat (nV_at h)
  rw [lAt_get h] at this
  exact this
/-- where the joining stands -/
structure JS (H : Hp) (lA mA jA : Addr) (cs : List Nat) (lv : List (Nat × Nat)) (ys : List V) (al am : Nat) (js : List (Nat × Nat)) (ms : List Nat) (jv : List V) (H' : Hp) : Prop where
  same : Same H H'
  l : H' lA = some (.lst ys)
  pl : PL H' ys lv
  m : H' mA = some (.lst (nV ms))
  j : H' jA = some (.lst jv)
  pj : PL H' jv js
  al_ : al ≤ lv.length
  am_ : am ≤ ms.length
  two : Two (lv.drop al) ((ms.zipIdx cs.length).drop am)
  ch : Chain cs.length cs.zipIdx js ms (lv.drop al ++ (ms.zipIdx cs.length).drop am)
  le : js.length + 1 ≤ cs.length
section
variable {P : Program} {w : World} {K : PySem.W.Frag} {mg : Str → Option Value} {base : Heap}
theorem scJC : FnScope NJc ["counts"] (defScope sJC) := ⟨rfl, rfl, rfl, by decide +kernel, rfl, by decide +kernel, by decide +kernel⟩
theorem ok_jc {f : Addr} {fd : FuncData} (F : Fun K "joined_counts" "joined_counts" sJC f fd) (B : Bi mg) (ms : mg "sorted" = none) : FnOk P w K mg base CX0 1 f fd ["counts"] spJC := by
  refine F.ok scJC (fun vs H Q E h => ?_) (fun cdv A outer s H vs Q E hr h => ?_)
  · obtain ⟨cp, cs, rfl, _⟩ := h
    rfl
  · obtain ⟨cp, cs, rfl, hc, c2, c20, q⟩ := h
    refine ⟨_, pss_cons (ps_set (i := 1) scJC.nd rfl (Or.inl rfl) (pe_callB cr_sortedPO rfl ms (by decide +kernel) (pa_cons (pe_lc (own := [("sign", 10), ("count", 11)]) rfl scJC.nd (pi_en B.enum (pa_cons (pv 0) pa_nil)) (blkOk_by (N := NJc) (sc := defScope sJC) (by decide +kernel))
          (fun _ _ _ _ _ => pg_pairK K rfl rfl (pg_name (i := 10) scJC.nd rfl (Or.inl rfl) (.inr rfl)) (pg_name (i := 11) scJC.nd rfl (Or.inl rfl) (.inr rfl))) (fun _ _ _ _ _ => pts_nil) (fun _ _ _ _ _ => pe_tup (pa_cons (pv 11) (pa_cons (pv 10) pa_nil)))) pa_nil)))
      (pss_cons (ps_set (i := 2) scJC.nd rfl (Or.inl rfl) (pe_lst pa_nil))
      (pss_cons (ps_set (i := 3) scJC.nd rfl (Or.inl rfl) (pe_lst pa_nil))
      (pss_cons (ps_asg3 pe_int (pg_name (i := 4) scJC.nd rfl (Or.inl rfl)) (pg_name (i := 5) scJC.nd rfl (Or.inl rfl)) (pg_name (i := 6) scJC.nd rfl (Or.inl rfl)))
      (pss_cons (ps_while PassesOwn.never (pt_cmpR op_lt (pe_len B.len (pa_cons (pv 3) pa_nil)) (pe_op op_sub (pe_len B.len (pa_cons (pv 0) pa_nil)) pe_int) (nomark _))
        (pss_cons (ps_set (i := 7) scJC.nd rfl (Or.inl rfl) pe_int)
        (pss_cons (ps_set (i := 8) scJC.nd rfl (Or.inl rfl) (pe_lst pa_nil))
        (pss_cons (ps_for PassesOwn.never rfl (pi_range1 rfl B.range (pa_cons pe_int pa_nil)) (pg_name (i := 9) scJC.nd rfl (Or.inl rfl))
          (pss_one (ps_if (PW.pt (pw_and (pt_cmpR op_lt (pv 4) (pe_len B.len (pa_cons (pv 1) pa_nil)) (nomark _)) (pw_and1 (PW.pt (pw_or (pt_cmpR op_eq (pv 5) (pe_len B.len (pa_cons (pv 2) pa_nil)) (nomark _)) (pw_or1 (pt_cmpR op_le (pe_ix ix_tup (pe_ix ix_list (pv 1) (pv 4) (fun _ _ => rfl)) pe_int (fun _ _ => rfl)) (pe_ix ix_list (pv 2) (pv 5) (fun _ _ => rfl)) (nomark _))))))))
            (pss_cons (ps_aug (i := 7) scJC.nd rfl (Or.inl rfl) (pe_ix ix_tup (pe_ix ix_list (pv 1) (pv 4) (fun _ _ => rfl)) pe_int (fun _ _ => rfl)) ip_add)
            (pss_cons (ps_expr (pe_bm PySem.F.plainAttrs_list PySem.F.slot_list_append PySem.F.type_list_append mt_append (pv 8) (pa_cons (pe_ix ix_tup (pe_ix ix_list (pv 1) (pv 4) (fun _ _ => rfl)) pe_int (fun _ _ => rfl)) pa_nil)))
            (pss_one (ps_aug (i := 4) scJC.nd rfl (Or.inl rfl) pe_int ip_add))))
            (pss_cons (ps_aug (i := 7) scJC.nd rfl (Or.inl rfl) (pe_ix ix_list (pv 2) (pv 5) (fun _ _ => rfl)) ip_add)
            (pss_cons (ps_expr (pe_bm PySem.F.plainAttrs_list PySem.F.slot_list_append PySem.F.type_list_append mt_append (pv 8) (pa_cons (pe_op op_add (pe_len B.len (pa_cons (pv 0) pa_nil)) (pv 5)) pa_nil)))
            (pss_one (ps_aug (i := 5) scJC.nd rfl (Or.inl rfl) pe_int ip_add)))))))
        (pss_cons (ps_expr (pe_bm PySem.F.plainAttrs_list PySem.F.slot_list_append PySem.F.type_list_append mt_append (pv 2) (pa_cons (pv 7) pa_nil)))
        (pss_cons (ps_expr (pe_bm PySem.F.plainAttrs_list PySem.F.slot_list_append PySem.F.type_list_append mt_append (pv 3) (pa_cons (pe_tupleOf rfl B.tuple (pv 8)) pa_nil)))
        (pss_one (ps_aug (i := 6) scJC.nd rfl (Or.inl rfl) (pv 7) ip_add))))))))
      (pss_one (ps_ret (pe_tup (pa_cons (pv 3) (pa_cons (pv 6) pa_nil))))))))), ?_⟩
    refine ⟨_, rfl, cp, _, rfl, hc.sq, fun J G wk hG D nD => lcR wk (fun i v H' => PR H' v (lAt cs i, i)) (fun i v H2 H3 tt z => PR.tt tt z) (by rw [nV_len]; omega) nD (fun H' e => hG H' fun o z => e _ _ z) ?_ ?_⟩
    · rintro i x H2 H3 N hi e2 ⟨T0, y, v', rfl, nT0, rfl, ey, hv⟩ fin
      have ey : y = .int ((i : Nat) : Int) := (Option.some.inj ey).symm
      subst ey
      obtain ⟨i1, rfl⟩ := nV_get hv
      refine ⟨T0, _, rfl, SqT.of upd_same, rfl, _, _, rfl, _, _, rfl, rfl, rfl, ?_⟩
      refine ⟨_, rfl, _, rfl, by show 2 ≤ sizeLine; decide, fun t2 nt2 => ?_⟩
      exact fin _ _ ((same_new nT0).trans (same_new nt2)) ⟨t2, rfl, upd_same⟩
    intro acc H2 e2 la ra hD
    refine ⟨D, acc, kP H2, rfl, SqL.of hD, fun x hx => ?_, fun ys p sr st np => ?_⟩
    · obtain ⟨i, hi⟩ := List.mem_iff_getElem?.mp hx
      obtain ⟨t2, rfl, h2⟩ := ra i x hi
      exact ⟨t2, rfl, by rw [kP_of h2]; exact h2⟩
    rw [nV_len] at la
    have pl : PL H2 acc cs.zipIdx := paired_of (by rw [la, Huff.zipIdx_lenN]) fun i a b h1 h2 => by
      have hi := (List.getElem?_eq_some_iff.mp h1).1
      rw [la] at hi
      have := ra i a h1
      rw [lAt_get hi] at this
      have e : b = (cs[i], i) := by
        rw [List.getElem?_eq_getElem (by rw [Huff.zipIdx_lenN]; exact hi)] at h2
        rw [← Option.some.inj h2]
        simp
      rw [e]
      exact this
    obtain ⟨lv, ply, pm, asc⟩ := pl_sorted pl sr st.perm
    have e3 : Same H (upd H2 p (.lst ys)) := e2.trans (same_new np)
    have hp3 : upd H2 p (.lst ys) p = some (.lst ys) := upd_same
    have ply := PL.tt (TT.same (same_new (o := .lst ys) np)) ply
    generalize upd H2 p (.lst ys) = H3 at e3 hp3 ply ⊢
    refine ⟨by show 0 ≤ sizeLine; decide, fun m0 nm => ⟨by show 0 ≤ sizeLine; decide, fun j0 nj => ?_⟩⟩
    have e4 := same_new (o := .lst []) nm
    have e5 := same_new (o := .lst []) nj
    have hm : upd (upd H3 m0 (.lst [])) j0 (.lst []) m0 = some (.lst (nV [])) := e5 _ _ upd_same
    have hj : upd (upd H3 m0 (.lst [])) j0 (.lst []) j0 = some (.lst []) := upd_same
    have hp : upd (upd H3 m0 (.lst [])) j0 (.lst []) p = some (.lst ys) := e5 _ _ (e4 _ _ hp3)
    have nmj : m0 ≠ j0 := ne_of_none (show upd H3 m0 (.lst []) m0 = some (.lst []) from upd_same) nj
    have npm : p ≠ m0 := ne_of_none hp3 nm
    have npj : p ≠ j0 := ne_of_none (e4 _ _ hp3) nj
    have nHm : H m0 = none := Same.none' e3 nm
    have nHj : H j0 = none := Same.none' (e3.trans e4) nj
    have e0 := e3.trans (e4.trans e5)
    have pl0 := PL.tt (TT.same (e4.trans e5)) ply
    generalize upd (upd H3 m0 (.lst [])) j0 (.lst []) = H5 at hm hj hp e0 pl0 ⊢
    have ll : lv.length = cs.length := by rw [pm.length_eq, Huff.zipIdx_lenN]
    refine ⟨fun k σ H' => ∃ (al am : Nat) (js : List (Nat × Nat)) (ms : List Nat) (jv : List V) (x7 x8 x9 : Option V), k = cs.length - js.length ∧ σ = [some (.ref cp), some (.ref p), some (.ref m0), some (.ref j0), some (.int ((al : Nat) : Int)), some (.int ((am : Nat) : Int)), some (.int ((ms.sum : Nat) : Int)), x7, x8, x9, none, none] ∧
      JS H p m0 j0 cs lv ys al am js ms jv H', ⟨_, 0, 0, [], [], [], none, none, none, rfl, rfl, e0, hp, pl0, hm, hj, .nil, Nat.zero_le _, Nat.zero_le _, Two.start asc, .nil (by simpa using pm), by show 0 + 1 ≤ _; omega⟩, ?_⟩
    rintro k σ G ⟨al, am, js, ms, jv, x7, x8, x9, rfl, rfl, S⟩
    have lj := S.pj.len
    refine ⟨_, rfl, j0, _, rfl, .inl (SqL.of S.j), _, rfl, cp, _, rfl, (hc.same S.same).sq, _, _, rfl, rfl, _, _, rfl, rfl, _, rfl, ?_⟩
    rw [nV_len, lj]
    by_cases c : js.length + 1 < cs.length
    · rw [decide_eq_true (show ((js.length : Nat) : Int) < ((cs.length : Nat) : Int) - 1 by omega)]
      refine iteT ⟨fun σ' H' => ∃ k', k' < cs.length - js.length ∧ ∃ (al am : Nat) (js : List (Nat × Nat)) (ms : List Nat) (jv : List V) (x7 x8 x9 : Option V), k' = cs.length - js.length ∧ σ' = [some (.ref cp), some (.ref p), some (.ref m0), some (.ref j0), some (.int ((al : Nat) : Int)), some (.int ((am : Nat) : Int)), some (.int ((ms.sum : Nat) : Int)), x7, x8, x9, none, none] ∧
        JS H p m0 j0 cs lv ys al am js ms jv H', fun σ' H' ⟨k', l, z⟩ => ⟨k', l, z⟩, ?_⟩
      refine ⟨by show 0 ≤ sizeLine; decide, fun pA npA => ?_⟩
      have npA0 := Same.none' S.same npA
      have e6 := same_new (o := .lst []) npA
      have hpA : upd G pA (.lst []) pA = some (.lst (nV [])) := upd_same
      have n1 : p ≠ pA := ne_of_none S.l npA
      have n2 : m0 ≠ pA := ne_of_none S.m npA
      have n3 : j0 ≠ pA := ne_of_none S.j npA
      generalize upd G pA (.lst []) = G1 at e6 hpA ⊢
      refine ⟨2, rfl, by decide, by decide, for_range (n := 2) (fun i σ H' => ∃ (al' am' : Nat) (xs : List (Nat × Nat)) (x9 : Option V), xs.length = i ∧ σ = [some (.ref cp), some (.ref p), some (.ref m0), some (.ref j0), some (.int ((al' : Nat) : Int)), some (.int ((am' : Nat) : Int)), some (.int ((ms.sum : Nat) : Int)), some (.int (((xs.map (·.1)).sum : Nat) : Int)), some (.ref pA), x9, none, none] ∧
        ButI pA G1 H' ∧ H' pA = some (.lst (nV (xs.map (·.2)))) ∧ al' ≤ lv.length ∧ am' ≤ ms.length ∧ PkL (lv.drop al) ((ms.zipIdx cs.length).drop am) xs (lv.drop al') ((ms.zipIdx cs.length).drop am')) ⟨al, am, [], x9, rfl, rfl, fun _ _ _ z => z, hpA, S.al_, S.am_, .nil⟩ ?_ ?_⟩
      · rintro i σ H6 hi ⟨al', am', xs, y9, lx, rfl, b6, hpA6, a1, a2, pk⟩
        have hl6 := b6 _ _ n1 (e6 _ _ S.l)
        have hm6 := b6 _ _ n2 (e6 _ _ S.m)
        have tt6 : TT G1 H6 := fun a zs z => b6 _ _ (ne_of z hpA fun y => nomatch y) z
        have pl6 := PL.tt ((TT.same e6).trans tt6) S.pl
        have hc6 := ((hc.same S.same).same e6).butN (hc.ne npA0) b6
        have ly : ys.length = lv.length := S.pl.len
        obtain ⟨A1, A2, A3⟩ := pk.asc S.two.l S.two.m
        rw [two_lengths a1 a2, two_lengths S.al_ S.am_] at A3
        have clen := S.ch.len
        rw [List.length_append, two_lengths S.al_ S.am_, Huff.zipIdx_lenN] at clen
        show tIfS _ _ _ _ [some (.ref cp), some (.ref p), some (.ref m0), some (.ref j0), some (.int ((al' : Nat) : Int)), some (.int ((am' : Nat) : Int)), some (.int ((ms.sum : Nat) : Int)), some (.int (((xs.map (·.1)).sum : Nat) : Int)), some (.ref pA), some (.int (0 + ((i : Nat) : Int))), none, none] H6
        refine tIfS_dec (c := al' < lv.length ∧ (ms.length ≤ am' ∨ ∃ (h1 : al' < lv.length) (h2 : am' < ms.length), lv[al'].1 ≤ ms[am'])) (fun Q hQ => ?_) (fun hc => ?_) (fun hc => ?_)
        · refine ⟨_, rfl, _, rfl, p, _, rfl, .inl (SqL.of hl6), _, _, rfl, rfl, _, rfl, ?_⟩
          rw [ly]
          by_cases z1 : al' < lv.length
          · rw [decide_eq_true (show ((al' : Nat) : Int) < ((lv.length : Nat) : Int) by omega)]
            refine iteT ⟨_, rfl, _, rfl, m0, _, rfl, .inl (SqL.of hm6), rfl, _, rfl, ?_⟩
            rw [nV_len, dec_int]
            by_cases z2 : am' = ms.length
            · rw [show (((am' : Nat) : Int) == ((ms.length : Nat) : Int)) = true by rw [beq_iff_eq]; omega]
              rw [decide_eq_true ⟨z1, .inl (by omega)⟩] at hQ
              exact iteT hQ
            · rw [show (((am' : Nat) : Int) == ((ms.length : Nat) : Int)) = false by rw [beq_eq_false_iff_ne]; omega]
              obtain ⟨t, t1, t2⟩ := pl6.atI z1
              have z3 : am' < ms.length := by omega
              refine iteF ⟨_, rfl, _, rfl, p, _, _, _, rfl, rfl, SqL.of hl6, t1, t, _, _, _, rfl, rfl, SqT.of t2, rfl, _, rfl, _, rfl, m0, _, _, _, rfl, rfl, SqL.of hm6, nV_atI z3, _, _, rfl, rfl, _, rfl, ?_⟩
              rw [show decide (((lv[al'].1 : Nat) : Int) ≤ ((ms[am'] : Nat) : Int)) = decide (al' < lv.length ∧ (ms.length ≤ am' ∨ ∃ (h1 : al' < lv.length) (h2 : am' < ms.length), lv[al'].1 ≤ ms[am'])) from decide_eq_decide.mpr ⟨fun h => ⟨z1, .inr ⟨z1, z3, by omega⟩⟩, fun h => by
                rcases h.2 with h | ⟨_, _, h⟩ <;> omega⟩]
              exact hQ
          · rw [decide_eq_false (show ¬ ((al' : Nat) : Int) < ((lv.length : Nat) : Int) by omega)]
            rw [decide_eq_false fun h => z1 h.1] at hQ
            exact iteF hQ
        · obtain ⟨z1, hc⟩ := hc
          obtain ⟨t, t1, t2⟩ := pl6.atI z1
          have k := Huff.pick_leaf (lv := lv) (ms := ms) (n := cs.length) z1 A2 (hc.imp id fun ⟨_, h2, h3⟩ => ⟨h2, h3⟩)
          refine ⟨_, rfl, _, rfl, _, rfl, p, _, _, _, rfl, rfl, SqL.of hl6, t1, t, _, _, _, rfl, rfl, SqT.of t2, rfl, _, _, rfl, rfl, ?_⟩
          refine ⟨_, rfl, .inl ⟨rfl, _, SqL.of hpA6⟩, _, rfl, _, rfl, p, _, _, _, rfl, rfl, SqL.of hl6, t1, t, _, _, _, rfl, rfl, SqT.of t2, rfl, pA, _, _, rfl, rfl, hpA6, by rw [nV_len, List.length_map]; exact small10 (by omega), ?_⟩
          refine ⟨_, rfl, _, _, rfl, rfl, al' + 1, am', xs ++ [lv[al']], some (.int (0 + ((i : Nat) : Int))), by rw [List.length_append, lx]; rfl, ?_, fun b o nb z => (upd_ne nb).trans (b6 _ _ nb z), ?_, z1, a2, .snoc pk k⟩
          · rw [List.map_append, List.sum_append, List.map_singleton, List.sum_singleton]
            rfl
          · rw [upd_same, List.map_append, nV_app]
            rfl
        · have z3 : am' < ms.length := by
            rcases Nat.lt_or_ge am' ms.length with z | z
            · exact z
            · exfalso
              refine hc ⟨?_, .inl z⟩
              omega
          have k := Huff.pick_made (lv := lv) (ms := ms) (n := cs.length) z3 A1 (by
            rcases Nat.lt_or_ge al' lv.length with z | z
            · refine .inr ⟨z, ?_⟩
              refine Nat.lt_of_not_le fun y => hc ⟨z, .inr ⟨z, z3, y⟩⟩
            · exact .inl z)
          refine ⟨_, rfl, _, rfl, _, rfl, m0, _, _, _, rfl, rfl, SqL.of hm6, nV_atI z3, _, _, rfl, rfl, ?_⟩
          refine ⟨_, rfl, .inl ⟨rfl, _, SqL.of hpA6⟩, _, rfl, cp, _, rfl, hc6.sq, _, rfl, _, _, rfl, rfl, pA, _, _, rfl, rfl, hpA6, by rw [nV_len, List.length_map]; exact small10 (by omega), ?_⟩
          refine ⟨_, rfl, _, _, rfl, rfl, al', am' + 1, xs ++ [(ms[am'], cs.length + am')], some (.int (0 + ((i : Nat) : Int))), by rw [List.length_append, lx]; rfl, ?_, fun b o nb z => (upd_ne nb).trans (b6 _ _ nb z), ?_, a1, z3, .snoc pk k⟩
          · rw [List.map_append, List.sum_append, List.map_singleton, List.sum_singleton]
            rfl
          · rw [upd_same, List.map_append, nV_app, nV_len]
            rfl
      · rintro σ H6 ⟨al', am', xs, y9, lx, rfl, b6, hpA6, a1, a2, pk⟩
        obtain ⟨x, y, l1, m1, rfl, k1, k2⟩ := pk.two lx
        have tt6 : TT G1 H6 := fun a zs z => b6 _ _ (ne_of z hpA fun y => nomatch y) z
        have hl6 := b6 _ _ n1 (e6 _ _ S.l)
        have hm6 := b6 _ _ n2 (e6 _ _ S.m)
        have hj6 := b6 _ _ n3 (e6 _ _ S.j)
        have pl6 := PL.tt ((TT.same e6).trans tt6) S.pl
        have pj6 := PL.tt ((TT.same e6).trans tt6) S.pj
        have clen := S.ch.len
        rw [Huff.zipIdx_lenN] at clen
        refine ⟨_, rfl, .inl ⟨rfl, _, SqL.of hm6⟩, _, rfl, m0, _, _, rfl, rfl, hm6, by rw [nV_len]; exact small10 (by omega), ?_⟩
        have e7 : ButI m0 H6 (upd H6 m0 (.lst (nV ms ++ [.int ((([x, y].map (·.1)).sum : Nat) : Int)]))) := fun b o nb z => (upd_ne nb).trans z
        have hm7 : upd H6 m0 (.lst (nV ms ++ [.int ((([x, y].map (·.1)).sum : Nat) : Int)])) m0 = some (.lst (nV (ms ++ [x.1 + y.1]))) := by
          rw [upd_same, nV_app]
          rfl
        have tt7 : TT H6 (upd H6 m0 (.lst (nV ms ++ [.int ((([x, y].map (·.1)).sum : Nat) : Int)]))) := TT.lst hm6
        generalize upd H6 m0 (.lst (nV ms ++ [.int ((([x, y].map (·.1)).sum : Nat) : Int)])) = H7 at e7 hm7 tt7 ⊢
        have hl7 := e7 _ _ npm hl6
        have hj7 := e7 _ _ (Ne.symm nmj) hj6
        have hpA7 := e7 _ _ (Ne.symm n2) hpA6
        refine ⟨_, rfl, .inl ⟨rfl, _, SqL.of hj7⟩, _, rfl, .inl ⟨pA, _, rfl, SqL.of hpA7, fun t nt => ?_⟩⟩
        have e8 := same_new (o := .tup (nV ([x, y].map (·.2)))) nt
        refine ⟨j0, _, _, rfl, rfl, e8 _ _ hj7, small10 (by omega), ?_⟩
        have ht8 : upd H7 t (.tup (nV ([x, y].map (·.2)))) t = some (.tup [.int ((x.2 : Nat) : Int), .int ((y.2 : Nat) : Int)]) := upd_same
        have hj8 := e8 _ _ hj7
        have hl8 := e8 _ _ hl7
        have hm8 := e8 _ _ hm7
        have tt8 : TT H6 (upd H7 t (.tup (nV ([x, y].map (·.2))))) := tt7.trans (TT.same e8)
        have nt0 : H t = none := by
          cases z : H t with
          | none => rfl
          | some o =>
            have := e7 _ _ (ne_of_none z nHm) (b6 _ _ (ne_of_none z npA0) (e6 _ _ (S.same _ _ z)))
            rw [nt] at this
            cases this
        have s8 : ∀ b o, H b = some o → upd H7 t (.tup (nV ([x, y].map (·.2)))) b = some o := fun b o z => e8 _ _ (e7 _ _ (ne_of_none z nHm) (b6 _ _ (ne_of_none z npA0) (e6 _ _ (S.same _ _ z))))
        generalize upd H7 t (.tup (nV ([x, y].map (·.2)))) = H8 at e8 hj8 hl8 hm8 ht8 tt8 s8 ⊢
        have tt9 : TT H8 (upd H8 j0 (.lst (jv ++ [.ref t]))) := TT.lst hj8
        obtain ⟨T1, T2, T3, T4⟩ := Huff.Two.step (i := cs.length + ms.length) S.two k1 k2
        refine ⟨_, rfl, _, rfl, _, _, rfl, rfl, _, ?_, al', am', js ++ [(x.2, y.2)], ms ++ [x.1 + y.1], jv ++ [.ref t], some (.int ((([x, y].map (·.1)).sum : Nat) : Int)), some (.ref pA), y9, rfl, ?_, ?_⟩
        · rw [List.length_append]
          show cs.length - (js.length + 1) < _
          omega
        · rw [List.sum_append]
          rfl
        · refine ⟨fun b o z => (upd_ne (ne_of_none z nHj)).trans (s8 _ _ z), (upd_ne npj).trans hl8, PL.tt (tt8.trans tt9) pl6, (upd_ne nmj).trans hm8, upd_same, paired_snoc ⟨t, rfl, tt9 _ _ ht8⟩ (PL.tt (tt8.trans tt9) pj6), a1, by rw [List.length_append]; omega, ?_, ?_, ?_⟩
          · rw [Huff.zipIdx_drop a2]
            exact T4
          · rw [Huff.zipIdx_drop a2]
            refine .snoc S.ch T1 T2 T3 ?_
            rw [← List.append_assoc, clen.1]
            exact List.perm_append_singleton _ _
          · rw [List.length_append]
            exact c
    · rw [decide_eq_false (show ¬ ((js.length : Nat) : Int) < ((cs.length : Nat) : Int) - 1 by omega)]
      have le := S.le
      obtain ⟨_, sm⟩ := S.ch.done (by omega) (by omega)
      refine iteF ⟨_, rfl, _, rfl, by show 2 ≤ sizeLine; decide, fun t nt => ?_⟩
      have e9 := same_new (o := .tup [.ref j0, .int ((ms.sum : Nat) : Int)]) nt
      refine q t j0 jv js ms _ _ (fun b o z => e9 _ _ (S.same _ _ z)) (Same.none' S.same nt) nHj ?_ (e9 _ _ S.j) (PL.tt (TT.same e9) S.pj) S.ch (by omega) sm
      rw [← sm]
      exact upd_same
end
end K40
set_option Elab.async false
set_option linter.all false
set_option maxRecDepth 100001
set_option maxHeartbeats 3999999
namespace K40
open PySem L2
/-! ### first of all -/
theorem least {p : Nat → Prop} (h : ∃ n, p n) : ∃ n, p n ∧ ∀ m, m < n → ¬ p m := by
  obtain ⟨n, hn⟩ := h
  induction n using Nat.strongRecOn with
  | ind n ih =>
    by_cases c : ∃ m, m < n ∧ p m
    · obtain ⟨m, lt, hm⟩ := c
      exact ih m lt hm
    · exact ⟨n, hn, fun m lt hm => c ⟨m, lt, hm⟩⟩
/-- what is due for words: the first that is none, or all are words: two of which one begins the other, the first such, or none -/
theorem word_cases (ls : List Nat) (us : List V) (el : us.length = ls.length) :
    (∃ (i : Nat) (v : V), us[i]? = some v ∧ okB (ls.getD i 0) v = false ∧ ∀ (j : Nat) (u : V), j < i → us[j]? = some u → okB (ls.getD j 0) u = true) ∨
    ∃ ws : List W, us = ws.map wV ∧ ws.map List.length = ls ∧ ((∃ (i j : Nat) (a b : W), i < j ∧ ws[i]? = some a ∧ ws[j]? = some b ∧ bg a b ∧ ∀ (i' j' : Nat) (x y : W), i' < j' → (i' < i ∨ (i' = i ∧ j' < j)) → ws[i']? = some x → ws[j']? = some y → ¬ bg x y) ∨ PF ws) := by
  by_cases c : ∃ i : Nat, ∃ v : V, us[i]? = some v ∧ okB (ls.getD i 0) v = false
  · obtain ⟨i, ⟨v, h1, h2⟩, h3⟩ := least c
    refine .inl ⟨i, v, h1, h2, fun j u lt hu => ?_⟩
    cases ob : okB (ls.getD j 0) u with
    | true => rfl
    | false => exact absurd ⟨u, hu, ob⟩ (h3 j lt)
  · have all : ∀ (i : Nat) (v : V), us[i]? = some v → okB (ls.getD i 0) v = true := fun i v h => by
      cases ob : okB (ls.getD i 0) v with
      | true => rfl
      | false => exact absurd ⟨i, v, h, ob⟩ c
    obtain ⟨ws, rfl, hw⟩ : ∃ ws : List W, us = ws.map wV ∧ ws.map List.length = ls := by
      clear c
      induction us generalizing ls with
      | nil => exact ⟨[], rfl, by cases ls with | nil => rfl | cons _ _ => cases el⟩
      | cons v us ih =>
        cases ls with
        | nil => cases el
        | cons l ls =>
          obtain ⟨ws, h1, h2⟩ := ih ls (by simpa using el) fun i u h => all (i + 1) u (by simpa using h)
          have h0 := all 0 v rfl
          have h0 : okB l v = true := h0
          cases v with
          | str x =>
            have h0 : (isBs (.str x) && decide (x.length = l)) = true := h0
            rw [Bool.and_eq_true, decide_eq_true_iff] at h0
            obtain ⟨w, e⟩ := isBs_of h0.1
            refine ⟨w :: ws, by rw [List.map_cons, ← h1, e]; rfl, ?_⟩
            rw [List.map_cons, h2]
            injection e with e
            rw [← h0.2, e, bS_len]
          | _ => cases h0
    refine .inr ⟨ws, rfl, hw, ?_⟩
    by_cases c2 : ∃ i : Nat, ∃ (j : Nat) (a b : W), i < j ∧ ws[i]? = some a ∧ ws[j]? = some b ∧ bg a b
    · obtain ⟨i, hi, fi⟩ := least c2
      obtain ⟨j, ⟨a, b, h1, h2, h3, h4⟩, fj⟩ := least hi
      refine .inl ⟨i, j, a, b, h1, h2, h3, h4, fun i' j' x y lt o hx hy g => ?_⟩
      rcases o with o | ⟨rfl, o⟩
      · exact fi i' o ⟨j', x, y, lt, hx, hy, g⟩
      · exact fj j' o ⟨x, y, lt, hx, hy, g⟩
    · refine .inr ?_
      rw [PF, List.pairwise_iff_getElem]
      intro i j h1 h2 h3
      exact ⟨fun z => c2 ⟨i, j, _, _, h3, List.getElem?_eq_getElem h1, List.getElem?_eq_getElem h2, .inl z⟩, fun z => c2 ⟨i, j, _, _, h3, List.getElem?_eq_getElem h1, List.getElem?_eq_getElem h2, .inr z⟩⟩
theorem top_of : ∀ {ls : List Nat}, ls ≠ [] → ∃ L, L ∈ ls ∧ ∀ l ∈ ls, l ≤ L
  | [], h => absurd rfl h
  | [a], _ => ⟨a, List.mem_cons_self, fun l h => by rw [List.mem_singleton.mp h]; exact Nat.le_refl _⟩
  | a :: b :: r, _ => by
    obtain ⟨L, h1, h2⟩ := top_of (ls := b :: r) (by simp)
    by_cases c : a ≤ L
    · exact ⟨L, List.mem_cons_of_mem _ h1, fun l h => by
        rcases List.mem_cons.mp h with rfl | h
        · exact c
        · exact h2 l h⟩
    · exact ⟨a, List.mem_cons_self, fun l h => by
        rcases List.mem_cons.mp h with rfl | h
        · exact Nat.le_refl _
        · have := h2 l h
          omega⟩
theorem kl_up {L M : Nat} (h : L ≤ M) : ∀ {ls : List Nat}, (∀ l ∈ ls, l ≤ L) → kl M ls = 2 ^ (M - L) * kl L ls
  | [], _ => by simp [kl]
  | l :: ls, a => by
    rw [kl_cons, kl_cons, kl_up h fun x m => a x (List.mem_cons_of_mem _ m), Nat.mul_add, ← Nat.pow_add]
    congr 2
    have := a l List.mem_cons_self
    omega
section
variable {P : Program} {w : World} {K : PySem.W.Frag} {mg : Str → Option Value} {base : Heap}
/-- a class that may be made by its name, with one thing left out that is None then -/
structure MakN (CX : CXT) (P : Program) (w : World) (K : PySem.W.Frag) (mg : Str → Option Value) (base : Heap) (k : Nat) (x : Str) (C : Addr) (sp : Sp) : Prop where
  ex : ∃ (f : Addr) (fd : FuncData) (ps : List Str), Mk K C f ∧ FnOk P w K mg base CX k f fd ps sp ∧ mg x = some (.ref C) ∧ Binds K fd ps [.none]
end
section
variable {X : Cx} {CX : CXT} {k j : Nat} {C : Addr} {x : Str} {sp : Sp} {p pos : Pos} {e : Expr} {es : List Expr} {t : TA} {E : XK}
theorem pe_mkN (c : MakN CX X.prog X.w X.K X.mg X.base k x C sp) (hr : Room j X.A) (hx : Passes CX X E) (ha : PA X (e :: es) t) (hk : k + 1 ≤ j := by decide) (hg : Gl X x := by rfl) (hdb : (x == ("__debug__" : Str)) = false := by decide)
    (he : starEach (e :: es) X.env = (false, eval e X.env) :: starEach es X.env := by rfl) (hpl : (backTo pos (starEach es X.env)).any (·.1) = false := by rfl) : PE X (.Call (.Name x p) (e :: es) [] pos) (tMake C sp [.non] E t) := by
  obtain ⟨f, fd, ps, M, F, hm, b⟩ := c.ex
  exact pe_make M F (hr.mono hk) hg hm b (.cons rfl .nil) hx ha hdb he hpl
end
end K40
set_option Elab.async false
set_option linter.all false
set_option maxRecDepth 100001
set_option maxHeartbeats 3999999
namespace K40
open PySem L2
open Huff (hf dot Full Least Best stp Two Chain PkL Pk AscI Deep)
abbrev sLO : Stmt := topS 33
abbrev sLC : Stmt := topS 31
def spLO : Sp := fun vs H Q _ => ∃ (cp : Addr) (cs : List Nat), vs = [.ref cp] ∧ LT H cp (nV cs) ∧ 2 ≤ cs.length ∧ cs.length ≤ 2000 ∧ ∀ H', Same H H' → Q (.int ((hf cs : Nat) : Int)) H'
def spLC (C CT CA : Addr) (Tb : List (Addr × Str)) : Sp := fun vs H Q E => ∃ (cp : Addr) (ts : List V), vs = [.ref cp] ∧ H cp = some (.lst ts) ∧ (∀ v ∈ ts, Kn H v) ∧ ts.length ≤ 5000 ∧ LamX.Tabs Tb H ∧
  ((¬ (2 ≤ ts.length ∧ ts.length ≤ 2000) ∧ ∀ d H', Rsd H H' d [("most", .int 2000), ("many", .int (ts.length : Nat)), ("what", .str "signs")] → E (.ref CT) (some d) H') ∨
   (2 ≤ ts.length ∧ ts.length ≤ 2000 ∧ ∃ i v, ts[i]? = some v ∧ frm v 0 = false ∧ (∀ j u, j < i → ts[j]? = some u → frm u 0 = true) ∧ ∀ d H', Rsd H H' d [("index", .int (i : Nat))] → E (.ref CA) (some d) H') ∨
   (∃ cs : List Nat, ts = nV cs ∧ 2 ≤ cs.length ∧ cs.length ≤ 60 ∧ ∀ q L ls ws H', IsCo C H' q L ls ws → (∃ os, IsOrd ls os ∧ CanoOf ls os ws) → H q = none → Best ls cs → (∀ l ∈ ls, 1 ≤ l ∧ l + 1 ≤ cs.length) → LamX.ExtN H H' → LamX.Tabs Tb H' → Q (.ref q) H'))
section
variable {P : Program} {w : World} {K : PySem.W.Frag} {mg : Str → Option Value} {base : Heap}
theorem scLO : FnScope ["counts", "_", "total"] ["counts"] (defScope sLO) := ⟨rfl, rfl, rfl, by decide +kernel, rfl, by decide +kernel, by decide +kernel⟩
theorem ok_lo {f : Addr} {fd : FuncData} (F : Fun K "least_of" "least_of" sLO f fd) (cJ : Cal CX0 P w K mg base 1 "joined_counts" spJC) : FnOk P w K mg base CX0 2 f fd ["counts"] spLO := by
  refine F.ok scLO (fun vs H Q E h => ?_) (fun cdv A outer s H vs Q E hr h => ?_)
  · obtain ⟨cp, cs, rfl, _⟩ := h
    rfl
  · obtain ⟨cp, cs, rfl, hc, c2, c20, q⟩ := h
    refine ⟨_, pss_cons (ps_asg (pe_c cJ hr pass0 (pa_cons (pv 0) pa_nil)) (pg_tup rfl (pgs_cons (pg_name (i := 1) scLO.nd rfl (.inl rfl)) (pgs_cons (pg_name (i := 2) scLO.nd rfl (.inl rfl)) pgs_nil))))
      (pss_one (ps_ret (pv 2))), ?_⟩
    refine ⟨_, rfl, cp, cs, rfl, hc, c2, c20, fun t jo jv js ms I H' e _ _ ht _ _ _ _ _ => ?_⟩
    exact ⟨t, _, rfl, SqT.of ht, rfl, _, _, rfl, _, _, rfl, rfl, _, rfl, q H' e⟩
abbrev NLC : List Str := ["counts", "joins", "_", "depths", "join", "part"]
theorem scLC : FnScope NLC ["counts"] (defScope sLC) := ⟨rfl, rfl, rfl, by decide +kernel, rfl, by decide +kernel, by decide +kernel⟩
theorem lAt_set {ds : List Nat} {p x i : Nat} (h : p < ds.length) : lAt (ds.set p x) i = if i = p then x else lAt ds i := by
  show (ds.set p x).getD i 0 = if i = p then x else ds.getD i 0
  rw [List.getD_eq_getElem?_getD, List.getD_eq_getElem?_getD, List.getElem?_set]
  by_cases c : p = i
  · subst c
    rw [if_pos rfl, if_pos rfl, if_pos h]
    rfl
  · rw [if_neg c, if_neg (Ne.symm c)]
theorem nV_set (ds : List Nat) (p x : Nat) : (nV ds).set p (.int ((x : Nat) : Int)) = nV (ds.set p x) := by
  unfold nV
  rw [List.map_set]
theorem ok_lc {f C CT CA CL CN CB CG : Addr} {fd : FuncData} {Tb : List (Addr × Str)} (F : Fun K "least_code" "least_code" sLC f fd) (B : Bi mg) (cC : Cal (L2.CX P w) P w K mg base 4 "check_counts" (spCC CT CA)) (cJ : Cal CX0 P w K mg base 1 "joined_counts" spJC)
    (mN : MakN (L2.CX P w) P w K mg base 8 "Code" C (spCoI C CT CL CN CB CG Tb)) : FnOk P w K mg base (L2.CX P w) 10 f fd ["counts"] (spLC C CT CA Tb) := by
  refine F.okX scLC (fun vs H Q E h => ?_) (fun cdv A outer s H vs Q E hr h => ?_)
  · obtain ⟨cp, ts, rfl, _⟩ := h
    rfl
  · obtain ⟨cp, ts, rfl, hl, kn, l5, tabs, out⟩ := h
    refine ⟨_, pss_cons (ps_expr (pe_c cC hr (passes_call (takes_of rfl rfl rfl rfl) fun _ _ _ _ h => h) (pa_cons (pv 0) pa_nil)))
      (pss_cons (ps_asg (pe_c cJ hr pass0 (pa_cons (pv 0) pa_nil)) (pg_tup rfl (pgs_cons (pg_name (i := 1) scLC.nd rfl (.inl rfl)) (pgs_cons (pg_name (i := 2) scLC.nd rfl (.inl rfl)) pgs_nil))))
      (pss_cons (ps_set (i := 3) scLC.nd rfl (Or.inl rfl) (pe_op op_rep (pe_lst (pa_cons pe_int pa_nil)) (pe_op op_add (pe_len B.len (pa_cons (pv 0) pa_nil)) (pe_len B.len (pa_cons (pv 1) pa_nil)))))
      (pss_cons (ps_for (passes_of rfl) rfl (pi_range3 rfl B.range (pa_cons (pe_op op_sub (pe_len B.len (pa_cons (pv 1) pa_nil)) pe_int) (pa_cons (pe_un un_neg pe_int) (pa_cons (pe_un un_neg pe_int) pa_nil)))) (pg_name (i := 4) scLC.nd rfl (Or.inl rfl))
        (pss_one (ps_for (passes_of rfl) rfl (pi_sqA (pe_ix ix_list (pv 1) (pv 4) (fun _ _ => rfl))) (pg_name (i := 5) scLC.nd rfl (Or.inl rfl))
          (pss_one (ps_asg (pe_op op_add (pe_ix ix_list (pv 3) (pe_op op_add (pe_len B.len (pa_cons (pv 0) pa_nil)) (pv 4)) (fun _ _ => rfl)) pe_int) (pg_sub (pv 3) (pv 5) set_list))))))
      (pss_one (ps_ret (pe_mkN mN hr (passes_call (takes_of rfl rfl rfl rfl) fun _ _ _ _ h => h) (pa_cons (pe_slice sl_list (pv 3) po_none (po_some (pe_len B.len (pa_cons (pv 0) pa_nil)))) pa_nil))))))), ?_⟩
    refine ⟨_, rfl, cp, ts, rfl, .inl hl, kn, l5, ?_⟩
    rcases out with out | out | ⟨cs, rfl, c2, c6, out⟩
    · exact .inl out
    · exact .inr (.inl out)
    refine .inr (.inr ⟨by rw [nV_len]; omega, by rw [nV_len]; omega, nV_frm cs, fun H1 e1 => ?_⟩)
    refine ⟨_, rfl, cp, cs, rfl, .inl (e1 _ _ hl), c2, by omega, fun t jo jv js ms I H2 e2 _ njo ht hjo pj ch lj sm => ?_⟩
    refine ⟨t, _, rfl, SqT.of ht, rfl, _, _, rfl, _, _, rfl, rfl, ?_⟩
    have ljv := pj.len
    have hc2 := e2 _ _ (e1 _ _ hl)
    refine ⟨by show 1 ≤ sizeLine; decide, fun z0 nz0 => ⟨_, rfl, cp, _, rfl, .inl (SqL.of (same_new nz0 _ _ hc2)), _, rfl, jo, _, rfl, .inl (SqL.of (same_new nz0 _ _ hjo)), _, _, rfl, rfl, ?_⟩⟩
    have eR : (List.replicate (((cs.length : Nat) : Int) + ((jv.length : Nat) : Int)).toNat [V.int 0]).flatten = nV (List.replicate (cs.length + js.length) 0) := by
      rw [show (((cs.length : Nat) : Int) + ((jv.length : Nat) : Int)).toNat = cs.length + js.length by omega]
      unfold nV
      rw [List.map_replicate]
      exact List.flatten_replicate_singleton
    rw [nV_len]
    refine ⟨z0, _, _, rfl, rfl, upd_same, by omega, by omega, ?_, fun D nD => ?_⟩
    · rw [show (((cs.length : Nat) : Int) + ((jv.length : Nat) : Int)).toNat = cs.length + js.length by omega, List.length_singleton]
      exact Nat.le_of_lt (small10 (by omega))
    rw [eR]
    have e4 : Same H2 (upd (upd H2 z0 (.lst [.int 0])) D (.lst (nV (List.replicate (cs.length + js.length) 0)))) := (same_new nz0).trans (same_new nD)
    have hD4 : upd (upd H2 z0 (.lst [.int 0])) D (.lst (nV (List.replicate (cs.length + js.length) 0))) D = some (.lst (nV (List.replicate (cs.length + js.length) 0))) := upd_same
    have nD2 : H2 D = none := Same.none' (same_new nz0) nD
    generalize upd (upd H2 z0 (.lst [.int 0])) D (.lst (nV (List.replicate (cs.length + js.length) 0))) = H4 at e4 hD4 ⊢
    have hj4 := e4 _ _ hjo
    have hc4 := e4 _ _ hc2
    have pj4 := PL.tt (TT.same e4) pj
    have njD : jo ≠ D := ne_of_none hjo nD2
    have ncD : cp ≠ D := ne_of_none hc2 nD2
    have nd0 := Huff.zipIdx_nd cs
    have lt0 : ∀ v ∈ cs.zipIdx, v.2 < cs.length := Huff.zipIdx_lt
    obtain ⟨i1, _⟩ := ch.done (by omega) (by omega)
    have len0 := ch.len
    rw [Huff.zipIdx_lenN] at len0
    have I1 : ∃ v, I = [v] := by
      match I, len0 with
      | [], l => exact absurd l.2 (by simp; omega)
      | [v], _ => exact ⟨v, rfl⟩
      | _ :: _ :: _, l => simp at i1
    obtain ⟨v0, rfl⟩ := I1
    have hv0 := (ch.ids nd0 lt0).2 v0 List.mem_cons_self
    have deep0 : Deep cs.length (lAt (List.replicate (cs.length + js.length) 0)) [v0] 0 0 := by
      have e0 : ∀ i, lAt (List.replicate (cs.length + js.length) 0) i = 0 := fun i => by
        show (List.replicate _ 0).getD i 0 = 0
        rw [List.getD_eq_getElem?_getD, List.getElem?_replicate]
        split <;> rfl
      refine ⟨?_, ?_, fun v hv => ?_⟩
      · show 2 ^ (cs.length - lAt _ v0.2) + 0 = _
        rw [e0]
        rfl
      · show v0.1 * lAt _ v0.2 + 0 = _
        rw [e0, Nat.mul_zero]
      · rw [e0]
        exact Nat.le_refl _
    refine ⟨_, rfl, jo, _, rfl, .inl (SqL.of hj4), _, _, rfl, rfl, _, rfl, _, rfl, _, _, _, js.length, rfl, ?_, for_rangeC (n := js.length) (fun i σ H' => ∃ (ds : List Nat) (ms' : List Nat) (I' : List (Nat × Nat)) (t : Nat) (x4 x5 : Option V), σ = [some (.ref cp), some (.ref jo), some (.int ((hf cs : Nat) : Int)), some (.ref D), x4, x5] ∧ ButI D H4 H' ∧ H' D = some (.lst (nV ds)) ∧
        ds.length = cs.length + js.length ∧ Chain cs.length cs.zipIdx (js.take (js.length - i)) ms' I' ∧ Deep cs.length (lAt ds) I' t i ∧ t + ms'.sum = hf cs ∧ i ≤ js.length)
        ⟨_, ms, [v0], 0, none, none, rfl, fun _ _ _ z => z, hD4, List.length_replicate, by rw [Nat.sub_zero, List.take_length]; exact ch, deep0, by omega, Nat.zero_le _⟩ ?_ ?_⟩
    · have := RgC.neg (i := ((jv.length : Nat) : Int) - 1) (j := -1) (by omega) (by omega) (by omega) (by omega)
      rw [show ((((jv.length : Nat) : Int) - 1) - -1).toNat = js.length by omega] at this
      exact this
    · rintro i σ H5 hi ⟨ds, ms', I', t', x4, x5, rfl, b5, hD5, lds, ch5, dp5, es, _⟩
      have ej : ((jv.length : Nat) : Int) - 1 + ((i : Nat) : Int) * -1 = ((js.length - 1 - i : Nat) : Int) := by omega
      show gName 4 (V.int (((jv.length : Nat) : Int) - 1 + ((i : Nat) : Int) * -1)) _ _ _
      rw [ej]
      have hj : js.length - 1 - i < js.length := by omega
      obtain ⟨j, ejj⟩ : ∃ j, js.length - 1 - i = j := ⟨_, rfl⟩
      rw [ejj] at hj ⊢
      rw [show js.length - i = j + 1 by omega, List.take_succ_eq_append_getElem hj] at ch5
      obtain ⟨tp, t1, t2⟩ := pj4.atI hj
      have t2 := b5 _ _ (fun z => by subst z; rw [hD4] at t2; cases t2) t2
      have hj5 := b5 _ _ njD hj4
      have hc5 := b5 _ _ ncD hc4
      have ltake : (js.take j).length = j := by rw [List.length_take]; omega
      generalize js[j] = pq at ch5 t2
      obtain ⟨p, q⟩ := pq
      dsimp only at t2
      have bk := fun (d' : Nat → Nat) e1 e2 e3 => ch5.back (d' := d') nd0 lt0 dp5 (by omega) e1 e2 e3
      rw [ltake] at bk
      have pre : p < cs.length + j ∧ q < cs.length + j ∧ p ≠ q := by
        by_cases pq : p = q
        · obtain ⟨_, _, z, _⟩ := bk (fun v => if v = p then lAt ds (cs.length + j) + 1 else lAt ds v) (if_pos rfl) (if_pos pq.symm) (fun v h1 _ => if_neg h1)
          exact absurd pq z
        · obtain ⟨a, b, c, _⟩ := bk (fun v => if v = p then lAt ds (cs.length + j) + 1 else if v = q then lAt ds (cs.length + j) + 1 else lAt ds v) (if_pos rfl) (by rw [if_neg (Ne.symm pq), if_pos rfl]) (fun v h1 h2 => by rw [if_neg h1, if_neg h2])
          exact ⟨a, b, c⟩
      obtain ⟨p1, q1, pq⟩ := pre
      refine ⟨_, rfl, _, rfl, jo, _, _, _, rfl, rfl, SqL.of hj5, t1, tp, _, rfl, .inr (SqT.of t2), fun J G wk hG => for_it wk (fun k σ H' => ∃ x5 : Option V, σ = [some (.ref cp), some (.ref jo), some (.int ((hf cs : Nat) : Int)), some (.ref D), some (.int ((j : Nat) : Int)), x5] ∧ ButI D H5 H' ∧
        H' D = some (.lst (nV (match k with | 0 => ds | 1 => ds.set p (lAt ds (cs.length + j) + 1) | _ => (ds.set p (lAt ds (cs.length + j) + 1)).set q (lAt ds (cs.length + j) + 1))))) ⟨_, rfl, fun _ _ _ z => z, hD5⟩ (fun k σ H' _ ⟨_, _, e, _⟩ => hG H' fun o z => e _ _ (fun y => by subst y; rw [t2] at hD5; cases hD5) z) ?_ ?_⟩
      · have hat : ∀ dk : List Nat, dk.length = cs.length + js.length → atI (nV dk) (((nV cs).length : Nat) + ((j : Nat) : Int)) = some (.int ((lAt dk (cs.length + j) : Nat) : Int)) := fun dk h => by
          rw [nV_len, show ((cs.length : Nat) : Int) + ((j : Nat) : Int) = ((cs.length + j : Nat) : Int) by omega]
          exact atI_nat (nV_at (by omega))
        rintro k x σ H6 H7 hk ⟨x5, rfl, b6, hD6⟩ ⟨rfl, hx⟩
        have hc6 := b6 _ _ ncD hc5
        match k, hk with
        | 0, _ =>
          cases hx
          have hD6 : H7 D = some (.lst (nV ds)) := hD6
          refine ⟨_, rfl, _, rfl, cp, _, rfl, .inl (SqL.of hc6), _, rfl, _, _, rfl, rfl, D, _, _, _, rfl, rfl, SqL.of hD6, hat _ lds, _, _, rfl, rfl, _, rfl, _, rfl, D, _, _, p, rfl, rfl, hD6, ixn (by rw [nV_len]; omega), _, rfl, fun b o nb z => (upd_ne nb).trans (b6 _ _ nb z), ?_⟩
          rw [upd_same]
          show some (HO.lst ((nV ds).set p (.int ((lAt ds (cs.length + j) + 1 : Nat) : Int)))) = some (HO.lst (nV (ds.set p (lAt ds (cs.length + j) + 1))))
          rw [nV_set]
        | 1, _ =>
          cases hx
          have hD6 : H7 D = some (.lst (nV (ds.set p (lAt ds (cs.length + j) + 1)))) := hD6
          have l1 : (ds.set p (lAt ds (cs.length + j) + 1)).length = cs.length + js.length := by rw [List.length_set, lds]
          refine ⟨_, rfl, _, rfl, cp, _, rfl, .inl (SqL.of hc6), _, rfl, _, _, rfl, rfl, D, _, _, _, rfl, rfl, SqL.of hD6, hat _ l1, _, _, rfl, rfl, _, rfl, _, rfl, D, _, _, q, rfl, rfl, hD6, ixn (by rw [nV_len]; omega), _, rfl, fun b o nb z => (upd_ne nb).trans (b6 _ _ nb z), ?_⟩
          rw [upd_same, lAt_set (by omega), if_neg (by omega)]
          show some (HO.lst ((nV (ds.set p (lAt ds (cs.length + j) + 1))).set q (.int ((lAt ds (cs.length + j) + 1 : Nat) : Int)))) = some (HO.lst (nV ((ds.set p (lAt ds (cs.length + j) + 1)).set q (lAt ds (cs.length + j) + 1))))
          rw [nV_set]
      · rintro σ H6 ⟨x5, rfl, b6, hD6⟩
        have hD6 : H6 D = some (.lst (nV ((ds.set p (lAt ds (cs.length + j) + 1)).set q (lAt ds (cs.length + j) + 1)))) := hD6
        obtain ⟨_, _, _, ms2, s2, I2, em, ch6, dp6⟩ := bk (lAt ((ds.set p (lAt ds (cs.length + j) + 1)).set q (lAt ds (cs.length + j) + 1))) (by
            rw [lAt_set (by rw [List.length_set]; omega), if_neg pq, lAt_set (by omega), if_pos rfl]) (by rw [lAt_set (by rw [List.length_set]; omega), if_pos rfl]) (fun v h1 h2 => by
            rw [lAt_set (by rw [List.length_set]; omega), if_neg h2, lAt_set (by omega), if_neg h1])
        refine ⟨_, ms2, I2, t' + s2, _, _, rfl, fun b o nb z => b6 _ _ nb (b5 _ _ nb z), hD6, by rw [List.length_set, List.length_set, lds], ?_, dp6, ?_, hi⟩
        · rw [show js.length - (i + 1) = j by omega]
          exact ch6
        · rw [em, List.sum_append, List.sum_singleton] at es
          omega
    · rintro σ H5 ⟨ds, ms', I', t', x4, x5, rfl, b5, hD5, lds, ch5, dp5, es, _⟩
      rw [Nat.sub_self, List.take_zero] at ch5
      have hc5 := b5 _ _ ncD hc4
      have fin : ms' = [] ∧ I'.Perm cs.zipIdx := by
        generalize ej : ([] : List (Nat × Nat)) = j0 at ch5
        cases ch5 with
        | nil p => exact ⟨rfl, p⟩
        | snoc _ _ _ _ _ => simp at ej
      obtain ⟨rfl, pI⟩ := fin
      obtain ⟨k1, k2, k3⟩ := dp5.end_ pI
      have et : t' = hf cs := by simpa using es
      have els : (List.range cs.length).map (lAt ds) = ds.take cs.length := by
        refine List.ext_getElem (by simp; omega) fun i h1 h2 => ?_
        rw [List.length_map, List.length_range] at h1
        rw [List.getElem_map, List.getElem_range, List.getElem_take, lAt_get]
      rw [els] at k1 k2 k3
      have ell : (ds.take cs.length).length = cs.length := by rw [List.length_take]; omega
      refine ⟨_, rfl, ?_⟩
      simp only [tNoPart]
      refine ⟨_, rfl, cp, _, rfl, .inl (SqL.of hc5), _, rfl, D, _, rfl, SqL.of hD5, fun lp nlp => ?_⟩
      rw [show cutV (nV ds) none (some (((nV cs).length : Nat) : Int)) = nV (ds.take cs.length) by
        rw [nV_len, cut_to (by rw [nV_len]; omega)]
        unfold nV
        rw [List.map_take]]
      refine fun p dx np ndx ne => ?_
      have e6 := (same_new (o := .lst (nV (ds.take cs.length))) nlp)
      have hl6 : upd H5 lp (.lst (nV (ds.take cs.length))) lp = some (.lst (nV (ds.take cs.length))) := upd_same
      generalize upd H5 lp (.lst (nV (ds.take cs.length))) = H6 at e6 hl6 np ndx ⊢
      have s6 : Same H H6 := fun b o z => e6 _ _ (b5 _ _ (fun y => by
        have := e2 _ _ (e1 _ _ z)
        rw [y, nD2] at this
        cases this) (e4 _ _ (e2 _ _ (e1 _ _ z))))
      have e7 : Same H6 (upd (upd H6 dx (.own p)) p (.ins C dx [])) := same_ins np ndx
      have hp7 : upd (upd H6 dx (.own p)) p (.ins C dx []) p = some (.ins C dx []) := upd_same
      generalize upd (upd H6 dx (.own p)) p (.ins C dx []) = H7 at e7 hp7 ⊢
      generalize ds.take cs.length = ls at k1 k2 k3 ell hl6
      have lk : ∀ l ∈ ls, 1 ≤ l ∧ l + 1 ≤ cs.length := fun l hl => ⟨Huff.full_pos (by omega) k1 l hl, by have := k3 l hl; omega⟩
      obtain ⟨L, Lm, LM⟩ := top_of (ls := ls) (by intro z; subst z; simp at ell; omega)
      have L6 := (lk L Lm).2
      have kL : Huff.kl L ls = 2 ^ L := Huff.kl_max (L := cs.length) (by omega) LM k1
      refine ⟨p, dx, lp, .non, _, rfl, hp7, .inl (e7 _ _ hl6), nV_kn _, tabs.ext (s6.trans e7), by rw [nV_len]; omega, .inr (.inr ⟨by rw [nV_len]; omega, by rw [nV_len]; omega, ls, L, rfl, fun l hl => ⟨(lk l hl).1, LM l hl⟩, Lm, by omega, .inr (.inl ⟨kL, rfl, fun os ws H8 lt wt tr O Cn bt tab8 hp8 hlt hwt => ⟨rfl, ?_⟩⟩)⟩)⟩
      refine out p L ls ws H8 ⟨dx, lt, wt, tr, hp8, hlt, hwt⟩ ⟨os, O, Cn⟩ (Same.none' s6 np) ⟨ell, ⟨L, LM, kL⟩, by rw [k2, et]⟩ lk (fun c o z n => bt c o (ne_of_none z (Same.none' s6 np)) (e7 _ _ (s6 _ _ z)) n) tab8
end
end K40
set_option linter.all false
namespace Huff
theorem least_item {I : List It} (h : I ≠ []) : ∃ x r, I.Perm (x :: r) ∧ ∀ z ∈ r, x.1 ≤ z.1 := by
  obtain ⟨m, h1, h2⟩ := le_min (l := I.map (·.1)) (by intro e; exact h (List.map_eq_nil_iff.mp e))
  obtain ⟨x, hx, rfl⟩ := List.mem_map.mp h1
  obtain ⟨r, hr⟩ := mem_perm hx
  exact ⟨x, r, hr, fun z hz => h2 _ (List.mem_map_of_mem (hr.symm.subset (List.mem_cons_of_mem _ hz)))⟩
theorem chain_ex (n : Nat) (I0 : List It) : ∀ k, k + 1 ≤ I0.length → ∃ js ms I, Chain n I0 js ms I ∧ js.length = k
  | 0, _ => ⟨[], [], I0, .nil (.refl _), rfl⟩
  | k + 1, h => by
    obtain ⟨js, ms, I, c, e⟩ := chain_ex n I0 k (by omega)
    have l := c.len.2
    obtain ⟨x, r, pr, hr⟩ := least_item (I := I) (by rintro rfl; simp at l; omega)
    have lr := pr.length_eq
    rw [List.length_cons] at lr
    obtain ⟨y, g, pg, hg⟩ := least_item (I := r) (by rintro rfl; simp at lr; omega)
    exact ⟨_, _, _, .snoc c (pr.trans (pg.cons x)) (hr y (pg.symm.subset List.mem_cons_self)) hg (.refl _), by rw [List.length_append, e]; rfl⟩
theorem deep_ex {n : Nat} {I0 : List It} (nd : (I0.map (·.2)).Nodup) (lt : ∀ v ∈ I0, v.2 < n) {L : Nat} : ∀ (k : Nat) (js : List (Nat × Nat)) (ms : List Nat) (I : List It) (d : Nat → Nat) (t b : Nat), js.length = k → Chain n I0 js ms I → Deep L d I t b → b + k ≤ L →
    ∃ d' I', I'.Perm I0 ∧ Deep L d' I' (t + ms.sum) (b + k)
  | 0, js, ms, I, d, t, b, e, c, h, _ => by
    have : js = [] := List.length_eq_zero_iff.mp e
    subst this
    generalize ej : ([] : List (Nat × Nat)) = j0 at c
    cases c with
    | nil p => exact ⟨d, I, p, h⟩
    | snoc _ _ _ _ _ => simp at ej
  | k + 1, js, ms, I, d, t, b, e, c, h, hb => by
    have ne : js ≠ [] := by rintro rfl; simp at e
    obtain ⟨js', pq, rfl⟩ : ∃ js' pq, js = js' ++ [pq] := ⟨_, _, (List.dropLast_concat_getLast ne).symm⟩
    obtain ⟨p, q⟩ := pq
    rw [List.length_append] at e
    have e' : js'.length = k := by simpa using e
    by_cases z : p = q
    · obtain ⟨_, _, z2, _⟩ := c.back (d' := fun v => if v = p then d (n + js'.length) + 1 else d v) nd lt h (by omega) (if_pos rfl) (if_pos z.symm) (fun v h1 _ => if_neg h1)
      exact absurd z z2
    · obtain ⟨_, _, _, ms', s, I', rfl, c', h'⟩ := c.back (d' := fun v => if v = p then d (n + js'.length) + 1 else if v = q then d (n + js'.length) + 1 else d v) nd lt h (by omega) (if_pos rfl) (by rw [if_neg (Ne.symm z), if_pos rfl]) (fun v h1 h2 => by rw [if_neg h1, if_neg h2])
      obtain ⟨d2, I2, p2, h2⟩ := deep_ex nd lt k js' ms' I' _ (t + s) (b + 1) e' c' h' (by omega)
      refine ⟨d2, I2, p2, ?_⟩
      rw [List.sum_append, List.sum_singleton, show t + (ms'.sum + s) = t + s + ms'.sum by omega, show b + (k + 1) = b + 1 + k by omega]
      exact h2
/-- there is a code that costs least -/
theorem best_ex {cs : List Nat} (n : 1 ≤ cs.length) : ∃ b, Best b cs ∧ ∀ l ∈ b, l + 1 ≤ cs.length := by
  obtain ⟨js, ms, I, c, e⟩ := chain_ex cs.length cs.zipIdx (cs.length - 1) (by rw [zipIdx_lenN]; omega)
  have l := c.len
  rw [zipIdx_lenN] at l
  obtain ⟨i1, sm⟩ := c.done (by omega) n
  have I1 : ∃ v, I = [v] := by
    match I, l.2 with
    | [], h => simp at h; omega
    | [v], _ => exact ⟨v, rfl⟩
    | _ :: _ :: _, h => simp at i1
  obtain ⟨v, rfl⟩ := I1
  obtain ⟨d, I', p, h⟩ := deep_ex (L := cs.length) (zipIdx_nd cs) zipIdx_lt _ js ms [v] (fun _ => 0) 0 0 e c ⟨by simp, by simp, fun _ _ => Nat.le_refl _⟩ (by omega)
  obtain ⟨k1, k2, k3⟩ := h.end_ p
  refine ⟨_, ⟨by simp, ⟨cs.length, fun l hl => by have := k3 l hl; omega, k1⟩, by rw [k2, sm, Nat.zero_add]⟩, fun l hl => by have := k3 l hl; omega⟩
end Huff
set_option Elab.async false
set_option linter.all false
set_option maxRecDepth 100001
set_option maxHeartbeats 3999999
namespace K40
open PySem L2
open Huff (hf dot Least Best stp)
/-- numbers that aren't too great -/
def Bd (cs : List Nat) : Prop := ∀ c ∈ cs, c < 2 ^ 200
theorem sum_bd : ∀ {cs : List Nat}, Bd cs → cs.sum ≤ cs.length * 2 ^ 200
  | [], _ => Nat.zero_le _
  | c :: cs, h => by
    have ih := sum_bd (cs := cs) fun x hx => h x (List.mem_cons_of_mem _ hx)
    have := h c List.mem_cons_self
    rw [List.sum_cons, List.length_cons, Nat.add_mul]
    omega
theorem dot_bd {ls cs : List Nat} (s : Sm ls) (e : cs.length = ls.length) (l : ls.length ≤ 60) (h : Bd cs) : dot ls cs < 2 ^ 213 := by
  have h1 := Huff.dot_le (ls := ls) (cs := cs) (b := 100) s e.symm
  have h2 := sum_bd h
  have h3 : cs.length * 2 ^ 200 ≤ 60 * 2 ^ 200 := Nat.mul_le_mul_right _ (by omega)
  have h4 : 100 * (60 * 2 ^ 200) < 2 ^ 213 := by decide
  omega
theorem lAt_stp {cs ss : List Nat} {m i : Nat} (e : ss.length = cs.length) (h : i < cs.length) : lAt (stp cs ss m) i = lAt cs i + m * lAt ss i := by
  rw [lAt_get (by rw [Huff.stp_len e]; exact h), lAt_get h, lAt_get (by omega)]
  unfold stp
  rw [List.getElem_zipWith]
theorem gN {i : Nat} {v : V} {σ : St} {H : Hp} {Q : St → Hp → Prop} (h : Q (σ.set i (some v)) H) : gName i v σ H Q := h
section
variable {P : Program} {w : World} {K : PySem.W.Frag} {mg : Str → Option Value} {base : Heap}
end
end K40
set_option Elab.async false
set_option linter.all false
set_option maxRecDepth 100001
set_option maxHeartbeats 3999999
namespace K40
open PySem L2
open Huff (hf dot Least Best stp)
theorem perm_erase {α : Type} : ∀ (l : List α) (i : Nat) (h : i < l.length), (l[i] :: l.eraseIdx i).Perm l
  | a :: l, 0, _ => List.Perm.refl _
  | a :: l, i + 1, h => by
    have ih := perm_erase l i (by simpa using h)
    exact (List.Perm.swap a _ _).trans (ih.cons a)
theorem map_erase {α β : Type} (f : α → β) : ∀ (l : List α) (i : Nat), (l.map f).eraseIdx i = (l.eraseIdx i).map f
  | [], _ => rfl
  | _ :: _, 0 => rfl
  | a :: l, i + 1 => by
    show f a :: (l.map f).eraseIdx i = _
    rw [map_erase f l i]
    rfl
theorem seqIx {k n : Nat} (h : k < n) : seqIndex? ((k : Nat) : Int) n = some k := by
  unfold seqIndex?
  simp
  omega
section
variable {P : Program} {w : World} {K : PySem.W.Frag} {mg : Str → Option Value} {base : Heap}
end
end K40
set_option Elab.async false
set_option linter.all false
set_option maxRecDepth 100001
set_option maxHeartbeats 3999999
namespace K40
open PySem L2
open Huff (hf dot Least Best stp)
abbrev sLCost : Stmt := topS 58
abbrev sLLeast : Stmt := topS 59
/-- lengths of a full code, told by a great length -/
structure FC (xs : List Nat) : Prop where
  lo : ∀ l ∈ xs, 1 ≤ l
  hi : ∀ l ∈ xs, l + 1 ≤ xs.length
  kl : Huff.kl 60 xs = 2 ^ 60
theorem FC.start : FC [1, 1] := ⟨by simp, by simp, rfl⟩
theorem FC.perm {a b : List Nat} (h : FC a) (p : a.Perm b) : FC b := ⟨fun l hl => h.lo l (p.symm.subset hl), fun l hl => by rw [← p.length_eq]; exact h.hi l (p.symm.subset hl), by rw [← Huff.kl_perm p]; exact h.kl⟩
theorem FC.cut {xs : List Nat} {i : Nat} (h : FC xs) (hi : i < xs.length) (l : xs.length ≤ 60) : FC (xs.take i ++ [xs[i] + 1, xs[i] + 1] ++ xs.drop (i + 1)) := by
  have p1 : xs.Perm (xs[i] :: (xs.take i ++ xs.drop (i + 1))) := by
    conv => lhs; rw [← List.take_append_drop i xs, List.drop_eq_getElem_cons hi]
    exact List.perm_middle
  have p2 : ((xs[i] + 1) :: (xs[i] + 1) :: (xs.take i ++ xs.drop (i + 1))).Perm (xs.take i ++ [xs[i] + 1, xs[i] + 1] ++ xs.drop (i + 1)) := by
    rw [List.append_assoc]
    exact ((List.perm_middle (l₁ := xs.take i) (l₂ := (xs[i] + 1) :: xs.drop (i + 1)) (a := xs[i] + 1)).trans ((List.perm_middle).cons _)).symm
  refine FC.perm ⟨fun x hx => ?_, fun x hx => ?_, ?_⟩ p2
  · rcases List.mem_cons.mp hx with rfl | hx
    · omega
    · rcases List.mem_cons.mp hx with rfl | hx
      · omega
      · exact h.lo x (p1.symm.subset (List.mem_cons_of_mem _ hx))
  · have pl := p1.length_eq
    rw [List.length_cons] at pl
    rw [List.length_cons, List.length_cons, ← pl]
    have e0 := h.hi xs[i] (List.getElem_mem hi)
    rcases List.mem_cons.mp hx with rfl | hx
    · omega
    · rcases List.mem_cons.mp hx with rfl | hx
      · omega
      · have := h.hi x (p1.symm.subset (List.mem_cons_of_mem _ hx))
        omega
  · have k := h.kl
    rw [Huff.kl_perm p1, Huff.kl_cons] at k
    rw [Huff.kl_cons, Huff.kl_cons, ← k]
    have e0 := h.hi xs[i] (List.getElem_mem hi)
    rw [show 60 - xs[i] = (60 - (xs[i] + 1)) + 1 by omega, Nat.pow_succ]
    omega
theorem FC.full {xs : List Nat} (h : FC xs) (l : xs.length ≤ 61) : Huff.Full xs := ⟨60, fun x hx => by have := h.hi x hx; omega, h.kl⟩
theorem nV_take (xs : List Nat) (i : Nat) : (nV xs).take i = nV (xs.take i) := by
  unfold nV
  rw [List.map_take]
theorem nV_drop (xs : List Nat) (i : Nat) : (nV xs).drop i = nV (xs.drop i) := by
  unfold nV
  rw [List.map_drop]
def spLCo : Sp := fun vs H Q _ => ∃ (lt cp : Addr) (ls cs : List Nat), vs = [.ref lt, .ref cp] ∧ LT H lt (nV ls) ∧ H cp = some (.lst (nV cs)) ∧ cs.length = ls.length ∧ ls.length ≤ 5000 ∧ Sm ls ∧
  ∀ H', Same H H' → Q (.int ((dot ls cs : Nat) : Int)) H'
def spLLe : Sp := fun vs H Q _ => ∃ (cp : Addr) (cs : List Nat), vs = [.ref cp] ∧ H cp = some (.lst (nV cs)) ∧ cs.length ≤ 2000 ∧ ∀ H', Same H H' → Q (.int ((hf cs : Nat) : Int)) H'
theorem old_none {H H' : Hp} {pn D : Addr} (b : But pn H H') (hp : H' pn ≠ none) (n : H' D = none) : H D = none := by
  cases z : H D with
  | none => rfl
  | some o =>
    have n1 : D ≠ pn := fun e => hp (by rw [← e]; exact n)
    rw [b D o n1 z] at n
    cases n
theorem Pen.some_ {H : Hp} {pn cl : Addr} {b : Nat} (p : Pen H pn cl b) : H pn ≠ none := by
  obtain ⟨_, _, _, g1, _⟩ := p
  rw [g1]
  exact fun z => nomatch z
section
variable {P : Program} {w : World} {K : PySem.W.Frag} {mg : Str → Option Value} {base : Heap}
theorem scLCo : FnScope ["_law_lengths", "_law_counts", "_law_length", "_law_count"] ["_law_lengths", "_law_counts"] (defScope sLCost) := ⟨rfl, rfl, rfl, by decide +kernel, rfl, by decide +kernel, by decide +kernel⟩
theorem ok_lco {f : Addr} {fd : FuncData} (F : Fun K "_law_cost" "_law_cost" sLCost f fd) (Z : Bs mg) (mz : mg "zip" = none) : FnOk P w K mg base CX0 1 f fd ["_law_lengths", "_law_counts"] spLCo := by
  refine F.ok scLCo (fun vs H Q E h => ?_) (fun cdv A outer s H vs Q E hr h => ?_)
  · obtain ⟨lt, cp, ls, cs, rfl, _⟩ := h
    rfl
  · obtain ⟨lt, cp, ls, cs, rfl, hl, hc, el, l5, sm, q⟩ := h
    obtain ⟨tb, ht⟩ : ∃ tb : Bool, ∀ H', Same H H' → ZM.SqB K tb H' lt (nV ls) := hl.elim (fun z => ⟨false, fun H' e => SqL.of (e _ _ z)⟩) fun z => ⟨true, fun H' e => SqT.of (e _ _ z)⟩
    refine ⟨_, pss_one (ps_ret (pe_sum rfl Z.sum (pa_cons (pe_lc (own := [("_law_length", 2), ("_law_count", 3)]) rfl scLCo.nd (ZM.pi_zipM tb false mz (pa_cons (pv 0) (pa_cons (pv 1) pa_nil))) (blkOk_by (N := ["_law_lengths", "_law_counts", "_law_length", "_law_count"]) (sc := defScope sLCost) (by decide +kernel))
          (fun _ _ _ _ _ => pg_pairK K rfl rfl (pg_name (i := 2) scLCo.nd rfl (Or.inl rfl) (.inr rfl)) (pg_name (i := 3) scLCo.nd rfl (Or.inl rfl) (.inr rfl))) (fun _ _ _ _ _ => pts_nil) (fun _ _ _ _ _ => pe_op op_mul (pv 2) (pv 3))) pa_nil))), ?_⟩
    have eN : min (nV ls).length (nV cs).length = ls.length := by rw [nV_len, nV_len, el, Nat.min_self]
    refine ⟨_, rfl, _, rfl, lt, cp, nV ls, nV cs, rfl, ht H (Same.refl _), SqL.of hc, fun D nD => lcM (ZM.walk_zipM eN.symm) (fun i => .int ((lAt cs i * lAt ls i : Nat) : Int)) (by omega) nD (fun H' e => ⟨ht H' e, SqL.of (e _ _ hc)⟩) ?_ ?_⟩
    · rintro i x H2 H3 N hi e ⟨T0, y, z, rfl, nT0, rfl, hy, hz⟩ hN
      obtain ⟨i1, rfl⟩ := nV_get hy
      obtain ⟨i2, rfl⟩ := nV_get hz
      have b1 := sm _ (List.getElem_mem i1)
      rw [← lAt_get i1] at b1
      refine ⟨T0, _, rfl, SqT.of upd_same, rfl, _, _, rfl, _, _, rfl, rfl, rfl, ?_⟩
      refine ⟨_, rfl, _, rfl, _, _, rfl, rfl, .inl ⟨by omega, by omega⟩, ?_⟩
      have := hN _ (same_new (o := .tup [.int ((lAt ls i : Nat) : Int), .int ((lAt cs i : Nat) : Int)]) nT0)
      rw [Nat.mul_comm, Int.natCast_mul] at this
      exact this
    · intro H4 e4 hD
      refine ⟨D, (List.range ls.length).map fun i => ((lAt cs i * lAt ls i : Nat) : Int), rfl, SqL.of (by rw [List.map_map]; exact hD), ?_⟩
      rw [dot_sum el]
      exact q H4 e4
theorem nat_list : ∀ {ns : List Int} {cs : List Nat}, ns.Perm (cs.map fun c : Nat => (c : Int)) → ns.Pairwise (· ≤ ·) → ∃ xs : List Nat, ns.map V.int = nV xs ∧ xs.Perm cs ∧ Huff.Asc xs := fun {ns cs} p a => by
  have e : ∀ z ∈ ns, ((z.toNat : Nat) : Int) = z := fun z hz => by
    obtain ⟨c, _, rfl⟩ := List.mem_map.mp (p.subset hz)
    exact congrArg _ (Int.toNat_natCast c)
  refine ⟨ns.map Int.toNat, ?_, ?_, ?_⟩
  · unfold nV
    rw [List.map_map]
    exact List.map_congr_left fun z hz => congrArg V.int (e z hz).symm
  · have q := p.map Int.toNat
    rw [List.map_map] at q
    have : cs.map (Int.toNat ∘ fun c : Nat => (c : Int)) = cs := by
      conv => rhs; rw [← List.map_id cs]
      exact List.map_congr_left fun c _ => Int.toNat_natCast c
    rw [this] at q
    exact q
  · show (ns.map Int.toNat).Pairwise _
    rw [List.pairwise_map]
    exact a.imp_of_mem fun {x y} hx hy h => by
      have := e x hx
      have := e y hy
      omega
theorem scLLe : FnScope ["_law_counts", "_law_left", "_law_total", "_law_weight"] ["_law_counts"] (defScope sLLeast) := ⟨rfl, rfl, rfl, by decide +kernel, rfl, by decide +kernel, by decide +kernel⟩
theorem ok_lle {f : Addr} {fd : FuncData} (F : Fun K "_law_least" "_law_least" sLLeast f fd) (B : Bi mg) (ms : mg "sorted" = none) : FnOk P w K mg base CX0 1 f fd ["_law_counts"] spLLe := by
  refine F.ok scLLe (fun vs H Q E h => ?_) (fun cdv A outer s H vs Q E hr h => ?_)
  · obtain ⟨cp, cs, rfl, _⟩ := h
    rfl
  · obtain ⟨cp, cs, rfl, hc, c20, q⟩ := h
    refine ⟨_, pss_cons (ps_par (i := 1) (j := 2) rfl scLLe.nd rfl rfl (by decide) rfl rfl (pa_cons (pe_callB cr_sortedI rfl ms (by decide +kernel) (pa_cons (pv 0) pa_nil)) (pa_cons pe_int pa_nil)) rfl)
      (pss_cons (ps_while PassesOwn.never (pt_cmpR op_gt (pe_len B.len (pa_cons (pv 1) pa_nil)) pe_int (nomark _))
        (pss_cons (ps_set (i := 3) scLLe.nd rfl (Or.inl rfl) (pe_op op_add (pe_ix ix_list (pv 1) pe_int (fun _ _ => rfl)) (pe_ix ix_list (pv 1) pe_int (fun _ _ => rfl))))
        (pss_cons (ps_set (i := 1) scLLe.nd rfl (Or.inl rfl) (pe_callB cr_sortedI rfl ms (by decide +kernel) (pa_cons (pe_op op_cat (pe_slice sl_list (pv 1) (po_some pe_int) po_none) (pe_lst (pa_cons (pv 3) pa_nil))) pa_nil)))
        (pss_one (ps_set (i := 2) scLLe.nd rfl (Or.inl rfl) (pe_op op_add (pv 2) (pv 3)))))))
      (pss_one (ps_ret (pv 2)))), ?_⟩
    have hcI : ∀ cs : List Nat, nV cs = (cs.map fun c : Nat => (c : Int)).map V.int := fun cs => by
      unfold nV
      rw [List.map_map]
      rfl
    refine ⟨_, rfl, cp, cs.map fun c : Nat => (c : Int), rfl, SqL.of (by rw [← hcI]; exact hc), fun ns l p a nl => ?_⟩
    obtain ⟨xs, ex, px, ax⟩ := nat_list p a
    rw [ex]
    have e12 := same_new (o := .lst (nV xs)) nl
    have hl2 : upd H l (.lst (nV xs)) l = some (.lst (nV xs)) := upd_same
    generalize upd H l (.lst (nV xs)) = H2 at e12 hl2 ⊢
    refine ⟨_, _, rfl, fun k σ H' => ∃ (xs : List Nat) (l : Addr) (tot : Nat) (x3 : Option V), k = xs.length ∧ σ = [some (.ref cp), some (.ref l), some (.int ((tot : Nat) : Int)), x3] ∧ Same H H' ∧ H' l = some (.lst (nV xs)) ∧ Huff.Asc xs ∧ tot + hf xs = hf cs ∧ xs.length ≤ 2000, ⟨_, xs, l, 0, none, rfl, rfl, e12, hl2, ax, by rw [Nat.zero_add]; exact Huff.hf_perm px, by rw [px.length_eq]; exact c20⟩, ?_⟩
    clear ex px ax a p hl2 e12
    rintro k σ G ⟨xs, l, tot, x3, rfl, rfl, e, hl, ax, et, l20⟩
    refine ⟨_, rfl, l, _, rfl, .inl (SqL.of hl), _, _, rfl, rfl, _, rfl, ?_⟩
    rw [nV_len]
    match xs, ax with
    | [], _ => exact iteF ⟨_, rfl, by have := q G e; rw [← et] at this; exact this⟩
    | [a], _ => exact iteF ⟨_, rfl, by have := q G e; rw [← et] at this; exact this⟩
    | a :: b :: r, ax =>
      rw [decide_eq_true (show (1 : Int) < (((a :: b :: r).length : Nat) : Int) by simp only [List.length_cons]; omega)]
      obtain ⟨a1, a2⟩ := List.pairwise_cons.mp ax
      obtain ⟨a3, a4⟩ := List.pairwise_cons.mp a2
      have h2 := Huff.hf_two (l := a :: b :: r) (.refl _) (a1 b List.mem_cons_self) a3
      rw [h2] at et
      refine iteT ⟨fun σ' H' => ∃ k', k' < (a :: b :: r).length ∧ ∃ (xs : List Nat) (l : Addr) (tot : Nat) (x3 : Option V), k' = xs.length ∧ σ' = [some (.ref cp), some (.ref l), some (.int ((tot : Nat) : Int)), x3] ∧ Same H H' ∧ H' l = some (.lst (nV xs)) ∧ Huff.Asc xs ∧ tot + hf xs = hf cs ∧ xs.length ≤ 2000, fun σ' H' ⟨k', l, z⟩ => ⟨k', l, z⟩, ?_⟩
      have i0 : atI (nV (a :: b :: r)) 0 = some (.int ((a : Nat) : Int)) := nV_atI (i := 0) (by simp)
      have i1 : atI (nV (a :: b :: r)) 1 = some (.int ((b : Nat) : Int)) := nV_atI (i := 1) (by simp)
      refine ⟨_, rfl, l, _, _, _, rfl, rfl, SqL.of hl, i0, _, rfl, l, _, _, _, rfl, rfl, SqL.of hl, i1, _, _, rfl, rfl, ?_⟩
      refine gN ?_
      refine ⟨_, rfl, ?_⟩
      simp only [tNoPart]
      refine ⟨_, rfl, l, _, rfl, SqL.of hl, fun p1 np1 => ?_⟩
      rw [show cutV (nV (a :: b :: r)) (some 2) none = nV r from cut_from (xs := nV (a :: b :: r)) (k := 2) (by rw [nV_len]; simp)]
      have e4 := same_new (o := .lst (nV r)) np1
      have hp4 : upd G p1 (.lst (nV r)) p1 = some (.lst (nV r)) := upd_same
      generalize upd G p1 (.lst (nV r)) = G4 at e4 hp4 ⊢
      refine ⟨_, rfl, by show 1 ≤ sizeLine; decide, fun p2 np2 => ?_⟩
      dsimp only
      have e5 := same_new (o := .lst [.int (((a : Nat) : Int) + ((b : Nat) : Int))]) np2
      have hp5 := e5 _ _ hp4
      have hq5 : upd G4 p2 (.lst [.int (((a : Nat) : Int) + ((b : Nat) : Int))]) p2 = some (.lst (nV [a + b])) := upd_same
      generalize upd G4 p2 (.lst [.int (((a : Nat) : Int) + ((b : Nat) : Int))]) = G5 at e5 hp5 hq5 ⊢
      refine ⟨p1, p2, _, _, rfl, rfl, hp5, hq5, ?_, fun p3 np3 => ?_⟩
      · rw [nV_len, nV_len]
        simp only [List.length_cons, List.length_nil] at l20 ⊢
        exact Nat.le_of_lt (small10 (by omega))
      rw [← nV_app]
      have e6 := same_new (o := .lst (nV (r ++ [a + b]))) np3
      have hp6 : upd G5 p3 (.lst (nV (r ++ [a + b]))) p3 = some (.lst (nV (r ++ [a + b]))) := upd_same
      generalize upd G5 p3 (.lst (nV (r ++ [a + b]))) = G6 at e6 hp6 ⊢
      refine ⟨p3, (r ++ [a + b]).map fun c : Nat => (c : Int), rfl, SqL.of (by rw [← hcI]; exact hp6), fun ns l2 p an nl => ?_⟩
      obtain ⟨ys, ey, py, ay⟩ := nat_list p an
      rw [ey]
      refine gN ?_
      have e46 := e4.trans (e5.trans e6)
      have e7 := same_new (o := .lst (nV ys)) nl
      refine ⟨_, rfl, _, rfl, _, _, rfl, rfl, _, ?_, ys, l2, tot + (a + b), _, rfl, rfl, e.trans (e46.trans e7), upd_same, ay, ?_, ?_⟩
      · rw [py.length_eq]
        simp
      · rw [Huff.hf_perm py, Huff.hf_perm (List.perm_append_singleton _ _)]
        rw [← et]
        omega
      · rw [py.length_eq]
        simp only [List.length_cons, List.length_append, List.length_nil] at l20 ⊢
        omega
end
end K40
set_option Elab.async false
set_option linter.all false
set_option maxRecDepth 100001
set_option maxHeartbeats 3999999
namespace K40
open PySem L2
/-- words of a full code, at most ten -/
structure FW (ws : List W) : Prop where
  pf : PF ws
  lo : ∀ w ∈ ws, 1 ≤ w.length
  hi : ∀ w ∈ ws, w.length + 1 ≤ ws.length
  kr : kr 60 ws = 2 ^ 60
theorem kr_perm {L : Nat} {a b : List W} (p : a.Perm b) : kr L a = kr L b := (p.map _).sum_nat
theorem FW.perm {a b : List W} (h : FW a) (p : a.Perm b) : FW b :=
  ⟨h.pf.perm p, fun w hw => h.lo w (p.symm.subset hw), fun w hw => by rw [← p.length_eq]; exact h.hi w (p.symm.subset hw), by rw [← kr_perm p]; exact h.kr⟩
theorem FW.start : FW [[false], [true]] := by
  refine ⟨?_, ?_, ?_, rfl⟩
  · refine .cons (fun w hw => ?_) (.cons (fun w hw => nomatch hw) .nil)
    rw [List.mem_singleton.mp hw]
    exact ⟨by decide, by decide⟩
  · intro w hw
    rcases List.mem_cons.mp hw with rfl | hw
    · decide
    · rw [List.mem_singleton.mp hw]
      decide
  · intro w hw
    rcases List.mem_cons.mp hw with rfl | hw
    · decide
    · rw [List.mem_singleton.mp hw]
      decide
theorem kr_app (L : Nat) (a b : List W) : kr L (a ++ b) = kr L a + kr L b := by simp [kr]
theorem FW.cut {w : W} {r : List W} (h : FW (w :: r)) (l : r.length + 1 ≤ 60) : FW (r ++ [w ++ [false], w ++ [true]]) := by
  obtain ⟨p1, p2⟩ := List.pairwise_cons.mp h.pf
  have lw := h.hi w List.mem_cons_self
  rw [List.length_cons] at lw
  have one : ∀ x ∈ r, ∀ b : Bool, ¬ x <+: w ++ [b] ∧ ¬ w ++ [b] <+: x := fun x hx b => by
    obtain ⟨a1, a2⟩ := p1 x hx
    refine ⟨fun z => ?_, fun z => a1 ((List.prefix_append w [b]).trans z)⟩
    rcases List.prefix_concat_iff.mp z with e | z
    · exact a1 (e ▸ List.prefix_append w [b])
    · exact a2 z
  have two : ∀ x ∈ r ++ [w ++ [false], w ++ [true]], x ∈ r ∨ ∃ b : Bool, x = w ++ [b] := fun x hx => by
    rcases List.mem_append.mp hx with z | z
    · exact .inl z
    · rcases List.mem_cons.mp z with rfl | z
      · exact .inr ⟨_, rfl⟩
      · rw [List.mem_singleton.mp z]
        exact .inr ⟨_, rfl⟩
  refine ⟨?_, fun x hx => ?_, fun x hx => ?_, ?_⟩
  · refine List.pairwise_append.mpr ⟨p2, ?_, fun x hx y hy => ?_⟩
    · refine .cons (fun y hy => ?_) (.cons (fun y hy => nomatch hy) .nil)
      rw [List.mem_singleton.mp hy]
      have ne : ∀ b c : Bool, b ≠ c → ¬ w ++ [b] <+: w ++ [c] := fun b c n z => by
        have := z.eq_of_length (by rw [List.length_append, List.length_append]; rfl)
        exact n (List.singleton_inj.mp (List.append_cancel_left this))
      exact ⟨ne _ _ (by decide), ne _ _ (by decide)⟩
    · rcases List.mem_cons.mp hy with rfl | hy
      · exact one x hx false
      · rw [List.mem_singleton.mp hy]
        exact one x hx true
  · rcases two x hx with z | ⟨b, rfl⟩
    · exact h.lo x (List.mem_cons_of_mem _ z)
    · rw [List.length_append]
      exact Nat.le_add_left _ _
  · rw [List.length_append]
    show x.length + 1 ≤ r.length + 2
    rcases two x hx with z | ⟨b, rfl⟩
    · have := h.hi x (List.mem_cons_of_mem _ z)
      rw [List.length_cons] at this
      omega
    · rw [List.length_append]
      show w.length + 1 + 1 ≤ _
      omega
  · have k := h.kr
    rw [kr_cons] at k
    rw [kr_app, kr_cons, kr_cons, List.length_append, List.length_append]
    show K40.kr 60 r + (2 ^ (60 - (w.length + 1)) + (2 ^ (60 - (w.length + 1)) + 0)) = _
    have : 2 ^ (60 - w.length) = 2 * 2 ^ (60 - (w.length + 1)) := by
      rw [← Nat.pow_succ']
      congr 1
      omega
    omega
section
variable {P : Program} {w : World} {K : PySem.W.Frag} {mg : Str → Option Value} {base : Heap}
end
end K40
set_option Elab.async false
set_option linter.all false
set_option maxRecDepth 100001
set_option maxHeartbeats 3999999
namespace K40
open PySem L2
open Huff (hf dot)
abbrev sFrz : Stmt := topS 9
/-! ### known values and objects -/
structure ObC (K : PySem.W.Frag) (C : Addr) : Prop where
  cl : Cls K C
  cc : PySem.W.findIn K (.ref C) "__class__" = some (some (.builtin "object.__class__"))
  mr : PySem.W.mroIn K C (.type "object") = some true
  kI : PySem.W.kitOne K (.ref C) (.type "int") = some false
  kB : PySem.W.kitOne K (.ref C) (.type "bool") = some false
  kT : PySem.W.kitOne K (.ref C) (.type "tuple") = some false
  kL : PySem.W.kitOne K (.ref C) (.type "list") = some false
  kD : PySem.W.kitOne K (.ref C) (.type "dict") = some false
structure ObK (K : PySem.W.Frag) : Prop where
  gg : PySem.W.specialIn K (.builtin "object.__class__") "__get__" = some (some (.builtin "getset_descriptor.__get__"))
  tk : PySem.W.takesIn K (.builtin "object.__class__") = some true
inductive Kv (K : PySem.W.Frag) (H : Hp) : V → Prop where
  | kn {v : V} (k : Kn H v) : Kv K H v
  | ob {p C dx : Addr} {fs : List (Str × V)} (h : H p = some (.ins C dx fs)) (O : ObC K C) (U : ObK K) : Kv K H (.ref p)
theorem isT_ins {H : Hp} {p C dx : Addr} {fs : List (Str × V)} (e : H p = some (.ins C dx fs)) : isT H (.ref p) = false := by simp only [isT, e]
theorem isL_ins {H : Hp} {p C dx : Addr} {fs : List (Str × V)} (e : H p = some (.ins C dx fs)) : isL H (.ref p) = false := by simp only [isL, e]
def KT2 (K : PySem.W.Frag) (t : Value) (bi bb bt bl : Bool) : Prop := PySem.W.kitOne K t (.type "int") = some bi ∧ PySem.W.kitOne K t (.type "bool") = some bb ∧
    PySem.W.kitOne K t (.type "tuple") = some bt ∧ PySem.W.kitOne K t (.type "list") = some bl ∧ PySem.W.kitOne K t (.type "dict") = some false
section
variable {K : PySem.W.Frag} {H H' : Hp} {v : V}
theorem Kv.kinds (k : Kv K H v) : ∃ t : Value, TyX K H v t ∧ KT2 K t (isI v || isB v) (isB v) (isT H v) (isL H v) := by
  cases k with
  | kn k =>
    obtain ⟨t, ty, k⟩ := k.kinds K
    exact ⟨_, ty, k⟩
  | ob h O U =>
    rw [isT_ins h, isL_ins h]
    exact ⟨_, .base (.ins h O.cl O.cc U.gg U.tk O.mr), O.kI, O.kB, O.kT, O.kL, O.kD⟩
theorem Kv.same (k : Kv K H v) (e : Same H H') : Kv K H' v := by
  cases k with
  | kn k => exact .kn (k.same e)
  | ob h O U => exact .ob (e _ _ h) O U
theorem Kv.isT_same (k : Kv K H v) (e : Same H H') : isT H' v = isT H v := by
  cases k with
  | kn k => cases k with
    | lst h => rw [isT_lst h, isT_lst (e _ _ h)]
    | tup h => rw [isT_tup h, isT_tup (e _ _ h)]
    | _ => rfl
  | ob h O U => rw [isT_ins h, isT_ins (e _ _ h)]
theorem Kv.isL_same (k : Kv K H v) (e : Same H H') : isL H' v = isL H v := by
  cases k with
  | kn k => cases k with
    | lst h => rw [isL_lst h, isL_lst (e _ _ h)]
    | tup h => rw [isL_tup h, isL_tup (e _ _ h)]
    | _ => rfl
  | ob h O U => rw [isL_ins h, isL_ins (e _ _ h)]
theorem Kv.any (k : Kv K H v) : ∃ t : Value, TyX K H v t ∧ PySem.W.kitAny K t [.type "list", .type "tuple"] = some (isLT H v) := by
  obtain ⟨t, ty, _, _, k3, k4, _⟩ := k.kinds
  refine ⟨t, ty, kitAny_cons k4 (fun z => ?_) (fun z => by unfold isLT; rw [z]; rfl)⟩
  refine kitAny_cons k3 (fun z2 => by unfold isLT; rw [z, z2]; rfl) (fun z2 => by unfold isLT; rw [z2, Bool.or_true])
end
/-- what frozen leaves as it is -/
def Lf (K : PySem.W.Frag) (H : Hp) (v : V) : Prop := Kv K H v ∧ isLT H v = false
theorem Lf.same {K : PySem.W.Frag} {H H' : Hp} {v : V} (h : Lf K H v) (e : Same H H') : Lf K H' v := ⟨h.1.same e, by
  have := h.2
  unfold isLT at this ⊢
  rw [h.1.isL_same e, h.1.isT_same e]
  exact this⟩
inductive Fd where
  | lf (v : V)
  | nd (ds : List Fd)
def FIn (K : PySem.W.Frag) : Nat → Hp → V → Fd → Prop
  | 0 => fun H v d => d = .lf v ∧ Lf K H v
  | n + 1 => fun H v d => (d = .lf v ∧ Lf K H v) ∨ ∃ a xs ds, v = .ref a ∧ d = .nd ds ∧ LT H a xs ∧ xs.length ≤ 20000 ∧ Paired (FIn K n H) xs ds
def FOut : Nat → Hp → V → Fd → Prop
  | 0 => fun _ v d => d = .lf v
  | n + 1 => fun H v d => d = .lf v ∨ ∃ a xs ds, v = .ref a ∧ d = .nd ds ∧ H a = some (.tup xs) ∧ Paired (FOut n H) xs ds
theorem FIn.same {K : PySem.W.Frag} {H H' : Hp} (e : Same H H') : ∀ (n : Nat) (v : V) (d : Fd), FIn K n H v d → FIn K n H' v d
  | 0, _, _, ⟨h1, h2⟩ => ⟨h1, h2.same e⟩
  | _ + 1, _, _, .inl ⟨h1, h2⟩ => .inl ⟨h1, h2.same e⟩
  | n + 1, _, _, .inr ⟨a, xs, ds, h1, h2, h3, h4, h5⟩ => .inr ⟨a, xs, ds, h1, h2, h3.same e, h4, Paired.mapP h5 fun v d h => FIn.same e n v d h⟩
theorem FOut.tt {H H' : Hp} (e : TT H H') : ∀ (n : Nat) (v : V) (d : Fd), FOut n H v d → FOut n H' v d
  | 0, _, _, h => h
  | _ + 1, _, _, .inl h => .inl h
  | n + 1, _, _, .inr ⟨a, xs, ds, h1, h2, h3, h4⟩ => .inr ⟨a, xs, ds, h1, h2, e _ _ h3, Paired.mapP h4 fun v d h => FOut.tt e n v d h⟩
def spFz (K : PySem.W.Frag) (n : Nat) : Sp := fun vs H Q _ => ∃ v d, vs = [v] ∧ FIn K n H v d ∧ ∀ v' H', Same H H' → FOut n H' v' d → Q v' H'
def spFzL (K : PySem.W.Frag) : Sp := fun vs H Q _ => ∃ v, vs = [v] ∧ Lf K H v ∧ ∀ H', Same H H' → Q v H'
def spFzN (K : PySem.W.Frag) (n : Nat) : Sp := fun vs H Q _ => ∃ a xs ds, vs = [.ref a] ∧ LT H a xs ∧ xs.length ≤ 20000 ∧ Paired (FIn K n H) xs ds ∧ ∀ t ys H', Same H H' → H' t = some (.tup ys) → Paired (FOut n H') ys ds → Q (.ref t) H'
section
variable {P : Program} {w : World} {K : PySem.W.Frag} {mg : Str → Option Value} {base : Heap}
theorem scFrz : FnScope ["value", "part", "key"] ["value"] (defScope sFrz) := ⟨rfl, rfl, rfl, by decide +kernel, rfl, by decide +kernel, by decide +kernel⟩
theorem ok_fzL {f : Addr} {fd : FuncData} (F : Fun K "frozen" "frozen" sFrz f fd) (B : Bi mg) : FnOk P w K mg base CX0 1 f fd ["value"] (spFzL K) := by
  refine F.ok scFrz (fun vs H Q E h => ?_) (fun cdv A outer s H vs Q E hr h => ?_)
  · obtain ⟨v, rfl, _⟩ := h
    rfl
  · obtain ⟨v, rfl, ⟨k, l0⟩, q⟩ := h
    refine ⟨_, pss_cons (ps_if (pt_val (pe_callB call_isiT rfl B.isi PyProof.Rows.boot_isinstance (pa_cons (pv 0) (pa_cons (pe_tup (pa_cons (pe_ty "list" B.list) (pa_cons (pe_ty "tuple" B.tuple) pa_nil))) pa_nil)))) pss_never pss_nil)
      (pss_cons (ps_if (pt_val (pe_isi B.isi (pa_cons (pv 0) (pa_cons (pe_ty "dict" B.dict) pa_nil)))) pss_never pss_nil) (pss_one (ps_ret (pv 0)))), ?_⟩
    refine ⟨_, rfl, by show 2 ≤ sizeLine; decide, fun tp ntp => ?_⟩
    have e := same_new (o := .tup [.ty "list", .ty "tuple"]) ntp
    have htp : upd H tp (.tup [.ty "list", .ty "tuple"]) tp = some (.tup [.ty "list", .ty "tuple"]) := upd_same
    obtain ⟨k1, l1⟩ := (Lf.same ⟨k, l0⟩ e : Lf K _ v)
    generalize upd H tp (.tup [.ty "list", .ty "tuple"]) = H1 at e htp k1 l1 ⊢
    obtain ⟨t, ty, ka⟩ := k1.any
    obtain ⟨t2, ty2, _, _, _, _, k5⟩ := k1.kinds
    rw [l1] at ka
    refine ⟨_, tp, _, t, [.type "list", .type "tuple"], _, rfl, htp, .cons (.ty "list") (.cons (.ty "tuple") .nil), ty, ka, _, rfl, iteF ?_⟩
    exact ⟨_, rfl, _, _, _, _, _, rfl, .ty "dict", ty2, k5, _, rfl, iteF ⟨_, rfl, q _ e⟩⟩
theorem ok_fzN {k n : Nat} {f : Addr} {fd : FuncData} (F : Fun K "frozen" "frozen" sFrz f fd) (B : Bi mg) (c1 : Cal CX0 P w K mg base k "frozen" (spFz K n)) : FnOk P w K mg base CX0 (k + 1) f fd ["value"] (spFzN K n) := by
  refine F.ok scFrz (fun vs H Q E h => ?_) (fun cdv A outer s H vs Q E hr h => ?_)
  · obtain ⟨a, xs, ds, rfl, _⟩ := h
    rfl
  · obtain ⟨a, xs, ds, rfl, ha, len, pr, q⟩ := h
    refine ⟨_, pss_cons (ps_if (pt_val (pe_callB call_isiT rfl B.isi PyProof.Rows.boot_isinstance (pa_cons (pv 0) (pa_cons (pe_tup (pa_cons (pe_ty "list" B.list) (pa_cons (pe_ty "tuple" B.tuple) pa_nil))) pa_nil)))) (pss_one (ps_ret (pe_tupleOf rfl B.tuple (pe_lc (own := [("part", 1)]) rfl scFrz.nd (pi_sqA (pv 0)) (blkOk_by (N := ["value", "part", "key"]) (sc := defScope sFrz) (by decide +kernel))
          (fun _ _ _ _ _ => pg_name (i := 1) scFrz.nd rfl (Or.inl rfl)) (fun _ _ _ _ _ => pts_nil) (fun _ _ _ _ _ => pe_c c1 hr pass0 (pa_cons (pv 1) pa_nil) (Nat.le_refl _)))))) pss_nil)
      (pss_cons (ps_if (pt_val (pe_isi B.isi (pa_cons (pv 0) (pa_cons (pe_ty "dict" B.dict) pa_nil)))) pss_never pss_nil) (pss_one (ps_ret (pv 0)))), ?_⟩
    refine ⟨_, rfl, by show 2 ≤ sizeLine; decide, fun tp ntp => ?_⟩
    have e := same_new (o := .tup [.ty "list", .ty "tuple"]) ntp
    have htp : upd H tp (.tup [.ty "list", .ty "tuple"]) tp = some (.tup [.ty "list", .ty "tuple"]) := upd_same
    generalize upd H tp (.tup [.ty "list", .ty "tuple"]) = H1 at e htp ⊢
    have ha1 := ha.same e
    obtain ⟨t, ty, ka⟩ := ha1.kn.any K
    rw [ha1.is] at ka
    refine ⟨_, tp, _, .type t, [.type "list", .type "tuple"], _, rfl, htp, .cons (.ty "list") (.cons (.ty "tuple") .nil), ty, ka, _, rfl, iteT ?_⟩
    refine ⟨_, rfl, a, _, rfl, ha1.sq, fun J G wk hG D nD => lc_it wk (fun j H' => Same H1 H' ∧ ∃ ys, H' D = some (.lst ys) ∧ Paired (FOut n H') ys (ds.take j)) ⟨same_new nD, [], upd_same, .nil⟩ (fun j H' _ z => hG H' fun o w => z.1 _ _ w) ?_ ?_⟩
    · rintro j y H2 H3 hj ⟨e1, ys, hD, po⟩ ⟨rfl, hy⟩
      obtain ⟨d, hd, hin⟩ := paired_get pr hy
      have ly : ys.length ≤ 20000 := by
        rw [Paired.length po, List.length_take, ← Paired.length pr]
        omega
      refine ⟨rfl, ?_⟩
      unfold tYes
      refine iteT ⟨_, rfl, y, d, rfl, FIn.same (e.trans e1) _ _ _ hin, fun v' H4 e4 o4 => ⟨ys, e4 _ _ hD, Nat.lt_of_le_of_lt ly (by decide), fun b o z => ?_, ys ++ [v'], upd_same, ?_⟩⟩
      · rw [upd_ne (ne_of_none z nD)]
        exact e4 _ _ (e1 _ _ z)
      · have tk : ds.take (j + 1) = ds.take j ++ [d] := by rw [List.take_add_one, hd]; rfl
        rw [tk]
        have h4 := e4 _ _ hD
        exact Paired.snoc (Paired.mapP po fun _ _ h => FOut.tt ((TT.same e4).trans (TT.lst h4)) _ _ _ h) (FOut.tt (TT.lst h4) _ _ _ o4)
    · rintro H2 ⟨e1, ys, hD, po⟩
      rw [Paired.length pr, List.take_length] at po
      exact .inl ⟨D, ys, rfl, SqL.of hD, fun t nt => q _ _ _ ((e.trans e1).trans (same_new nt)) upd_same (Paired.mapP po fun _ _ h => FOut.tt (TT.same (same_new nt)) _ _ _ h)⟩
theorem ok_fz0 {f : Addr} {fd : FuncData} (F : Fun K "frozen" "frozen" sFrz f fd) (B : Bi mg) : FnOk P w K mg base CX0 1 f fd ["value"] (spFz K 0) :=
  (ok_fzL F B).imp fun vs H Q E ⟨v, d, e, ⟨hd, hl⟩, q⟩ => ⟨v, e, hl, fun H' e => q v H' e hd⟩
theorem ok_fzS {k n : Nat} {f : Addr} {fd : FuncData} (F : Fun K "frozen" "frozen" sFrz f fd) (B : Bi mg) (c1 : Cal CX0 P w K mg base k "frozen" (spFz K n)) : FnOk P w K mg base CX0 (k + 1) f fd ["value"] (spFz K (n + 1)) :=
  (((ok_fzL F B).mono (by omega)).or (ok_fzN F B c1)).imp fun vs H Q E ⟨v, d, e, h, q⟩ => by
    rcases h with ⟨hd, hl⟩ | ⟨a, xs, ds, rfl, rfl, h1, h2, h3⟩
    · exact .inl ⟨v, e, hl, fun H' e => q v H' e (.inl hd)⟩
    · exact .inr ⟨a, xs, ds, e, h1, h2, h3, fun t ys H' e ht po => q _ H' e (.inr ⟨t, ys, ds, rfl, rfl, ht, po⟩)⟩
end
end K40
set_option Elab.async false
set_option linter.all false
set_option maxRecDepth 100001
set_option maxHeartbeats 3999999
namespace K40
open PySem L2
open Huff (hf dot)
inductive Odd (H : Hp) : V → PyData → Prop
  | flat {v : V} (h : Flat v) : Odd H v (dOf v)
  | tup {a : Addr} {x : V} (e : H a = some (.tup [x])) (f : Flat x) : Odd H (.ref a) (.tuple [dOf x])
  | lst {a : Addr} {xs : List V} (e : H a = some (.lst xs)) (f : ∀ v ∈ xs, Flat v) (l : xs.length ≤ 1000) : Odd H (.ref a) (.list (xs.map dOf))
theorem Odd.kn {H : Hp} {v : V} {d : PyData} (o : Odd H v d) : Kn H v := by
  cases o with
  | flat h => exact kn_flat h
  | tup e f => exact .tup e
  | lst e f l => exact .lst e
theorem Odd.same {H H' : Hp} {v : V} {d : PyData} (o : Odd H v d) (s : Same H H') : Odd H' v d := by
  cases o with
  | flat h => exact .flat h
  | tup e f => exact .tup (s _ _ e) f
  | lst e f l => exact .lst (s _ _ e) f l
theorem Odd.dp {K : PySem.W.Frag} {H : Hp} {v : V} {d : PyData} (o : Odd H v d) : Dp K H v d := by
  cases o with
  | flat h => exact dp_flat h
  | tup e f => exact .tup (SqT.of e) (.cons (dp_flat f) .nil)
  | lst e f l => exact .lst (SqL.of e) (dpAll_flat f)
def spCopy2 : Sp := fun vs H Q _ => ∃ v d, vs = [v] ∧ Odd H v d ∧ ∀ v' H', Same H H' → Odd H' v' d → Q v' H'
section
variable {P : Program} {w : World} {K : PySem.W.Frag} {mg : Str → Option Value} {base : Heap}
theorem ok_copy2 {f : Addr} {fd : FuncData} (F : Fun K "copied" "copied" sCopied f fd) (B : Bi mg) (c1 : Cal CX0 P w K mg base 1 "copied" spCopied) : FnOk P w K mg base CX0 2 f fd ["value"] spCopy2 := by
  refine F.ok scCopied (fun vs H Q E h => ?_) (fun cdv A outer s H vs Q E hr h => ?_)
  · obtain ⟨v, d, rfl, _⟩ := h
    rfl
  · obtain ⟨v, d, rfl, od, q⟩ := h
    refine ⟨_, pss_cons (ps_if (pt_val (pe_isi B.isi (pa_cons (pv 0) (pa_cons (pe_ty "list" B.list) pa_nil)))) (pss_one (ps_ret (pe_lc (own := [("part", 1)]) rfl scCopied.nd (pi_sqA (pv 0)) (blkOk_by (N := ["value", "part", "key"]) (sc := defScope sCopied) (by decide +kernel))
          (fun _ _ _ _ _ => pg_name (i := 1) scCopied.nd rfl (Or.inl rfl)) (fun _ _ _ _ _ => pts_nil) (fun _ _ _ _ _ => pe_c c1 hr pass0 (pa_cons (pv 1) pa_nil))))) pss_nil)
      (pss_cons (ps_if (pt_val (pe_isi B.isi (pa_cons (pv 0) (pa_cons (pe_ty "tuple" B.tuple) pa_nil)))) (pss_one (ps_ret (pe_tupleOf rfl B.tuple (pe_lc (own := [("part", 1)]) rfl scCopied.nd (pi_sqA (pv 0)) (blkOk_by (N := ["value", "part", "key"]) (sc := defScope sCopied) (by decide +kernel))
          (fun _ _ _ _ _ => pg_name (i := 1) scCopied.nd rfl (Or.inl rfl)) (fun _ _ _ _ _ => pts_nil) (fun _ _ _ _ _ => pe_c c1 hr pass0 (pa_cons (pv 1) pa_nil)))))) pss_nil)
      (pss_cons (ps_if (pt_val (pe_isi B.isi (pa_cons (pv 0) (pa_cons (pe_ty "dict" B.dict) pa_nil)))) pss_never pss_nil) (pss_one (ps_ret (pv 0))))), ?_⟩
    obtain ⟨t, ty, _, _, k3, k4, k5⟩ := od.kn.kinds K
    cases od with
    | flat fl =>
      have f3 : isT H v = false := by cases v <;> first | rfl | exact fl.elim
      have f4 : isL H v = false := by cases v <;> first | rfl | exact fl.elim
      rw [f3] at k3
      rw [f4] at k4
      exact ⟨v, rfl, v, _, _, _, _, rfl, .ty "list", ty, k4, _, rfl, iteF ⟨v, rfl, v, _, _, _, _, rfl, .ty "tuple", ty, k3, _, rfl, iteF ⟨v, rfl, v, _, _, _, _, rfl, .ty "dict", ty, k5, _, rfl, iteF ⟨v, rfl, q v H (Same.refl H) (.flat fl)⟩⟩⟩⟩
    | @lst a xs e fx ll =>
      rw [isL_lst e] at k4
      refine ⟨_, rfl, _, _, _, _, _, rfl, .ty "list", ty, k4, _, rfl, iteT ?_⟩
      refine ⟨_, rfl, a, _, rfl, .inl (SqL.of e), fun J G wk hG D nD => lc_it wk (fun j H' => Same H H' ∧ H' D = some (.lst (xs.take j))) ⟨same_new nD, upd_same⟩ (fun j H' _ z => hG H' fun o w => z.1 _ _ w) ?_ ?_⟩
      · rintro j y H1 H2 hj ⟨e1, hD⟩ ⟨rfl, hy⟩
        refine ⟨rfl, ?_⟩
        unfold tYes
        refine iteT ⟨_, rfl, _, rfl, fx y (List.mem_of_getElem? hy), _, hD, by rw [List.length_take]; exact small10 (by omega), fun b o z => ?_, ?_⟩
        · rw [upd_ne (ne_of_none z nD)]
          exact e1 _ _ z
        · rw [upd_same, List.take_add_one, hy]
          rfl
      · rintro H1 ⟨e1, hD⟩
        rw [List.take_length] at hD
        exact q _ H1 e1 (.lst hD fx ll)
    | @tup a x e fx =>
      rw [isL_tup e] at k4
      rw [isT_tup e] at k3
      refine ⟨_, rfl, _, _, _, _, _, rfl, .ty "list", ty, k4, _, rfl, iteF ⟨_, rfl, _, _, _, _, _, rfl, .ty "tuple", ty, k3, _, rfl, iteT ?_⟩⟩
      refine ⟨_, rfl, a, _, rfl, .inr (SqT.of e), fun J G wk hG D nD => lc_it wk (fun j H' => Same H H' ∧ H' D = some (.lst ([x].take j))) ⟨same_new nD, upd_same⟩ (fun j H' _ z => hG H' fun o w => z.1 _ _ w) ?_ ?_⟩
      · rintro j y H1 H2 hj ⟨e1, hD⟩ ⟨rfl, hy⟩
        have j0 : j = 0 := by simpa using hj
        subst j0
        cases hy
        refine ⟨rfl, ?_⟩
        unfold tYes
        refine iteT ⟨_, rfl, _, rfl, fx, _, hD, by show 0 < sizeLine; decide, fun b o z => ?_, upd_same⟩
        rw [upd_ne (ne_of_none z nD)]
        exact e1 _ _ z
      · rintro H1 ⟨e1, hD⟩
        exact .inl ⟨D, _, rfl, SqL.of hD, fun t nt => q _ _ (e1.trans (same_new nt)) (.tup upd_same fx)⟩
end
def spXO (K : PySem.W.Frag) (f : Str) : Sp := fun vs H Q _ => ∃ (a C : Addr) (v : V) (d : PyData), vs = [.ref a, v] ∧ OexC K C ∧ PySem.W.findIn K (.ref C) f = some none ∧ Odd H v d ∧ H a = some (exo a C none) ∧
  ∀ v' H1 dx, Same H H1 → Odd H1 v' d → H1 dx = none → dx ≠ a → Q .non (upd (upd H1 dx (exd dx [(f, v')])) a (exo a C (some dx)))
section
variable {P : Program} {w : World} {K : PySem.W.Frag} {mg : Str → Option Value} {base : Heap}
end
structure RsO (H H' : Hp) (d : Addr) (f : Str) (dd : PyData) : Prop where
  new : H d = none
  same : Same H H'
  at_ : ∃ v', H' d = some (.xd [(f, v')]) ∧ Odd H' v' dd
theorem raiseO {H : Hp} {C : Addr} {f : Str} {v : V} {dd : PyData} {R : XK} {K : PySem.W.Frag} (T : OexC K C) (no : PySem.W.findIn K (.ref C) f = some none) (od : Odd H v dd) (r : ∀ d H', RsO H H' d f dd → R (.ref C) (some d) H') :
    ([v] : List V).length ≤ 1000 ∧ ∀ a, H a = none → spXO K f (.ref a :: ([v] ++ [])) (upd H a (exo a C none)) (fun u H2 => u = .non ∧ ∃ (d : Addr) (fs : List (Str × V)), H2 a = some (exo a C (some d)) ∧ H2 d = some (exd d fs) ∧ H d = none ∧ R (.ref C) (some d) (upd (del H2 a) d (.xd fs))) (fun _ _ _ => False) := by
  refine ⟨by show 1 ≤ 1000; decide, fun a na => ⟨a, C, v, dd, rfl, T, no, od.same (same_new na), upd_same, fun v' H1 dx e1 o1 nd ne => ⟨rfl, dx, [(f, v')], upd_same, by rw [upd_ne ne]; exact upd_same, ?_, r _ _ ?_⟩⟩⟩
  · cases z : H dx with
    | none => rfl
    | some o =>
      rw [e1 _ _ (same_new na _ _ z)] at nd
      cases nd
  · have hne : ∀ b o, H1 b = some o → b ≠ dx := fun b o e => ne_of_none e nd
    have h1a : H1 a = some (exo a C none) := e1 _ _ upd_same
    have keep : ∀ b o, b ≠ a → H1 b = some o → upd (del (upd (upd H1 dx (exd dx [(f, v')])) a (exo a C (some dx))) a) dx (.xd [(f, v')]) b = some o := fun b o h1 h2 => by
      rw [upd_ne (hne b o h2), del_ne h1, upd_ne h1, upd_ne (hne b o h2)]
      exact h2
    refine ⟨?_, fun b o e => ?_, v', upd_same, ?_⟩
    · cases z : H dx with
      | none => rfl
      | some o =>
        rw [e1 _ _ (same_new na _ _ z)] at nd
        cases nd
    · have ba := ne_of_none e na
      exact keep b o ba (e1 _ _ ((upd_ne ba).trans e))
    · cases o1 with
      | flat h => exact .flat h
      | tup e f => exact .tup (keep _ _ (ne_of e h1a fun z => by unfold exo at z; cases z) e) f
      | lst e f l => exact .lst (keep _ _ (ne_of e h1a fun z => by unfold exo at z; cases z) e) f l
theorem RsO.back {H H1 H' : Hp} {d : Addr} {f : Str} {dd : PyData} (r : RsO H1 H' d f dd) (e : Same H H1) : RsO H H' d f dd := ⟨Same.none' e r.new, e.trans r.same, r.at_⟩
abbrev lens (ws : List W) : List Nat := ws.map List.length
def putW (ws : List W) (i r : Nat) : List W := (ws.set i (ws.getD i [] ++ [false])).take r ++ [ws.getD i [] ++ [true]] ++ (ws.set i (ws.getD i [] ++ [false])).drop r
theorem getD_at {α : Type} {l : List α} {i : Nat} {d : α} (h : i < l.length) : l.getD i d = l[i] := by
  rw [List.getD_eq_getElem?_getD, List.getElem?_eq_getElem h]
  rfl
theorem mid_perm {α : Type} (l : List α) (r : Nat) (y : α) : (l.take r ++ [y] ++ l.drop r).Perm (y :: l) := by
  rw [List.append_assoc]
  conv => rhs; rw [← List.take_append_drop r l]
  exact List.perm_middle
theorem putW_perm {ws : List W} {i r : Nat} (h : i < ws.length) : (putW ws i r).Perm (ws.eraseIdx i ++ [ws[i] ++ [false], ws[i] ++ [true]]) := by
  unfold putW
  rw [getD_at h]
  refine (mid_perm _ _ _).trans ?_
  have p := perm_erase (ws.set i (ws[i] ++ [false])) i (by rw [List.length_set]; exact h)
  rw [List.getElem_set_self, List.eraseIdx_set_eq] at p
  have q : (ws.eraseIdx i ++ [ws[i] ++ [false], ws[i] ++ [true]]).Perm ((ws[i] ++ [true]) :: (ws[i] ++ [false]) :: ws.eraseIdx i) := List.perm_append_comm.trans (List.Perm.swap _ _ _)
  exact (p.symm.cons _).trans q.symm
theorem FW.put {ws : List W} {i r : Nat} (h : FW ws) (hi : i < ws.length) (l : ws.length ≤ 60) : FW (putW ws i r) := by
  have p := perm_erase ws i hi
  refine FW.perm (FW.cut (h.perm p.symm) ?_) (putW_perm hi).symm
  rw [List.length_eraseIdx_of_lt hi]
  omega
theorem putW_len {ws : List W} {i r : Nat} (hi : i < ws.length) : (putW ws i r).length = ws.length + 1 := by
  rw [(putW_perm hi).length_eq, List.length_append, List.length_eraseIdx_of_lt hi]
  show ws.length - 1 + 2 = _
  omega
/-! costs -/
theorem dot_app : ∀ {a c : List Nat} (b d : List Nat), a.length = c.length → dot (a ++ b) (c ++ d) = dot a c + dot b d
  | [], [], b, d, _ => by rw [Huff.dot_nil, Nat.zero_add]; rfl
  | x :: a, y :: c, b, d, h => by
    rw [List.cons_append, List.cons_append, Huff.dot_cons, Huff.dot_cons, dot_app b d (by simpa using h)]
    omega
  | [], _ :: _, _, _, h => by simp at h
  | _ :: _, [], _, _, h => by simp at h
theorem dot_split (ls cs : List Nat) (r : Nat) (h : ls.length = cs.length) : dot ls cs = dot (ls.take r) (cs.take r) + dot (ls.drop r) (cs.drop r) := by
  conv => lhs; rw [← List.take_append_drop r ls, ← List.take_append_drop r cs]
  exact dot_app _ _ (by rw [List.length_take, List.length_take, h])
theorem dot_set : ∀ {ls cs : List Nat} {i : Nat}, ls.length = cs.length → (h : i < ls.length) → dot (ls.set i (ls[i] + 1)) cs = dot ls cs + cs.getD i 0
  | l :: ls, c :: cs, 0, _, _ => by
    show dot ((l + 1) :: ls) (c :: cs) = _
    rw [Huff.dot_cons, Huff.dot_cons, Nat.mul_add]
    show c * l + c * 1 + _ = _ + c
    omega
  | l :: ls, c :: cs, i + 1, e, h => by
    have ih := dot_set (ls := ls) (cs := cs) (i := i) (by simpa using e) (by simpa using h)
    show dot (l :: ls.set i ((ls[i]'(by simpa using h)) + 1)) (c :: cs) = dot (l :: ls) (c :: cs) + cs.getD i 0
    rw [Huff.dot_cons, Huff.dot_cons, ih]
    omega
  | [], _, _, _, h => by simp at h
  | _ :: _, [], _, e, _ => by simp at e
theorem krH_kl (L : Nat) (ws : List W) : Huff.kl L (lens ws) = kr L ws := by
  unfold Huff.kl kr lens
  rw [List.map_map]
  rfl
end K40
set_option Elab.async false
set_option linter.all false
set_option maxRecDepth 100001
set_option maxHeartbeats 3999999
namespace K40
open PySem L2
open Huff (hf dot)
abbrev sPt : Stmt := topS 37
def spPt : Sp := fun vs H Q _ => ∃ (wp : Addr) (ws : List W) (i r : Nat), vs = [.ref wp, .int ((i : Nat) : Int), .int ((r : Nat) : Int)] ∧ LT H wp (ws.map wV) ∧ i < ws.length ∧ r ≤ ws.length ∧ ws.length ≤ 2000 ∧ (∀ w ∈ ws, w.length ≤ 5000) ∧
  ∀ D H', Same H H' → H D = none → H' D = some (.lst ((putW ws i r).map wV)) → Q (.ref D) H'
theorem wV_at {ws : List W} {i : Nat} (h : i < ws.length) : (ws.map wV)[i]? = some (wV ws[i]) := by
  rw [List.getElem?_map, List.getElem?_eq_getElem h]
  rfl
theorem wV_snoc (w : W) (b : Bool) : V.str (bS w ++ (⟨#[cd b]⟩ : Str)) = wV (w ++ [b]) := congrArg V.str (bS_snoc w b).symm
theorem bS_app (a b : W) : bS a ++ bS b = bS (a ++ b) := by
  show (⟨(S _).cps ++ (S _).cps⟩ : Str) = S _
  unfold S
  simp
section
variable {P : Program} {w : World} {K : PySem.W.Frag} {mg : Str → Option Value} {base : Heap}
theorem scPt : FnScope ["words", "sign", "rank", "told"] ["words", "sign", "rank"] (defScope sPt) := ⟨rfl, rfl, rfl, by decide +kernel, rfl, by decide +kernel, by decide +kernel⟩
theorem ok_pt {f : Addr} {fd : FuncData} (F : Fun K "parted" "parted" sPt f fd) (B : Bi mg) : FnOk P w K mg base CX0 1 f fd ["words", "sign", "rank"] spPt := by
  refine F.ok scPt (fun vs H Q E h => ?_) (fun cdv A outer s H vs Q E hr h => ?_)
  · obtain ⟨wp, ws, i, r, rfl, _⟩ := h
    rfl
  · obtain ⟨wp, ws, i, r, rfl, hw, hi, hrr, l20, l50, q⟩ := h
    refine ⟨_, pss_cons (ps_set (i := 3) scPt.nd rfl (Or.inl rfl) (pe_callTy call_list_of rfl B.list (by decide +kernel) (pa_cons (pv 0) pa_nil)))
      (pss_cons (ps_asg (pe_op op_add_str (pe_ix (ix_seqK K rfl) (pv 0) (pv 1) (fun _ _ => rfl)) pe_str) (pg_sub (pv 3) (pv 1) set_list))
      (pss_cons (ps_expr (pe_bm PySem.F.plainAttrs_list PySem.F.slot_list_insert PySem.F.type_list_insert mt_insert (pv 3) (pa_cons (pv 2) (pa_cons (pe_op op_add_str (pe_ix (ix_seqK K rfl) (pv 0) (pv 1) (fun _ _ => rfl)) pe_str) pa_nil))))
      (pss_one (ps_ret (pv 3))))), ?_⟩
    refine ⟨_, rfl, wp, _, rfl, hw.sq, fun t nt => ?_⟩
    have e1 := same_new (o := .lst (ws.map wV)) nt
    have ht : upd H t (.lst (ws.map wV)) t = some (.lst (ws.map wV)) := upd_same
    generalize upd H t (.lst (ws.map wV)) = H1 at e1 ht ⊢
    have hw1 := hw.same e1
    have lw := l50 _ (List.getElem_mem hi)
    have sz : ∀ z : Str, z.length = 1 → (bS ws[i]).length + z.length ≤ sizeLine := fun z hz => by
      rw [bS_len, hz]
      exact Nat.le_of_lt (small10 (by omega))
    refine ⟨_, rfl, _, rfl, hw1.ix (atI_nat (wV_at hi)) ⟨bS ws[i], "0", rfl, rfl, sz _ rfl, ?_⟩⟩
    rw [show V.str (bS ws[i] ++ ("0" : Str)) = wV (ws[i] ++ [false]) from wV_snoc ws[i] false]
    refine ⟨_, rfl, _, rfl, t, _, _, i, rfl, rfl, ht, ixn (by rw [List.length_map]; exact hi), ?_⟩
    rw [← List.map_set]
    have e2 : ButI t H1 (upd H1 t (.lst ((ws.set i (ws[i] ++ [false])).map wV))) := fun b o n z => (upd_ne n).trans z
    have ht2 : upd H1 t (.lst ((ws.set i (ws[i] ++ [false])).map wV)) t = some (.lst ((ws.set i (ws[i] ++ [false])).map wV)) := upd_same
    generalize upd H1 t (.lst ((ws.set i (ws[i] ++ [false])).map wV)) = H2 at e2 ht2 ⊢
    have nwt : wp ≠ t := hw.elim (fun z => ne_of_none z nt) fun z => ne_of_none z nt
    have hw2 : LT H2 wp (ws.map wV) := hw1.imp (fun z => e2 _ _ nwt z) fun z => e2 _ _ nwt z
    refine ⟨_, rfl, .inl ⟨rfl, _, SqL.of ht2⟩, _, rfl, _, rfl, _, rfl, hw2.ix (atI_nat (wV_at hi)) ⟨bS ws[i], "1", rfl, rfl, sz _ rfl, ?_⟩⟩
    rw [show V.str (bS ws[i] ++ ("1" : Str)) = wV (ws[i] ++ [true]) from wV_snoc ws[i] true]
    refine ⟨t, _, _, _, rfl, rfl, ht2, by rw [List.length_map, List.length_set]; exact small10 (by omega), by omega, by omega, ?_⟩
    have ep : ((ws.set i (ws[i] ++ [false])).map wV).take ((r : Nat) : Int).toNat ++ [wV (ws[i] ++ [true])] ++ ((ws.set i (ws[i] ++ [false])).map wV).drop ((r : Nat) : Int).toNat = (putW ws i r).map wV := by
      rw [Int.toNat_natCast, ← List.map_take, ← List.map_drop]
      unfold putW
      rw [getD_at hi, List.map_append, List.map_append]
      rfl
    rw [ep]
    exact ⟨_, rfl, q t _ (fun b o z => (upd_ne (ne_of_none z nt)).trans (e2 _ _ (ne_of_none z nt) (e1 _ _ z))) nt upd_same⟩
end
theorem bS_le {w : W} (h : w.length ≤ 10000) : (bS w).length ≤ sizeLine := by
  rw [bS_len]
  exact Nat.le_of_lt (small10 h)
abbrev sCf : Stmt := topS 38
structure CW (ws : List W) : Prop where
  pf : PF ws
  l2 : 2 ≤ ws.length
  l6 : ws.length ≤ 60
  hi : ∀ l ∈ lens ws, l ≤ 60
  kl : Huff.kl 60 (lens ws) = 2 ^ 60
theorem FW.cw {ws : List W} (h : FW ws) (l2 : 2 ≤ ws.length) (l10 : ws.length ≤ 60) : CW ws := ⟨h.pf, l2, by omega, fun l hl => by
  obtain ⟨w, hw, rfl⟩ := List.mem_map.mp hl
  have := h.hi w hw
  omega, by rw [krH_kl]; exact h.kr⟩
theorem CW.top {ws : List W} (h : CW ws) : ∃ L, L ∈ lens ws ∧ (∀ l ∈ lens ws, 1 ≤ l ∧ l ≤ L) ∧ L ≤ 60 ∧ K40.kl L (lens ws) = 2 ^ L := by
  have l2 := h.l2
  obtain ⟨L, Lm, LM⟩ := top_of (ls := lens ws) (by intro z; have := congrArg List.length z; rw [List.length_map] at this; simp at this; rw [this] at l2; simp at l2)
  have L10 := h.hi L Lm
  exact ⟨L, Lm, fun x hx => ⟨Huff.full_pos (by rw [List.length_map]; exact l2) h.kl x hx, LM x hx⟩, L10, Huff.kl_max (L := 60) L10 LM h.kl⟩
theorem CW.pos {ws : List W} (h : CW ws) : ∀ w ∈ ws, 1 ≤ w.length ∧ w.length ≤ 60 := fun w hw => ⟨Huff.full_pos (by rw [List.length_map]; exact h.l2) h.kl _ (List.mem_map_of_mem hw), h.hi _ (List.mem_map_of_mem hw)⟩
theorem wV_kn {H : Hp} (ws : List W) : ∀ v ∈ ws.map wV, Kn H v := fun v hv => by
  obtain ⟨w, _, rfl⟩ := List.mem_map.mp hv
  exact .str _
theorem mk_wd {C CT CL CN CB CG p dx lp wp : Addr} {Tb : List (Addr × Str)} {H : Hp} {ws : List W} {R : Hp → Prop} {E : XK} (cw : CW ws) (hl : H lp = some (.lst (nV (lens ws)))) (hw : H wp = some (.lst (ws.map wV))) (tabs : LamX.Tabs Tb H) (np : H p = none) (ndx : H dx = none)
    (k : ∀ L H', IsCo C H' p L (lens ws) ws → LamX.ExtN H H' → LamX.Tabs Tb H' → R H') : spCoI C CT CL CN CB CG Tb [.ref p, .ref lp, .ref wp] (upd (upd H dx (.own p)) p (.ins C dx [])) (fun v H2 => v = .non ∧ R H2) E := by
  obtain ⟨L, Lm, lb, L6, kL⟩ := cw.top
  have l2 := cw.l2
  have l6 := cw.l6
  have ll : (lens ws).length = ws.length := List.length_map _
  have e3 : Same H (upd (upd H dx (.own p)) p (.ins C dx [])) := same_ins np ndx
  have hp3 : upd (upd H dx (.own p)) p (.ins C dx []) p = some (.ins C dx []) := upd_same
  generalize upd (upd H dx (.own p)) p (.ins C dx []) = H3 at e3 hp3 ⊢
  refine ⟨p, dx, lp, .ref wp, _, rfl, hp3, .inl (e3 _ _ hl), nV_kn _, tabs.ext e3, by rw [nV_len]; omega, .inr (.inr ⟨by rw [nV_len]; omega, by rw [nV_len]; omega, lens ws, L, rfl, lb, Lm, by omega, .inr (.inr ⟨kL, e3 _ _ hl, wp, ws.map wV, rfl, .inl (e3 _ _ hw), by rw [List.length_map, ll], by rw [List.length_map]; omega, fun v hv => ⟨wV_kn ws v hv, fun x ex => ?_⟩, .inr ⟨ws, rfl, rfl, .inr ⟨cw.pf, fun H8 lt wt tr bt tab8 hp8 hlt hwt => ⟨rfl, ?_⟩⟩⟩⟩)⟩)⟩
  · obtain ⟨w, hw, rfl⟩ := List.mem_map.mp hv
    cases ex
    have := (cw.pos w hw).2
    rw [bS_len]
    omega
  · exact k L H8 ⟨dx, lt, wt, tr, hp8, hlt, hwt⟩ (fun c o z n => bt c o (ne_of_none z np) (e3 _ _ z) n) tab8
def spCf (C : Addr) (Tb : List (Addr × Str)) : Sp := fun vs H Q _ => ∃ (wp : Addr) (ws : List W), vs = [.ref wp] ∧ H wp = some (.lst (ws.map wV)) ∧ CW ws ∧ LamX.Tabs Tb H ∧ ∀ q L H', IsCo C H' q L (lens ws) ws → H q = none → LamX.ExtN H H' → LamX.Tabs Tb H' → Q (.ref q) H'
section
variable {P : Program} {w : World} {K : PySem.W.Frag} {mg : Str → Option Value} {base : Heap}
theorem scCf : FnScope ["words", "word"] ["words"] (defScope sCf) := ⟨rfl, rfl, rfl, by decide +kernel, rfl, by decide +kernel, by decide +kernel⟩
theorem ok_cf {f C CT CL CN CB CG : Addr} {fd : FuncData} {Tb : List (Addr × Str)} (F : Fun K "code_of" "code_of" sCf f fd) (B : Bi mg) (mC : Mak (L2.CX P w) P w K mg base 8 "Code" C (spCoI C CT CL CN CB CG Tb)) : FnOk P w K mg base CX0 10 f fd ["words"] (spCf C Tb) := by
  refine F.ok scCf (fun vs H Q E h => ?_) (fun cdv A outer s H vs Q E hr h => ?_)
  · obtain ⟨wp, ws, rfl, _⟩ := h
    rfl
  · obtain ⟨wp, ws, rfl, hw, cw, tabs, q⟩ := h
    refine ⟨_, pss_one (ps_ret (pe_mk mC hr passL (pa_cons (pe_lc (own := [("word", 1)]) rfl scCf.nd (pi_sqA (pv 0)) (blkOk_by (N := ["words", "word"]) (sc := defScope sCf) (by decide +kernel)) (fun _ _ _ _ _ => pg_name (i := 1) scCf.nd rfl (Or.inl rfl)) (fun _ _ _ _ _ => pts_nil) (fun _ _ _ _ _ => pe_lenS B.len (pa_cons (pv 1) pa_nil))) (pa_cons (pv 0) pa_nil)))), ?_⟩
    have l6 := cw.l6
    refine ⟨_, rfl, wp, _, rfl, .inl (SqL.of hw), fun J G wk hG D nD => lcM wk (fun k => .int (((ws.getD k []).length : Nat) : Int)) (by rw [List.length_map]; omega) nD (fun H' e => hG H' fun o z => e _ _ z) ?_ ?_⟩
    · rintro k x H2 H3 N hk e ⟨rfl, hx⟩ fin
      rw [List.length_map] at hk
      rw [wV_at hk] at hx
      cases hx
      have f := fin _ (Same.refl _)
      rw [getD_at hk] at f
      have lw := (cw.pos _ (List.getElem_mem hk)).2
      refine ⟨rfl, _, rfl, bS ws[k], rfl, bS_le (by omega), ?_⟩
      rw [bS_len]
      exact f
    · intro H3 e3 hD
      rw [List.length_map, nV_range] at hD
      have el : (List.range ws.length).map (fun k => (ws.getD k []).length) = lens ws := by
        refine List.ext_getElem (by simp) fun k h1 h2 => ?_
        rw [List.length_map, List.length_range] at h1
        rw [List.getElem_map, List.getElem_range, List.getElem_map, getD_at h1]
      rw [el] at hD
      refine ⟨_, rfl, fun p dx np ndx ne => mk_wd cw hD (e3 _ _ hw) (tabs.ext e3) np ndx fun L H4 co f4 tab4 => ?_⟩
      exact q p L H4 co (Same.none' e3 np) (LamX.ExtN.trans (LamX.ExtN.of e3) f4) tab4
end
end K40
set_option Elab.async false
set_option linter.all false
set_option maxRecDepth 100001
set_option maxHeartbeats 3999999
namespace K40
open PySem L2
open Huff (hf dot)
abbrev sPS : Stmt := topS 36
/-- the first place of the least count -/
structure Fst (cs : List Nat) (j : Nat) : Prop where
  lt : j < cs.length
  le : ∀ z ∈ cs, cs.getD j 0 ≤ z
  no : ∀ k, k < j → cs.getD j 0 < cs.getD k 0
theorem getD_mem {cs : List Nat} {j : Nat} (h : j < cs.length) : cs.getD j 0 ∈ cs := by
  rw [getD_at h]
  exact List.getElem_mem h
theorem Fst.uniq {cs : List Nat} {i j : Nat} (a : Fst cs i) (b : Fst cs j) : i = j := by
  rcases Nat.lt_trichotomy i j with h | h | h
  · have := b.no i h
    have := a.le _ (getD_mem b.lt)
    omega
  · exact h
  · have := a.no j h
    have := b.le _ (getD_mem a.lt)
    omega
theorem Fst.of {cs : List Nat} {m : Nat} (hm : m ∈ cs) (lm : ∀ z ∈ cs, m ≤ z) : ∃ j, Fst cs j ∧ cs.getD j 0 = m := by
  obtain ⟨i, hi, e⟩ := List.mem_iff_getElem.mp hm
  obtain ⟨j, ⟨h1, h2⟩, h3⟩ := least (p := fun i => i < cs.length ∧ cs.getD i 0 = m) ⟨i, hi, by rw [getD_at hi]; exact e⟩
  refine ⟨j, ⟨h1, fun z hz => by rw [h2]; exact lm z hz, fun k hk => ?_⟩, h2⟩
  have lk : k < cs.length := by omega
  have := lm _ (getD_mem lk)
  have n : cs.getD k 0 ≠ m := fun z => h3 k hk ⟨lk, z⟩
  omega
theorem nV_I (cs : List Nat) : nV cs = (cs.map fun c : Nat => (c : Int)).map V.int := by
  unfold nV
  rw [List.map_map]
  rfl
def spPS : Sp := fun vs H Q _ => ∃ (cp : Addr) (cs : List Nat), vs = [.ref cp] ∧ LT H cp (nV cs) ∧ 1 ≤ cs.length ∧ ∀ j H', Fst cs j → Same H H' → Q (.int ((j : Nat) : Int)) H'
section
variable {P : Program} {w : World} {K : PySem.W.Frag} {mg : Str → Option Value} {base : Heap}
theorem scPS : FnScope ["counts", "told"] ["counts"] (defScope sPS) := ⟨rfl, rfl, rfl, by decide +kernel, rfl, by decide +kernel, by decide +kernel⟩
theorem ok_ps {f : Addr} {fd : FuncData} (F : Fun K "parted_sign" "parted_sign" sPS f fd) (B : Bi mg) : FnOk P w K mg base CX0 1 f fd ["counts"] spPS := by
  refine F.ok scPS (fun vs H Q E h => ?_) (fun cdv A outer s H vs Q E hr h => ?_)
  · obtain ⟨cp, cs, rfl, _⟩ := h
    rfl
  · obtain ⟨cp, cs, rfl, hc, l1, q⟩ := h
    refine ⟨_, pss_cons (ps_set (i := 1) scPS.nd rfl (Or.inl rfl) (pe_callTy call_list_of rfl B.list (by decide +kernel) (pa_cons (pv 0) pa_nil)))
      (pss_one (ps_ret (pe_bm PySem.F.plainAttrs_list PySem.F.slot_list_index PySem.F.type_list_index mt_index (pv 1) (pa_cons (pe_callB (cr_min rfl) rfl B.min (by decide +kernel) (pa_cons (pv 1) pa_nil)) pa_nil)))), ?_⟩
    refine ⟨_, rfl, cp, _, rfl, hc.imp SqL.of SqT.of, fun t nt => ?_⟩
    have e1 := same_new (o := .lst (nV cs)) nt
    have ht : upd H t (.lst (nV cs)) t = some (.lst (nV cs)) := upd_same
    generalize upd H t (.lst (nV cs)) = H1 at e1 ht ⊢
    refine ⟨_, rfl, .inl ⟨rfl, _, SqL.of ht⟩, _, rfl, t, cs.map fun c : Nat => (c : Int), rfl, SqL.of (by rw [← nV_I]; exact ht), by rw [List.length_map]; omega, fun m hm hle => ?_⟩
    obtain ⟨m, mm, rfl⟩ := List.mem_map.mp hm
    obtain ⟨j, fj, ej⟩ := Fst.of mm fun z hz => by have := hle _ (List.mem_map_of_mem (f := fun c : Nat => (c : Int)) hz); omega
    have g := getD_at (d := 0) fj.lt
    refine ⟨t, nV cs, .int ((m : Nat) : Int), j, .int ((m : Nat) : Int), rfl, rfl, SqL.of ht, rfl, ?_, ?_, ?_, ?_, q j H1 fj e1⟩
    · rw [List.all_eq_true]
      intro v hv
      obtain ⟨c, _, rfl⟩ := List.mem_map.mp hv
      rfl
    · rw [nV_at fj.lt, lAt_get fj.lt, ← g, ej]
    · show (((m : Nat) : Int) == ((m : Nat) : Int)) = true
      exact beq_self_eq_true _
    · intro k z hk hz
      obtain ⟨lk, rfl⟩ := nV_get hz
      have := fj.no k hk
      show ((((lAt cs k : Nat) : Int)) == ((m : Nat) : Int)) = false
      rw [beq_eq_false_iff_ne]
      rw [ej] at this
      have e : lAt cs k = cs.getD k 0 := rfl
      omega
end
end K40
set_option Elab.async false
set_option linter.all false
set_option maxRecDepth 100001
set_option maxHeartbeats 3999999
namespace K40
open PySem L2
open Huff (hf dot)
abbrev sIsL : Stmt := topS 5
abbrev sTupOf : Stmt := topS 6
/-- is it a list or a tuple -/
def spIsL (K : PySem.W.Frag) : Sp := fun vs H Q _ => ∃ v, vs = [v] ∧ Kv K H v ∧ ∀ H', Same H H' → Q (.bl (isLT H v)) H'
section
variable {P : Program} {w : World} {K : PySem.W.Frag} {mg : Str → Option Value} {base : Heap}
theorem scIsL : FnScope ["value"] ["value"] (defScope sIsL) := ⟨rfl, rfl, rfl, by decide +kernel, rfl, by decide +kernel, by decide +kernel⟩
theorem ok_isL {f : Addr} {fd : FuncData} (F : Fun K "is_list" "is_list" sIsL f fd) (B : Bi mg) : FnOk P w K mg base CX0 1 f fd ["value"] (spIsL K) := by
  refine F.ok scIsL (fun vs H Q E h => ?_) (fun cdv A outer s H vs Q E hr h => ?_)
  · obtain ⟨v, rfl, _⟩ := h
    rfl
  · obtain ⟨v, rfl, k, q⟩ := h
    refine ⟨_, pss_one (ps_ret (pe_callB call_isiT rfl B.isi PyProof.Rows.boot_isinstance (pa_cons (pv 0) (pa_cons (pe_tup (pa_cons (pe_ty "list" B.list) (pa_cons (pe_ty "tuple" B.tuple) pa_nil))) pa_nil)))), ?_⟩
    refine ⟨_, rfl, by show 2 ≤ sizeLine; decide, fun tp ntp => ?_⟩
    have e := same_new (o := .tup [.ty "list", .ty "tuple"]) ntp
    have htp : upd H tp (.tup [.ty "list", .ty "tuple"]) tp = some (.tup [.ty "list", .ty "tuple"]) := upd_same
    have kq : isLT (upd H tp (.tup [.ty "list", .ty "tuple"])) v = isLT H v := by unfold isLT; rw [k.isT_same e, k.isL_same e]
    generalize upd H tp (.tup [.ty "list", .ty "tuple"]) = H1 at e htp kq ⊢
    obtain ⟨t, ty, ka⟩ := (k.same e).any
    rw [kq] at ka
    exact ⟨_, tp, _, t, [.type "list", .type "tuple"], _, rfl, htp, .cons (.ty "list") (.cons (.ty "tuple") .nil), ty, ka, q H1 e⟩
theorem scTupOf : FnScope ["value", "size"] ["value", "size"] (defScope sTupOf) := ⟨rfl, rfl, rfl, by decide +kernel, rfl, by decide +kernel, by decide +kernel⟩
theorem ok_tupOf {f : Addr} {fd : FuncData} (F : Fun K "is_tuple_of" "is_tuple_of" sTupOf f fd) (B : Bi mg) : FnOk P w K mg base CX0 1 f fd ["value", "size"] spTupOf := by
  refine F.ok scTupOf (fun vs H Q E h => ?_) (fun cdv A outer s H vs Q E hr h => ?_)
  · obtain ⟨v, n, rfl, _⟩ := h
    rfl
  · obtain ⟨v, n, rfl, k, q⟩ := h
    refine ⟨_, pss_one (ps_ret (pe_and (pe_isi B.isi (pa_cons (pv 0) (pa_cons (pe_ty "tuple" B.tuple) pa_nil))) (pe_one (pe_cmpR op_eq (pe_len B.len (pa_cons (pv 0) pa_nil)) (pv 1) (nomark _))))), ?_⟩
    obtain ⟨t, ty, _, _, k3, _⟩ := k.kinds K
    refine ⟨v, rfl, v, _, _, _, _, rfl, .ty "tuple", ty, k3, _, rfl, ?_⟩
    cases k with
    | tup e =>
      rw [isT_tup e]
      refine ⟨_, rfl, _, _, rfl, .inr (SqT.of e), _, rfl, rfl, ?_⟩
      simp only [isTn, e] at q
      rw [dec_int]
      have e2 : ∀ i j : Int, (i == j) = decide (i = j) := fun i j => by rw [Bool.eq_iff_iff]; simp
      rw [e2]
      exact q
    | lst e =>
      rw [isT_lst e]
      simp only [isTn, e] at q
      exact q
    | _ => exact q
end
end K40
set_option Elab.async false
set_option linter.all false
set_option maxRecDepth 100001
set_option maxHeartbeats 3999999
namespace K40
open PySem L2
open Huff (hf dot)
abbrev sGrI : Stmt := inClass (topS 40) 0
def grF (g d s l : V) : List (Str × V) := putF "least" l (putF "sums" s (putF "depths" d (putF "groups" g [])))
structure TxG (K : PySem.W.Frag) (C : Addr) : Prop where
  cl : Cls K C
  g : NoAttr K C "groups"
  d : NoAttr K C "depths"
  s : NoAttr K C "sums"
  l : NoAttr K C "least"
section
variable (g d s l : V)
theorem gr_least : (grF g d s l).lookup ("least" : Str) = some l := by
  unfold grF
  rw [lookup_putF, if_pos rfl]
theorem gr_sums : (grF g d s l).lookup ("sums" : Str) = some s := by
  unfold grF
  rw [lookup_putF, if_neg (by decide +kernel), lookup_putF, if_pos rfl]
theorem gr_depths : (grF g d s l).lookup ("depths" : Str) = some d := by
  unfold grF
  rw [lookup_putF, if_neg (by decide +kernel), lookup_putF, if_neg (by decide +kernel), lookup_putF, if_pos rfl]
theorem gr_groups : (grF g d s l).lookup ("groups" : Str) = some g := by
  unfold grF
  rw [lookup_putF, if_neg (by decide +kernel), lookup_putF, if_neg (by decide +kernel), lookup_putF, if_neg (by decide +kernel), lookup_putF, if_pos rfl]
end
/-- groups in the heap: four cells of their own -/
structure IsG (C : Addr) (H : Hp) (p dx gp dp sp : Addr) (gs ds ss : List Nat) (m : Nat) : Prop where
  ob : H p = some (.ins C dx (grF (.ref gp) (.ref dp) (.ref sp) (.int ((m : Nat) : Int))))
  g : H gp = some (.lst (nV gs))
  d : H dp = some (.lst (nV ds))
  s : H sp = some (.lst (nV ss))
  ne : gp ≠ dp ∧ gp ≠ sp ∧ dp ≠ sp
def spGrI (C : Addr) : Sp := fun vs H Q _ => ∃ (p dx cp : Addr) (cs : List Nat) (H0 : Hp), vs = [.ref p, .ref cp] ∧ H p = some (.ins C dx []) ∧ H0 p = none ∧ Same H0 H ∧ LT H0 cp (nV cs) ∧ 2 ≤ cs.length ∧ cs.length ≤ 100 ∧
  ∀ gp dp sp H', Same H0 H' → IsG C H' p dx gp dp sp (List.range cs.length) (List.replicate cs.length 0) cs (hf cs) → H0 gp = none → H0 dp = none → H0 sp = none → Q .non H'
theorem sm_ins {H0 H : Hp} {p : Addr} {o : HO} (n : H0 p = none) (e : Same H0 H) : Same H0 (upd H p o) := fun b o' z => (upd_ne (ne_of_none z n)).trans (e _ _ z)
theorem old_no {H0 H : Hp} {a : Addr} (e : Same H0 H) (n : H a = none) : H0 a = none := by
  cases z : H0 a with
  | none => rfl
  | some o =>
    rw [e _ _ z] at n
    cases n
section
variable {P : Program} {w : World} {K : PySem.W.Frag} {mg : Str → Option Value} {base : Heap}
theorem scGrI : FnScope ["self", "counts"] ["self", "counts"] (defScope sGrI) := ⟨rfl, rfl, rfl, by decide +kernel, rfl, by decide +kernel, by decide +kernel⟩
theorem ok_grI {f C : Addr} {fd : FuncData} (F : Fun K "__init__" "Groups.__init__" sGrI f fd) (B : Bi mg) (T : TxG K C) (cL : Cal CX0 P w K mg base 2 "least_of" spLO) : FnOk P w K mg base CX0 3 f fd ["self", "counts"] (spGrI C) := by
  refine F.ok scGrI (fun vs H Q E h => ?_) (fun cdv A outer s H vs Q E hr h => ?_)
  · obtain ⟨p, dx, cp, cs, H0, rfl, _⟩ := h
    rfl
  · obtain ⟨p, dx, cp, cs, H0, rfl, hp, n0, s0, hc, l2, l9, q⟩ := h
    refine ⟨_, pss_cons (ps_fld (pv 0) (pe_listRg rfl rfl B.list (prg_1 rfl B.range (pe_len B.len (pa_cons (pv 1) pa_nil)))) rfl)
      (pss_cons (ps_fld (pv 0) (pe_op op_rep (pe_lst (pa_cons pe_int pa_nil)) (pe_len B.len (pa_cons (pv 1) pa_nil))) rfl)
      (pss_cons (ps_fld (pv 0) (pe_callTy call_list_of rfl B.list (by decide +kernel) (pa_cons (pv 1) pa_nil)) rfl)
      (pss_one (ps_fld (pv 0) (pe_c cL hr pass0 (pa_cons (pv 1) pa_nil)) rfl)))), ?_⟩
    have nn : (nV cs).length = cs.length := nV_len cs
    have hc1 := hc.imp (s0 _ _) (s0 _ _)
    refine ⟨_, rfl, cp, _, rfl, hc1.imp SqL.of SqT.of, ?_⟩
    rw [nn]
    refine ⟨_, rfl, RgOk.of_le (by omega) (by omega) (by omega) (by omega), fun gp n1 => ?_⟩
    have er : rgV 0 ((cs.length : Nat) : Int) = nV (List.range cs.length) := by
      unfold rgV nV
      simp
    rw [er]
    have e1 := same_new (o := .lst (nV (List.range cs.length))) n1
    have g1 : upd H gp (.lst (nV (List.range cs.length))) gp = some (.lst (nV (List.range cs.length))) := upd_same
    have hp1 := e1 _ _ hp
    have s1 := s0.trans e1
    have ng : H0 gp = none := old_no s0 n1
    generalize upd H gp (.lst (nV (List.range cs.length))) = H1 at e1 g1 hp1 s1 ⊢
    refine ⟨_, rfl, p, C, dx, _, rfl, hp1, T.cl, T.g, by show 0 < 1000; decide, ?_⟩
    have s2 := sm_ins (o := .ins C dx (putF "groups" (.ref gp) [])) n0 s1
    have hp2 : upd H1 p (.ins C dx (putF "groups" (.ref gp) [])) p = some (.ins C dx (putF "groups" (.ref gp) [])) := upd_same
    have g2 := (upd_ne (o := .ins C dx (putF "groups" (.ref gp) [])) (ne_of g1 hp1 fun y => nomatch y)).trans g1
    generalize upd H1 p (.ins C dx (putF "groups" (.ref gp) [])) = H2 at s2 hp2 g2 ⊢
    have hc2 := hc.imp (s2 _ _) (s2 _ _)
    refine ⟨by show 1 ≤ sizeLine; decide, fun z nz => ?_⟩
    have e3 := same_new (o := .lst [.int 0]) nz
    have z3 : upd H2 z (.lst [.int 0]) z = some (.lst [.int 0]) := upd_same
    have hp3 := e3 _ _ hp2
    have g3 := e3 _ _ g2
    have s3 := s2.trans e3
    have hc3 := hc2.imp (e3 _ _) (e3 _ _)
    generalize upd H2 z (.lst [.int 0]) = H3 at e3 z3 hp3 g3 s3 hc3 ⊢
    refine ⟨_, rfl, cp, _, rfl, hc3.imp SqL.of SqT.of, ?_⟩
    rw [nn]
    refine ⟨z, _, [.int 0], rfl, rfl, z3, by omega, by omega, ?_, fun dp n4 => ?_⟩
    · rw [Int.toNat_natCast]
      exact Nat.le_of_lt (small10 (by show 1 * cs.length ≤ 10000; omega))
    rw [Int.toNat_natCast]
    have eR : (List.replicate cs.length [V.int 0]).flatten = nV (List.replicate cs.length 0) := by
      unfold nV
      rw [List.map_replicate]
      exact List.flatten_replicate_singleton
    rw [eR]
    have e4 := same_new (o := .lst (nV (List.replicate cs.length 0))) n4
    have d4 : upd H3 dp (.lst (nV (List.replicate cs.length 0))) dp = some (.lst (nV (List.replicate cs.length 0))) := upd_same
    have hp4 := e4 _ _ hp3
    have g4 := e4 _ _ g3
    have s4 := s3.trans e4
    have nd : H0 dp = none := old_no s3 n4
    have ngd : gp ≠ dp := ne_of_none g3 n4
    generalize upd H3 dp (.lst (nV (List.replicate cs.length 0))) = H4 at e4 d4 hp4 g4 s4 ⊢
    refine ⟨_, rfl, p, C, dx, _, rfl, hp4, T.cl, T.d, by show 1 < 1000; decide, ?_⟩
    have s5 := sm_ins (o := .ins C dx (putF "depths" (.ref dp) (putF "groups" (.ref gp) []))) n0 s4
    have hp5 : upd H4 p (.ins C dx (putF "depths" (.ref dp) (putF "groups" (.ref gp) []))) p = some (.ins C dx (putF "depths" (.ref dp) (putF "groups" (.ref gp) []))) := upd_same
    have g5 := (upd_ne (o := .ins C dx (putF "depths" (.ref dp) (putF "groups" (.ref gp) []))) (ne_of g4 hp4 fun y => nomatch y)).trans g4
    have d5 := (upd_ne (o := .ins C dx (putF "depths" (.ref dp) (putF "groups" (.ref gp) []))) (ne_of d4 hp4 fun y => nomatch y)).trans d4
    generalize upd H4 p (.ins C dx (putF "depths" (.ref dp) (putF "groups" (.ref gp) []))) = H5 at s5 hp5 g5 d5 ⊢
    have hc5 := hc.imp (s5 _ _) (s5 _ _)
    refine ⟨_, rfl, cp, _, rfl, hc5.imp SqL.of SqT.of, fun sp n6 => ?_⟩
    have e6 := same_new (o := .lst (nV cs)) n6
    have t6 : upd H5 sp (.lst (nV cs)) sp = some (.lst (nV cs)) := upd_same
    have hp6 := e6 _ _ hp5
    have g6 := e6 _ _ g5
    have d6 := e6 _ _ d5
    have s6 := s5.trans e6
    have ns : H0 sp = none := old_no s5 n6
    have ngs : gp ≠ sp := ne_of_none g5 n6
    have nds : dp ≠ sp := ne_of_none d5 n6
    generalize upd H5 sp (.lst (nV cs)) = H6 at e6 t6 hp6 g6 d6 s6 ⊢
    refine ⟨_, rfl, p, C, dx, _, rfl, hp6, T.cl, T.s, by show 2 < 1000; decide, ?_⟩
    have s7 := sm_ins (o := .ins C dx (putF "sums" (.ref sp) (putF "depths" (.ref dp) (putF "groups" (.ref gp) [])))) n0 s6
    have hp7 : upd H6 p (.ins C dx (putF "sums" (.ref sp) (putF "depths" (.ref dp) (putF "groups" (.ref gp) [])))) p = some (.ins C dx (putF "sums" (.ref sp) (putF "depths" (.ref dp) (putF "groups" (.ref gp) [])))) := upd_same
    have ne7 : ∀ {a : Addr} {xs : List V}, H6 a = some (.lst xs) → upd H6 p (.ins C dx (putF "sums" (.ref sp) (putF "depths" (.ref dp) (putF "groups" (.ref gp) [])))) a = some (.lst xs) := fun z => (upd_ne (ne_of z hp6 fun y => nomatch y)).trans z
    have g7 := ne7 g6
    have d7 := ne7 d6
    have t7 := ne7 t6
    clear ne7
    generalize upd H6 p (.ins C dx (putF "sums" (.ref sp) (putF "depths" (.ref dp) (putF "groups" (.ref gp) [])))) = H7 at s7 hp7 g7 d7 t7 ⊢
    have hc7 := hc.imp (s7 _ _) (s7 _ _)
    refine ⟨_, rfl, cp, cs, rfl, hc7, l2, by omega, fun H8 e8 => ?_⟩
    have hp8 := e8 _ _ hp7
    refine ⟨_, rfl, p, C, dx, _, rfl, hp8, T.cl, T.l, by show 3 < 1000; decide, ?_⟩
    have ne9 : ∀ {a : Addr} {xs : List V}, H7 a = some (.lst xs) → upd H8 p (.ins C dx (grF (.ref gp) (.ref dp) (.ref sp) (.int ((hf cs : Nat) : Int)))) a = some (.lst xs) := fun z => (upd_ne (ne_of (e8 _ _ z) hp8 fun y => nomatch y)).trans (e8 _ _ z)
    exact q gp dp sp _ (sm_ins n0 (s7.trans e8)) ⟨upd_same, ne9 g7, ne9 d7, ne9 t7, ngd, ngs, nds⟩ ng nd ns
end
end K40
set_option Elab.async false
set_option linter.all false
/-! rows of lengths of full codes, each from a shorter one by a word cut in two -/
namespace AllL
open Huff (kl kl_cons kl_perm)
/-- no word of a full code is as long as there are words -/
theorem full_deep : ∀ (n : Nat) {ls : List Nat} {L : Nat}, ls.length = n → (∀ l ∈ ls, l ≤ L) → kl L ls = 2 ^ L → ∀ l ∈ ls, l + 1 ≤ n
  | 0, ls, L, e, _, _ => fun l hl => by
    rw [List.eq_nil_of_length_eq_zero e] at hl
    cases hl
  | 1, [a], L, _, h, k => fun l hl => by
    rw [List.mem_singleton.mp hl]
    rw [kl_cons] at k
    have k : 2 ^ (L - a) + 0 = 2 ^ L := k
    have ha := h a List.mem_cons_self
    by_cases c : a = 0
    · omega
    · have := Nat.pow_lt_pow_right (a := 2) (by decide) (show L - a < L by omega)
      omega
  | n + 2, ls, L, e, h, k => fun l hl => by
    obtain ⟨M, hM, lM⟩ := Huff.le_max (l := ls) (fun z => by rw [z] at e; cases e)
    have k2 := Huff.kl_max (h M hM) lM k
    obtain ⟨M1, r, p⟩ := Huff.kl_twice (by omega) (h M hM) lM hM k
    have lr := p.length_eq
    rw [List.length_cons, List.length_cons] at lr
    have := full_deep (n + 1) (ls := (M - 1) :: r) (L := M) (by rw [List.length_cons]; omega) (fun x hx => by
        rcases List.mem_cons.mp hx with rfl | hx
        · omega
        · exact lM x (p.symm.subset (List.mem_cons_of_mem _ (List.mem_cons_of_mem _ hx)))) (by
        rw [kl_perm p, kl_cons, kl_cons, Nat.sub_self] at k2
        rw [kl_cons, show M - (M - 1) = 1 by omega]
        omega) (M - 1) List.mem_cons_self
    have := lM l hl
    omega
/-- a row of s lengths of a full code -/
structure Fu (s : Nat) (ls : List Nat) : Prop where
  len : ls.length = s
  lo : ∀ l ∈ ls, 1 ≤ l
  hi : ∀ l ∈ ls, l + 1 ≤ s
  kl : Huff.kl 10 ls = 2 ^ 10
def ins (xs : List Nat) (i y : Nat) : List Nat := xs.take i ++ [y] ++ xs.drop i
theorem ins_len (xs : List Nat) (i y : Nat) : (ins xs i y).length = xs.length + 1 := by
  unfold ins
  simp
  omega
theorem ins_perm (xs : List Nat) (i y : Nat) : (ins xs i y).Perm (y :: xs) := by
  unfold ins
  rw [List.append_assoc]
  conv => rhs; rw [← List.take_append_drop i xs]
  exact List.perm_middle
theorem ins_erase {xs : List Nat} {i : Nat} (h : i < xs.length) : ins (xs.eraseIdx i) i xs[i] = xs := by
  unfold ins
  rw [List.eraseIdx_eq_take_drop_succ, List.take_left' (by rw [List.length_take]; omega), List.drop_left' (by rw [List.length_take]; omega), List.append_assoc]
  show xs.take i ++ (xs[i] :: xs.drop (i + 1)) = xs
  rw [← List.drop_eq_getElem_cons h, List.take_append_drop]
theorem erase_perm {xs : List Nat} {i : Nat} (h : i < xs.length) : (xs[i] :: xs.eraseIdx i).Perm xs := by
  have := ins_perm (xs.eraseIdx i) i xs[i]
  rw [ins_erase h] at this
  exact this.symm
/-- the word at cut in two, the halves put in at one and at other -/
def gen (ls : List Nat) (at_ one other : Nat) : List Nat := ins (ins (ls.eraseIdx at_) one (ls.getD at_ 0 + 1)) other (ls.getD at_ 0 + 1)
theorem gen_perm {ls : List Nat} {at_ : Nat} (h : at_ < ls.length) (one other : Nat) : (gen ls at_ one other).Perm ((ls.getD at_ 0 + 1) :: (ls.getD at_ 0 + 1) :: ls.eraseIdx at_) := (ins_perm _ _ _).trans ((ins_perm _ _ _).cons _)
theorem gen_fu {s : Nat} {ls : List Nat} {at_ : Nat} (f : Fu s ls) (s9 : s ≤ 9) (h : at_ < ls.length) (one other : Nat) : Fu (s + 1) (gen ls at_ one other) := by
  have p := gen_perm h one other
  have g : ls.getD at_ 0 = ls[at_] := by
    rw [List.getD_eq_getElem?_getD, List.getElem?_eq_getElem h]
    rfl
  have h1 := f.lo _ (List.getElem_mem h)
  have h2 := f.hi _ (List.getElem_mem h)
  rw [g] at p
  have pe := erase_perm h
  have back : ∀ x ∈ ls.eraseIdx at_, x ∈ ls := fun x hx => pe.subset (List.mem_cons_of_mem _ hx)
  refine ⟨?_, fun x hx => ?_, fun x hx => ?_, ?_⟩
  · unfold gen
    rw [ins_len, ins_len, List.length_eraseIdx_of_lt h, f.len]
    have := f.len
    omega
  · rcases List.mem_cons.mp (p.subset hx) with rfl | hx
    · omega
    rcases List.mem_cons.mp hx with rfl | hx
    · omega
    · exact f.lo x (back x hx)
  · rcases List.mem_cons.mp (p.subset hx) with rfl | hx
    · omega
    rcases List.mem_cons.mp hx with rfl | hx
    · omega
    · have := f.hi x (back x hx)
      omega
  · have k := f.kl
    rw [← kl_perm pe, kl_cons] at k
    rw [kl_perm p, kl_cons, kl_cons, ← k]
    have : 2 ^ (10 - ls[at_]) = 2 * 2 ^ (10 - (ls[at_] + 1)) := by
      rw [show 10 - ls[at_] = (10 - (ls[at_] + 1)) + 1 by omega, Nat.pow_succ]
      omega
    omega
/-- every longer row comes so -/
theorem gen_all {s : Nat} {ls : List Nat} (f : Fu (s + 1) ls) (s2 : 2 ≤ s) (s9 : s ≤ 9) : ∃ (k : List Nat) (at_ one other : Nat), Fu s k ∧ at_ < k.length ∧ one < s ∧ one < other ∧ other ≤ s ∧ ls = gen k at_ one other := by
  have ll := f.len
  obtain ⟨M, hM, lM⟩ := Huff.le_max (l := ls) (fun z => by rw [z] at ll; simp at ll)
  have hb : ∀ l ∈ ls, l ≤ 10 := fun l hl => by have := f.hi l hl; omega
  obtain ⟨M1, r, p⟩ := Huff.kl_twice (by omega) (hb M hM) lM hM f.kl
  have M10 := hb M hM
  have lr := p.length_eq
  rw [List.length_cons, List.length_cons] at lr
  -- two places of M, in order
  obtain ⟨i, j, hij, hj, hi, ei, ej⟩ : ∃ i j, ∃ (hij : i < j) (hj : j < ls.length) (hi : i < (ls.eraseIdx j).length), (ls.eraseIdx j)[i] = M ∧ ls[j] = M := by
    obtain ⟨i0, h0, e0⟩ := List.mem_iff_getElem.mp hM
    have pe := erase_perm h0
    rw [e0] at pe
    have pm : (ls.eraseIdx i0).Perm (M :: r) := (pe.trans p).cons_inv
    obtain ⟨k, hk, ek⟩ := List.mem_iff_getElem.mp (pm.symm.subset List.mem_cons_self)
    have lk : (ls.eraseIdx i0).length = ls.length - 1 := List.length_eraseIdx_of_lt h0
    by_cases c : k < i0
    · exact ⟨k, i0, c, h0, hk, ek, e0⟩
    · have e1 : ls[k + 1]'(by omega) = M := by
        rw [List.getElem_eraseIdx] at ek
        rw [dif_neg c] at ek
        exact ek
      have l1 : (ls.eraseIdx (k + 1)).length = ls.length - 1 := List.length_eraseIdx_of_lt (by omega)
      refine ⟨i0, k + 1, by omega, by omega, by omega, ?_, e1⟩
      rw [List.getElem_eraseIdx, dif_pos (by omega)]
      exact e0
  have lj : (ls.eraseIdx j).length = s := by rw [List.length_eraseIdx_of_lt hj, ll]; omega
  have li : ((ls.eraseIdx j).eraseIdx i).length = s - 1 := by rw [List.length_eraseIdx_of_lt hi, lj]
  have e1 := ins_erase hi
  have e2 := ins_erase hj
  rw [ei] at e1
  rw [ej] at e2
  have k10 : kl 10 ((M - 1) :: (ls.eraseIdx j).eraseIdx i) = 2 ^ 10 := by
    have k := f.kl
    have p1 := erase_perm hj
    have p2 := erase_perm hi
    rw [ej] at p1
    rw [ei] at p2
    rw [← kl_perm p1, kl_cons, ← kl_perm p2, kl_cons] at k
    rw [kl_cons, ← k, show 10 - (M - 1) = (10 - M) + 1 by omega, Nat.pow_succ]
    omega
  have lk : ((M - 1) :: (ls.eraseIdx j).eraseIdx i).length = s := by rw [List.length_cons, li]; omega
  have bk : ∀ l ∈ (M - 1) :: (ls.eraseIdx j).eraseIdx i, l ≤ 10 := fun l hl => by
    rcases List.mem_cons.mp hl with rfl | hl
    · omega
    · exact hb l ((List.eraseIdx_sublist _ _).subset ((List.eraseIdx_sublist _ _).subset hl))
  refine ⟨(M - 1) :: (ls.eraseIdx j).eraseIdx i, 0, i, j, ⟨lk, Huff.full_pos (by omega) k10, full_deep s lk bk k10, k10⟩, by omega, by omega, hij, by omega, ?_⟩
  unfold gen
  show ls = ins (ins ((ls.eraseIdx j).eraseIdx i) i (M - 1 + 1)) j (M - 1 + 1)
  rw [show M - 1 + 1 = M by omega, e1, e2]
/-- rows of n numbers below five -/
def vecs : Nat → List (List Nat)
  | 0 => [[]]
  | n + 1 => (vecs n).flatMap fun v => (List.range 5).map fun x => x :: v
theorem mem_vecs : ∀ {n : Nat} {v : List Nat}, v.length = n → (∀ x ∈ v, x < 5) → v ∈ vecs n
  | 0, v, e, _ => by
    rw [List.eq_nil_of_length_eq_zero e]
    exact List.mem_cons_self
  | n + 1, x :: v, e, h => by
    refine List.mem_flatMap.mpr ⟨v, mem_vecs (by simpa using e) fun y hy => h y (List.mem_cons_of_mem _ hy), List.mem_map.mpr ⟨x, List.mem_range.mpr (h x List.mem_cons_self), rfl⟩⟩
theorem vecs_len (n : Nat) : (vecs n).length = 5 ^ n := by
  induction n with
  | zero => rfl
  | succ n ih =>
    show ((vecs n).flatMap _).length = _
    have key : ∀ l : List (List Nat), (l.flatMap fun v => (List.range 5).map fun x => x :: v).length = l.length * 5 := by
      intro l
      induction l with
      | nil => rfl
      | cons a l ih =>
        rw [List.flatMap_cons, List.length_append, ih, List.length_map, List.length_range, List.length_cons]
        omega
    rw [key, ih, Nat.pow_succ]
theorem fu_few {s : Nat} {rows : List (List Nat)} (s5 : s ≤ 5) (nd : rows.Nodup) (h : ∀ ls ∈ rows, Fu s ls) : rows.length ≤ 3125 := by
  refine Nat.le_trans (nd.length_le_of_subset fun ls hl => mem_vecs (h ls hl).len fun x hx => by have := (h ls hl).hi x hx; omega) ?_
  rw [vecs_len]
  exact Nat.le_trans (Nat.pow_le_pow_right (by decide) s5) (by decide)
/-- a row put into a dict -/
def addL (xs : List (List Nat)) (l : List Nat) : List (List Nat) := if l ∈ xs then xs else xs ++ [l]
theorem addL_mem {xs : List (List Nat)} {l y : List Nat} : y ∈ addL xs l ↔ y ∈ xs ∨ y = l := by
  unfold addL
  by_cases c : l ∈ xs
  · rw [if_pos c]
    exact ⟨.inl, fun h => h.elim id fun e => e ▸ c⟩
  · rw [if_neg c, List.mem_append, List.mem_singleton]
theorem addL_nd {xs : List (List Nat)} {l : List Nat} (h : xs.Nodup) : (addL xs l).Nodup := by
  unfold addL
  by_cases c : l ∈ xs
  · rw [if_pos c]
    exact h
  · rw [if_neg c, List.nodup_append]
    exact ⟨h, (by simp : [l].Nodup), fun a ha b hb => by rw [List.mem_singleton.mp hb]; exact fun e => c (e ▸ ha)⟩
end AllL
set_option Elab.async false
set_option linter.all false
namespace Grp
open Huff (hf dot Best Full)
/-- lengths of a code, taken by groups and grown by depths -/
def grow (l : List Nat) : List Nat → List Nat → List Nat
  | g :: gs, d :: ds => (l.getD g 0 + d) :: grow l gs ds
  | _, _ => []
/-- counts gathered by groups -/
def bg : List Nat → List Nat → List Nat → List Nat
  | acc, g :: gs, c :: cs => bg (acc.set g (acc.getD g 0 + c)) gs cs
  | acc, _, _ => acc
theorem bg_len : ∀ (gs cs acc : List Nat), (bg acc gs cs).length = acc.length
  | g :: gs, c :: cs, acc => by
    show (bg (acc.set g (acc.getD g 0 + c)) gs cs).length = _
    rw [bg_len gs cs, List.length_set]
  | [], _, acc => by cases acc <;> rfl
  | _ :: _, [], acc => by cases acc <;> rfl
theorem grow_len {l : List Nat} : ∀ {gs ds : List Nat}, gs.length = ds.length → (grow l gs ds).length = gs.length
  | [], [], _ => rfl
  | g :: gs, d :: ds, e => by
    show (grow l gs ds).length + 1 = gs.length + 1
    rw [grow_len (by simpa using e)]
  | [], _ :: _, e => by simp at e
  | _ :: _, [], e => by simp at e
theorem dot_setc : ∀ {ls cs : List Nat} {i : Nat} (c : Nat), cs.length = ls.length → i < cs.length → dot ls (cs.set i (cs.getD i 0 + c)) = dot ls cs + c * ls.getD i 0
  | l :: ls, a :: cs, 0, c, _, _ => by
    show dot (l :: ls) ((a + c) :: cs) = dot (l :: ls) (a :: cs) + c * l
    rw [Huff.dot_cons, Huff.dot_cons, Nat.add_mul]
    omega
  | l :: ls, a :: cs, i + 1, c, e, h => by
    have ih := dot_setc (ls := ls) (cs := cs) (i := i) c (by simpa using e) (by simpa using h)
    show dot (l :: ls) (a :: cs.set i (cs.getD i 0 + c)) = dot (l :: ls) (a :: cs) + c * ls.getD i 0
    rw [Huff.dot_cons, Huff.dot_cons, ih]
    omega
  | _, [], _, _, _, h => by simp at h
  | [], _ :: _, _, _, e, _ => by simp at e
/-- the cost of a grown code, by groups -/
theorem dot_grow {l : List Nat} : ∀ {gs ds cs acc : List Nat}, gs.length = cs.length → ds.length = cs.length → acc.length = l.length → (∀ g ∈ gs, g < acc.length) → dot l (bg acc gs cs) + dot ds cs = dot l acc + dot (grow l gs ds) cs
  | [], [], [], acc, _, _, _, _ => by cases acc <;> rfl
  | g :: gs, d :: ds, c :: cs, acc, e1, e2, e3, h => by
    have hg := h g List.mem_cons_self
    have ih := dot_grow (l := l) (gs := gs) (ds := ds) (cs := cs) (acc := acc.set g (acc.getD g 0 + c)) (by simpa using e1) (by simpa using e2) (by rw [List.length_set]; exact e3) (fun x hx => by rw [List.length_set]; exact h x (List.mem_cons_of_mem _ hx))
    have s := dot_setc (ls := l) (cs := acc) (i := g) c e3 hg
    show dot l (bg (acc.set g (acc.getD g 0 + c)) gs cs) + dot (d :: ds) (c :: cs) = dot l acc + dot ((l.getD g 0 + d) :: grow l gs ds) (c :: cs)
    rw [Huff.dot_cons, Huff.dot_cons, Nat.mul_add]
    omega
  | [], _ :: _, [], _, _, e, _, _ => by simp at e
  | [], _, _ :: _, _, e, _, _, _ => by simp at e
  | _ :: _, _, [], _, e, _, _, _ => by simp at e
  | _ :: _, [], _ :: _, _, _, e, _, _ => by simp at e
theorem grow_app {l : List Nat} : ∀ {a c : List Nat} (b d : List Nat), a.length = c.length → grow l (a ++ b) (c ++ d) = grow l a c ++ grow l b d
  | [], [], _, _, _ => rfl
  | x :: a, y :: c, b, d, e => by
    show (_ :: grow l (a ++ b) (c ++ d)) = _ :: (grow l a c ++ grow l b d)
    rw [grow_app b d (by simpa using e)]
  | [], _ :: _, _, _, e => by simp at e
  | _ :: _, [], _, _, e => by simp at e
theorem grow_at {l : List Nat} : ∀ {gs ds : List Nat} {j : Nat}, gs.length = ds.length → j < gs.length → (grow l gs ds).getD j 0 = l.getD (gs.getD j 0) 0 + ds.getD j 0
  | g :: gs, d :: ds, 0, _, _ => rfl
  | g :: gs, d :: ds, j + 1, e, h => grow_at (gs := gs) (ds := ds) (j := j) (by simpa using e) (by simpa using h)
  | [], _, _, _, h => by simp at h
  | _ :: _, [], _, e, _ => by simp at e
theorem grow_set {l : List Nat} : ∀ {gs ds : List Nat} {j : Nat} (x : Nat), gs.length = ds.length → j < gs.length → grow l gs (ds.set j x) = (grow l gs ds).set j (l.getD (gs.getD j 0) 0 + x)
  | g :: gs, d :: ds, 0, _, _, _ => rfl
  | g :: gs, d :: ds, j + 1, x, e, h => by
    show (_ :: grow l gs (ds.set j x)) = _ :: ((grow l gs ds).set j _)
    rw [grow_set (gs := gs) (ds := ds) (j := j) x (by simpa using e) (by simpa using h)]
    rfl
  | [], _, _, _, _, h => by simp at h
  | _ :: _, [], _, _, e, _ => by simp at e
theorem grow_take {l : List Nat} : ∀ (gs ds : List Nat) (r : Nat), gs.length = ds.length → grow l (gs.take r) (ds.take r) = (grow l gs ds).take r ∧ grow l (gs.drop r) (ds.drop r) = (grow l gs ds).drop r
  | [], [], r, _ => by simp [grow]
  | g :: gs, d :: ds, 0, _ => by simp [grow]
  | g :: gs, d :: ds, r + 1, e => by
    obtain ⟨h1, h2⟩ := grow_take (l := l) gs ds r (by simpa using e)
    exact ⟨congrArg (_ :: ·) h1, h2⟩
  | [], _ :: _, _, e => by simp at e
  | _ :: _, [], _, e => by simp at e
/-- one more at r -/
def put (xs : List Nat) (r y : Nat) : List Nat := xs.take r ++ [y] ++ xs.drop r
theorem put_len (xs : List Nat) (r y : Nat) : (put xs r y).length = xs.length + 1 := by
  unfold put
  simp
  omega
theorem put_perm (xs : List Nat) (r y : Nat) : (put xs r y).Perm (y :: xs) := by
  unfold put
  rw [List.append_assoc]
  refine (List.perm_append_comm).trans ?_
  show (y :: (xs.drop r ++ xs.take r)).Perm (y :: xs)
  refine List.Perm.cons _ ?_
  refine (List.perm_append_comm).trans ?_
  rw [List.take_append_drop]
/-- the lengths when sign j is parted and its second half stands at r -/
def part (ls : List Nat) (j r : Nat) : List Nat := put (ls.set j (ls.getD j 0 + 1)) r (ls.getD j 0 + 1)
theorem part_len (ls : List Nat) (j r : Nat) : (part ls j r).length = ls.length + 1 := by
  unfold part
  rw [put_len, List.length_set]
theorem grow_put {l gs ds : List Nat} {j r : Nat} (e : gs.length = ds.length) (h : j < gs.length) : grow l (put gs r (gs.getD j 0)) (put (ds.set j (ds.getD j 0 + 1)) r (ds.getD j 0 + 1)) = part (grow l gs ds) j r := by
  have e2 : gs.length = (ds.set j (ds.getD j 0 + 1)).length := by rw [List.length_set]; exact e
  obtain ⟨h1, h2⟩ := grow_take (l := l) gs (ds.set j (ds.getD j 0 + 1)) r e2
  have t1 : (gs.take r).length = ((ds.set j (ds.getD j 0 + 1)).take r).length := by rw [List.length_take, List.length_take, e2]
  unfold put part put
  have ga := grow_at (l := l) e h
  rw [List.append_assoc, List.append_assoc, grow_app _ _ t1]
  show _ ++ ((l.getD (gs.getD j 0) 0 + (ds.getD j 0 + 1)) :: grow l (gs.drop r) ((ds.set j (ds.getD j 0 + 1)).drop r)) = _
  rw [h1, h2, grow_set _ e h, ga, ← Nat.add_assoc, List.append_assoc]
  rfl
theorem full_part {ls : List Nat} {j : Nat} (r : Nat) (h : j < ls.length) (f : Full ls) : Full (part ls j r) := by
  obtain ⟨L, hL, k⟩ := f
  have g : ls.getD j 0 = ls[j] := by rw [List.getD_eq_getElem?_getD, List.getElem?_eq_getElem h]; rfl
  have lj := hL _ (List.getElem_mem h)
  have p0 : ls.Perm (ls[j] :: ls.eraseIdx j) := (AllL.erase_perm h).symm
  have ps : (ls.set j (ls[j] + 1)).Perm ((ls[j] + 1) :: ls.eraseIdx j) := by
    have h' : j < (ls.set j (ls[j] + 1)).length := by rw [List.length_set]; exact h
    have := (AllL.erase_perm h').symm
    rwa [List.getElem_set_self, List.eraseIdx_set_eq] at this
  have pp : (part ls j r).Perm ((ls[j] + 1) :: (ls[j] + 1) :: ls.eraseIdx j) := by
    unfold part
    rw [g]
    exact (put_perm _ _ _).trans (ps.cons _)
  refine ⟨L + 1, fun x hx => ?_, ?_⟩
  · have := pp.mem_iff.mp hx
    simp only [List.mem_cons] at this
    rcases this with rfl | rfl | this
    · omega
    · omega
    · have := hL x (List.mem_of_mem_eraseIdx this)
      omega
  · have k1 := Huff.kl_perm (L := L) p0
    rw [Huff.kl_cons] at k1
    rw [Huff.kl_perm pp, Huff.kl_cons, Huff.kl_cons, Huff.kl_scale (L := L + 1) (M := L) (by omega) (fun x hx => hL x (List.mem_of_mem_eraseIdx hx))]
    rw [show L + 1 - (ls[j] + 1) = L - ls[j] by omega, show L + 1 - L = 1 by omega, Nat.pow_succ]
    omega
/-- groups and depths that stand over n groups -/
structure Reach (n : Nat) (gs ds : List Nat) : Prop where
  len : gs.length = ds.length
  lt : ∀ g ∈ gs, g < n
  full : ∀ l : List Nat, l.length = n → Full l → Full (grow l gs ds)
theorem grow_start : ∀ (l : List Nat) (pre : List Nat), grow (pre ++ l) ((List.range l.length).map (· + pre.length)) (List.replicate l.length 0) = l
  | [], _ => rfl
  | a :: l, pre => by
    have ih := grow_start l (pre ++ [a])
    have e1 : (List.range (a :: l).length).map (· + pre.length) = pre.length :: (List.range l.length).map (· + (pre ++ [a]).length) := by
      rw [List.length_cons, List.range_succ_eq_map, List.map_cons, List.map_map]
      simp only [Nat.zero_add, List.length_append, List.length_singleton]
      refine congrArg _ (List.map_congr_left fun x _ => ?_)
      show x + 1 + pre.length = x + (pre.length + 1)
      omega
    rw [e1, List.length_cons, List.replicate_succ]
    show ((pre ++ a :: l).getD pre.length 0 + 0) :: grow (pre ++ a :: l) _ _ = a :: l
    have e2 : pre ++ a :: l = pre ++ [a] ++ l := by simp
    rw [e2, ih]
    simp [List.getD_eq_getElem?_getD]
theorem Reach.start (n : Nat) : Reach n (List.range n) (List.replicate n 0) := by
  refine ⟨by simp, fun g h => List.mem_range.mp h, fun l e f => ?_⟩
  have h := grow_start l []
  simp only [List.nil_append, List.length_nil, Nat.add_zero, List.map_id'] at h
  rw [e] at h
  rw [h]
  exact f
theorem Reach.put {n : Nat} {gs ds : List Nat} {j : Nat} (R : Reach n gs ds) (r : Nat) (h : j < gs.length) : Reach n (put gs r (gs.getD j 0)) (Grp.put (ds.set j (ds.getD j 0 + 1)) r (ds.getD j 0 + 1)) := by
  have lj : gs.getD j 0 = gs[j] := by rw [List.getD_eq_getElem?_getD, List.getElem?_eq_getElem h]; rfl
  refine ⟨by rw [put_len, put_len, List.length_set, R.len], fun g hg => ?_, fun l e f => ?_⟩
  · have := (put_perm _ _ _).mem_iff.mp hg
    rcases List.mem_cons.mp this with rfl | this
    · rw [lj]
      exact R.lt _ (List.getElem_mem h)
    · exact R.lt _ this
  · rw [grow_put R.len h]
    exact full_part r (by rw [grow_len R.len]; exact h) (R.full l e f)
theorem dot_zero : ∀ (l : List Nat) (n : Nat), l.length = n → dot l (List.replicate n 0) = 0
  | [], _, rfl => rfl
  | a :: l, _, rfl => by
    rw [List.length_cons, List.replicate_succ, Huff.dot_cons, dot_zero l _ rfl]
    omega
/-- the cost of a grown code -/
theorem Reach.cost {n : Nat} {gs ds cs l : List Nat} (R : Reach n gs ds) (ec : cs.length = gs.length) (e : l.length = n) : dot (grow l gs ds) cs = dot l (bg (List.replicate n 0) gs cs) + dot ds cs := by
  have h := dot_grow (l := l) (gs := gs) (ds := ds) (cs := cs) (acc := List.replicate n 0) ec.symm (by rw [← R.len, ec]) (by rw [List.length_replicate, e]) (fun g hg => by rw [List.length_replicate]; exact R.lt g hg)
  rw [dot_zero l n e] at h
  omega
theorem Reach.below {n : Nat} {gs ds cs : List Nat} (R : Reach n gs ds) (n1 : 1 ≤ n) (g1 : 1 ≤ gs.length) (ec : cs.length = gs.length) : hf cs ≤ hf (bg (List.replicate n 0) gs cs) + dot ds cs := by
  have lb : (bg (List.replicate n 0) gs cs).length = n := by rw [bg_len, List.length_replicate]
  obtain ⟨b, B, _⟩ := Huff.best_ex (cs := bg (List.replicate n 0) gs cs) (by omega)
  have el : b.length = n := by rw [B.len, lb]
  have f := R.full b el B.full
  have := Huff.hf_le (cs := cs) (ls := grow b gs ds) (by rw [grow_len R.len, ec]) (by rw [grow_len R.len]; exact g1) f
  rw [R.cost ec el, B.eq] at this
  exact this
/-- when a code serves these counts -/
theorem Reach.serves {n : Nat} {gs ds cs l : List Nat} (R : Reach n gs ds) (n1 : 1 ≤ n) (g1 : 1 ≤ gs.length) (ec : cs.length = gs.length) (e : l.length = n) (f : Full l) :
    dot (grow l gs ds) cs = hf cs ↔ hf cs = hf (bg (List.replicate n 0) gs cs) + dot ds cs ∧ dot l (bg (List.replicate n 0) gs cs) = hf (bg (List.replicate n 0) gs cs) := by
  have lb : (bg (List.replicate n 0) gs cs).length = n := by rw [bg_len, List.length_replicate]
  have h1 := R.below n1 g1 ec
  have h2 := R.cost ec e
  have h3 := Huff.hf_le (cs := bg (List.replicate n 0) gs cs) (ls := l) (by rw [lb, e]) (by omega) f
  omega
/-- sums place by place -/
def addL (a b : List Nat) : List Nat := List.zipWith (· + ·) a b
theorem dot_addL : ∀ {l a b : List Nat}, a.length = l.length → b.length = l.length → dot l (addL a b) = dot l a + dot l b
  | [], [], [], _, _ => rfl
  | x :: l, y :: a, z :: b, e1, e2 => by
    have ih := dot_addL (l := l) (a := a) (b := b) (by simpa using e1) (by simpa using e2)
    show dot (x :: l) ((y + z) :: addL a b) = _
    rw [Huff.dot_cons, Huff.dot_cons, Huff.dot_cons, ih, Nat.add_mul]
    omega
  | [], _ :: _, _, e, _ => by simp at e
  | [], [], _ :: _, _, e => by simp at e
  | _ :: _, [], _, e, _ => by simp at e
  | _ :: _, _ :: _, [], _, e => by simp at e
theorem addL_len {a b : List Nat} (e : b.length = a.length) : (addL a b).length = a.length := by
  unfold addL
  rw [List.length_zipWith, e, Nat.min_self]
theorem hf_addL {a b : List Nat} (n1 : 1 ≤ a.length) (e : b.length = a.length) : hf a + hf b ≤ hf (addL a b) := by
  have la := addL_len e
  obtain ⟨s, B, _⟩ := Huff.best_ex (cs := addL a b) (by omega)
  have ls := B.len
  have h1 := Huff.hf_le (cs := a) (ls := s) (by omega) (by omega) B.full
  have h2 := Huff.hf_le (cs := b) (ls := s) (by omega) (by omega) B.full
  have h3 := dot_addL (l := s) (a := a) (b := b) (by omega) (by omega)
  rw [B.eq] at h3
  omega
/-- one code least for both: just when it is least for the sums and these add up -/
theorem both {l a b : List Nat} (n1 : 1 ≤ a.length) (e : b.length = a.length) (el : l.length = a.length) (f : Full l) : (dot l a = hf a ∧ dot l b = hf b) ↔ (hf (addL a b) = hf a + hf b ∧ dot l (addL a b) = hf (addL a b)) := by
  have h1 := Huff.hf_le (cs := a) (ls := l) (by omega) (by omega) f
  have h2 := Huff.hf_le (cs := b) (ls := l) (by omega) (by omega) f
  have h3 := dot_addL (l := l) (a := a) (b := b) (by omega) (by omega)
  have h4 := hf_addL n1 e
  have h5 := Huff.hf_le (cs := addL a b) (ls := l) (by rw [addL_len e]; omega) (by omega) f
  omega
theorem dot_app : ∀ {a c : List Nat} (b d : List Nat), a.length = c.length → dot (a ++ b) (c ++ d) = dot a c + dot b d
  | [], [], b, d, _ => by
    show dot b d = 0 + dot b d
    omega
  | x :: a, y :: c, b, d, e => by
    have ih := dot_app (a := a) (c := c) b d (by simpa using e)
    show dot (x :: (a ++ b)) (y :: (c ++ d)) = dot (x :: a) (y :: c) + dot b d
    rw [Huff.dot_cons, Huff.dot_cons, ih]
    omega
  | [], _ :: _, _, _, e => by simp at e
  | _ :: _, [], _, _, e => by simp at e
theorem dot_put (a b : List Nat) (r x y : Nat) (e : a.length = b.length) : dot (put a r x) (put b r y) = y * x + dot a b := by
  have t : (a.take r).length = (b.take r).length := by rw [List.length_take, List.length_take, e]
  have h : dot a b = dot (a.take r) (b.take r) + dot (a.drop r) (b.drop r) := by
    rw [← dot_app _ _ t, List.take_append_drop, List.take_append_drop]
  unfold put
  rw [List.append_assoc, List.append_assoc, dot_app _ _ t, List.singleton_append, List.singleton_append, Huff.dot_cons, h]
  omega
theorem dot_up : ∀ {ls cs : List Nat} {i : Nat}, ls.length = cs.length → i < ls.length → dot (ls.set i (ls.getD i 0 + 1)) cs = dot ls cs + cs.getD i 0
  | l :: ls, c :: cs, 0, _, _ => by
    show dot ((l + 1) :: ls) (c :: cs) = dot (l :: ls) (c :: cs) + c
    rw [Huff.dot_cons, Huff.dot_cons, Nat.mul_add]
    omega
  | l :: ls, c :: cs, i + 1, e, h => by
    have ih := dot_up (ls := ls) (cs := cs) (i := i) (by simpa using e) (by simpa using h)
    show dot (l :: ls.set i (ls.getD i 0 + 1)) (c :: cs) = dot (l :: ls) (c :: cs) + cs.getD i 0
    rw [Huff.dot_cons, Huff.dot_cons, ih]
    omega
  | [], _, _, _, h => by simp at h
  | _ :: _, [], _, e, _ => by simp at e
theorem hf_zero {cs : List Nat} {m : Nat} (hm : m ∈ cs) (lm : ∀ z ∈ cs, m ≤ z) : hf (0 :: cs) = m + hf cs := by
  obtain ⟨g, p⟩ := Huff.mem_perm hm
  rw [Huff.hf_two (l := 0 :: cs) (x := 0) (y := m) (g := g) (p.cons 0) (Nat.zero_le _) (fun z hz => lm z (p.symm.subset (List.mem_cons_of_mem _ hz))), Nat.zero_add, Huff.hf_perm p]
/-- a new sign of count 0, put in by parting a sign of the least count: what was least stays so -/
theorem put_serves {ls cs : List Nat} {j r : Nat} (e : ls.length = cs.length) (h : j < cs.length) (lm : ∀ z ∈ cs, cs.getD j 0 ≤ z) : dot (part ls j r) (put cs r 0) = hf (put cs r 0) ↔ dot ls cs = hf cs := by
  have hm : cs.getD j 0 ∈ cs := by
    rw [List.getD_eq_getElem?_getD, List.getElem?_eq_getElem h]
    exact List.getElem_mem h
  unfold part
  rw [dot_put _ _ _ _ _ (by rw [List.length_set, e]), dot_up e (by omega), Huff.hf_perm (put_perm cs r 0), hf_zero hm lm]
  omega
end Grp
set_option Elab.async false
set_option linter.all false
set_option maxRecDepth 100001
set_option maxHeartbeats 3999999
namespace K40
open PySem L2
open Huff (hf dot)
abbrev sGrP : Stmt := inClass (topS 40) 1
def spGrP (C : Addr) : Sp := fun vs H Q _ => ∃ (p dx gp dp sp cp : Addr) (gs ds ss cs : List Nat) (m r : Nat), vs = [.ref p, .ref cp, .int ((r : Nat) : Int)] ∧ IsG C H p dx gp dp sp gs ds ss m ∧ LT H cp (nV cs) ∧ cs.length = gs.length ∧ ds.length = gs.length ∧ r ≤ gs.length ∧ 1 ≤ gs.length ∧ gs.length ≤ 100 ∧
  ∀ j H', Fst cs j → IsG C H' p dx gp dp sp (Grp.put gs r (gs.getD j 0)) (Grp.put (ds.set j (ds.getD j 0 + 1)) r (ds.getD j 0 + 1)) ss m → (∀ b o, b ≠ gp → b ≠ dp → H b = some o → H' b = some o) → Q .non H'
section
variable {X : Cx}
/-- xs[k], for a change in place -/
def rGetL : V → V → Hp → VK → Prop := fun x y H Q => ∃ p xs k v, x = .ref p ∧ y = .int ((k : Nat) : Int) ∧ H p = some (.lst xs) ∧ xs[k]? = some v ∧ Q v H
theorem get_list : PGet X rGetL := by
  intro pins s σ H x y v u Q I rx ry ⟨p, xs, k, z, ex, ey, hp, hv, q⟩
  subst ex ey
  cases rx
  obtain ⟨t, rfl⟩ := ry
  obtain ⟨its, r, pl, hz⟩ := I.list (SqL.of hp)
  obtain ⟨w, ew, rw'⟩ := r.get hv
  have hl := r.length
  have hn := line63
  have lt := (List.getElem?_eq_some_iff.mp hv).1
  exact wpAny_getItem_list pl.isList (by omega) (by omega) (by rw [Int.toNat_natCast]; simpa using ew) ⟨z, H, I, rw', q⟩
end
section
variable {P : Program} {w : World} {K : PySem.W.Frag} {mg : Str → Option Value} {base : Heap}
theorem scGrP : FnScope ["self", "counts", "rank", "sign"] ["self", "counts", "rank"] (defScope sGrP) := ⟨rfl, rfl, rfl, by decide +kernel, rfl, by decide +kernel, by decide +kernel⟩
theorem ok_grP {f C : Addr} {fd : FuncData} (F : Fun K "put" "Groups.put" sGrP f fd) (B : Bi mg) (T : TxG K C) (cP : Cal CX0 P w K mg base 1 "parted_sign" spPS) : FnOk P w K mg base CX0 2 f fd ["self", "counts", "rank"] (spGrP C) := by
  refine F.ok scGrP (fun vs H Q E h => ?_) (fun cdv A outer s H vs Q E hr h => ?_)
  · obtain ⟨p, dx, gp, dp, sp, cp, gs, ds, ss, cs, m, r, rfl, _⟩ := h
    rfl
  · obtain ⟨p, dx, gp, dp, sp, cp, gs, ds, ss, cs, m, r, rfl, G, hc, ec, ed, hr0, l1, l9, q⟩ := h
    refine ⟨_, pss_cons (ps_set (i := 3) scGrP.nd rfl (Or.inl rfl) (pe_c cP hr pass0 (pa_cons (pv 1) pa_nil)))
      (pss_cons (ps_augS (pe_fld (pv 0) rfl) (pv 3) get_list pe_int ip_add set_list)
      (pss_cons (ps_expr (pe_bm PySem.F.plainAttrs_list PySem.F.slot_list_insert PySem.F.type_list_insert mt_insert (pe_fld (pv 0) rfl) (pa_cons (pv 2) (pa_cons (pe_ix ix_list (pe_fld (pv 0) rfl) (pv 3) (fun _ _ => rfl)) pa_nil))))
      (pss_one (ps_expr (pe_bm PySem.F.plainAttrs_list PySem.F.slot_list_insert PySem.F.type_list_insert mt_insert (pe_fld (pv 0) rfl) (pa_cons (pv 2) (pa_cons (pe_ix ix_list (pe_fld (pv 0) rfl) (pv 3) (fun _ _ => rfl)) pa_nil))))))), ?_⟩
    refine ⟨_, rfl, cp, cs, rfl, hc, by omega, fun j H1 fj e1 => ?_⟩
    refine gN ?_
    dsimp only
    have hj := fj.lt
    have G1 : IsG C H1 p dx gp dp sp gs ds ss m := ⟨e1 _ _ G.ob, e1 _ _ G.g, e1 _ _ G.d, e1 _ _ G.s, G.ne⟩
    obtain ⟨n1, n2, n3⟩ := G.ne
    have jd : j < ds.length := by omega
    refine ⟨_, rfl, p, C, dx, _, _, rfl, G1.ob, T.cl, T.d, gr_depths _ _ _ _, _, rfl, dp, nV ds, j, _, rfl, rfl, G1.d, nV_at jd, ?_⟩
    refine ⟨_, _, rfl, rfl, dp, _, _, j, rfl, rfl, G1.d, ixn (by rw [nV_len]; omega), ?_⟩
    have eset : (nV ds).set j (.int (((lAt ds j : Nat) : Int) + 1)) = nV (ds.set j (ds.getD j 0 + 1)) := by
      unfold nV
      rw [List.map_set]
      rfl
    rw [eset]
    have G2 : IsG C (upd H1 dp (.lst (nV (ds.set j (ds.getD j 0 + 1))))) p dx gp dp sp gs (ds.set j (ds.getD j 0 + 1)) ss m := ⟨(upd_ne (ne_of G1.ob G1.d fun y => nomatch y)).trans G1.ob, (upd_ne n1).trans G1.g, upd_same, (upd_ne n3.symm).trans G1.s, G.ne⟩
    have k2 : ∀ b o, b ≠ gp → b ≠ dp → H b = some o → upd H1 dp (.lst (nV (ds.set j (ds.getD j 0 + 1)))) b = some o := fun b o _ h2 z => (upd_ne h2).trans (e1 _ _ z)
    generalize upd H1 dp (.lst (nV (ds.set j (ds.getD j 0 + 1)))) = H2 at G2 k2 ⊢
    refine ⟨_, rfl, p, C, dx, _, _, rfl, G2.ob, T.cl, T.g, gr_groups _ _ _ _, .inl ⟨rfl, _, SqL.of G2.g⟩, _, rfl, _, rfl, p, C, dx, _, _, rfl, G2.ob, T.cl, T.g, gr_groups _ _ _ _, _, rfl, gp, _, _, _, rfl, rfl, SqL.of G2.g, atI_nat (nV_at (ls := gs) (i := j) (by omega)), gp, _, _, _, rfl, rfl, G2.g, small10 (by rw [nV_len]; omega), by omega, by omega, ?_⟩
    rw [Int.toNat_natCast, show (nV gs).take r ++ [V.int ((lAt gs j : Nat) : Int)] ++ (nV gs).drop r = nV (Grp.put gs r (gs.getD j 0)) by
      unfold Grp.put nV
      rw [List.map_append, List.map_append, List.map_take, List.map_drop]
      rfl]
    have G3 : IsG C (upd H2 gp (.lst (nV (Grp.put gs r (gs.getD j 0))))) p dx gp dp sp (Grp.put gs r (gs.getD j 0)) (ds.set j (ds.getD j 0 + 1)) ss m := ⟨(upd_ne (ne_of G2.ob G2.g fun y => nomatch y)).trans G2.ob, upd_same, (upd_ne n1.symm).trans G2.d, (upd_ne n2.symm).trans G2.s, G.ne⟩
    have k3 : ∀ b o, b ≠ gp → b ≠ dp → H b = some o → upd H2 gp (.lst (nV (Grp.put gs r (gs.getD j 0)))) b = some o := fun b o h1 h2 z => (upd_ne h1).trans (k2 b o h1 h2 z)
    generalize upd H2 gp (.lst (nV (Grp.put gs r (gs.getD j 0)))) = H3 at G3 k3 ⊢
    have ld : (ds.set j (ds.getD j 0 + 1)).length = gs.length := by rw [List.length_set, ed]
    refine ⟨_, rfl, p, C, dx, _, _, rfl, G3.ob, T.cl, T.d, gr_depths _ _ _ _, .inl ⟨rfl, _, SqL.of G3.d⟩, _, rfl, _, rfl, p, C, dx, _, _, rfl, G3.ob, T.cl, T.d, gr_depths _ _ _ _, _, rfl, dp, _, _, _, rfl, rfl, SqL.of G3.d, atI_nat (nV_at (ls := ds.set j (ds.getD j 0 + 1)) (i := j) (by omega)), dp, _, _, _, rfl, rfl, G3.d, small10 (by rw [nV_len]; omega), by omega, by omega, ?_⟩
    have ex : lAt (ds.set j (ds.getD j 0 + 1)) j = ds.getD j 0 + 1 := by
      show (ds.set j (ds.getD j 0 + 1)).getD j 0 = _
      rw [List.getD_eq_getElem?_getD, List.getElem?_set_self jd]
      rfl
    rw [ex, Int.toNat_natCast, show (nV (ds.set j (ds.getD j 0 + 1))).take r ++ [V.int ((ds.getD j 0 + 1 : Nat) : Int)] ++ (nV (ds.set j (ds.getD j 0 + 1))).drop r = nV (Grp.put (ds.set j (ds.getD j 0 + 1)) r (ds.getD j 0 + 1)) by
      unfold Grp.put nV
      rw [List.map_append, List.map_append, List.map_take, List.map_drop]
      rfl]
    refine q j _ fj ⟨(upd_ne (ne_of G3.ob G3.d fun y => nomatch y)).trans G3.ob, (upd_ne n1).trans G3.g, upd_same, (upd_ne n3.symm).trans G3.s, G.ne⟩ fun b o h1 h2 z => (upd_ne h2).trans (k3 b o h1 h2 z)
end
end K40
set_option Elab.async false
set_option linter.all false
set_option maxRecDepth 100001
set_option maxHeartbeats 3999999
namespace K40
open PySem L2
open Huff (hf dot)
abbrev sGrT : Stmt := inClass (topS 40) 2
abbrev NGrT : List Str := ["self", "counts", "by_groups", "inner", "sign", "count", "least", "sums", "one", "more"]
/-- taken one further -/
theorem bg_snoc : ∀ {gs cs acc : List Nat} (g c : Nat), gs.length = cs.length → Grp.bg acc (gs ++ [g]) (cs ++ [c]) = (Grp.bg acc gs cs).set g ((Grp.bg acc gs cs).getD g 0 + c)
  | [], [], acc, g, c, _ => rfl
  | x :: gs, y :: cs, acc, g, c, e => bg_snoc (gs := gs) (cs := cs) (acc := acc.set x (acc.getD x 0 + y)) g c (by simpa using e)
  | [], _ :: _, _, _, _, e => by simp at e
  | _ :: _, [], _, _, _, e => by simp at e
theorem take_one {xs : List Nat} {i : Nat} (h : i < xs.length) : xs.take (i + 1) = xs.take i ++ [lAt xs i] := by
  rw [List.take_succ, List.getElem?_eq_getElem h, lAt_get h]
  rfl
theorem gr_setS (g d s l x : V) : putF "sums" x (grF g d s l) = grF g d x l := by
  unfold grF
  simp only [putF]
  rfl
theorem gr_setL (g d s l x : V) : putF "least" x (grF g d s l) = grF g d s x := by
  unfold grF
  simp only [putF]
  rfl
theorem lAt_addL {a b : List Nat} {i : Nat} (e : b.length = a.length) (h : i < a.length) : lAt (Grp.addL a b) i = lAt a i + lAt b i := by
  have h2 : i < (Grp.addL a b).length := by rw [Grp.addL_len e]; exact h
  rw [lAt_get h2, lAt_get h, lAt_get (by omega)]
  show (List.zipWith (· + ·) a b)[i]'(h2) = _
  exact List.getElem_zipWith ..
theorem addL_range {a b : List Nat} (e : b.length = a.length) : nV (Grp.addL a b) = (List.range a.length).map fun i => V.int ((lAt a i + lAt b i : Nat) : Int) := by
  rw [nV_range]
  congr 1
  refine List.ext_getElem (by rw [Grp.addL_len e]; simp) fun i h1 h2 => ?_
  have h : i < a.length := by rw [Grp.addL_len e] at h1; exact h1
  rw [← lAt_get h1, lAt_addL e h]
  simp
def spGrT (C : Addr) : Sp := fun vs H Q _ => ∃ (p dx gp dp sp cp : Addr) (gs ds ss cs : List Nat) (m : Nat), vs = [.ref p, .ref cp] ∧ IsG C H p dx gp dp sp gs ds ss m ∧ H cp = some (.tup (nV cs)) ∧
  cs.length = gs.length ∧ ds.length = gs.length ∧ (∀ g ∈ gs, g < ss.length) ∧ Sm ds ∧ 2 ≤ gs.length ∧ gs.length ≤ 100 ∧ 2 ≤ ss.length ∧ ss.length ≤ 100 ∧
  (¬ (hf cs = hf (Grp.bg (List.replicate ss.length 0) gs cs) + dot ds cs ∧ hf (Grp.addL ss (Grp.bg (List.replicate ss.length 0) gs cs)) = m + hf (Grp.bg (List.replicate ss.length 0) gs cs)) → ∀ H', Same H H' → Q (.bl false) H') ∧
  (hf cs = hf (Grp.bg (List.replicate ss.length 0) gs cs) + dot ds cs → hf (Grp.addL ss (Grp.bg (List.replicate ss.length 0) gs cs)) = m + hf (Grp.bg (List.replicate ss.length 0) gs cs) →
    ∀ sp' H', IsG C H' p dx gp dp sp' gs ds (Grp.addL ss (Grp.bg (List.replicate ss.length 0) gs cs)) (m + hf (Grp.bg (List.replicate ss.length 0) gs cs)) → (∀ a o, a ≠ p → H a = some o → H' a = some o) → Q (.bl true) H')
section
variable {P : Program} {w : World} {K : PySem.W.Frag} {mg : Str → Option Value} {base : Heap}
theorem scGrT : FnScope NGrT ["self", "counts"] (defScope sGrT) := ⟨rfl, rfl, rfl, by decide +kernel, rfl, by decide +kernel, by decide +kernel⟩
theorem ok_grT {f C : Addr} {fd : FuncData} (F : Fun K "takes" "Groups.takes" sGrT f fd) (B : Bi mg) (T : TxG K C) (mz : mg "zip" = none) (cL : Cal CX0 P w K mg base 2 "least_of" spLO) : FnOk P w K mg base CX0 3 f fd ["self", "counts"] (spGrT C) := by
  refine F.ok scGrT (fun vs H Q E h => ?_) (fun cdv A outer s H vs Q E hr h => ?_)
  · obtain ⟨p, dx, gp, dp, sp, cp, gs, ds, ss, cs, m, rfl, _⟩ := h
    rfl
  · obtain ⟨p, dx, gp, dp, sp, cp, gs, ds, ss, cs, m, rfl, G, hc, ec, ed, hg, sm, g2, g100, s2, s100, qF, qT⟩ := h
    refine ⟨_, pss_cons (ps_set (i := 2) scGrT.nd rfl (Or.inl rfl) (pe_op op_rep (pe_lst (pa_cons pe_int pa_nil)) (pe_len B.len (pa_cons (pe_fld (pv 0) rfl) pa_nil))))
    (pss_cons (ps_set (i := 3) scGrT.nd rfl (Or.inl rfl) pe_int)
    (pss_cons (ps_for PassesOwn.never rfl (pi_enT rfl B.enum (pa_cons (pv 1) pa_nil)) (pg_tup rfl (pgs_cons (pg_name (i := 4) scGrT.nd rfl (.inl rfl)) (pgs_cons (pg_name (i := 5) scGrT.nd rfl (.inl rfl)) pgs_nil)))
      (pss_cons (ps_augS (pv 2) (pe_ix ix_list (pe_fld (pv 0) rfl) (pv 4) (fun _ _ => rfl)) get_list (pv 5) ip_add set_list)
      (pss_one (ps_aug (i := 3) scGrT.nd rfl (Or.inl rfl) (pe_op op_mul (pv 5) (pe_ix ix_list (pe_fld (pv 0) rfl) (pv 4) (fun _ _ => rfl))) ip_add (.inl rfl)))))
    (pss_cons (ps_set (i := 6) scGrT.nd rfl (Or.inl rfl) (pe_c cL hr pass0 (pa_cons (pv 2) pa_nil)))
    (pss_cons (ps_if (pt_cmpR op_ne (pe_c cL hr pass0 (pa_cons (pv 1) pa_nil)) (pe_op op_add (pv 6) (pv 3)) (nomark _)) (pss_one (ps_ret pe_bl)) pss_nil)
    (pss_cons (ps_setLc (i := 7) (own := [("one", 8), ("more", 9)]) rfl scGrT.nd rfl rfl (sw_true rfl rfl rfl (by decide +kernel)) (ZM.pi_zipM false false mz (pa_cons (pe_fld (pv 0) rfl) (pa_cons (pv 2) pa_nil))) (blkOk_by (N := NGrT) (sc := defScope sGrT) (by decide +kernel))
      (fun _ _ _ _ _ => pg_pairK K rfl rfl (pg_name (i := 8) scGrT.nd rfl (Or.inl rfl) (.inr rfl)) (pg_name (i := 9) scGrT.nd rfl (Or.inl rfl) (.inr rfl))) (fun _ _ _ _ _ => pts_nil) (fun _ _ _ _ _ => pe_op op_add (pv 8) (pv 9)))
    (pss_cons (ps_if (pt_cmpR op_ne (pe_c cL hr pass0 (pa_cons (pv 7) pa_nil)) (pe_op op_add (pe_fld (pv 0) rfl) (pv 6)) (nomark _)) (pss_one (ps_ret pe_bl)) pss_nil)
    (pss_cons (ps_fld (pv 0) (pv 7) rfl)
    (pss_cons (ps_fldaug (pv 0) (pv 6) in_add)
    (pss_one (ps_ret pe_bl)))))))))), ?_⟩
    have ls : (nV ss).length = ss.length := nV_len ss
    refine ⟨by show 1 ≤ sizeLine; decide, fun z nz => ?_⟩
    have e1 := same_new (o := .lst [.int 0]) nz
    have z1 : upd H z (.lst [.int 0]) z = some (.lst [.int 0]) := upd_same
    generalize upd H z (.lst [.int 0]) = H1 at e1 z1 ⊢
    have G1 : IsG C H1 p dx gp dp sp gs ds ss m := ⟨e1 _ _ G.ob, e1 _ _ G.g, e1 _ _ G.d, e1 _ _ G.s, G.ne⟩
    refine ⟨_, rfl, p, C, dx, _, _, rfl, G1.ob, T.cl, T.s, gr_sums _ _ _ _, _, _, rfl, .inl (SqL.of G1.s), ?_⟩
    rw [ls]
    refine ⟨z, _, [.int 0], rfl, rfl, z1, by omega, by omega, ?_, fun bp n2 => ?_⟩
    · rw [Int.toNat_natCast]
      exact Nat.le_of_lt (small10 (by show 1 * ss.length ≤ 10000; omega))
    rw [Int.toNat_natCast]
    have eR : (List.replicate ss.length [V.int 0]).flatten = nV (List.replicate ss.length 0) := by
      unfold nV
      rw [List.map_replicate]
      exact List.flatten_replicate_singleton
    rw [eR]
    have nb0 : H bp = none := old_no e1 n2
    have e2 := e1.trans (same_new (o := .lst (nV (List.replicate ss.length 0))) n2)
    have b2 : upd H1 bp (.lst (nV (List.replicate ss.length 0))) bp = some (.lst (nV (List.replicate ss.length 0))) := upd_same
    generalize upd H1 bp (.lst (nV (List.replicate ss.length 0))) = H2 at e2 b2 ⊢
    refine ⟨_, rfl, cp, _, rfl, SqT.of (e2 _ _ hc), ?_⟩
    have lc : (nV cs).length = cs.length := nV_len cs
    refine for_it walk_enT (fun i σ H' => ∃ (x y : Option V), σ = [some (.ref p), some (.ref cp), some (.ref bp), some (.int ((dot (ds.take i) (cs.take i) : Nat) : Int)), x, y, none, none, none, none] ∧ Same H H' ∧
      H' bp = some (.lst (nV (Grp.bg (List.replicate ss.length 0) (gs.take i) (cs.take i))))) ⟨none, none, rfl, e2, b2⟩ (fun i σ H' _ ⟨_, _, _, e, _⟩ => SqT.of (e _ _ hc)) ?_ ?_
    · rintro i x σ H3 H4 hi ⟨x0, y0, rfl, e3, b3⟩ ⟨T0, y, v', rfl, nT0, rfl, ey, hv⟩
      have ey : y = .int (i : Nat) := (Option.some.inj ey).symm
      subst ey
      obtain ⟨hi, rfl⟩ := nV_get hv
      have hT := same_new (o := .tup [.int (i : Nat), .int ((lAt cs i : Nat) : Int)]) nT0
      have e4 := e3.trans hT
      have b4 := hT _ _ b3
      refine ⟨T0, _, rfl, SqT.of upd_same, rfl, _, _, rfl, _, _, rfl, rfl, ?_⟩
      generalize upd H3 T0 (.tup [.int (i : Nat), .int ((lAt cs i : Nat) : Int)]) = H5 at e4 b4 ⊢
      have G4 : IsG C H5 p dx gp dp sp gs ds ss m := ⟨e4 _ _ G.ob, e4 _ _ G.g, e4 _ _ G.d, e4 _ _ G.s, G.ne⟩
      have lgi : lAt gs i < ss.length := by
        rw [lAt_get (by omega : i < gs.length)]
        exact hg _ (List.getElem_mem _)
      have lb : (Grp.bg (List.replicate ss.length 0) (gs.take i) (cs.take i)).length = ss.length := by rw [Grp.bg_len, List.length_replicate]
      have gi : (nV gs)[i]? = some (.int ((lAt gs i : Nat) : Int)) := nV_at (by omega)
      have di : (nV ds)[i]? = some (.int ((lAt ds i : Nat) : Int)) := nV_at (by omega)
      have s1 : Grp.bg (List.replicate ss.length 0) (gs.take (i + 1)) (cs.take (i + 1)) = (Grp.bg (List.replicate ss.length 0) (gs.take i) (cs.take i)).set (lAt gs i) (lAt (Grp.bg (List.replicate ss.length 0) (gs.take i) (cs.take i)) (lAt gs i) + lAt cs i) := by
        rw [take_one (show i < gs.length by omega), take_one hi, bg_snoc _ _ (by rw [List.length_take, List.length_take, ec])]
      have s2 : dot (ds.take (i + 1)) (cs.take (i + 1)) = dot (ds.take i) (cs.take i) + lAt cs i * lAt ds i := by
        rw [take_one (show i < ds.length by omega), take_one hi, Grp.dot_app _ _ (by rw [List.length_take, List.length_take, ec, ed]), Huff.dot_cons]
        rfl
      refine ⟨_, rfl, _, rfl, p, C, dx, _, _, rfl, G4.ob, T.cl, T.g, gr_groups _ _ _ _, _, rfl, gp, nV gs, _, _, rfl, rfl, SqL.of G4.g, atI_nat gi, ?_⟩
      refine ⟨bp, _, lAt gs i, _, rfl, rfl, b4, nV_at (by rw [lb]; exact lgi), _, rfl, _, _, rfl, rfl, bp, _, _, lAt gs i, rfl, rfl, b4, ixn (by rw [nV_len, lb]; exact lgi), ?_⟩
      have es : (nV (Grp.bg (List.replicate ss.length 0) (gs.take i) (cs.take i))).set (lAt gs i) (.int (((lAt (Grp.bg (List.replicate ss.length 0) (gs.take i) (cs.take i)) (lAt gs i) : Nat) : Int) + ((lAt cs i : Nat) : Int))) = nV (Grp.bg (List.replicate ss.length 0) (gs.take (i + 1)) (cs.take (i + 1))) := by rw [← Int.natCast_add, nV_set, ← s1]
      rw [es]
      have nbp : ∀ {a : Addr} {o : HO}, H a = some o → a ≠ bp := fun z => ne_of_none z nb0
      have e5 : Same H (upd H5 bp (.lst (nV (Grp.bg (List.replicate ss.length 0) (gs.take (i + 1)) (cs.take (i + 1)))))) := fun a o z => (upd_ne (nbp z)).trans (e4 _ _ z)
      have b5 : upd H5 bp (.lst (nV (Grp.bg (List.replicate ss.length 0) (gs.take (i + 1)) (cs.take (i + 1))))) bp = some (.lst (nV (Grp.bg (List.replicate ss.length 0) (gs.take (i + 1)) (cs.take (i + 1))))) := upd_same
      generalize upd H5 bp (.lst (nV (Grp.bg (List.replicate ss.length 0) (gs.take (i + 1)) (cs.take (i + 1))))) = H6 at e5 b5 ⊢
      have G5 : IsG C H6 p dx gp dp sp gs ds ss m := ⟨e5 _ _ G.ob, e5 _ _ G.g, e5 _ _ G.d, e5 _ _ G.s, G.ne⟩
      have bd : lAt ds i ≤ 100 := by
        rw [lAt_get (by omega : i < ds.length)]
        exact sm _ (List.getElem_mem _)
      refine ⟨_, rfl, _, rfl, _, rfl, p, C, dx, _, _, rfl, G5.ob, T.cl, T.d, gr_depths _ _ _ _, _, rfl, dp, nV ds, _, _, rfl, rfl, SqL.of G5.d, atI_nat di, _, _, rfl, rfl, .inr ⟨by omega, by omega⟩, ?_⟩
      refine ⟨_, _, rfl, rfl, ?_⟩
      exact ⟨some (.int (i : Nat)), some (.int ((lAt cs i : Nat) : Int)), by rw [s2, Int.natCast_add, Int.natCast_mul]; rfl, e5, b5⟩
    · rintro σ H3 ⟨x0, y0, rfl, e3, b3⟩
      rw [lc, List.take_of_length_le (show gs.length ≤ cs.length by omega), List.take_of_length_le (Nat.le_refl cs.length)] at b3
      rw [lc, List.take_of_length_le (show ds.length ≤ cs.length by omega), List.take_of_length_le (Nat.le_refl cs.length)]
      have lb : (Grp.bg (List.replicate ss.length 0) gs cs).length = ss.length := by rw [Grp.bg_len, List.length_replicate]
      generalize Grp.bg (List.replicate ss.length 0) gs cs = b at *
      refine ⟨_, rfl, bp, b, rfl, .inl b3, by omega, by omega, fun H4 e4' => ?_⟩
      have e4 := e3.trans e4'
      refine gN ?_
      dsimp only
      have b4 : H4 bp = some (.lst (nV b)) := e4' _ _ b3
      refine ⟨_, rfl, cp, cs, rfl, .inr (e4 _ _ hc), by omega, by omega, fun H5 e5 => ?_⟩
      refine ⟨_, rfl, _, rfl, _, _, rfl, rfl, rfl, ?_⟩
      rw [dec_int]
      have b5 := e5 _ _ b4
      replace e5 := e4.trans e5
      have ii : ∀ i j : Nat, (((i : Nat) : Int) == ((j : Nat) : Int)) = decide (i = j) := fun i j => by rw [Bool.eq_iff_iff]; simp; omega
      rw [← Int.natCast_add, ii]
      by_cases c1 : hf cs = hf b + dot ds cs
      · rw [decide_eq_true c1]
        refine ⟨_, rfl, iteF ?_⟩
        have G5 : IsG C H5 p dx gp dp sp gs ds ss m := ⟨e5 _ _ G.ob, e5 _ _ G.g, e5 _ _ G.d, e5 _ _ G.s, G.ne⟩
        refine ⟨_, rfl, p, C, dx, _, _, rfl, G5.ob, T.cl, T.s, gr_sums _ _ _ _, _, rfl, sp, bp, nV ss, nV b, rfl, SqL.of G5.s, SqL.of b5, fun D nD => lcM (ZM.walk_zipM (n := ss.length) (by rw [nV_len, nV_len, lb, Nat.min_self])) (fun i => .int ((lAt ss i + lAt b i : Nat) : Int)) (by omega) nD (fun H' e => ⟨SqL.of (e _ _ G5.s), SqL.of (e _ _ b5)⟩) ?_ ?_⟩
        · rintro i x H6 H7 N hi e ⟨T0, y, z, rfl, nT0, rfl, hy, hz⟩ hN
          obtain ⟨i1, rfl⟩ := nV_get hy
          obtain ⟨i2, rfl⟩ := nV_get hz
          refine ⟨T0, _, rfl, SqT.of upd_same, rfl, _, _, rfl, _, _, rfl, rfl, rfl, ?_⟩
          refine ⟨_, rfl, _, rfl, _, _, rfl, rfl, ?_⟩
          exact hN _ (same_new (o := .tup [.int ((lAt ss i : Nat) : Int), .int ((lAt b i : Nat) : Int)]) nT0)
        · intro H6 e6 hD
          rw [← addL_range lb] at hD
          refine gN ?_
          dsimp only
          have la : (Grp.addL ss b).length = ss.length := Grp.addL_len lb
          refine ⟨_, rfl, D, _, rfl, .inl hD, by omega, by omega, fun H7 e7 => ?_⟩
          have D7 := e7 _ _ hD
          have nDH : H D = none := old_no e5 nD
          have e8 := (e5.trans e6).trans e7
          have G7 : IsG C H7 p dx gp dp sp gs ds ss m := ⟨e8 _ _ G.ob, e8 _ _ G.g, e8 _ _ G.d, e8 _ _ G.s, G.ne⟩
          refine ⟨_, rfl, p, C, dx, _, _, rfl, G7.ob, T.cl, T.l, gr_least _ _ _ _, _, rfl, _, _, rfl, rfl, rfl, ?_⟩
          rw [dec_int, ← Int.natCast_add, ii]
          by_cases c2 : hf (Grp.addL ss b) = m + hf b
          · rw [decide_eq_true c2]
            refine ⟨_, rfl, iteF ?_⟩
            refine ⟨_, rfl, _, rfl, p, C, dx, _, rfl, G7.ob, T.cl, T.s, by show 4 < 1000; decide, ?_⟩
            rw [gr_setS]
            refine ⟨_, rfl, p, C, dx, _, _, rfl, upd_same, T.cl, T.l, gr_least _ _ _ _, _, rfl, _, _, rfl, rfl, dx, _, upd_same, by show 4 < 1000; decide, ?_⟩
            show Q _ _
            rw [gr_setL, ← Int.natCast_add]
            have ne9 : ∀ {a : Addr} {xs : List V} {o1 o2 : HO}, H7 a = some (.lst xs) → upd (upd H7 p o1) p o2 a = some (.lst xs) := fun z => by
              have n := ne_of z G7.ob fun y => nomatch y
              rw [upd_ne n, upd_ne n]
              exact z
            refine qT c1 c2 D _ ⟨upd_same, ne9 G7.g, ne9 G7.d, ne9 D7, G7.ne.1, ne_of_none G.g nDH, ne_of_none G.d nDH⟩ fun a o n z => ?_
            rw [upd_ne n, upd_ne n]
            exact e8 _ _ z
          · rw [decide_eq_false c2]
            exact ⟨_, rfl, iteT (qF (fun z => c2 z.2) _ e8)⟩
      · rw [decide_eq_false c1]
        exact ⟨_, rfl, iteT (qF (fun z => c1 z.1) _ e5)⟩
end
end K40
set_option Elab.async false
set_option maxRecDepth 100001
set_option maxHeartbeats 3999999
/-! {k: v} with a tuple as its key. -/
namespace L2
open PySem.Spec PySem PyProof.Rows
def tDispT1 (tk tv : TE) : TE := fun σ H Q => ∀ p, H p = none → tk σ (upd H p (.dT [])) fun x H1 => tv σ H1 fun y H2 => ∃ (b : Addr) (k : List Key), x = .ref b ∧ H2 p = some (.dT []) ∧ H2 b = some (.tup (k.map kV)) ∧ Q (.ref p) (upd H2 p (.dT [(k, y)]))
theorem pe_dispT1 {X : Cx} {pos : Pos} {k v : Expr} {tk tv : TE} (hu : X.A.units < cLine) (hk : PE X k tk) (hv : PE X v tv) : PE X (.Dict [some k] [v] pos) (tDispT1 tk tv) := by
  refine ⟨fun pins s σ H Q I q => ?_⟩
  have hn := I.hok.fresh (Nat.le_refl s.heap.objs.size)
  have I1 := I.laid (a := s.heap.objs.size) (o := .dT []) (h' := s.heap.push { cls := .type "dict", data := .dict #[] }) (t' := s.toks) (fun _ _ q => Heap.get?_push_of_some _ q) (Nat.le_refl _) (dt_empty s.heap I.big)
  rw [arm_eval_Dict, zip_pairTrees [some k] [v] X.env pos rfl rfl, dictDisplay_pairs _ (by simp [pairTrees]) (by simp [pairTrees])]
  refine wpAny_bind (wpAny_standAt (wpAny_bind (wpAny_subDictH (knd := tupleKind (mixKind X.prog X.w)) (show X.A.units < cLine from hu) (by simp [pairTrees]) ?_)))
  refine pairTrees_cons_walk (thn (hk.run pins _ σ _ _ I1 (q _ hn)) fun u s1 ⟨x, H1, I1, rx, q1⟩ => thn (hv.run pins s1 σ H1 _ I1 q1) fun w2 s2 ⟨y, H2, I2, ry, b, ks, ex, e, eb, q2⟩ => pairTrees_nil_walk ?_)
  subst ex
  cases (show u = Value.ref b from rx)
  obtain ⟨z, hd, xs, rel, dd⟩ := dt_of I2.hok e
  cases rel
  refine ⟨[(ks, b, w2)], ⟨rfl, rfl, key_of I2.hok eb, trivial⟩, dd, fun h' tk dd' hs => wpAny_pure ⟨.ref s.heap.objs.size, _, ?_, rfl, q2⟩⟩
  obtain ⟨qo, es, ep, hq, h2, h3, h4, _, h5⟩ := dd'
  have kt : KT H2 [(ks, y)] (storedAllH [] [(ks, b, w2)]) := KT.put (kvs := []) .nil ks eb ry
  refine d_write I2 (by rw [e]; exact True.intro) hs ⟨qo, hq⟩ ⟨by rw [sizeLine_eq]; simp, hd, _, kt.keeps fun c ys ec => ?_, qo, es, ep, hq, h2, h3, h4, h5⟩
  rw [upd_ne (ne_of ec e (fun z => nomatch z))]
  exact ec
end L2
set_option Elab.async false
set_option linter.all false
set_option maxRecDepth 100001
set_option maxHeartbeats 3999999
/-! sorted of tuples of ints, any number of them, of any length but nought. -/
namespace STI
open PySem.Spec PySem PyProof.Rows
section
variable {prog : Program} {w : World} {A : Around} {E : Value → Shared → Prop} {s : Shared}
theorem lexI {fin : Bool} : ∀ {us vs : List Value} {ns ms : List Int} (i : Nat), IntsAre us ns → IntsAre vs ms → fin = decide (ns.length < ms.length) →
    PySem.W.KatLex prog w A true fin (fun r s' => s' = s ∧ r = HT.lexLt ns ms) (us.zip vs) i s
  | _, _, _, _, i, .nil, .nil, e => PySem.W.kat_nil ⟨rfl, e⟩
  | _, _, _, _, i, .nil, .cons m u t, e => PySem.W.kat_nil ⟨rfl, e.trans (decide_eq_true (Nat.zero_lt_succ _))⟩
  | _, _, _, _, i, .cons n t r, .nil, e => PySem.W.kat_nil ⟨rfl, e.trans (decide_eq_false (Nat.not_lt_zero _))⟩
  | _, _, _, _, i, @IntsAre.cons n t us ns r, @IntsAre.cons m u vs ms q, e => by
    rw [List.zip_cons_cons]
    refine PySem.W.kat_cons (SeqAt.EqAt.int_int n t m u prog w _ _ ?_)
    refine PySem.W.kat_go (fun e1 => ?_) (fun e1 => ?_)
    · have ex : n = m := by simpa using e1
      have e3 : HT.lexLt (n :: ns) (m :: ms) = HT.lexLt ns ms := if_pos ex
      rw [e3]
      exact PySem.W.kat_yes (lexI (i + 1) r q (e.trans (decide_eq_decide.mpr ⟨Nat.lt_of_succ_lt_succ, Nat.succ_lt_succ⟩)))
    · have ex : ¬ n = m := by simpa using e1
      have e3 : HT.lexLt (n :: ns) (m :: ms) = decide (n < m) := if_neg ex
      exact PySem.W.kat_no (TS.oneLt_ints _ ⟨rfl, e3.symm⟩)
theorem ti_cmp {vs : List Value} {k : Value → List Int} (hp : ∀ v ∈ vs, TS.TupInts s.heap v (k v)) : SrtO.Cmp prog w A s (tuples' true) (fun p => p.1 ∈ vs) (SrtO.lt2 fun v u => HT.lexLt (k v) (k u)) := by
  intro p q hm hm'
  have h1 := hp _ hm
  have h2 := hp _ hm'
  show wpAny (model prog w) A (keyLt' (tuples' true) p.1 q.1) (fun r s' => s' = s ∧ r = HT.lexLt (k p.1) (k q.1)) (fun _ _ => False) s
  generalize k p.1 = ns at h1 ⊢
  generalize k q.1 = ms at h2 ⊢
  obtain ⟨a, xs, e, ⟨o, ho, hc, n, hd⟩, i1⟩ := h1
  obtain ⟨a', xs', e', ⟨o', ho', hc', n', hd'⟩, i2⟩ := h2
  rw [e, e']
  refine PySem.W.kat_lt ho hd ho' hd' ?_
  refine lexI 0 i1 i2 ?_
  rw [← i1.length, ← i2.length]
  simp
theorem firsts {h : Heap} {k : Value → List Int} : ∀ vs : List Value, (∀ v ∈ vs, TS.TupInts h v (k v) ∧ k v ≠ []) → ∃ fs, PySem.W.KatTups h vs fs ∧ fs.length = vs.length ∧ ∀ f, f ∈ fs → ∃ n t, f = Value.int n t
  | [], _ => ⟨[], PySem.W.KatTups.nil, rfl, fun f hf => by simp at hf⟩
  | v :: vs, x => by
    obtain ⟨fs, kk, hl, hi⟩ := firsts vs fun u hu => x u (List.mem_cons_of_mem _ hu)
    obtain ⟨⟨a, xs, rfl, ⟨o, ho, hc, n, hdt⟩, i⟩, hn⟩ := x v (List.mem_cons_self ..)
    obtain ⟨y, ys, e⟩ : ∃ y ys, xs.toList = y :: ys := by
      cases q : xs.toList with
      | nil =>
        rw [q] at i
        cases z : k (Value.ref a) with
        | nil => exact absurd z hn
        | cons b c => rw [z] at i; cases i
      | cons y ys => exact ⟨y, ys, rfl⟩
    obtain ⟨m, t, hy⟩ := i.all y (by rw [e]; exact List.mem_cons_self ..)
    refine ⟨y :: fs, PySem.W.KatTups.cons ho hc hdt ?_ kk, by simp [hl], ?_⟩
    · have z := congrArg (fun l : List Value => l[0]?) e
      simpa using z
    · intro f hf
      rcases List.mem_cons.mp hf with rfl | hf
      · exact ⟨m, t, hy⟩
      · exact hi f hf
theorem ti_sortable {a : Addr} {vs : List Value} {k : Value → List Int} (h0 : 0 < vs.length) (hp : ∀ v ∈ vs, TS.TupInts s.heap v (k v) ∧ k v ≠ []) (ha : ∀ o, s.heap.get? a = some o → o.cls ≠ .type "tuple") : SrtO.SortableO prog w A s a vs fun v u => HT.lexLt (k v) (k u) := by
  intro h' keep
  have hp' : ∀ v ∈ vs, TS.TupInts h' v (k v) ∧ k v ≠ [] := fun v hm => ⟨(hp v hm).1.keeps fun b o e c => keep b o (fun z => by subst z; exact ha o e c) e, (hp v hm).2⟩
  obtain ⟨fs, h1, h2, h3⟩ := firsts vs hp'
  refine ⟨tuples' true, fun Q E hq => ?_, ti_cmp fun v hv => (hp' v hv).1⟩
  refine PySem.W.kat_kind (T := .type "int") h1 (by omega) (fun f hm => ?_) (by rfl) ?_
  · obtain ⟨x, t, rfl⟩ := h3 f hm
    exact PySem.W.Looks.now
  · have e : (Value.type "int" != Value.type "tuple") = true := by first | decide +kernel | rfl | decide
    rw [e]
    exact hq
theorem sorted_ti {l : Addr} {vs : List Value} {k : Value → List Int} {Q : Value → Shared → Prop} (hl : s.heap.IsList l vs.toArray) (hz : vs.length ≤ sizeLine) (hp : ∀ v ∈ vs, TS.TupInts s.heap v (k v) ∧ k v ≠ [])
    (h : ∀ (h' : Heap) (d : Addr) (out : List Value), SrtO.Srtd (fun v u => HT.lexLt (k v) (k u)) out → SrtO.Stb (fun v u => HT.lexLt (k v) (k u)) out vs → (∀ b o, s.heap.get? b = some o → h'.get? b = some o) → s.heap.objs.size ≤ d → (∃ n, h'.get? d = some (seqObj "list" out.toArray n)) → Q (.ref d) { s with heap := h' }) :
    wpAny (model prog w) A (call (.builtin "sorted") [.ref l]) Q E s := by
  refine SrtO.sorted_ord (NtL.swo_lexL k) hl hz (fun h2 h₁ a ha kk => ?_) fun out hs hb => ?_
  · refine ti_sortable (s := { s with heap := h₁ }) (by omega) (fun v hm => ⟨(hp v hm).1.keeps fun b o e _ => (kk b o e).2, (hp v hm).2⟩) fun o e => ?_
    have e' : some o = some (seqObj "list" vs.toArray 0) := e.symm.trans ha
    cases e'
    intro c
    exact absurd (Value.type.inj c) (by decide)
  · exact h _ _ out hs hb (fun b o e => sortedAll_old e) (Nat.le_succ _) (sortedAll_at s.heap vs out.toArray)
end
end STI
namespace L2
open PySem.Spec PySem PyProof.Rows
/-- sorted(xs), xs a list of tuples of ints of any length but nought: a new list of the same tuples -/
def rSortedTI (K : PySem.W.Frag) : List V → Hp → VK → Prop := fun vs H Q => ∃ (a : Addr) (ts : List Addr) (k : Addr → List Int), vs = [V.ref a] ∧ SqL K H a (ts.map V.ref) ∧ (∀ t ∈ ts, H t = some (.tup ((k t).map V.int)) ∧ k t ≠ []) ∧
  ∀ (ts' : List Addr) p, ts'.Perm ts → H p = none → Q (.ref p) (upd H p (.lst (ts'.map V.ref)))
section
variable {X : Cx}
theorem tints_of : ∀ {ns : List Int} {us : List Value}, Vals (ns.map V.int) us → IntsAre us ns
  | [], us, r => by
    rw [List.map_nil] at r
    cases r
    exact .nil
  | n :: ns, us, r => by
    rw [List.map_cons] at r
    cases r with
    | cons h q =>
      obtain ⟨t, rfl⟩ := h
      exact .cons n t (tints_of q)
theorem cr_sortedTI : CallR X (.builtin "sorted") (rSortedTI X.K) := by
  intro pins s σ H vs us Q I r h
  obtain ⟨a, ts, k, rfl, hs, hx, q⟩ := h
  obtain ⟨its, rv, hl, hz⟩ := I.list hs
  obtain ⟨u, rfl, ru⟩ := vals1 r
  obtain rfl : u = Value.ref a := ru
  have ei := nts_of rv
  subst ei
  refine STI.sorted_ti (k := fun u => k (adO u)) hl.isList (by rw [List.length_map] at hz ⊢; exact hz) (fun v hv => ?_) fun h' d out h1 h2 kp hd hn => ?_
  · obtain ⟨t, ht, rfl⟩ := List.mem_map.mp hv
    obtain ⟨g1, g2⟩ := hx t ht
    obtain ⟨_, its2, r2, o, ho, hc, n, hd⟩ := I.hok _ _ g1
    exact ⟨⟨t, its2.toArray, rfl, ⟨o, ho, hc, n, hd⟩, by show IntsAre _ (k t); simpa using tints_of r2⟩, g2⟩
  · have h3 : ∀ u ∈ out, ∃ a, u = Value.ref a := fun u hu => by
      obtain ⟨t, _, e⟩ := List.mem_map.mp (h2.perm.mem_iff.mp hu)
      exact ⟨t, e.symm⟩
    have e4 := ref_map h3
    obtain ⟨n, hn⟩ := hn
    have hp : (out.map adO).Perm ts := by
      have := h2.perm.map adO
      rwa [ad_map] at this
    refine ⟨.ref d, upd H d (.lst ((out.map adO).map V.ref)), I.laid (t' := s.toks) kp hd ⟨?_, out, n, ?_, hn⟩, rfl, q _ d hp (I.hok.fresh hd)⟩
    · rw [List.length_map, hp.length_eq]
      rw [List.length_map] at hz
      exact hz
    · rw [e4]
      rw [ad_map]
      exact of_nts _
end
end L2
set_option Elab.async false
set_option linter.all false
set_option maxRecDepth 100001
set_option maxHeartbeats 3999999
namespace K40
open PySem L2
open Huff (hf dot)
/-- a slice of a tuple, whichever -/
theorem slA {K : PySem.W.Frag} {H : Hp} {p : Addr} {xs : List V} {lo hi : Option Int} {Q : VK} (hp : H p = some (.tup xs)) (q : ∀ t H', Same H H' → H' t = some (.tup (cutV xs lo hi)) → Q (.ref t) H') : rSlA K (.ref p) lo hi H Q := by
  refine ⟨p, xs, rfl, SqT.of hp, fun ⟨h1, h2⟩ => q p H (Same.refl _) ?_, fun _ t nt => q t _ (same_new nt) upd_same⟩
  rw [hp]
  congr 2
  unfold cutV
  rw [h1, h2, List.drop_zero, Nat.sub_zero, List.take_length]
theorem catA {K : PySem.W.Frag} {H : Hp} {a b : Addr} {xs ys : List V} {Q : VK} (ha : H a = some (.tup xs)) (hb : H b = some (.tup ys)) (hs : xs.length + ys.length ≤ sizeLine) (q : ∀ t H', Same H H' → H' t = some (.tup (xs ++ ys)) → Q (.ref t) H') : rCatA K (.ref a) (.ref b) H Q := by
  refine ⟨a, b, xs, ys, rfl, rfl, SqT.of ha, SqT.of hb, hs, ?_⟩
  refine ⟨fun e => ?_, fun _ e => ?_, fun _ _ p np => q p _ (same_new np) upd_same⟩
  · subst e
    exact q b H (Same.refl _) hb
  · subst e
    exact q a H (Same.refl _) (by rw [List.append_nil]; exact ha)
/-- t[:i] + (y,) + t[i:] -/
theorem tup_in {K : PySem.W.Frag} {σ : St} {H : Hp} {i j k : Nat} {p : Addr} {xs : List V} {y : V} {r : Nat} {Q : VK} (hi : σ[i]? = some (some (.ref p))) (hj : σ[j]? = some (some (.int ((r : Nat) : Int)))) (hk : σ[k]? = some (some y)) (hp : H p = some (.tup xs)) (hr : r ≤ xs.length) (hs : xs.length ≤ 9000)
    (q : ∀ D H', Same H H' → H' D = some (.tup (xs.take r ++ [y] ++ xs.drop r)) → Q (.ref D) H') :
    tOp (rCatA K) (tOp (rCatA K) (tSl (rSlA K) (tVar i) tNoPart (tPart (tVar j))) (tTup (tCons (tVar k) tNil))) (tSl (rSlA K) (tVar i) (tPart (tVar j)) tNoPart) σ H Q := by
  refine ⟨_, hi, ?_⟩
  simp only [tNoPart]
  refine ⟨_, hj, _, rfl, slA hp fun a1 H1 e1 h1 => ?_⟩
  rw [cut_to hr] at h1
  refine ⟨_, hk, by show 1 ≤ sizeLine; decide, fun a2 n2 => ?_⟩
  have e2 := same_new (o := .tup [y]) n2
  have h2 : upd H1 a2 (.tup [y]) a2 = some (.tup [y]) := upd_same
  have h12 := e2 _ _ h1
  have hp2 := e2 _ _ (e1 _ _ hp)
  generalize upd H1 a2 (.tup [y]) = H2 at e2 h2 h12 hp2 ⊢
  refine catA h12 h2 (by rw [List.length_take]; exact Nat.le_of_lt (small10 (by show _ + 1 ≤ _; omega))) fun a3 H3 e3 h3 => ?_
  refine ⟨_, hi, _, hj, _, rfl, ?_⟩
  simp only [tNoPart]
  refine slA (e3 _ _ hp2) fun a4 H4 e4 h4 => ?_
  rw [cut_from hr] at h4
  refine catA (e4 _ _ h3) h4 (by rw [List.length_append, List.length_take, List.length_drop]; exact Nat.le_of_lt (small10 (by show _ + 1 + _ ≤ _; omega))) fun a5 H5 e5 h5 => ?_
  exact q a5 H5 (e1.trans (e2.trans (e3.trans (e4.trans e5)))) h5
/-- t[:i] + t[i + 1:] -/
theorem tup_er {K : PySem.W.Frag} {σ : St} {H : Hp} {i j : Nat} {p : Addr} {xs : List V} {r : Nat} {Q : VK} (hi : σ[i]? = some (some (.ref p))) (hj : σ[j]? = some (some (.int ((r : Nat) : Int)))) (hp : H p = some (.tup xs)) (hr : r < xs.length) (hs : xs.length ≤ 9000)
    (q : ∀ D H', Same H H' → H' D = some (.tup (xs.eraseIdx r)) → Q (.ref D) H') :
    tOp (rCatA K) (tSl (rSlA K) (tVar i) tNoPart (tPart (tVar j))) (tSl (rSlA K) (tVar i) (tPart (tOp (rI0 fun i j => .int (i + j)) (tVar j) (tC (.int 1)))) tNoPart) σ H Q := by
  refine ⟨_, hi, ?_⟩
  simp only [tNoPart]
  refine ⟨_, hj, _, rfl, slA hp fun a1 H1 e1 h1 => ?_⟩
  rw [cut_to (by omega)] at h1
  refine ⟨_, hi, _, hj, _, _, rfl, rfl, _, rfl, ?_⟩
  simp only [tNoPart]
  refine slA (e1 _ _ hp) fun a4 H4 e4 h4 => ?_
  rw [show ((r : Nat) : Int) + 1 = ((r + 1 : Nat) : Int) from rfl, cut_from (by omega)] at h4
  refine catA (e4 _ _ h1) h4 (by rw [List.length_take, List.length_drop]; exact Nat.le_of_lt (small10 (by omega))) fun a5 H5 e5 h5 => ?_
  rw [← List.eraseIdx_eq_take_drop_succ] at h5
  exact q a5 H5 (e1.trans (e4.trans e5)) h5
open AllL (Fu gen ins addL addL_mem addL_nd)
def KL (ls : List Nat) : List Key := ls.map fun n => (.inl ((n : Nat) : Int))
theorem KL_V (ls : List Nat) : (KL ls).map kV = nV ls := by
  unfold KL nV
  rw [List.map_map]
  rfl
theorem KL_inj {a b : List Nat} (h : KL a = KL b) : a = b := by
  have := congrArg (fun l : List Key => l.map fun k => match k with | .inl i => i.toNat | .inr _ => 0) h
  unfold KL at this
  rw [List.map_map, List.map_map] at this
  have e : ∀ l : List Nat, l.map ((fun k : Key => match k with | .inl i => i.toNat | .inr _ => 0) ∘ fun n => (.inl ((n : Nat) : Int))) = l := fun l => by
    conv => rhs; rw [← List.map_id l]
    exact List.map_congr_left fun n _ => Int.toNat_natCast n
  rw [e, e] at this
  exact this
/-- a dict of rows -/
def FD (xs : List (List Nat)) : List (List Key × V) := xs.map fun l => (KL l, .bl true)
theorem FD_put (xs : List (List Nat)) (l : List Nat) : putK (FD xs) (KL l) (.bl true) = FD (addL xs l) := by
  have an : ((FD xs).any fun kv => decide (kv.1 = KL l)) = decide (l ∈ xs) := by
    rw [Bool.eq_iff_iff, List.any_eq_true, decide_eq_true_iff]
    constructor
    · rintro ⟨kv, hk, e⟩
      obtain ⟨x, hx, rfl⟩ := List.mem_map.mp hk
      have := KL_inj (of_decide_eq_true e)
      exact this ▸ hx
    · exact fun h => ⟨(KL l, .bl true), List.mem_map.mpr ⟨l, h, rfl⟩, decide_eq_true rfl⟩
  unfold putK addL
  rw [an]
  by_cases c : l ∈ xs
  · rw [if_pos (decide_eq_true c), if_pos c]
    unfold FD
    rw [List.map_map]
    refine List.map_congr_left fun x _ => ?_
    show (if KL x = KL l then (KL x, V.bl true) else (KL x, V.bl true)) = _
    rw [ite_self]
  · rw [if_neg (by rw [decide_eq_false c]; decide), if_neg c]
    unfold FD
    rw [List.map_append]
    rfl
theorem nV_ins (xs : List Nat) (i y : Nat) : (nV xs).take i ++ [V.int ((y : Nat) : Int)] ++ (nV xs).drop i = nV (ins xs i y) := by
  unfold AllL.ins
  simp [nV]
/-- what has been made so far -/
structure Gr (H5 H' : Hp) (Dl : Addr) (s : Nat) (ys : List (List Nat)) : Prop where
  b : ButI Dl H5 H'
  d : H' Dl = some (.dT (FD ys))
  nd : ys.Nodup
  snd : ∀ y ∈ ys, Fu s y
theorem Gr.same {H5 H' H2 : Hp} {Dl : Addr} {s : Nat} {ys : List (List Nat)} (g : Gr H5 H' Dl s ys) (e : Same H' H2) : Gr H5 H2 Dl s ys := ⟨fun b o n z => e _ _ (g.b _ _ n z), e _ _ g.d, g.nd, g.snd⟩
def Sk (s : Nat) (xs : List (List Nat)) (k : Nat) (y : List Nat) : Prop := ∃ j a one other, j < k ∧ a < s ∧ one < s ∧ one < other ∧ other ≤ s ∧ y = gen (xs.getD j []) a one other
def Sa (s : Nat) (ls : List Nat) (k : Nat) (y : List Nat) : Prop := ∃ a one other, a < k ∧ one < s ∧ one < other ∧ other ≤ s ∧ y = gen ls a one other
def So (s : Nat) (ls : List Nat) (a k : Nat) (y : List Nat) : Prop := ∃ one other, one < k ∧ one < other ∧ other ≤ s ∧ y = gen ls a one other
def St_ (ls : List Nat) (a one k : Nat) (y : List Nat) : Prop := ∃ other, one < other ∧ other ≤ one + k ∧ y = gen ls a one other
theorem Sk.next {s : Nat} {xs : List (List Nat)} {k : Nat} {y : List Nat} (h : Sk s xs (k + 1) y) : Sk s xs k y ∨ Sa s (xs.getD k []) s y := by
  obtain ⟨j, a, one, other, h1, h2, h3, h4, h5, e⟩ := h
  by_cases c : j = k
  · subst c
    exact .inr ⟨a, one, other, h2, h3, h4, h5, e⟩
  · exact .inl ⟨j, a, one, other, by omega, h2, h3, h4, h5, e⟩
theorem Sa.next {s : Nat} {ls : List Nat} {k : Nat} {y : List Nat} (h : Sa s ls (k + 1) y) : Sa s ls k y ∨ So s ls k s y := by
  obtain ⟨a, one, other, h2, h3, h4, h5, e⟩ := h
  by_cases c : a = k
  · subst c
    exact .inr ⟨one, other, h3, h4, h5, e⟩
  · exact .inl ⟨a, one, other, by omega, h3, h4, h5, e⟩
theorem So.next {s : Nat} {ls : List Nat} {a k : Nat} {y : List Nat} (h : So s ls a (k + 1) y) : So s ls a k y ∨ St_ ls a k (s - k) y := by
  obtain ⟨one, other, h3, h4, h5, e⟩ := h
  by_cases c : one = k
  · subst c
    exact .inr ⟨other, h4, by omega, e⟩
  · exact .inl ⟨one, other, by omega, h4, h5, e⟩
theorem St_.next {ls : List Nat} {a one k : Nat} {y : List Nat} (h : St_ ls a one (k + 1) y) : St_ ls a one k y ∨ y = gen ls a one (one + 1 + k) := by
  obtain ⟨other, h4, h5, e⟩ := h
  by_cases c : other = one + 1 + k
  · subst c
    exact .inr e
  · exact .inl ⟨other, h4, by omega, e⟩
abbrev sAL : Stmt := topS 60
abbrev NAl : List Str := ["_law_many", "_law_found", "_law_size", "_law_longer", "_law_lengths", "_law_at", "_law_rest", "_law_length", "_law_one", "_law_half", "_law_other"]
section
variable {P : Program} {w : World} {K : PySem.W.Frag} {mg : Str → Option Value} {base : Heap}
/-- at bs: these rows, as tuples -/
def Rws (H : Hp) (bs : List Addr) (rows : List (List Nat)) : Prop := Paired (fun b ls => H b = some (.tup (nV ls))) bs rows
/-- the row at t -/
def rowOf (H : Hp) (t : Addr) : List Nat := match H t with
  | some (.tup us) => us.map fun v => match v with | .int i => i.toNat | _ => 0
  | _ => []
theorem rowOf_at {H : Hp} {t : Addr} {ls : List Nat} (h : H t = some (.tup (nV ls))) : rowOf H t = ls := by
  unfold rowOf
  rw [h]
  unfold nV
  show (ls.map _).map _ = ls
  rw [List.map_map]
  conv => rhs; rw [← List.map_id ls]
  exact List.map_congr_left fun n _ => Int.toNat_natCast n
theorem keys_rows {H : Hp} : ∀ {xs : List (List Nat)} {bs : List Addr}, IsKeys H (FD xs) bs → bs.map (rowOf H) = xs ∧ ∀ t ∈ bs, ∃ ls ∈ xs, H t = some (.tup (nV ls))
  | [], _, h => by
    have h : Paired _ [] _ := h
    cases h
    exact ⟨rfl, fun t ht => nomatch ht⟩
  | x :: xs, _, h => by
    have h : Paired (fun p b => H b = some (.tup (p.1.map kV))) ((KL x, V.bl true) :: FD xs) _ := h
    cases h with
    | @cons _ b _ bs h1 h2 =>
      obtain ⟨i1, i2⟩ := keys_rows (xs := xs) h2
      have h1 : H b = some (.tup (nV x)) := by rw [← KL_V]; exact h1
      refine ⟨by rw [List.map_cons, rowOf_at h1, i1], fun t ht => ?_⟩
      rcases List.mem_cons.mp ht with rfl | ht
      · exact ⟨x, List.mem_cons_self, h1⟩
      · obtain ⟨ls, hl, e⟩ := i2 t ht
        exact ⟨ls, List.mem_cons_of_mem _ hl, e⟩
theorem rws_of {H : Hp} {g : Addr → List Nat} : ∀ {ts : List Addr}, (∀ t ∈ ts, H t = some (.tup (nV (g t)))) → Rws H ts (ts.map g)
  | [], _ => .nil
  | t :: ts, h => .cons (h t List.mem_cons_self) (rws_of fun u hu => h u (List.mem_cons_of_mem _ hu))
def spAL : Sp := fun vs H Q _ => ∃ (m : Nat), vs = [.int ((m : Nat) : Int)] ∧ 2 ≤ m ∧ m ≤ 5 ∧
  ∀ D bs rows H', Same H H' → H D = none → H' D = some (.lst (bs.map V.ref)) → Rws H' bs rows → rows.Nodup → (∀ ls ∈ rows, Fu m ls) → (∀ ls, Fu m ls → ls ∈ rows) → Q (.ref D) H'
theorem scAL : FnScope NAl ["_law_many"] (defScope sAL) := ⟨rfl, rfl, rfl, by decide +kernel, rfl, by decide +kernel, by decide +kernel⟩
theorem ok_al {f : Addr} {fd : FuncData} (F : Fun K "_law_all_lengths" "_law_all_lengths" sAL f fd) (B : Bi mg) (ms : mg "sorted" = none) : FnOk P w K mg base CX0 2 f fd ["_law_many"] spAL := by
  refine F.ok scAL (fun vs H Q E h => ?_) (fun cdv A outer s H vs Q E hr h => ?_)
  · obtain ⟨m, rfl, _⟩ := h
    rfl
  · obtain ⟨m, rfl, m2, m5, q⟩ := h
    have hu := hu64 hr
    refine ⟨_, pss_cons (ps_set (i := 1) scAL.nd rfl (Or.inl rfl) (pe_dispT1 (Nat.lt_of_le_of_lt (Nat.le_add_right _ _) hu) (pe_tup (pa_cons pe_int (pa_cons pe_int pa_nil))) pe_bl))
      (pss_cons (ps_for PassesOwn.never rfl (pi_range2 rfl B.range (pa_cons pe_int (pa_cons (pe_op op_add (pv 0) pe_int) pa_nil))) (pg_name (i := 2) scAL.nd rfl (Or.inl rfl))
        (pss_cons (ps_set (i := 3) scAL.nd rfl (Or.inl rfl) pe_dnewT)
        (pss_cons (ps_lock (ps_for PassesOwn.never rfl (pi_keys (pv 1)) (pg_name (i := 4) scAL.nd rfl (Or.inl rfl))
          (pss_one (ps_for PassesOwn.never rfl (pi_range1 rfl B.range (pa_cons (pe_len B.len (pa_cons (pv 4) pa_nil)) pa_nil)) (pg_name (i := 5) scAL.nd rfl (Or.inl rfl))
            (pss_cons (ps_set (i := 6) scAL.nd rfl (Or.inl rfl) (pe_op op_catA (pe_slice sl_tupA (pv 4) po_none (po_some (pv 5))) (pe_slice sl_tupA (pv 4) (po_some (pe_op op_add (pv 5) pe_int)) po_none)))
            (pss_cons (ps_set (i := 7) scAL.nd rfl (Or.inl rfl) (pe_op op_add (pe_ix ix_tup (pv 4) (pv 5) (fun _ _ => rfl)) pe_int))
            (pss_one (ps_for PassesOwn.never rfl (pi_range1 rfl B.range (pa_cons (pe_op op_add (pe_len B.len (pa_cons (pv 6) pa_nil)) pe_int) pa_nil)) (pg_name (i := 8) scAL.nd rfl (Or.inl rfl))
              (pss_cons (ps_set (i := 9) scAL.nd rfl (Or.inl rfl) (pe_op op_catA (pe_op op_catA (pe_slice sl_tupA (pv 6) po_none (po_some (pv 8))) (pe_tup (pa_cons (pv 7) pa_nil))) (pe_slice sl_tupA (pv 6) (po_some (pv 8)) po_none)))
              (pss_one (ps_for PassesOwn.never rfl (pi_range2 rfl B.range (pa_cons (pe_op op_add (pv 8) pe_int) (pa_cons (pe_op op_add (pe_len B.len (pa_cons (pv 9) pa_nil)) pe_int) pa_nil))) (pg_name (i := 10) scAL.nd rfl (Or.inl rfl))
                (pss_one (ps_dput (Nat.lt_of_le_of_lt (Nat.add_le_add_left (show 1 ≤ 64 by decide) _) hu) (pv 3) (pe_op op_catA (pe_op op_catA (pe_slice sl_tupA (pv 9) po_none (po_some (pv 10))) (pe_tup (pa_cons (pv 7) pa_nil))) (pe_slice sl_tupA (pv 9) (po_some (pv 10)) po_none)) pe_bl (by rfl))))))))))))))
        (pss_one (ps_set (i := 1) scAL.nd rfl (Or.inl rfl) (pv 3))))))
      (pss_one (ps_ret (pe_callB cr_sortedTI rfl ms (by decide +kernel) (pa_cons (pe_callTy (call_list_dT rfl) rfl B.list (by decide +kernel) (pa_cons (pv 1) pa_nil)) pa_nil))))), ?_⟩
    refine fun df ndf => ⟨by show 2 ≤ sizeLine; decide, fun kt nkt => ⟨kt, KL [1, 1], rfl, ?_, ?_, ?_⟩⟩
    · exact (upd_ne (ne_of_none (show upd H df (.dT []) df = some (.dT []) from upd_same) nkt)).trans upd_same
    · rw [KL_V]
      exact upd_same
    have e1 : Same H (upd (upd H df (.dT [])) kt (.tup [.int 1, .int 1])) := (same_new ndf).trans (same_new nkt)
    have e2 : Same H (upd (upd (upd H df (.dT [])) kt (.tup [.int 1, .int 1])) df (.dT (FD [[1, 1]]))) := fun b o z => (upd_ne (ne_of_none z ndf)).trans (e1 _ _ z)
    have hd2 : upd (upd (upd H df (.dT [])) kt (.tup [.int 1, .int 1])) df (.dT (FD [[1, 1]])) df = some (.dT (FD [[1, 1]])) := upd_same
    show gName 1 (.ref df) _ (upd (upd (upd H df (.dT [])) kt (.tup [.int 1, .int 1])) df (.dT (FD [[1, 1]]))) _
    generalize upd (upd (upd H df (.dT [])) kt (.tup [.int 1, .int 1])) df (.dT (FD [[1, 1]])) = H2 at e2 hd2 ⊢
    clear e1 nkt
    refine gN ?_
    dsimp only
    have em : (((m : Nat) : Int) + 1 - 3).toNat = m - 2 := by omega
    refine ⟨_, rfl, _, _, rfl, rfl, _, _, rfl, ⟨by omega, by omega, by omega, by omega⟩, for_range (D := { nx := _, rt := Q, bk := fun _ _ => False, ct := fun _ _ => False }) (n := (((m : Nat) : Int) + 1 - 3).toNat) (fun i σ H' => ∃ (df : Addr) (xs : List (List Nat)) (o2 o3 o4 o5 o6 o7 o8 o9 o10 : Option V), σ = [some (.int ((m : Nat) : Int)), some (.ref df), o2, o3, o4, o5, o6, o7, o8, o9, o10] ∧ H df = none ∧ Same H H' ∧ H' df = some (.dT (FD xs)) ∧ xs.Nodup ∧ (∀ ls ∈ xs, Fu (i + 2) ls) ∧ ∀ ls, Fu (i + 2) ls → ls ∈ xs)
      ⟨df, [[1, 1]], _, _, _, _, _, _, _, _, _, rfl, ndf, e2, hd2, by simp, fun ls hl => by rw [List.mem_singleton.mp hl]; exact ⟨rfl, by simp, by simp, rfl⟩, fun ls f => ?_⟩ ?_ ?_⟩
    · have ll := f.len
      match ls, ll with
      | [a, b], _ =>
        have a1 := f.lo a List.mem_cons_self
        have a2 := f.hi a List.mem_cons_self
        have b1 := f.lo b (List.mem_cons_of_mem _ List.mem_cons_self)
        have b2 := f.hi b (List.mem_cons_of_mem _ List.mem_cons_self)
        rw [show a = 1 by omega, show b = 1 by omega]
        exact List.mem_cons_self
    · clear e2 hd2 ndf
      rintro i σ H3 hi ⟨df, xs, o2, o3, o4, o5, o6, o7, o8, o9, o10, rfl, ndf, e3, hd3, nd, snd, all⟩
      rw [em] at hi
      have few := AllL.fu_few (s := i + 2) (by omega) nd snd
      refine gN ?_
      intro Dl nDl
      have e4 := same_new (o := .dT []) nDl
      have hl4 : upd H3 Dl (.dT []) Dl = some (.dT (FD [])) := upd_same
      have nfl : df ≠ Dl := ne_of_none hd3 nDl
      generalize upd H3 Dl (.dT []) = H4 at e4 hl4 ⊢
      have hd4 := e4 _ _ hd3
      refine gN ?_
      refine ⟨df, _, hd4, True.intro, fun od => ?_⟩
      have hf5 : upd H4 df (.frz od (.dT (FD xs))) df = some (.frz od (.dT (FD xs))) := upd_same
      have hl5 : upd H4 df (.frz od (.dT (FD xs))) Dl = some (.dT (FD [])) := (upd_ne (Ne.symm nfl)).trans hl4
      have b5 : ButI df H4 (upd H4 df (.frz od (.dT (FD xs)))) := fun b o n z => (upd_ne n).trans z
      generalize upd H4 df (.frz od (.dT (FD xs))) = H5 at hf5 hl5 b5 ⊢
      refine ⟨_, rfl, df, od, rfl, .inr ⟨_, hf5, ?_⟩⟩
      refine for_it walk_keysT (fun k σ H' => ∃ (o4 o5 o6 o7 o8 o9 o10 : Option V) (ys : List (List Nat)), σ = [some (.int ((m : Nat) : Int)), some (.ref df), some (.int (3 + ((i : Nat) : Int))), some (.ref Dl), o4, o5, o6, o7, o8, o9, o10] ∧ Gr H5 H' Dl (i + 3) ys ∧ ∀ y, Sk (i + 2) xs k y → y ∈ ys) ⟨_, _, _, _, _, _, _, [], rfl, ⟨fun _ _ _ z => z, hl5, List.nodup_nil, fun y hy => nomatch hy⟩, fun y ⟨j, _, _, _, hj, _⟩ => nomatch hj⟩ (fun k σ H' _ ⟨_, _, _, _, _, _, _, _, _, g, _⟩ => g.b _ _ nfl hf5) ?_ ?_
      · rintro k x σ H6 H7 hk ⟨o4, o5, o6, o7, o8, o9, o10, ys, rfl, g6, c6⟩ ⟨rfl, kk, v, q0, hkv, rfl, hq0⟩
        have hk : k < xs.length := by rw [FD, List.length_map] at hk; exact hk
        have hkv : (FD xs)[k]? = some (KL (xs.getD k []), .bl true) := by
          unfold FD
          rw [List.getElem?_map, List.getElem?_eq_getElem hk, List.getD_eq_getElem?_getD, List.getElem?_eq_getElem hk]
          rfl
        have ek : kk = KL (xs.getD k []) := (Prod.mk.inj (Option.some.inj ((by assumption : (FD xs)[k]? = some (kk, v)).symm.trans hkv))).1
        subst ek
        rw [KL_V] at hq0
        have fls := snd (xs.getD k []) (by rw [List.getD_eq_getElem?_getD, List.getElem?_eq_getElem hk]; exact List.getElem_mem hk)
        have nq0 : q0 ≠ Dl := fun z => by rw [z, g6.d] at hq0; cases hq0
        have fin : ∀ y, Sk (i + 2) xs (k + 1) y → Sk (i + 2) xs k y ∨ Sa (i + 2) (xs.getD k []) (i + 2) y := fun y h => h.next
        generalize xs.getD k [] = ls at hq0 fls fin
        have lls := fls.len
        refine gN ?_
        refine ⟨_, rfl, q0, _, rfl, .inr (SqT.of hq0), ?_⟩
        rw [nV_len, lls]
        refine ⟨_, rfl, by omega, by omega, for_range (fun a σ H' => ∃ (o5 o6 o7 o8 o9 o10 : Option V) (ys : List (List Nat)), σ = [some (.int ((m : Nat) : Int)), some (.ref df), some (.int (3 + ((i : Nat) : Int))), some (.ref Dl), some (.ref q0), o5, o6, o7, o8, o9, o10] ∧ Gr H5 H' Dl (i + 3) ys ∧ H' q0 = some (.tup (nV ls)) ∧ (∀ y, Sk (i + 2) xs k y → y ∈ ys) ∧ ∀ y, Sa (i + 2) ls a y → y ∈ ys) ⟨_, _, _, _, _, _, ys, rfl, g6, hq0, c6, fun y ⟨_, _, _, h, _⟩ => nomatch h⟩ ?_ ?_⟩
        · rintro a σ H8 ha ⟨o5, o6, o7, o8, o9, o10, ys, rfl, g8, hq8, ck, ca⟩
          rw [Int.toNat_natCast] at ha
          rw [Int.zero_add]
          have hal : a < ls.length := by omega
          refine gN ?_
          refine tup_er rfl rfl hq8 (by rw [nV_len]; omega) (by rw [nV_len]; omega) fun rp H9 e9 hr9 => ?_
          rw [show (nV ls).eraseIdx a = nV (ls.eraseIdx a) by unfold nV; rw [List.eraseIdx_eq_take_drop_succ, List.eraseIdx_eq_take_drop_succ, List.map_append, List.map_take, List.map_drop]] at hr9
          have lr : (ls.eraseIdx a).length = i + 1 := by rw [List.length_eraseIdx_of_lt hal, lls]; omega
          refine gN ?_
          have g9 := g8.same e9
          have hq9 := e9 _ _ hq8
          refine ⟨_, rfl, _, rfl, q0, _, _, _, rfl, rfl, SqT.of hq9, atI_nat (nV_at hal), _, _, rfl, rfl, ?_⟩
          refine gN ?_
          refine ⟨_, rfl, rp, _, rfl, .inr (SqT.of hr9), ?_⟩
          rw [nV_len, lr]
          refine ⟨_, _, rfl, rfl, _, rfl, by omega, by omega, ?_⟩
          have el : lAt ls a = ls.getD a 0 := rfl
          have gf : ∀ one other, Fu (i + 3) (gen ls a one other) := fun one other => AllL.gen_fu fls (by omega) hal one other
          have en : (((i + 1 : Nat) : Int) + 1).toNat = i + 2 := by omega
          have fin2 : ∀ y, Sa (i + 2) ls (a + 1) y → Sa (i + 2) ls a y ∨ So (i + 2) ls a (i + 2) y := fun y h => h.next
          refine for_range (lo := 0) (n := (((i + 1 : Nat) : Int) + 1).toNat) (fun o σ H' => ∃ (o8 o9 o10 : Option V) (ys : List (List Nat)), σ = [some (.int ((m : Nat) : Int)), some (.ref df), some (.int (3 + ((i : Nat) : Int))), some (.ref Dl), some (.ref q0), some (.int ((a : Nat) : Int)), some (.ref rp), some (.int ((lAt ls a + 1 : Nat) : Int)), o8, o9, o10] ∧ Gr H5 H' Dl (i + 3) ys ∧ H' q0 = some (.tup (nV ls)) ∧ H' rp = some (.tup (nV (ls.eraseIdx a))) ∧ (∀ y, Sk (i + 2) xs k y → y ∈ ys) ∧ (∀ y, Sa (i + 2) ls a y → y ∈ ys) ∧ ∀ y, So (i + 2) ls a o y → y ∈ ys) ⟨_, _, _, ys, rfl, g9, hq9, hr9, ck, ca, fun y ⟨_, _, h, _⟩ => nomatch h⟩ ?_ ?_
          · clear g9 hq9 hr9 ck ca
            rintro o σ H10 ho ⟨o8, o9, o10, ys, rfl, g10, hq10, hr10, ck, ca, co⟩
            rw [en] at ho
            rw [Int.zero_add]
            refine gN ?_
            refine tup_in rfl rfl rfl hr10 (by rw [nV_len]; omega) (by rw [nV_len]; omega) fun hp H11 e11 hh11 => ?_
            rw [nV_ins] at hh11
            have lh : (ins (ls.eraseIdx a) o (lAt ls a + 1)).length = i + 2 := by rw [AllL.ins_len, lr]
            have g11 := g10.same e11
            have hq11 := e11 _ _ hq10
            have hr11 := e11 _ _ hr10
            refine gN ?_
            refine ⟨_, rfl, _, _, rfl, rfl, _, rfl, hp, _, rfl, .inr (SqT.of hh11), ?_⟩
            rw [nV_len, lh]
            refine ⟨_, _, rfl, rfl, _, _, rfl, ⟨by omega, by omega, by omega, by omega⟩, ?_⟩
            have en2 : (((i + 2 : Nat) : Int) + 1 - (((o : Nat) : Int) + 1)).toNat = i + 2 - o := by omega
            have fin3 : ∀ y, So (i + 2) ls a (o + 1) y → So (i + 2) ls a o y ∨ St_ ls a o (i + 2 - o) y := fun y h => h.next
            refine for_range (lo := ((o : Nat) : Int) + 1) (n := (((i + 2 : Nat) : Int) + 1 - (((o : Nat) : Int) + 1)).toNat) (fun t σ H' => ∃ (o10 : Option V) (ys : List (List Nat)), σ = [some (.int ((m : Nat) : Int)), some (.ref df), some (.int (3 + ((i : Nat) : Int))), some (.ref Dl), some (.ref q0), some (.int ((a : Nat) : Int)), some (.ref rp), some (.int ((lAt ls a + 1 : Nat) : Int)), some (.int ((o : Nat) : Int)), some (.ref hp), o10] ∧ Gr H5 H' Dl (i + 3) ys ∧ H' q0 = some (.tup (nV ls)) ∧ H' rp = some (.tup (nV (ls.eraseIdx a))) ∧ H' hp = some (.tup (nV (ins (ls.eraseIdx a) o (lAt ls a + 1)))) ∧ (∀ y, Sk (i + 2) xs k y → y ∈ ys) ∧ (∀ y, Sa (i + 2) ls a y → y ∈ ys) ∧ (∀ y, So (i + 2) ls a o y → y ∈ ys) ∧ ∀ y, St_ ls a o t y → y ∈ ys) ⟨_, ys, rfl, g11, hq11, hr11, hh11, ck, ca, co, fun y ⟨_, h1, h2, _⟩ => by omega⟩ ?_ ?_
            · clear g11 hq11 hr11 hh11 ck ca co
              rintro t σ H12 ht ⟨o10, ys, rfl, g12, hq12, hr12, hh12, ck, ca, co, ct⟩
              rw [en2] at ht
              rw [show ((o : Nat) : Int) + 1 + ((t : Nat) : Int) = ((o + 1 + t : Nat) : Int) by omega]
              refine gN ?_
              refine ⟨_, rfl, tup_in rfl rfl rfl hh12 (by rw [nV_len]; omega) (by rw [nV_len]; omega) fun yp H13 e13 hy13 => ?_⟩
              have hy13 : H13 yp = some (.tup (nV (gen ls a o (o + 1 + t)))) := by
                rw [hy13, nV_ins]
                rfl
              have g13 := g12.same e13
              have nyp : ∀ {b : Addr} {xs : List V}, H13 b = some (.tup xs) → b ≠ Dl := fun z e => by rw [e, g13.d] at z; cases z
              refine ⟨Dl, _, rfl, DPut.t (k := KL (gen ls a o (o + 1 + t))) g13.d (by rw [KL_V]; exact hy13) (by
                rw [FD, List.length_map]
                have := AllL.fu_few (s := i + 3) (by omega) g13.nd g13.snd
                exact small10 (by omega)), ?_⟩
              rw [FD_put]
              have keep : ∀ {b : Addr} {xs : List V}, H13 b = some (.tup xs) → upd H13 Dl (.dT (FD (addL ys (gen ls a o (o + 1 + t))))) b = some (.tup xs) := fun z => (upd_ne (nyp z)).trans z
              refine ⟨_, addL ys (gen ls a o (o + 1 + t)), rfl, ⟨fun b o' n z => (upd_ne n).trans (g13.b b o' n z), upd_same, addL_nd g13.nd, fun y hy => ?_⟩, keep (e13 _ _ hq12), keep (e13 _ _ hr12), keep (e13 _ _ hh12), fun y h => addL_mem.mpr (.inl (ck y h)), fun y h => addL_mem.mpr (.inl (ca y h)), fun y h => addL_mem.mpr (.inl (co y h)), fun y h => addL_mem.mpr (h.next.imp (ct y) id)⟩
              rcases addL_mem.mp hy with h | rfl
              · exact g13.snd y h
              · exact gf _ _
            · rintro σ H12 ⟨o10, ys, rfl, g12, hq12, hr12, hh12, ck, ca, co, ct⟩
              rw [en2] at ct
              exact ⟨_, _, _, ys, rfl, g12, hq12, hr12, ck, ca, fun y h => (fin3 y h).elim (co y) (ct y)⟩
          · rintro σ H10 ⟨o8, o9, o10, ys, rfl, g10, hq10, hr10, ck, ca, co⟩
            rw [en] at co
            exact ⟨_, _, _, _, _, _, ys, rfl, g10, hq10, ck, fun y h => (fin2 y h).elim (ca y) (co y)⟩
        · rintro σ H8 ⟨o5, o6, o7, o8, o9, o10, ys, rfl, g8, hq8, ck, ca⟩
          rw [Int.toNat_natCast] at ca
          exact ⟨_, _, _, _, _, _, _, ys, rfl, g8, fun y h => (fin y h).elim (ck y) (ca y)⟩
      · rintro σ H6 ⟨o4, o5, o6, o7, o8, o9, o10, ys, rfl, g6, c6⟩
        rw [FD, List.length_map] at c6
        have nDl0 : H Dl = none := Same.none' e3 nDl
        refine ⟨g6.b _ _ nfl hf5, ?_⟩
        have eF : Same H (upd H6 df (.dT (FD xs))) := fun b o z => (upd_ne (ne_of_none z ndf)).trans (g6.b _ _ (ne_of_none z nDl0) (b5 _ _ (ne_of_none z ndf) (e4 _ _ (e3 _ _ z))))
        refine ⟨_, rfl, ?_⟩
        refine gN ?_
        refine ⟨Dl, ys, _, _, _, _, _, _, _, _, _, rfl, nDl0, eF, (upd_ne (Ne.symm nfl)).trans g6.d, g6.nd, g6.snd, fun ls f => ?_⟩
        obtain ⟨kx, a, one, other, fk, h1, h2, h3, h4, e⟩ := AllL.gen_all (s := i + 2) f (by omega) (by omega)
        obtain ⟨j, hj, ej⟩ := List.mem_iff_getElem.mp (all kx fk)
        refine c6 ls ⟨j, a, one, other, hj, by rw [← fk.len]; exact h1, h2, h3, h4, ?_⟩
        rw [List.getD_eq_getElem?_getD, List.getElem?_eq_getElem hj]
        show ls = gen xs[j] a one other
        rw [ej]
        exact e
    · rintro σ H3 ⟨df, xs, o2, o3, o4, o5, o6, o7, o8, o9, o10, rfl, ndf, e3, hd3, nd, snd, all⟩
      rw [em, show m - 2 + 2 = m by omega] at snd all
      dsimp only
      refine ⟨_, rfl, df, FD xs, rfl, .inl hd3, fun p bs np keys => ?_⟩
      obtain ⟨eb, hb⟩ := keys_rows keys
      have e4 := same_new (o := .lst (bs.map V.ref)) np
      refine ⟨p, bs, fun t => (rowOf H3 t).map fun n : Nat => (n : Int), rfl, SqL.of upd_same, fun t ht => ?_, fun ts' p2 pm np2 => ?_⟩
      · obtain ⟨ls, hl, h⟩ := hb t ht
        dsimp only
        rw [rowOf_at h]
        refine ⟨?_, fun z => ?_⟩
        · rw [List.map_map]
          exact e4 _ _ h
        · have := congrArg List.length z
          rw [List.length_map, (snd ls hl).len] at this
          simp at this
          omega
      · have e5 := same_new (o := .lst (ts'.map V.ref)) np2
        have e35 := e3.trans (e4.trans e5)
        have pr : (ts'.map (rowOf H3)).Perm xs := by
          rw [← eb]
          exact pm.map _
        refine q p2 ts' (ts'.map (rowOf H3)) _ e35 (Same.none' (e3.trans e4) np2) upd_same (rws_of fun t ht => ?_) (pr.nodup_iff.mpr nd) (fun ls hl => snd ls (pr.subset hl)) fun ls f => pr.symm.subset (all ls f)
        obtain ⟨ls, hl, h⟩ := hb t (pm.subset ht)
        rw [rowOf_at h]
        exact e5 _ _ (e4 _ _ h)
end
end K40
set_option Elab.async false
set_option linter.all false
set_option maxRecDepth 100001
set_option maxHeartbeats 3999999
namespace K40
open PySem L2
open Huff (hf dot)
/-! ### histories -/
inductive Pr where
  | ta (cs : List Nat)
  | pt (r : Nat)
instance : Inhabited Pr := ⟨.pt 0⟩
/-- the counts behind a pair -/
def nxt (prev : List Nat) : Pr → List Nat
  | .ta cs => cs
  | .pt r => Grp.put prev r 0
def Fits (prev : List Nat) : Pr → Prop
  | .ta cs => cs.length = prev.length
  | .pt r => r ≤ prev.length
abbrev Ta (tss : List (List Nat)) (i : Nat) : List Nat := tss.getD i []
abbrev Pa (prs : List Pr) (i : Nat) : Pr := prs.getD i default
/-- a right history with its counts -/
structure Hist (prs : List Pr) (tss : List (List Nat)) : Prop where
  len : tss.length = prs.length
  one : 1 ≤ prs.length
  top : prs.length ≤ 40
  fst : Pa prs 0 = .ta (Ta tss 0)
  nx : ∀ i, i + 1 < prs.length → Fits (Ta tss i) (Pa prs (i + 1)) ∧ Ta tss (i + 1) = nxt (Ta tss i) (Pa prs (i + 1))
  sz : ∀ i, i < prs.length → 2 ≤ (Ta tss i).length ∧ (Ta tss i).length ≤ 40
def PrV (H : Hp) (v : V) (pr : Pr) : Prop := ∃ a, v = .ref a ∧ match pr with
  | .ta cs => ∃ t, H a = some (.tup [.str "tally", .ref t]) ∧ LT H t (nV cs)
  | .pt r => H a = some (.tup [.str "put", .int ((r : Nat) : Int)])
theorem PrV.same {H H' : Hp} {v : V} {pr : Pr} (h : PrV H v pr) (e : Same H H') : PrV H' v pr := by
  obtain ⟨a, rfl, h⟩ := h
  refine ⟨a, rfl, ?_⟩
  cases pr with
  | ta cs => exact let ⟨t, h1, h2⟩ := h; ⟨t, e _ _ h1, h2.same e⟩
  | pt r => exact e _ _ h
/-- a list or a tuple of pairs -/
def Hs (H : Hp) (hp : Addr) (prs : List Pr) : Prop := ∃ vs, LT H hp vs ∧ Paired (PrV H) vs prs
theorem Hs.same {H H' : Hp} {hp : Addr} {prs : List Pr} (h : Hs H hp prs) (e : Same H H') : Hs H' hp prs :=
  let ⟨vs, h1, h2⟩ := h; ⟨vs, h1.same e, Paired.mapP h2 fun _ _ h => h.same e⟩
/-- a list of tuples of counts -/
def Ts (H : Hp) (tp : Addr) (tss : List (List Nat)) : Prop := ∃ ts : List Addr, H tp = some (.lst (ts.map V.ref)) ∧ Rws H ts tss
theorem Rws.same {H H' : Hp} {ts : List Addr} {tss : List (List Nat)} (h : Rws H ts tss) (e : ∀ a us, H a = some (.tup us) → H' a = some (.tup us)) : Rws H' ts tss := Paired.mapP h fun _ _ h => e _ _ h
theorem Ts.same {H H' : Hp} {tp : Addr} {tss : List (List Nat)} (h : Ts H tp tss) (e : Same H H') : Ts H' tp tss :=
  let ⟨ts, h1, h2⟩ := h; ⟨ts, e _ _ h1, Rws.same h2 fun a us z => e _ _ z⟩
theorem Rws.at {H : Hp} {ts : List Addr} {tss : List (List Nat)} (h : Rws H ts tss) {i : Nat} (hi : i < tss.length) : ∃ t, ts[i]? = some t ∧ H t = some (.tup (nV (Ta tss i))) := by
  have hl : ts.length = tss.length := Paired.length h
  obtain ⟨d, hd, z⟩ := paired_get h (List.getElem?_eq_getElem (show i < ts.length by omega))
  refine ⟨_, List.getElem?_eq_getElem (show i < ts.length by omega), ?_⟩
  rw [z]
  unfold Ta
  rw [List.getD_eq_getElem?_getD, hd]
  rfl
abbrev sACo : Stmt := topS 47
/-- are these counts -/
def spACo : Sp := fun vs H Q _ => ∃ (a : Addr) (cs : List Nat), vs = [.ref a] ∧ LT H a (nV cs) ∧ 2 ≤ cs.length ∧ cs.length ≤ 2000 ∧ ∀ H', Same H H' → Q (.bl true) H'
theorem pe_cS {X : Cx} {CX : CXT} {k j : Nat} {x : Str} {sp : Sp} {E : L2.St → XK} {p pos : Pos} {e : Expr} {es : List Expr} {t : TA} (c : Cal CX X.prog X.w X.K X.mg X.base k x sp) (hr : Room j X.A) (hx : ∀ σ, PassesAt CX X σ (E σ)) (ha : PA X (e :: es) t) (hk : k ≤ j := by decide) (hg : Gl X x := by rfl) (hdb : (x == ("__debug__" : Str)) = false := by decide)
    (he : starEach (e :: es) X.env = (false, eval e X.env) :: starEach es X.env := by rfl) (hpl : (backTo pos (starEach es X.env)).any (·.1) = false := by rfl) : PE X (.Call (.Name x p) (e :: es) [] pos) (tCallS sp E t) := by
  obtain ⟨f, fd, ps, F, hm, kp, b⟩ := c.ex
  exact pe_callS F (hr.mono hk) hg hm kp b hx ha hdb he hpl
/-- the errors that VaultError catches -/
structure CvC (K : PySem.W.Frag) (mg : Str → Option Value) (CV CT CA : Addr) : Prop where
  g : mg "VaultError" = some (.ref CV)
  eT : PySem.W.exmOne K (.ref CT) (.ref CV) = some true
  eA : PySem.W.exmOne K (.ref CA) (.ref CV) = some true
section
variable {P : Program} {w : World} {K : PySem.W.Frag} {mg : Str → Option Value} {base : Heap}
theorem scACo : FnScope ["value"] ["value"] (defScope sACo) := ⟨rfl, rfl, rfl, by decide +kernel, rfl, by decide +kernel, by decide +kernel⟩
theorem ok_aco {f CV CT CA : Addr} {fd : FuncData} (F : Fun K "are_counts" "are_counts" sACo f fd) (VC : CvC K mg CV CT CA) (cI : Cal CX0 P w K mg base 1 "is_list" (spIsL K)) (cC : Cal (L2.CX P w) P w K mg base 4 "check_counts" (spCC CT CA)) : FnOk P w K mg base CX0 5 f fd ["value"] spACo := by
  refine F.ok scACo (fun vs H Q E h => ?_) (fun cdv A outer s H vs Q E hr h => ?_)
  · obtain ⟨a, cs, rfl, _⟩ := h
    rfl
  · obtain ⟨a, cs, rfl, ha, c2, c20, q⟩ := h
    refine ⟨_, pss_cons (ps_if (pt_not (pt_val (pe_c cI hr pass0 (pa_cons (pv 0) pa_nil)))) (pss_one (ps_ret pe_bl)) pss_nil)
      (pss_cons (ps_try_clauses (Wout := fun _ _ _ _ => False) (l := [(.ref CV, none, fun _ _ _ => tRet (tC (.bl false)))]) rfl rfl scACo.nd LamX.takes0
        (fun W pn xe tk _ => (pss_one (ps_expr (pe_cS cC hr (fun σ => passAt tk σ) (pa_cons (pv 0) pa_nil)))))
        (.plain ⟨rfl, by decide, .inl VC.g⟩ (fun a oe cls d pn hz hf => (pss_one (ps_ret pe_bl))) .nil))
      (pss_one (ps_ret pe_bl))), ?_⟩
    refine ⟨_, rfl, _, rfl, .kn ha.kn, fun H1 e1 => ?_⟩
    rw [ha.is]
    refine ⟨_, rfl, iteF ?_⟩
    unfold tNext
    dsimp only
    exact ⟨_, rfl, a, nV cs, rfl, ha.same e1, nV_kn cs, by rw [nV_len]; omega, .inr (.inr ⟨by rw [nV_len]; exact c2, by rw [nV_len]; exact c20, nV_frm cs, fun H2 e2 => q _ (e1.trans e2)⟩)⟩
end
end K40
set_option Elab.async false
set_option linter.all false
set_option maxRecDepth 100001
set_option maxHeartbeats 3999999
namespace K40
open PySem L2
open Huff (hf dot)
/-- t[:i] + (y,) + t[i:], i and y by terms -/
theorem tup_in3 {K : PySem.W.Frag} {σ : St} {H : Hp} {i : Nat} {tj ty : TE} {p : Addr} {xs : List V} {y : V} {r : Nat} {Q : VK} (hi : σ[i]? = some (some (.ref p))) (hj : ∀ H', Same H H' → ∀ Q' : VK, Q' (.int ((r : Nat) : Int)) H' → tj σ H' Q') (hk : ∀ H', Same H H' → ∀ Q' : VK, Q' y H' → ty σ H' Q') (hp : H p = some (.tup xs)) (hr : r ≤ xs.length) (hs : xs.length ≤ 9000)
    (q : ∀ D H', Same H H' → H' D = some (.tup (xs.take r ++ [y] ++ xs.drop r)) → Q (.ref D) H') :
    tOp (rCatA K) (tOp (rCatA K) (tSl (rSlA K) (tVar i) tNoPart (tPart tj)) (tTup (tCons ty tNil))) (tSl (rSlA K) (tVar i) (tPart tj) tNoPart) σ H Q := by
  refine ⟨_, hi, ?_⟩
  simp only [tNoPart]
  refine hj H (Same.refl _) _ ⟨_, rfl, slA hp fun a1 H1 e1 h1 => ?_⟩
  rw [cut_to hr] at h1
  refine hk _ e1 _ ⟨by show 1 ≤ sizeLine; decide, fun a2 n2 => ?_⟩
  have e2 := same_new (o := .tup [y]) n2
  have h2 : upd H1 a2 (.tup [y]) a2 = some (.tup [y]) := upd_same
  have h12 := e2 _ _ h1
  have hp2 := e2 _ _ (e1 _ _ hp)
  generalize upd H1 a2 (.tup [y]) = H2 at e2 h2 h12 hp2 ⊢
  refine catA h12 h2 (by rw [List.length_take]; exact Nat.le_of_lt (small10 (by show _ + 1 ≤ _; omega))) fun a3 H3 e3 h3 => ?_
  have e13 := e1.trans (e2.trans e3)
  refine ⟨_, hi, hj _ e13 _ ⟨_, rfl, ?_⟩⟩
  simp only [tNoPart]
  refine slA (e3 _ _ hp2) fun a4 H4 e4 h4 => ?_
  rw [cut_from hr] at h4
  refine catA (e4 _ _ h3) h4 (by rw [List.length_append, List.length_take, List.length_drop]; exact Nat.le_of_lt (small10 (by show _ + 1 + _ ≤ _; omega))) fun a5 H5 e5 h5 => ?_
  exact q a5 H5 (e13.trans (e4.trans e5)) h5
abbrev sTB : Stmt := topS 46
abbrev NTB : List Str := ["pair", "tallies", "ahead"]
def spTB : Sp := fun vs H Q _ => ∃ (v : V) (tp : Addr) (pr : Pr) (tss : List (List Nat)) (prev : List Nat), vs = [v, .ref tp] ∧ PrV H v pr ∧ Ts H tp tss ∧
  ((tss = [] ∧ ∃ cs, pr = .ta cs ∧ 2 ≤ cs.length ∧ cs.length ≤ 60) ∨ (tss ≠ [] ∧ prev = Ta tss (tss.length - 1) ∧ 2 ≤ prev.length ∧ prev.length ≤ 60 ∧ Fits prev pr)) ∧
  ∀ t H', Same H H' → H' t = some (.tup (nV (nxt prev pr))) → Q (.ref t) H'
theorem tup_of {K : PySem.W.Frag} {H : Hp} {a : Addr} {xs : List V} {Q : VK} (h : LT H a xs) (q : ∀ t H', Same H H' → H' t = some (.tup xs) → Q (.ref t) H') : kTup K (.ref a) H Q := by
  rcases h with h | h
  · exact .inl ⟨a, xs, rfl, SqL.of h, fun t nt => q t _ (same_new nt) upd_same⟩
  · exact .inr ⟨a, xs, rfl, SqT.of h, q a H (Same.refl _) h⟩
theorem atI_neg1 {α : Type} {xs : List α} {v : α} (h : xs[xs.length - 1]? = some v) : atI xs (-1) = some v := by
  have lt := (List.getElem?_eq_some_iff.mp h).1
  have hx := List.dropLast_concat_getLast (l := xs) (by intro z; rw [z] at lt; simp at lt)
  have e : xs.getLast (by intro z; rw [z] at lt; simp at lt) = v := by
    rw [List.getLast_eq_getElem]
    exact (List.getElem?_eq_some_iff.mp h).2
  rw [e] at hx
  rw [← hx]
  exact atI_last _ _
section
variable {P : Program} {w : World} {K : PySem.W.Frag} {mg : Str → Option Value} {base : Heap}
theorem scTB : FnScope NTB ["pair", "tallies"] (defScope sTB) := ⟨rfl, rfl, rfl, by decide +kernel, rfl, by decide +kernel, by decide +kernel⟩
theorem ok_tb {f : Addr} {fd : FuncData} (F : Fun K "tally_behind" "tally_behind" sTB f fd) (B : Bi mg) (Z : Bs mg) (M : Cm mg) (cT : Cal CX0 P w K mg base 1 "is_tuple_of" spTupOf) (cA : Cal CX0 P w K mg base 5 "are_counts" spACo) (cB : Cal CX0 P w K mg base 2 "is_between" spBetween) : FnOk P w K mg base CX0 6 f fd ["pair", "tallies"] spTB := by
  refine F.ok scTB (fun vs H Q E h => ?_) (fun cdv A outer s H vs Q E hr h => ?_)
  · obtain ⟨v, tp, pr, tss, prev, rfl, _⟩ := h
    rfl
  · obtain ⟨v, tp, pr, tss, prev, rfl, ⟨a, rfl, hv⟩, ht, out, q⟩ := h
    refine ⟨_, pss_cons (ps_if (PW.pt (pw_or (pt_not (pt_val (pe_c cT hr pass0 (pa_cons (pv 0) (pa_cons pe_int pa_nil))))) (pw_or1 (pt_not (pt_val (pe_isStr B.isi (pa_cons (pe_ix ix_tup (pv 0) pe_int (fun _ _ => rfl)) (pa_cons (pe_ty "str" Z.str) pa_nil)))))))) (pss_one (ps_ret pe_non)) pss_nil)
      (pss_cons (ps_if (PW.pt (pw_and (pt_cmpR op_eq (pe_ix ix_tup (pv 0) pe_int (fun _ _ => rfl)) pe_str (nomark _)) (pw_and1 (pt_val (pe_c cA hr pass0 (pa_cons (pe_ix ix_tup (pv 0) pe_int (fun _ _ => rfl)) pa_nil)))))) (pss_one (ps_if (PW.pt (pw_or (pt_not (pt_truth (pv 1) (by intro _; rfl))) (pw_or1 (pt_cmpR op_eq (pe_len B.len (pa_cons (pe_ix ix_list (pv 1) (pe_un un_neg pe_int) (fun _ _ => rfl)) pa_nil)) (pe_len B.len (pa_cons (pe_ix ix_tup (pv 0) pe_int (fun _ _ => rfl)) pa_nil)) (nomark _))))) (pss_one (ps_ret (pe_tupleOf rfl B.tuple (pe_ix ix_tup (pv 0) pe_int (fun _ _ => rfl))))) pss_nil)) pss_nil)
      (pss_cons (ps_if (PW.pt (pw_and (pt_cmpR op_eq (pe_ix ix_tup (pv 0) pe_int (fun _ _ => rfl)) pe_str (nomark _)) (pw_and1 (pt_truth (pv 1) (by intro _; rfl))))) (pss_cons (ps_set (i := 2) scTB.nd rfl (Or.inl rfl) (pe_ix ix_list (pv 1) (pe_un un_neg pe_int) (fun _ _ => rfl)))
        (pss_one (ps_if (PW.pt (pw_and (pt_cmpR op_lt (pe_len B.len (pa_cons (pv 2) pa_nil)) (C8.pe_gc rfl M.signs) (nomark _)) (pw_and1 (pt_val (pe_c cB hr pass0 (pa_cons (pe_ix ix_tup (pv 0) pe_int (fun _ _ => rfl)) (pa_cons pe_int (pa_cons (pe_len B.len (pa_cons (pv 2) pa_nil)) pa_nil)))))))) (pss_one (ps_ret (pe_op op_catA (pe_op op_catA (pe_slice sl_tupA (pv 2) po_none (po_some (pe_ix ix_tup (pv 0) pe_int (fun _ _ => rfl)))) (pe_tup (pa_cons pe_int pa_nil))) (pe_slice sl_tupA (pv 2) (po_some (pe_ix ix_tup (pv 0) pe_int (fun _ _ => rfl))) po_none)))) pss_nil))) pss_nil)
      (pss_one (ps_ret pe_non)))), ?_⟩
    obtain ⟨ts, ht1, ht2⟩ := ht
    have hl : ts.length = tss.length := Paired.length ht2
    have pair : ∃ x y, H a = some (.tup [.str x, y]) := by
      cases pr with
      | ta cs => exact let ⟨t, h1, _⟩ := hv; ⟨_, _, h1⟩
      | pt r => exact ⟨_, _, hv⟩
    obtain ⟨x, y, ha⟩ := pair
    obtain ⟨t1, ty1, k1⟩ := (Kn.str x : Kn H (.str x)).isStr K
    have eT : isTn H (.ref a) 2 = true := by simp only [isTn, ha]; rfl
    refine ⟨_, rfl, _, 2, rfl, .tup ha, ?_⟩
    rw [eT]
    refine ⟨_, rfl, iteF ?_⟩
    refine ⟨_, rfl, a, _, _, _, rfl, rfl, SqT.of ha, atI_nat (j := 0) rfl, ?_⟩
    refine ⟨_, _, _, _, _, rfl, .ty "str", ty1, k1, _, rfl, iteF ?_⟩
    refine ⟨_, rfl, a, _, _, _, rfl, rfl, SqT.of ha, atI_nat (j := 0) rfl, rfl, _, rfl, ?_⟩
    have emp : (!(ts.map V.ref).isEmpty) = !tss.isEmpty := by
      cases ts with
      | nil => cases tss with
        | nil => rfl
        | cons _ _ => simp at hl
      | cons _ _ => cases tss with
        | nil => simp at hl
        | cons _ _ => rfl
    cases pr with
    | ta cs =>
      obtain ⟨t, h1, h2⟩ := hv
      have e := HO.tup.inj (Option.some.inj (ha.symm.trans h1))
      injection e with e1 e
      injection e with e2 _
      injection e1 with e1
      subst e1 e2
      have c2 : 2 ≤ cs.length ∧ cs.length ≤ 60 := by
        rcases out with ⟨_, cs', e, l⟩ | ⟨_, _, l1, l2, f⟩
        · injection e with e
          subst e
          exact l
        · have f : cs.length = prev.length := f
          omega
      rw [decide_eq_true rfl]
      refine iteT ?_
      refine ⟨_, rfl, a, _, _, _, rfl, rfl, SqT.of ha, atI_nat (j := 1) rfl, t, cs, rfl, h2, c2.1, by omega, fun H1 e1 => ?_⟩
      refine ⟨_, rfl, iteT ?_⟩
      refine ⟨_, rfl, _, .inl ⟨_, SqL.of (e1 _ _ ht1), rfl⟩, ?_⟩
      rw [emp]
      have fin : (tRet (tThen (tOp (rIxT K) (tVar 0) (tC (V.int 1))) (kTup K)) : TS) { nx := fun _ _ => False, rt := Q } (L2.start NTB [V.ref a, V.ref tp]) H1 := by
        refine ⟨_, rfl, a, _, _, _, rfl, rfl, SqT.of (e1 _ _ ha), atI_nat (j := 1) rfl, tup_of (h2.same e1) fun t2 H2 e2 h3 => ?_⟩
        exact q t2 H2 (e1.trans e2) h3
      rcases out with ⟨e, _⟩ | ⟨ne, ep, l1, l2, f⟩
      · rw [e]
        refine iteT ?_
        exact fin
      · rw [show tss.isEmpty = false by cases tss with | nil => exact absurd rfl ne | cons _ _ => rfl]
        refine iteF ?_
        have lt : tss.length - 1 < tss.length := by
          cases tss with
          | nil => exact absurd rfl ne
          | cons _ _ => simp
        obtain ⟨t9, i9, h9⟩ := ht2.at lt
        rw [← ep] at h9
        refine ⟨_, rfl, _, rfl, tp, _, _, .ref t9, rfl, rfl, SqL.of (e1 _ _ ht1), atI_neg1 (by rw [List.length_map, hl, List.getElem?_map, i9]; rfl), t9, _, rfl, .inr (SqT.of (e1 _ _ h9)), ?_⟩
        refine ⟨_, rfl, a, _, _, _, rfl, rfl, SqT.of (e1 _ _ ha), atI_nat (j := 1) rfl, t, _, rfl, (h2.same e1).sq, rfl, _, rfl, ?_⟩
        have f : cs.length = prev.length := f
        rw [nV_len, nV_len, f, decide_eq_true rfl]
        refine iteT ?_
        exact fin
    | pt r =>
      have e := HO.tup.inj (Option.some.inj (ha.symm.trans hv))
      injection e with e1 e
      injection e with e2 _
      injection e1 with e1
      subst e1 e2
      rcases out with ⟨_, cs', e, l⟩ | ⟨ne, ep, l1, l2, f⟩
      · cases e
      have f : r ≤ prev.length := f
      rw [decide_eq_false (by decide)]
      refine iteF ?_
      refine ⟨_, rfl, a, _, _, _, rfl, rfl, SqT.of ha, atI_nat (j := 0) rfl, rfl, _, rfl, ?_⟩
      rw [decide_eq_true rfl]
      refine iteT ?_
      have lt : tss.length - 1 < tss.length := by
        cases tss with
        | nil => exact absurd rfl ne
        | cons _ _ => simp
      obtain ⟨t9, i9, h9⟩ := ht2.at lt
      rw [← ep] at h9
      refine ⟨_, rfl, _, .inl ⟨_, SqL.of ht1, rfl⟩, ?_⟩
      rw [emp, show tss.isEmpty = false by cases tss with | nil => exact absurd rfl ne | cons _ _ => rfl]
      refine iteT ?_
      refine ⟨_, rfl, _, rfl, tp, _, _, .ref t9, rfl, rfl, SqL.of ht1, atI_neg1 (by rw [List.length_map, hl, List.getElem?_map, i9]; rfl), ?_⟩
      refine gN ?_
      dsimp only
      refine ⟨_, rfl, t9, _, rfl, .inr (SqT.of h9), _, _, rfl, rfl, _, rfl, ?_⟩
      rw [nV_len, decide_eq_true (show ((prev.length : Nat) : Int) < 2000 by omega)]
      refine iteT ?_
      refine ⟨_, rfl, a, _, _, _, rfl, rfl, SqT.of ha, atI_nat (j := 1) rfl, _, rfl, t9, _, rfl, .inr (SqT.of h9), ?_⟩
      rw [nV_len]
      refine ⟨_, _, _, rfl, .int _, ?_⟩
      rw [show btw (.int ((r : Nat) : Int)) 0 ((prev.length : Nat) : Int) = true by show decide (_ ∧ _) = true; exact decide_eq_true ⟨by omega, by omega⟩]
      refine ⟨_, rfl, iteT ?_⟩
      refine tup_in3 (r := r) rfl (fun H' e Q' h => ⟨_, rfl, a, _, _, _, rfl, rfl, SqT.of (e _ _ ha), atI_nat (j := 1) rfl, h⟩) (fun H' e Q' h => h) h9 (by rw [nV_len]; exact f) (by rw [nV_len]; omega) fun t H' e h => ?_
      refine q t H' e ?_
      rw [h]
      show some (HO.tup ((nV prev).take r ++ nV [0] ++ (nV prev).drop r)) = some (.tup (nV (prev.take r ++ [0] ++ prev.drop r)))
      rw [nV_app, nV_app, nV_take, nV_drop]
end
end K40
set_option Elab.async false
set_option linter.all false
set_option maxRecDepth 100001
set_option maxHeartbeats 3999999
namespace K40
open PySem L2
open Huff (hf dot)
abbrev sTO : Stmt := topS 45
abbrev NTO : List Str := ["history", "tallies", "index", "pair", "tally"]
def spTO : Sp := fun vs H Q _ => ∃ (hp : Addr) (prs : List Pr) (tss : List (List Nat)), vs = [.ref hp] ∧ Hs H hp prs ∧ Hist prs tss ∧ ∀ tp H', Same H H' → H tp = none → Ts H' tp tss → Q (.ref tp) H'
theorem Ta_take {tss : List (List Nat)} {i j : Nat} (h : j < i) : Ta (tss.take i) j = Ta tss j := by
  unfold Ta
  rw [List.getD_eq_getElem?_getD, List.getD_eq_getElem?_getD, List.getElem?_take_of_lt h]
theorem Rws.snoc {H : Hp} {ts : List Addr} {tss : List (List Nat)} {t : Addr} {cs : List Nat} (h : Rws H ts tss) (ht : H t = some (.tup (nV cs))) : Rws H (ts ++ [t]) (tss ++ [cs]) := Paired.snoc h ht
theorem Hs.at {H : Hp} {vs : List V} {prs : List Pr} (h : Paired (PrV H) vs prs) {i : Nat} {v : V} (e : vs[i]? = some v) : PrV H v (Pa prs i) := by
  obtain ⟨d, hd, z⟩ := paired_get h e
  unfold Pa
  rw [List.getD_eq_getElem?_getD, hd]
  exact z
section
variable {P : Program} {w : World} {K : PySem.W.Frag} {mg : Str → Option Value} {base : Heap}
theorem scTO : FnScope NTO ["history"] (defScope sTO) := ⟨rfl, rfl, rfl, by decide +kernel, rfl, by decide +kernel, by decide +kernel⟩
theorem ok_to {f : Addr} {fd : FuncData} (F : Fun K "tallies_of" "tallies_of" sTO f fd) (B : Bi mg) (MP : ∃ u, mg "MOST_PAIRS" = some u ∧ RelV (.int 400) u) (cTB : Cal CX0 P w K mg base 6 "tally_behind" spTB) : FnOk P w K mg base CX0 7 f fd ["history"] spTO := by
  refine F.ok scTO (fun vs H Q E h => ?_) (fun cdv A outer s H vs Q E hr h => ?_)
  · obtain ⟨hp, prs, tss, rfl, _⟩ := h
    rfl
  · obtain ⟨hp, prs, tss, rfl, ⟨vs, h1, h2⟩, hi, q⟩ := h
    refine ⟨_, pss_cons (ps_if (pt_not (pt_chain op_le op_le pe_int (pe_len B.len (pa_cons (pv 0) pa_nil)) (C8.pe_gc rfl MP))) pss_never pss_nil)
      (pss_cons (ps_set (i := 1) scTO.nd rfl (Or.inl rfl) (pe_lst pa_nil))
      (pss_cons (ps_for PassesOwn.never rfl (pi_en B.enum (pa_cons (pv 0) pa_nil)) (pg_tup rfl (pgs_cons (pg_name (i := 2) scTO.nd rfl (Or.inl rfl)) (pgs_cons (pg_name (i := 3) scTO.nd rfl (Or.inl rfl)) pgs_nil)))
        (pss_cons (ps_set (i := 4) scTO.nd rfl (Or.inl rfl) (pe_c cTB hr pass0 (pa_cons (pv 3) (pa_cons (pv 1) pa_nil))))
        (pss_cons (ps_if (pt_cmpR op_isN (pv 4) pe_non (nomark _)) pss_never pss_nil)
        (pss_one (ps_expr (pe_bm PySem.F.plainAttrs_list PySem.F.slot_list_append PySem.F.type_list_append mt_append (pv 1) (pa_cons (pv 4) pa_nil)))))))
      (pss_one (ps_ret (pv 1))))), ?_⟩
    have lv : vs.length = prs.length := Paired.length h2
    obtain ⟨hi1, hi2, hi3, hi4, hi5, hi6⟩ := id hi
    refine ⟨_, rfl, hp, vs, rfl, h1.sq, _, _, rfl, rfl, _, rfl, ?_⟩
    rw [decide_eq_true (show (1 : Int) ≤ ((vs.length : Nat) : Int) by omega)]
    refine iteT ⟨_, _, rfl, rfl, _, rfl, ?_⟩
    rw [decide_eq_true (show ((vs.length : Nat) : Int) ≤ 400 by omega)]
    refine iteF ?_
    refine ⟨by show 0 ≤ sizeLine; decide, fun tp np => ?_⟩
    have e1 := same_new (o := .lst []) np
    have t1 : upd H tp (.lst []) tp = some (.lst []) := upd_same
    generalize upd H tp (.lst []) = H1 at e1 t1 ⊢
    have nhp : hp ≠ tp := h1.elim (fun z => ne_of_none z np) fun z => ne_of_none z np
    refine gN ?_
    dsimp only
    refine ⟨_, rfl, hp, vs, rfl, (h1.same e1).sq, fun J G wk hG => for_it wk (fun i σ H' => ∃ (x y z : Option V), σ = [some (.ref hp), some (.ref tp), x, y, z] ∧ (∀ b o, b ≠ tp → H1 b = some o → H' b = some o) ∧ Ts H' tp (tss.take i)) ⟨none, none, none, rfl, fun _ _ _ z => z, [], t1, .nil⟩ (fun i σ H' _ ⟨_, _, _, _, e, _⟩ => ?_) ?_ ?_⟩
    · exact hG H' fun o z => e hp o nhp z
    · rintro i x σ H2 H3 hi ⟨x0, y0, z0, rfl, e2, t2⟩ ⟨T0, y, v', rfl, nT0, rfl, ey, hv⟩
      have ey : y = .int (i : Nat) := (Option.some.inj ey).symm
      subst ey
      have hT := same_new (o := .tup [.int (i : Nat), v']) nT0
      have t3 := t2.same hT
      have e3 : ∀ b o, b ≠ tp → H1 b = some o → upd H2 T0 (.tup [.int (i : Nat), v']) b = some o := fun b o n z => hT _ _ (e2 b o n z)
      have pv : PrV H v' (Pa prs i) := Hs.at h2 hv
      refine ⟨T0, _, rfl, SqT.of upd_same, rfl, _, _, rfl, _, _, rfl, rfl, ?_⟩
      generalize upd H2 T0 (.tup [.int (i : Nat), v']) = H3 at e3 t3 ⊢
      have s3 : Same H H3 := fun b o z => e3 b o (ne_of_none z np) (e1 _ _ z)
      have ltp : (tss.take i).length = i := by rw [List.length_take]; omega
      refine ⟨v', rfl, _, rfl, v', tp, Pa prs i, tss.take i, Ta tss (i - 1), rfl, pv.same s3, t3, ?_, fun t H4 e4 h4 => ?_⟩
      · cases i with
        | zero =>
          refine .inl ⟨rfl, Ta tss 0, hi4, ?_⟩
          exact ⟨(hi6 0 (by omega)).1, by have := (hi6 0 (by omega)).2; omega⟩
        | succ j =>
          refine .inr ⟨?_, ?_, ?_⟩
          · intro z
            rw [z] at ltp
            cases ltp
          · rw [ltp, Ta_take (by omega)]
          · rw [Nat.add_sub_cancel]
            obtain ⟨s1, s2⟩ := hi6 j (by omega)
            exact ⟨s1, by omega, (hi5 j (by omega)).1⟩
      have en : nxt (Ta tss (i - 1)) (Pa prs i) = Ta tss i := by
        cases i with
        | zero => rw [hi4]; rfl
        | succ j => exact (hi5 j (by omega)).2.symm
      rw [en] at h4
      refine gN ?_
      dsimp only
      refine ⟨_, rfl, rfl, _, rfl, iteF ?_⟩
      obtain ⟨ts, g1, g2⟩ := t3.same e4
      have lts : ts.length = i := by rw [Paired.length g2, ltp]
      refine ⟨_, rfl, .inl ⟨rfl, _, SqL.of g1⟩, _, rfl, tp, _, _, rfl, rfl, g1, small10 (by rw [List.length_map]; omega), ?_⟩
      have tk : tss.take (i + 1) = tss.take i ++ [Ta tss i] := by
        rw [List.take_succ, List.getElem?_eq_getElem (show i < tss.length by omega)]
        unfold Ta
        rw [List.getD_eq_getElem?_getD, List.getElem?_eq_getElem (show i < tss.length by omega)]
        rfl
      have nt : ∀ {a : Addr} {us : List V}, H4 a = some (.tup us) → a ≠ tp := fun z => ne_of z g1 fun y => nomatch y
      refine ⟨_, _, _, rfl, fun b o n z => (upd_ne n).trans (e4 _ _ (e3 b o n z)), ts ++ [t], ?_, ?_⟩
      · rw [List.map_append]
        exact upd_same
      · rw [tk]
        exact (Rws.same g2 fun a us z => (upd_ne (nt z)).trans z).snoc ((upd_ne (nt h4)).trans h4)
    · rintro σ H2 ⟨x0, y0, z0, rfl, e2, t2⟩
      rw [lv, ← hi1, List.take_length] at t2
      exact ⟨_, rfl, q tp H2 (fun b o z => e2 b o (ne_of_none z np) (e1 _ _ z)) np t2⟩
end
end K40
set_option Elab.async false
set_option linter.all false
set_option maxRecDepth 100001
set_option maxHeartbeats 3999999
namespace K40
open PySem L2
open Huff (hf dot)
theorem Fst.ex {cs : List Nat} (h : 1 ≤ cs.length) : ∃ j, Fst cs j := by
  obtain ⟨m, hm, lm⟩ : ∃ m ∈ cs, ∀ z ∈ cs, m ≤ z := by
    cases cs with
    | nil => simp at h
    | cons c cs =>
      clear h
      induction cs generalizing c with
      | nil => exact ⟨c, List.mem_cons_self, fun z hz => by rw [List.mem_singleton.mp hz]; exact Nat.le_refl _⟩
      | cons d cs ih =>
        obtain ⟨m, hm, lm⟩ := ih d
        by_cases k : c ≤ m
        · exact ⟨c, List.mem_cons_self, fun z hz => by
            rcases List.mem_cons.mp hz with rfl | hz
            · exact Nat.le_refl _
            · exact Nat.le_trans k (lm z hz)⟩
        · exact ⟨m, List.mem_cons_of_mem _ hm, fun z hz => by
            rcases List.mem_cons.mp hz with rfl | hz
            · omega
            · exact lm z hz⟩
  obtain ⟨j, f, _⟩ := Fst.of hm lm
  exact ⟨j, f⟩
open Classical in
noncomputable def mi (cs : List Nat) : Nat := if h : ∃ j, Fst cs j then h.choose else 0
theorem Fst.mi {cs : List Nat} {j : Nat} (f : Fst cs j) : mi cs = j := by
  have h : ∃ j, Fst cs j := ⟨j, f⟩
  unfold K40.mi
  rw [dif_pos h]
  exact h.choose_spec.uniq f
theorem fst_mi {cs : List Nat} (h : 1 ≤ cs.length) : Fst cs (mi cs) := by
  obtain ⟨j, f⟩ := Fst.ex h
  rw [f.mi]
  exact f
/-- the lengths behind a pair -/
noncomputable def stepL (prev : List Nat) (pr : Pr) (ls : List Nat) : List Nat := match pr with
  | .ta _ => ls
  | .pt r => Grp.part ls (mi prev) r
/-- the lengths k pairs behind place a -/
noncomputable def grown (prs : List Pr) (tss : List (List Nat)) (a : Nat) (l : List Nat) : Nat → List Nat
  | 0 => l
  | k + 1 => stepL (Ta tss (a + k)) (Pa prs (a + k + 1)) (grown prs tss a l k)
def Sv (tss : List (List Nat)) (t : Nat) (ls : List Nat) : Prop := dot ls (Ta tss t) = hf (Ta tss t)
/-- lengths l serve from a up to e, e left out -/
def Srv (prs : List Pr) (tss : List (List Nat)) (a e : Nat) (l : List Nat) : Prop := ∀ k, a + k < e → Sv tss (a + k) (grown prs tss a l k)
theorem Srv.one {prs : List Pr} {tss : List (List Nat)} {a : Nat} {l : List Nat} : Srv prs tss a (a + 1) l ↔ Sv tss a l :=
  ⟨fun h => h 0 (by omega), fun h k hk => by rw [show k = 0 by omega]; exact h⟩
theorem Srv.succ {prs : List Pr} {tss : List (List Nat)} {a k : Nat} {l : List Nat} : Srv prs tss a (a + k + 1) l ↔ Srv prs tss a (a + k) l ∧ Sv tss (a + k) (grown prs tss a l k) := by
  refine ⟨fun h => ⟨fun j hj => h j (by omega), h k (by omega)⟩, fun ⟨h1, h2⟩ j hj => ?_⟩
  by_cases c : j = k
  · rw [c]; exact h2
  · exact h1 j (by omega)
/-- the state of groups begun at a, k pairs further -/
structure GSt (prs : List Pr) (tss : List (List Nat)) (a k : Nat) (gs ds ss : List Nat) (m : Nat) : Prop where
  reach : Grp.Reach (Ta tss a).length gs ds
  gl : gs.length = (Ta tss (a + k)).length
  sl : ss.length = (Ta tss a).length
  m : m = hf ss
  deep : ∀ d ∈ ds, d ≤ k
  grow : ∀ l, l.length = (Ta tss a).length → Grp.grow l gs ds = grown prs tss a l k
  iff : ∀ l, l.length = (Ta tss a).length → Huff.Full l → (Srv prs tss a (a + k + 1) l ↔ dot l ss = hf ss)
theorem GSt.start {prs : List Pr} {tss : List (List Nat)} (a : Nat) : GSt prs tss a 0 (List.range (Ta tss a).length) (List.replicate (Ta tss a).length 0) (Ta tss a) (hf (Ta tss a)) := by
  refine ⟨Grp.Reach.start _, by simp, rfl, rfl, fun d hd => by rw [(List.mem_replicate.mp hd).2]; exact Nat.le_refl _, fun l e => ?_, fun l e f => Srv.one⟩
  have h := Grp.grow_start l []
  simp only [List.nil_append, List.length_nil, Nat.add_zero, List.map_id'] at h
  rw [e] at h
  exact h
theorem Hist.pos {prs : List Pr} {tss : List (List Nat)} (h : Hist prs tss) {i : Nat} (hi : i < prs.length) : Fst (Ta tss i) (mi (Ta tss i)) := fst_mi (by have := (h.sz i hi).1; omega)
theorem grown_len {prs : List Pr} {tss : List (List Nat)} (hi : Hist prs tss) {a : Nat} {l : List Nat} (e : l.length = (Ta tss a).length) : ∀ k, a + k < prs.length → (grown prs tss a l k).length = (Ta tss (a + k)).length
  | 0, _ => e
  | k + 1, hk => by
    have ih := grown_len hi e k (by omega)
    obtain ⟨f, e2⟩ := hi.nx (a + k) (by omega)
    show (stepL _ _ _).length = (Ta tss (a + k + 1)).length
    rw [e2]
    cases h : Pa prs (a + k + 1) with
    | ta cs =>
      rw [h] at f
      have f : cs.length = _ := f
      show (grown prs tss a l k).length = cs.length
      omega
    | pt r =>
      show (Grp.part _ _ _).length = (Grp.put _ _ _).length
      rw [Grp.part_len, Grp.put_len, ih]
theorem GSt.put {prs : List Pr} {tss : List (List Nat)} {a k : Nat} {gs ds ss : List Nat} {m : Nat} (hi : Hist prs tss) (G : GSt prs tss a k gs ds ss m) {r j : Nat} (hk : a + k + 1 < prs.length) (hp : Pa prs (a + k + 1) = .pt r) (fj : Fst (Ta tss (a + k)) j) :
    GSt prs tss a (k + 1) (Grp.put gs r (gs.getD j 0)) (Grp.put (ds.set j (ds.getD j 0 + 1)) r (ds.getD j 0 + 1)) ss m := by
  obtain ⟨reach, gl, sl, em, deep, grow, iff⟩ := G
  have jl : j < gs.length := by rw [gl]; exact fj.lt
  obtain ⟨f, e2⟩ := hi.nx (a + k) (by omega)
  rw [hp] at f e2
  have f : r ≤ (Ta tss (a + k)).length := f
  have e2 : Ta tss (a + k + 1) = Grp.put (Ta tss (a + k)) r 0 := e2
  refine ⟨reach.put r jl, ?_, sl, em, fun d hd => ?_, fun l el => ?_, fun l el fl => ?_⟩
  · rw [Grp.put_len, gl]
    show _ = (Ta tss (a + k + 1)).length
    rw [e2, Grp.put_len]
  · have hd := (Grp.put_perm _ _ _).mem_iff.mp hd
    have lj : ds.getD j 0 ≤ k := by
      rw [List.getD_eq_getElem?_getD, List.getElem?_eq_getElem (by rw [← reach.len]; exact jl)]
      exact deep _ (List.getElem_mem _)
    rcases List.mem_cons.mp hd with rfl | hd
    · omega
    · rcases List.mem_or_eq_of_mem_set hd with h | rfl
      · have := deep d h
        omega
      · omega
  · rw [Grp.grow_put reach.len jl, grow l el]
    show _ = stepL _ _ _
    rw [hp]
    show _ = Grp.part _ (mi _) _
    rw [fj.mi]
  · have h := iff l el fl
    rw [show a + (k + 1) + 1 = a + (k + 1) + 1 from rfl, Srv.succ]
    rw [show a + (k + 1) = a + k + 1 from rfl, h]
    have gg : grown prs tss a l (k + 1) = Grp.part (grown prs tss a l k) j r := by
      show stepL _ _ _ = _
      rw [hp]
      show Grp.part _ (mi _) _ = _
      rw [fj.mi]
    have s : Sv tss (a + k + 1) (grown prs tss a l (k + 1)) ↔ Sv tss (a + k) (grown prs tss a l k) := by
      unfold Sv
      rw [gg, e2]
      exact Grp.put_serves (grown_len hi el k (by omega)) fj.lt fj.le
    rw [s]
    refine ⟨fun h => h.1, fun h1 => ⟨h1, ?_⟩⟩
    exact (h.mpr h1) k (by omega)
theorem GSt.take {prs : List Pr} {tss : List (List Nat)} {a k : Nat} {gs ds ss : List Nat} {m : Nat} (hi : Hist prs tss) (G : GSt prs tss a k gs ds ss m) {cs : List Nat} (hk : a + k + 1 < prs.length) (hp : Pa prs (a + k + 1) = .ta cs) :
    cs.length = gs.length ∧ Ta tss (a + k + 1) = cs ∧
    ((¬ (hf cs = hf (Grp.bg (List.replicate ss.length 0) gs cs) + dot ds cs ∧ hf (Grp.addL ss (Grp.bg (List.replicate ss.length 0) gs cs)) = m + hf (Grp.bg (List.replicate ss.length 0) gs cs))) → ∀ l, l.length = (Ta tss a).length → Huff.Full l → ¬ Srv prs tss a (a + k + 2) l) ∧
    (hf cs = hf (Grp.bg (List.replicate ss.length 0) gs cs) + dot ds cs → hf (Grp.addL ss (Grp.bg (List.replicate ss.length 0) gs cs)) = m + hf (Grp.bg (List.replicate ss.length 0) gs cs) →
      GSt prs tss a (k + 1) gs ds (Grp.addL ss (Grp.bg (List.replicate ss.length 0) gs cs)) (m + hf (Grp.bg (List.replicate ss.length 0) gs cs))) := by
  obtain ⟨reach, gl, sl, em, deep, grow, iff⟩ := G
  obtain ⟨f, e2⟩ := hi.nx (a + k) (by omega)
  rw [hp] at f e2
  have f : cs.length = (Ta tss (a + k)).length := f
  have e2 : Ta tss (a + k + 1) = cs := e2
  have ec : cs.length = gs.length := by omega
  have z1 := hi.sz a (by omega)
  have z2 := hi.sz (a + k) (by omega)
  have lb : (Grp.bg (List.replicate (Ta tss a).length 0) gs cs).length = (Ta tss a).length := by rw [Grp.bg_len, List.length_replicate]
  have gg : ∀ l, grown prs tss a l (k + 1) = grown prs tss a l k := fun l => by
    show stepL _ _ _ = _
    rw [hp]
    rfl
  have key : ∀ l, l.length = (Ta tss a).length → Huff.Full l → (Srv prs tss a (a + (k + 1) + 1) l ↔ (hf cs = hf (Grp.bg (List.replicate ss.length 0) gs cs) + dot ds cs ∧ hf (Grp.addL ss (Grp.bg (List.replicate ss.length 0) gs cs)) = m + hf (Grp.bg (List.replicate ss.length 0) gs cs)) ∧ dot l (Grp.addL ss (Grp.bg (List.replicate ss.length 0) gs cs)) = hf (Grp.addL ss (Grp.bg (List.replicate ss.length 0) gs cs))) := fun l el fl => by
    have h := iff l el fl
    rw [Srv.succ, show a + (k + 1) = a + k + 1 from rfl, h]
    have s : Sv tss (a + k + 1) (grown prs tss a l (k + 1)) ↔ dot (Grp.grow l gs ds) cs = hf cs := by
      unfold Sv
      rw [gg, e2, grow l el]
    rw [s, reach.serves (by omega) (by omega) ec el fl, em, sl]
    have b := Grp.both (l := l) (a := ss) (b := Grp.bg (List.replicate (Ta tss a).length 0) gs cs) (by omega) (by rw [lb, sl]) (by rw [el, sl]) fl
    constructor
    · rintro ⟨h1, h2, h3⟩
      have := b.mp ⟨h1, h3⟩
      exact ⟨⟨h2, this.1⟩, this.2⟩
    · rintro ⟨⟨h1, h2⟩, h3⟩
      have := b.mpr ⟨h2, h3⟩
      exact ⟨this.1, h1, this.2⟩
  refine ⟨ec, e2, fun no l el fl s => no ((key l el fl).mp s).1, fun h1 h2 => ⟨reach, ?_, ?_, h2.symm, fun d hd => Nat.le_succ_of_le (deep d hd), fun l el => by rw [gg]; exact grow l el, fun l el fl => ?_⟩⟩
  · show gs.length = (Ta tss (a + k + 1)).length
    rw [e2, ec]
  · rw [Grp.addL_len (by rw [sl, lb]), sl]
  · rw [key l el fl]
    exact ⟨fun h => h.2, fun h => ⟨⟨h1, h2⟩, h⟩⟩
end K40
set_option Elab.async false
set_option linter.all false
set_option maxRecDepth 100001
set_option maxHeartbeats 3999999
namespace K40
open PySem L2
open Huff (hf dot)
abbrev sFar : Stmt := topS 48
abbrev NFar : List Str := ["history", "tallies", "start", "most", "groups", "index", "kind", "told"]
/-- how far one code goes from a: up to e, e left out -/
structure Far (prs : List Pr) (tss : List (List Nat)) (a most e : Nat) (ss : List Nat) : Prop where
  lo : a < e
  hi : e ≤ most
  len : ss.length = (Ta tss a).length
  iff : ∀ l, l.length = (Ta tss a).length → Huff.Full l → (Srv prs tss a e l ↔ dot l ss = hf ss)
  no : e < most → ∀ l, l.length = (Ta tss a).length → Huff.Full l → ¬ Srv prs tss a (e + 1) l
def spFar (C : Addr) : Sp := fun vs H Q _ => ∃ (hp tp : Addr) (prs : List Pr) (tss : List (List Nat)) (a most : Nat), vs = [.ref hp, .ref tp, .int ((a : Nat) : Int), .int ((most : Nat) : Int)] ∧ Hs H hp prs ∧ Ts H tp tss ∧ Hist prs tss ∧ a < most ∧ most ≤ prs.length ∧
  ∀ t p dx gp dp sp gs ds ss m e H', Same H H' → H' t = some (.tup [.ref p, .int ((e : Nat) : Int)]) → IsG C H' p dx gp dp sp gs ds ss m → Far prs tss a most e ss → Q (.ref t) H'
section
variable {P : Program} {w : World} {K : PySem.W.Frag} {mg : Str → Option Value} {base : Heap}
theorem scFar : FnScope NFar ["history", "tallies", "start", "most"] (defScope sFar) := ⟨rfl, rfl, rfl, by decide +kernel, rfl, by decide +kernel, by decide +kernel⟩
theorem gr_met (g d s l : V) {m : Str} (h1 : (m == "groups") = false := by decide +kernel) (h2 : (m == "depths") = false := by decide +kernel) (h3 : (m == "sums") = false := by decide +kernel) (h4 : (m == "least") = false := by decide +kernel) : (grF g d s l).lookup m = none := by
  unfold grF
  have ne : ∀ {x : Str}, (m == x) = false → ¬ m = x := fun h z => by rw [z] at h; simp at h
  rw [lookup_putF, if_neg (ne h4), lookup_putF, if_neg (ne h3), lookup_putF, if_neg (ne h2), lookup_putF, if_neg (ne h1)]
  rfl
theorem ok_far {f C : Addr} {fd : FuncData} (F : Fun K "farthest" "farthest" sFar f fd) (B : Bi mg) (T : TxG K C) (mG : Mak CX0 P w K mg base 3 "Groups" C (spGrI C)) (mP : Met CX0 P w K mg base 2 C "put" (spGrP C)) (mT : Met CX0 P w K mg base 3 C "takes" (spGrT C)) : FnOk P w K mg base CX0 5 f fd ["history", "tallies", "start", "most"] (spFar C) := by
  refine F.ok scFar (fun vs H Q E h => ?_) (fun cdv A outer s H vs Q E hr h => ?_)
  · obtain ⟨hp, tp, prs, tss, a, most, rfl, _⟩ := h
    rfl
  · obtain ⟨hp, tp, prs, tss, a, most, rfl, ⟨vs, h1, h2⟩, ⟨ts, ht1, ht2⟩, hi, am, mo, q⟩ := h
    refine ⟨_, pss_cons (ps_set (i := 4) scFar.nd rfl (Or.inl rfl) (pe_mk mG hr pass0 (pa_cons (pe_ix ix_list (pv 1) (pv 2) (fun _ _ => rfl)) pa_nil)))
      (pss_cons (ps_for PassesOwn.never rfl (pi_range2 rfl B.range (pa_cons (pe_op op_add (pv 2) pe_int) (pa_cons (pv 3) pa_nil))) (pg_name (i := 5) scFar.nd rfl (Or.inl rfl))
        (pss_cons (ps_asg (pe_ix ix_seq (pv 0) (pv 5) (fun _ _ => rfl)) (pg_tup rfl (pgs_cons (pg_name (i := 6) scFar.nd rfl (Or.inl rfl)) (pgs_cons (pg_name (i := 7) scFar.nd rfl (Or.inl rfl)) pgs_nil))))
        (pss_one (ps_if (pt_cmpR op_eq (pv 6) pe_str (nomark _)) (pss_one (ps_expr (pe_mt mP hr pass0 (pv 4) (pa_cons (pe_ix ix_list (pv 1) (pe_op op_sub (pv 5) pe_int) (fun _ _ => rfl)) (pa_cons (pv 7) pa_nil))))) (pss_one (ps_if (pt_not (pt_val (pe_mt mT hr pass0 (pv 4) (pa_cons (pe_ix ix_list (pv 1) (pv 5) (fun _ _ => rfl)) pa_nil)))) (pss_one (ps_ret (pe_tup (pa_cons (pv 4) (pa_cons (pv 5) pa_nil))))) pss_nil))))))
      (pss_one (ps_ret (pe_tup (pa_cons (pv 4) (pa_cons (pv 3) pa_nil)))))), ?_⟩
    have hl : ts.length = tss.length := Paired.length ht2
    have lv : vs.length = prs.length := Paired.length h2
    have lt := hi.len
    have top := hi.top
    obtain ⟨ta, i1, j1⟩ := ht2.at (show a < tss.length by omega)
    have sza := hi.sz a (by omega)
    refine ⟨_, rfl, _, rfl, tp, _, _, .ref ta, rfl, rfl, SqL.of ht1, atI_nat (by rw [List.getElem?_map, i1]; rfl), fun p dx np nd ne => ?_⟩
    refine ⟨p, dx, ta, Ta tss a, H, rfl, upd_same, np, same_ins np nd, .inr j1, sza.1, by omega, fun gp dp sp H1 e1 G ng nd' ns => ⟨rfl, ?_⟩⟩
    refine gN ?_
    dsimp only
    refine ⟨_, rfl, _, _, rfl, rfl, _, rfl, _, _, rfl, ⟨by omega, by omega, by omega, by omega⟩, ?_⟩
    have en : (((most : Nat) : Int) - (((a : Nat) : Int) + 1)).toNat = most - a - 1 := by omega
    rw [en]
    refine for_range (D := { nx := _, rt := Q, bk := fun _ _ => False, ct := fun _ _ => False }) (fun i σ H' => ∃ (sp : Addr) (gs ds ss : List Nat) (m : Nat) (x y z : Option V), σ = [some (.ref hp), some (.ref tp), some (.int ((a : Nat) : Int)), some (.int ((most : Nat) : Int)), some (.ref p), x, y, z] ∧ Same H H' ∧ IsG C H' p dx gp dp sp gs ds ss m ∧ GSt prs tss a i gs ds ss m) ⟨sp, _, _, _, _, none, none, none, rfl, e1, G, GSt.start a⟩ ?_ ?_
    · clear G e1
      rintro i σ H2 hi2 ⟨sp, gs, ds, ss, m, x, y, z, rfl, e1, G, S⟩
      have ea : (((a : Nat) : Int) + 1 + ((i : Nat) : Int)) = ((a + i + 1 : Nat) : Int) := by omega
      rw [ea]
      refine gN ?_
      dsimp only
      have hv : vs[a + i + 1]? = some (vs[a + i + 1]'(by omega)) := List.getElem?_eq_getElem (by omega)
      have pv : PrV H2 (vs[a + i + 1]'(by omega)) (Pa prs (a + i + 1)) := (Hs.at h2 hv).same e1
      obtain ⟨v, ev⟩ : ∃ v, v = vs[a + i + 1]'(by omega) := ⟨_, rfl⟩
      rw [← ev] at hv pv
      obtain ⟨u, rfl, pv⟩ := pv
      have szi := hi.sz (a + i) (by omega)
      have sg := S.gl
      have sd := S.reach.len
      have smd : Sm ds := fun d hd => by have := S.deep d hd; omega
      refine ⟨_, rfl, _, rfl, (h1.same e1).ix (atI_nat hv) ?_⟩
      obtain ⟨tb, i2, j2⟩ := ht2.at (show a + i < tss.length by omega)
      obtain ⟨tc, i3, j3⟩ := ht2.at (show a + i + 1 < tss.length by omega)
      cases hpr : Pa prs (a + i + 1) with
      | ta cs =>
        rw [hpr] at pv
        obtain ⟨t0, k1, k2⟩ := pv
        obtain ⟨ec, e2, no, yes⟩ := S.take hi (by omega) hpr
        refine ⟨u, _, rfl, SqT.of k1, rfl, _, _, rfl, _, _, rfl, rfl, ?_⟩
        refine ⟨_, rfl, rfl, _, rfl, ?_⟩
        rw [decide_eq_false (by decide)]
        refine iteF ?_
        refine ⟨_, rfl, p, dx, _, rfl, G.ob, gr_met _ _ _ _, ?_⟩
        refine ⟨_, rfl, _, rfl, tp, _, _, .ref tc, rfl, rfl, SqL.of (e1 _ _ ht1), atI_nat (by rw [List.getElem?_map, i3]; rfl), ?_⟩
        rw [e2] at j3
        refine ⟨p, dx, gp, dp, sp, tc, gs, ds, ss, cs, m, rfl, G, e1 _ _ j3, ec, sd.symm, fun g hg => by rw [S.sl]; exact S.reach.lt g hg, smd, by omega, by omega, by rw [S.sl]; omega, by rw [S.sl]; omega, fun z H3 e3 => ?_, fun z1 z2 sp' H3 G3 k3 => ?_⟩
        · refine ⟨_, rfl, iteT ?_⟩
          refine ⟨_, rfl, _, rfl, by show 2 ≤ sizeLine; decide, fun t nt => ?_⟩
          have e4 := same_new (o := .tup [.ref p, .int ((a + i + 1 : Nat) : Int)]) nt
          refine q t p dx gp dp sp gs ds ss m (a + i + 1) _ (e1.trans (e3.trans e4)) upd_same ⟨e4 _ _ (e3 _ _ G.ob), e4 _ _ (e3 _ _ G.g), e4 _ _ (e3 _ _ G.d), e4 _ _ (e3 _ _ G.s), G.ne⟩ ⟨by omega, by omega, S.sl, fun l el fl => S.iff l el fl, fun _ l el fl => no z l el fl⟩
        · refine ⟨_, rfl, iteF ?_⟩
          exact ⟨sp', gs, ds, _, _, _, _, _, rfl, fun b o z => k3 b o (ne_of_none z np) (e1 _ _ z), G3, yes z1 z2⟩
      | pt r =>
        rw [hpr] at pv
        refine ⟨u, _, rfl, SqT.of pv, rfl, _, _, rfl, _, _, rfl, rfl, ?_⟩
        refine ⟨_, rfl, rfl, _, rfl, ?_⟩
        rw [decide_eq_true rfl]
        refine iteT ?_
        refine ⟨_, rfl, p, dx, _, rfl, G.ob, gr_met _ _ _ _, ?_⟩
        have ei : (((a + i + 1 : Nat) : Int) - 1) = ((a + i : Nat) : Int) := by omega
        obtain ⟨f, _⟩ := hi.nx (a + i) (by omega)
        rw [hpr] at f
        have f : r ≤ (Ta tss (a + i)).length := f
        refine ⟨_, rfl, _, rfl, _, _, rfl, rfl, tp, _, _, .ref tb, rfl, rfl, SqL.of (e1 _ _ ht1), by rw [ei]; exact atI_nat (by rw [List.getElem?_map, i2]; rfl), _, rfl, ?_⟩
        refine ⟨p, dx, gp, dp, sp, tb, gs, ds, ss, Ta tss (a + i), m, r, rfl, G, .inr (e1 _ _ j2), sg.symm, sd.symm, by omega, by omega, by omega, fun j H3 fj G3 k3 => ?_⟩
        exact ⟨sp, _, _, _, _, _, _, _, rfl, fun b o z => k3 b o (ne_of_none z ng) (ne_of_none z nd') (e1 _ _ z), G3, S.put hi (by omega) hpr fj⟩
    · rintro σ H2 ⟨sp, gs, ds, ss, m, x, y, z, rfl, e1, G, S⟩
      refine ⟨_, rfl, _, rfl, by show 2 ≤ sizeLine; decide, fun t nt => ?_⟩
      have e2 := same_new (o := .tup [.ref p, .int ((most : Nat) : Int)]) nt
      refine q t p dx gp dp sp gs ds ss m most _ (e1.trans e2) upd_same ⟨e2 _ _ G.ob, e2 _ _ G.g, e2 _ _ G.d, e2 _ _ G.s, G.ne⟩ ⟨am, Nat.le_refl _, S.sl, fun l el fl => ?_, fun z => absurd z (Nat.lt_irrefl _)⟩
      have := S.iff l el fl
      rw [show a + (most - a - 1) + 1 = most by omega] at this
      exact this
end
end K40
set_option Elab.async false
set_option linter.all false
set_option maxRecDepth 100001
set_option maxHeartbeats 3999999
namespace K40
open PySem L2
open Huff (hf dot)
abbrev sPlI : Stmt := inClass (topS 43) 0
structure TxP (K : PySem.W.Frag) (C : Addr) : Prop where
  cl : Cls K C
  h : NoAttr K C "history"
  c : NoAttr K C "codes"
  s : NoAttr K C "stops"
def plF (h c s : V) : List (Str × V) := putF "stops" s (putF "codes" c (putF "history" h []))
theorem pl_history (h c s : V) : (plF h c s).lookup ("history" : Str) = some h := by
  unfold plF
  rw [lookup_putF, if_neg (by decide +kernel), lookup_putF, if_neg (by decide +kernel), lookup_putF, if_pos rfl]
theorem pl_codes (h c s : V) : (plF h c s).lookup ("codes" : Str) = some c := by
  unfold plF
  rw [lookup_putF, if_neg (by decide +kernel), lookup_putF, if_pos rfl]
theorem pl_stops (h c s : V) : (plF h c s).lookup ("stops" : Str) = some s := by
  unfold plF
  rw [lookup_putF, if_pos rfl]
def spPlI (K : PySem.W.Frag) (C : Addr) : Sp := fun vs H Q _ => ∃ (p dx : Addr) (rv wv pv : V) (H0 : Hp) (d e g : Fd), vs = [.ref p, rv, wv, pv] ∧ H p = some (.ins C dx []) ∧ H0 p = none ∧ Same H0 H ∧ FIn K 3 H0 rv d ∧ FIn K 3 H0 wv e ∧ FIn K 3 H0 pv g ∧
  ∀ r c t H', Same H0 H' → H' p = some (.ins C dx (plF r c t)) → FOut 3 H' r d → FOut 3 H' c e → FOut 3 H' t g → Q .non H'
theorem tt_ins {H : Hp} {p C dx : Addr} {fs gs : List (Str × V)} (h : H p = some (.ins C dx fs)) : TT H (upd H p (.ins C dx gs)) := fun a xs z => (upd_ne (ne_of z h fun y => nomatch y)).trans z
section
variable {P : Program} {w : World} {K : PySem.W.Frag} {mg : Str → Option Value} {base : Heap}
theorem scPlI : FnScope ["self", "history", "codes", "stops"] ["self", "history", "codes", "stops"] (defScope sPlI) := ⟨rfl, rfl, rfl, by decide +kernel, rfl, by decide +kernel, by decide +kernel⟩
theorem ok_plI {f C : Addr} {fd : FuncData} (F : Fun K "__init__" "CodePlan.__init__" sPlI f fd) (T : TxP K C) (cF : Cal CX0 P w K mg base 4 "frozen" (spFz K 3)) : FnOk P w K mg base CX0 5 f fd ["self", "history", "codes", "stops"] (spPlI K C) := by
  refine F.ok scPlI (fun vs H Q E h => ?_) (fun cdv A outer s H vs Q E hr h => ?_)
  · obtain ⟨p, dx, rv, wv, pv, H0, d, e, g, rfl, _⟩ := h
    rfl
  · obtain ⟨p, dx, rv, wv, pv', H0, d, e, g, rfl, hp, n0, s0, f1, f2, f3, q⟩ := h
    refine ⟨_, pss_cons (ps_fld (pv 0) (pe_c cF hr pass0 (pa_cons (pv 1) pa_nil)) rfl) (pss_cons (ps_fld (pv 0) (pe_c cF hr pass0 (pa_cons (pv 2) pa_nil)) rfl) (pss_one (ps_fld (pv 0) (pe_c cF hr pass0 (pa_cons (pv 3) pa_nil)) rfl))), ?_⟩
    refine ⟨_, rfl, _, d, rfl, FIn.same s0 _ _ _ f1, fun r H1 e1 o1 => ?_⟩
    refine ⟨_, rfl, p, C, dx, [], rfl, e1 _ _ hp, T.cl, T.h, by show 0 < 1000; decide, ?_⟩
    have h1 := e1 _ _ hp
    have s1 : Same H0 (upd H1 p (.ins C dx (putF "history" r []))) := sm_ins n0 (s0.trans e1)
    have o1 := FOut.tt (tt_ins (gs := putF "history" r []) h1) _ _ _ o1
    have hp1 : upd H1 p (.ins C dx (putF "history" r [])) p = some (.ins C dx (putF "history" r [])) := upd_same
    generalize upd H1 p (.ins C dx (putF "history" r [])) = H2 at s1 o1 hp1 ⊢
    refine ⟨_, rfl, _, e, rfl, FIn.same s1 _ _ _ f2, fun c H3 e3 o3 => ?_⟩
    refine ⟨_, rfl, p, C, dx, _, rfl, e3 _ _ hp1, T.cl, T.c, by show 1 < 1000; decide, ?_⟩
    have h3 := e3 _ _ hp1
    have s3 : Same H0 (upd H3 p (.ins C dx (putF "codes" c (putF "history" r [])))) := sm_ins n0 (s1.trans e3)
    have o3 := FOut.tt (tt_ins (gs := putF "codes" c (putF "history" r [])) h3) _ _ _ o3
    have o1 := FOut.tt ((TT.same e3).trans (tt_ins (gs := putF "codes" c (putF "history" r [])) h3)) _ _ _ o1
    have hp3 : upd H3 p (.ins C dx (putF "codes" c (putF "history" r []))) p = some (.ins C dx (putF "codes" c (putF "history" r []))) := upd_same
    generalize upd H3 p (.ins C dx (putF "codes" c (putF "history" r []))) = H4 at s3 o1 o3 hp3 ⊢
    refine ⟨_, rfl, _, g, rfl, FIn.same s3 _ _ _ f3, fun t H5 e5 o5 => ?_⟩
    refine ⟨_, rfl, p, C, dx, _, rfl, e5 _ _ hp3, T.cl, T.s, by show 2 < 1000; decide, ?_⟩
    have h5 := e5 _ _ hp3
    exact q r c t _ (sm_ins n0 (s3.trans e5)) upd_same (FOut.tt ((TT.same e5).trans (tt_ins h5)) _ _ _ o1) (FOut.tt ((TT.same e5).trans (tt_ins h5)) _ _ _ o3) (FOut.tt (tt_ins h5) _ _ _ o5)
end
/-- a pair, its counts in a tuple -/
def PrT (H : Hp) (v : V) (pr : Pr) : Prop := ∃ a, v = .ref a ∧ match pr with
  | .ta cs => ∃ t, H a = some (.tup [.str "tally", .ref t]) ∧ H t = some (.tup (nV cs))
  | .pt r => H a = some (.tup [.str "put", .int ((r : Nat) : Int)])
theorem PrT.tt {H H' : Hp} {v : V} {pr : Pr} (h : PrT H v pr) (e : TT H H') : PrT H' v pr := by
  obtain ⟨a, rfl, h⟩ := h
  refine ⟨a, rfl, ?_⟩
  cases pr with
  | ta cs => exact let ⟨t, h1, h2⟩ := h; ⟨t, e _ _ h1, e _ _ h2⟩
  | pt r => exact e _ _ h
theorem PrT.v {H : Hp} {v : V} {pr : Pr} (h : PrT H v pr) : PrV H v pr := by
  obtain ⟨a, rfl, h⟩ := h
  refine ⟨a, rfl, ?_⟩
  cases pr with
  | ta cs => exact let ⟨t, h1, h2⟩ := h; ⟨t, h1, .inr h2⟩
  | pt r => exact h
/-! what a plan is made of, as frozen data -/
def dP : Pr → Fd
  | .ta cs => .nd [.lf (.str "tally"), .nd ((nV cs).map .lf)]
  | .pt r => .nd [.lf (.str "put"), .lf (.int ((r : Nat) : Int))]
def dC (x : Int × Addr) : Fd := .nd [.lf (.int x.1), .lf (.ref x.2)]
def dS (x : Int × Int) : Fd := .nd [.lf (.int x.1), .lf (.int x.2)]
def CoV (H : Hp) (v : V) (x : Int × Addr) : Prop := ∃ a, v = .ref a ∧ H a = some (.tup [.int x.1, .ref x.2])
def StV (H : Hp) (v : V) (x : Int × Int) : Prop := ∃ a, v = .ref a ∧ H a = some (.tup [.int x.1, .int x.2])
section
variable {K : PySem.W.Frag} {H : Hp}
theorem lf_flat {v : V} (h : Kn H v) (e : isLT H v = false) : Lf K H v := ⟨.kn h, e⟩
theorem lf_nV : ∀ (cs : List Nat), Paired (FIn K 0 H) (nV cs) ((nV cs).map .lf)
  | [] => .nil
  | _ :: cs => .cons ⟨rfl, .kn (.int _), rfl⟩ (lf_nV cs)
theorem out_nV : ∀ {cs : List Nat} {xs : List V}, Paired (FOut 0 H) xs ((nV cs).map .lf) → xs = nV cs
  | [], _, h => by cases h; rfl
  | c :: cs, _, h => by
    have h : Paired _ _ (Fd.lf (.int ((c : Nat) : Int)) :: (nV cs).map .lf) := h
    cases h with
    | cons h1 h2 =>
      have h1 : Fd.lf _ = Fd.lf _ := h1
      injection h1 with h1
      rw [out_nV h2, ← h1]
      rfl
theorem in_pr {v : V} {pr : Pr} (h : PrV H v pr) (l : ∀ cs, pr = .ta cs → cs.length ≤ 20000) : FIn K 2 H v (dP pr) := by
  obtain ⟨a, rfl, h⟩ := h
  cases pr with
  | ta cs =>
    obtain ⟨t, h1, h2⟩ := h
    exact .inr ⟨a, _, _, rfl, rfl, .inr h1, by show 2 ≤ 20000; decide, .cons (.inl ⟨rfl, lf_flat (.str _) rfl⟩) (.cons (.inr ⟨t, _, _, rfl, rfl, h2, by rw [nV_len]; exact l cs rfl, lf_nV cs⟩) .nil)⟩
  | pt r => exact .inr ⟨a, _, _, rfl, rfl, .inr h, by show 2 ≤ 20000; decide, .cons (.inl ⟨rfl, lf_flat (.str _) rfl⟩) (.cons (.inl ⟨rfl, lf_flat (.int _) rfl⟩) .nil)⟩
theorem out_pr {v : V} {pr : Pr} (h : FOut 2 H v (dP pr)) : PrT H v pr := by
  cases pr with
  | ta cs =>
    rcases h with h | ⟨a, xs, ds, rfl, h, ha, hp⟩
    · cases h
    injection h with h
    subst h
    cases hp with
    | cons h1 h2 =>
      cases h2 with
      | cons h2 h3 =>
        cases h3
        rcases h1 with h1 | ⟨_, _, _, _, h1, _⟩
        · injection h1 with h1
          subst h1
          rcases h2 with h2 | ⟨t, ys, es, rfl, h2, ht, hq⟩
          · cases h2
          injection h2 with h2
          subst h2
          rw [out_nV hq] at ht
          exact ⟨a, rfl, t, ha, ht⟩
        · cases h1
  | pt r =>
    rcases h with h | ⟨a, xs, ds, rfl, h, ha, hp⟩
    · cases h
    injection h with h
    subst h
    cases hp with
    | cons h1 h2 =>
      cases h2 with
      | cons h2 h3 =>
        cases h3
        rcases h1 with h1 | ⟨_, _, _, _, h1, _⟩
        · injection h1 with h1
          subst h1
          rcases h2 with h2 | ⟨_, _, _, _, h2, _⟩
          · injection h2 with h2
            subst h2
            exact ⟨a, rfl, ha⟩
          · cases h2
        · cases h1
theorem in_hs {hp : Addr} {prs : List Pr} (h : Hs H hp prs) (l : ∀ cs, .ta cs ∈ prs → cs.length ≤ 20000) (l2 : prs.length ≤ 20000) : FIn K 3 H (.ref hp) (.nd (prs.map dP)) := by
  obtain ⟨vs, h1, h2⟩ := h
  refine .inr ⟨hp, vs, _, rfl, rfl, h1, by rw [Paired.length h2]; exact l2, ?_⟩
  clear h1 l2
  induction prs generalizing vs with
  | nil => cases h2; exact .nil
  | cons pr prs ih =>
    cases h2 with
    | cons h1 h2 => exact .cons (in_pr h1 fun cs e => l cs (by rw [e]; exact List.mem_cons_self)) (ih (fun cs h => l cs (List.mem_cons_of_mem _ h)) _ h2)
theorem out_hs {v : V} {prs : List Pr} (h : FOut 3 H v (.nd (prs.map dP))) : ∃ hp vs, v = .ref hp ∧ H hp = some (.tup vs) ∧ Paired (PrT H) vs prs := by
  rcases h with h | ⟨a, xs, ds, rfl, h, ha, hp⟩
  · cases h
  injection h with h
  subst h
  refine ⟨a, xs, rfl, ha, ?_⟩
  clear ha
  induction prs generalizing xs with
  | nil => cases hp; exact .nil
  | cons pr prs ih =>
    have hp : Paired _ _ (dP pr :: prs.map dP) := hp
    cases hp with
    | cons h1 h2 => exact .cons (out_pr h1) (ih _ h2)
theorem in_co {v : V} {x : Int × Addr} (h : CoV H v x) (o : ∃ C dx fs, H x.2 = some (.ins C dx fs) ∧ ObC K C) (U : ObK K) : FIn K 2 H v (dC x) := by
  obtain ⟨a, rfl, h⟩ := h
  obtain ⟨C, dx, fs, ho, O⟩ := o
  exact .inr ⟨a, _, _, rfl, rfl, .inr h, by show 2 ≤ 20000; decide, .cons (.inl ⟨rfl, lf_flat (.int _) rfl⟩) (.cons (.inl ⟨rfl, .ob ho O U, by unfold isLT; rw [isL_ins ho, isT_ins ho]; rfl⟩) .nil)⟩
theorem out_two {v x y : V} (h : FOut 2 H v (.nd [.lf x, .lf y])) : ∃ a, v = .ref a ∧ H a = some (.tup [x, y]) := by
  rcases h with h | ⟨a, xs, ds, rfl, h, ha, hp⟩
  · cases h
  injection h with h
  subst h
  cases hp with
  | cons h1 h2 =>
    cases h2 with
    | cons h2 h3 =>
      cases h3
      rcases h1 with h1 | ⟨_, _, _, _, h1, _⟩
      · injection h1 with h1
        subst h1
        rcases h2 with h2 | ⟨_, _, _, _, h2, _⟩
        · injection h2 with h2
          subst h2
          exact ⟨a, rfl, ha⟩
        · cases h2
      · cases h1
theorem in_st {v : V} {x : Int × Int} (h : StV H v x) : FIn K 2 H v (dS x) := by
  obtain ⟨a, rfl, h⟩ := h
  exact .inr ⟨a, _, _, rfl, rfl, .inr h, by show 2 ≤ 20000; decide, .cons (.inl ⟨rfl, lf_flat (.int _) rfl⟩) (.cons (.inl ⟨rfl, lf_flat (.int _) rfl⟩) .nil)⟩
theorem in_all {α : Type} {R : Hp → V → α → Prop} {d : α → Fd} {a : Addr} {vs : List V} {xs : List α} (ha : LT H a vs) (h : Paired (R H) vs xs) (l : xs.length ≤ 20000) (k : ∀ v x, x ∈ xs → R H v x → FIn K 2 H v (d x)) : FIn K 3 H (.ref a) (.nd (xs.map d)) := by
  refine .inr ⟨a, vs, _, rfl, rfl, ha, by rw [Paired.length h]; exact l, ?_⟩
  clear ha l
  induction xs generalizing vs with
  | nil => cases h; exact .nil
  | cons x xs ih =>
    cases h with
    | cons h1 h2 => exact .cons (k _ _ List.mem_cons_self h1) (ih h2 fun v x hx => k v x (List.mem_cons_of_mem _ hx))
theorem out_all {α : Type} {R : Hp → V → α → Prop} {d : α → Fd} {v : V} {xs : List α} (h : FOut 3 H v (.nd (xs.map d))) (k : ∀ v x, FOut 2 H v (d x) → R H v x) : ∃ a vs, v = .ref a ∧ H a = some (.tup vs) ∧ Paired (R H) vs xs := by
  rcases h with h | ⟨a, vs, ds, rfl, h, ha, hp⟩
  · cases h
  injection h with h
  subst h
  refine ⟨a, vs, rfl, ha, ?_⟩
  clear ha
  induction xs generalizing vs with
  | nil => cases hp; exact .nil
  | cons x xs ih =>
    have hp : Paired _ _ (d x :: xs.map d) := hp
    cases hp with
    | cons h1 h2 => exact .cons (k _ _ h1) (ih _ h2)
end
end K40
set_option Elab.async false
set_option linter.all false
set_option maxRecDepth 100001
set_option maxHeartbeats 3999999
namespace K40
open PySem L2
open Huff (hf dot Best)
/-! ### plans -/
structure Sg where
  a : Nat
  e : Nat
  q : Addr
  ls : List Nat
  ws : List W
/-- a stretch, as far as one code goes -/
structure SgOk (prs : List Pr) (tss : List (List Nat)) (g : Sg) : Prop where
  lo : g.a < g.e
  hi : g.e ≤ prs.length
  len : g.ls.length = (Ta tss g.a).length
  full : Huff.Full g.ls
  srv : Srv prs tss g.a g.e g.ls
  no : g.e < prs.length → ∀ l, l.length = (Ta tss g.a).length → Huff.Full l → ¬ Srv prs tss g.a (g.e + 1) l
  cw : CW g.ws
  wl : lens g.ws = g.ls
def Chn : Nat → List Sg → Nat → Prop
  | a, [], e => a = e
  | a, g :: r, e => g.a = a ∧ Chn g.e r e
theorem Chn.snoc : ∀ {sgs : List Sg} {a e : Nat} {g : Sg}, Chn a sgs e → g.a = e → Chn a (sgs ++ [g]) g.e
  | [], _, _, _, h, e => ⟨e.trans h.symm, rfl⟩
  | _ :: _, _, _, _, ⟨h1, h2⟩, e => ⟨h1, Chn.snoc h2 e⟩
def codsOf (sgs : List Sg) : List (Int × Addr) := sgs.map fun g => (((g.a : Nat) : Int), g.q)
def stsOf (n : Nat) (sgs : List Sg) : List (Int × Int) := (sgs.filter fun g => g.e < n).map fun g => (((g.a : Nat) : Int), ((g.e : Nat) : Int))
def Cds (C : Addr) (H : Hp) (sgs : List Sg) : Prop := ∀ g ∈ sgs, ∃ L, IsCo C H g.q L g.ls g.ws
/-- a plan in the heap -/
def IsPl (C : Addr) (H : Hp) (p : Addr) (prs : List Pr) (cs : List (Int × Addr)) (ss : List (Int × Int)) : Prop := ∃ (dx hv cv sv : Addr) (vs us ts : List V), H p = some (.ins C dx (plF (.ref hv) (.ref cv) (.ref sv))) ∧
  H hv = some (.tup vs) ∧ Paired (PrT H) vs prs ∧ H cv = some (.tup us) ∧ Paired (CoV H) us cs ∧ H sv = some (.tup ts) ∧ Paired (StV H) ts ss
/-- all stays but these, and tables -/
def Kp (L : List Addr) (H H' : Hp) : Prop := ∀ b o, b ∉ L → (∀ ps, o ≠ .tbl ps) → H b = some o → H' b = some o
section
variable {L : List Addr} {H H1 H2 : Hp}
theorem Kp.refl : Kp L H H := fun _ _ _ _ z => z
theorem Kp.trans (a : Kp L H H1) (b : Kp L H1 H2) : Kp L H H2 := fun c o n m z => b c o n m (a c o n m z)
theorem Kp.of (e : Same H H1) : Kp L H H1 := fun c o _ _ z => e c o z
theorem Kp.ext (e : LamX.ExtN H H1) : Kp L H H1 := fun c o _ m z => e c o z m
theorem Kp.upd {a : Addr} {o : HO} (h : a ∈ L) : Kp L H (L2.upd H a o) := fun c o' n _ z => (upd_ne (fun e => n (by rw [e]; exact h))).trans z
theorem Kp.extN (e : Kp L H H1) (n : ∀ a ∈ L, H a = none) : LamX.ExtN H H1 := fun b o z m => e b o (fun hb => by rw [n b hb] at z; cases z) m z
/-- the left out ones are lists -/
def Ls (L : List Addr) (H : Hp) : Prop := ∀ a ∈ L, ∃ xs, H a = some (.lst xs)
theorem Kp.off (e : Kp L H H1) (n : Ls L H) {b : Addr} {o : HO} (z : H b = some o) (h1 : ∀ xs, o ≠ .lst xs) (h2 : ∀ ps, o ≠ .tbl ps) : H1 b = some o := e b o (fun hb => by
  obtain ⟨xs, hx⟩ := n b hb
  rw [hx] at z
  injection z with z
  exact h1 _ z.symm) h2 z
theorem Kp.tup (e : Kp L H H1) (n : Ls L H) {b : Addr} {us : List V} (z : H b = some (.tup us)) : H1 b = some (.tup us) := e.off n z (fun _ y => nomatch y) fun _ y => nomatch y
theorem IsCo.kp {C q : Addr} {l : Nat} {ls : List Nat} {ws : List W} (e : Kp L H H1) (n : Ls L H) (h : IsCo C H q l ls ws) : IsCo C H1 q l ls ws :=
  let ⟨dx, lt, wt, tr, h1, h2, h3⟩ := h; ⟨dx, lt, wt, tr, e.off n h1 (fun _ y => nomatch y) (fun _ y => nomatch y), e.tup n h2, e.tup n h3⟩
theorem Cds.kp {C : Addr} {sgs : List Sg} (e : Kp L H H1) (n : Ls L H) (h : Cds C H sgs) : Cds C H1 sgs := fun g hg => let ⟨l, c⟩ := h g hg; ⟨l, c.kp e n⟩
theorem CoV.kp {v : V} {x : Int × Addr} (e : Kp L H H1) (n : Ls L H) (h : CoV H v x) : CoV H1 v x := let ⟨a, h1, h2⟩ := h; ⟨a, h1, e.tup n h2⟩
theorem StV.kp {v : V} {x : Int × Int} (e : Kp L H H1) (n : Ls L H) (h : StV H v x) : StV H1 v x := let ⟨a, h1, h2⟩ := h; ⟨a, h1, e.tup n h2⟩
theorem ext_lt {a : Addr} {us : List V} (e : LamX.ExtN H H1) (h : LT H a us) : LT H1 a us := h.imp (fun z => e _ _ z fun _ y => nomatch y) fun z => e _ _ z fun _ y => nomatch y
theorem PrV.ext {v : V} {pr : Pr} (h : PrV H v pr) (e : LamX.ExtN H H1) : PrV H1 v pr := by
  obtain ⟨a, rfl, h⟩ := h
  refine ⟨a, rfl, ?_⟩
  cases pr with
  | ta cs => exact let ⟨t, h1, h2⟩ := h; ⟨t, e _ _ h1 (fun _ y => nomatch y), ext_lt e h2⟩
  | pt r => exact e _ _ h fun _ y => nomatch y
theorem Hs.ext {hp : Addr} {prs : List Pr} (h : Hs H hp prs) (e : LamX.ExtN H H1) : Hs H1 hp prs :=
  let ⟨vs, h1, h2⟩ := h; ⟨vs, ext_lt e h1, Paired.mapP h2 fun _ _ h => h.ext e⟩
theorem Ts.ext {tp : Addr} {tss : List (List Nat)} (h : Ts H tp tss) (e : LamX.ExtN H H1) : Ts H1 tp tss :=
  let ⟨ts, h1, h2⟩ := h; ⟨ts, e _ _ h1 (fun _ y => nomatch y), Rws.same h2 fun _ _ z => e _ _ z fun _ y => nomatch y⟩
end
theorem Ts.kp {L : List Addr} {H H1 : Hp} {tp : Addr} {tss : List (List Nat)} (e : Kp L H H1) (n : Ls L H) (nt : tp ∉ L) (h : Ts H tp tss) : Ts H1 tp tss :=
  let ⟨ts, h1, h2⟩ := h; ⟨ts, e _ _ nt (fun _ y => nomatch y) h1, Rws.same h2 fun _ _ z => e.tup n z⟩
theorem CanoOf.lens {ls os : List Nat} {ws : List W} (O : IsOrd ls os) (c : CanoOf ls os ws) : K40.lens ws = ls := by
  refine List.ext_getElem (by rw [List.length_map]; exact c.1) fun o h1 h2 => ?_
  obtain ⟨i, hi, e⟩ := List.getElem_of_mem (O.perm.symm.subset (List.mem_range.mpr h2))
  have z := c.2 i o (by rw [List.getElem?_eq_getElem hi, e])
  have l := canoW_lens 0 0 (os.map (lAt ls))
  rw [List.length_map] at h1
  have hc : i < (canoW 0 0 (os.map (lAt ls))).length := by
    have := congrArg List.length l
    rw [List.length_map, List.length_map] at this
    omega
  rw [List.getElem?_eq_getElem h1, List.getElem?_eq_getElem hc] at z
  have z := Option.some.inj z
  rw [List.getElem_map, z]
  have g := congrArg (fun x => x[i]?) l
  simp only [List.getElem?_map, List.getElem?_eq_getElem hc, List.getElem?_eq_getElem hi, Option.map_some] at g
  rw [Option.some.inj g, e, lAt_get h2]
theorem full60 {ls : List Nat} (f : Huff.Full ls) (h : ∀ l ∈ ls, l ≤ 60) : Huff.kl 60 ls = 2 ^ 60 := by
  obtain ⟨L, hL, k⟩ := f
  by_cases c : L ≤ 60
  · rw [Huff.kl_scale c hL, k, ← Nat.pow_add, Nat.sub_add_cancel c]
  · exact Huff.kl_max (by omega) h k
theorem cano_cw {ls os : List Nat} {ws : List W} (O : IsOrd ls os) (c : CanoOf ls os ws) (f : Huff.Full ls) (l2 : 2 ≤ ls.length) (l6 : ls.length ≤ 60) (h : ∀ l ∈ ls, l ≤ 60) : CW ws := by
  have k := full60 f h
  obtain ⟨pf, _, _⟩ := c.good O h (by exact k)
  have e := c.lens O
  exact ⟨pf, by rw [c.1]; exact l2, by rw [c.1]; exact l6, by rw [e]; exact h, by rw [e]; exact k⟩
theorem Hist.ta {prs : List Pr} {tss : List (List Nat)} (h : Hist prs tss) {cs : List Nat} (m : .ta cs ∈ prs) : cs.length ≤ 60 := by
  obtain ⟨i, hi, e⟩ := List.mem_iff_getElem.mp m
  have ep : Pa prs i = .ta cs := by
    unfold Pa
    rw [List.getD_eq_getElem?_getD, List.getElem?_eq_getElem hi, e]
    rfl
  have z := (h.sz i hi).2
  cases i with
  | zero =>
    rw [h.fst] at ep
    injection ep with ep
    rw [← ep]
    omega
  | succ i =>
    have n := (h.nx i hi).2
    rw [ep] at n
    have n : Ta tss (i + 1) = cs := n
    rw [← n]
    omega
abbrev sPn : Stmt := topS 44
abbrev NPn : List Str := ["history", "tallies", "codes", "stops", "start", "groups", "end"]
def spPn (C CP : Addr) (Tb : List (Addr × Str)) : Sp := fun vs H Q _ => ∃ (hp : Addr) (prs : List Pr) (tss : List (List Nat)), vs = [.ref hp] ∧ Hs H hp prs ∧ Hist prs tss ∧ LamX.Tabs Tb H ∧
  ∀ p sgs H', IsPl CP H' p prs (codsOf sgs) (stsOf prs.length sgs) → Cds C H' sgs → (∀ g ∈ sgs, SgOk prs tss g) → Chn 0 sgs prs.length → LamX.ExtN H H' → LamX.Tabs Tb H' → Q (.ref p) H'
section
variable {P : Program} {w : World} {K : PySem.W.Frag} {mg : Str → Option Value} {base : Heap}
theorem scPn : FnScope NPn ["history"] (defScope sPn) := ⟨rfl, rfl, rfl, by decide +kernel, rfl, by decide +kernel, by decide +kernel⟩
theorem ok_pn {f C CG CP CT CA : Addr} {fd : FuncData} {Tb : List (Addr × Str)} (F : Fun K "plan_codes" "plan_codes" sPn f fd) (B : Bi mg) (T : TxG K CG) (OC : ObC K C) (U : ObK K) (cTO : Cal CX0 P w K mg base 7 "tallies_of" spTO) (cFar : Cal CX0 P w K mg base 5 "farthest" (spFar CG)) (cLC : Cal (L2.CX P w) P w K mg base 10 "least_code" (spLC C CT CA Tb)) (mPl : Mak CX0 P w K mg base 5 "CodePlan" CP (spPlI K CP)) : FnOk P w K mg base CX0 11 f fd ["history"] (spPn C CP Tb) := by
  refine F.ok scPn (fun vs H Q E h => ?_) (fun cdv A outer s H vs Q E hr h => ?_)
  · obtain ⟨hp, prs, tss, rfl, _⟩ := h
    rfl
  · obtain ⟨hp, prs, tss, rfl, hs, hi, tabs, q⟩ := h
    refine ⟨_, pss_cons (ps_set (i := 1) scPn.nd rfl (Or.inl rfl) (pe_c cTO hr pass0 (pa_cons (pv 0) pa_nil)))
      (pss_cons (ps_par (i := 2) (j := 3) rfl scPn.nd rfl rfl (by decide) rfl rfl (pa_cons (pe_lst pa_nil) (pa_cons (pe_lst pa_nil) pa_nil)) rfl)
      (pss_cons (ps_set (i := 4) scPn.nd rfl (Or.inl rfl) pe_int)
      (pss_cons (ps_while PassesOwn.never (pt_cmpR op_lt (pv 4) (pe_len B.len (pa_cons (pv 0) pa_nil)) (nomark _)) (pss_cons (ps_asg (pe_c cFar hr pass0 (pa_cons (pv 0) (pa_cons (pv 1) (pa_cons (pv 4) (pa_cons (pe_len B.len (pa_cons (pv 0) pa_nil)) pa_nil))))) (pg_tup rfl (pgs_cons (pg_name (i := 5) scPn.nd rfl (Or.inl rfl)) (pgs_cons (pg_name (i := 6) scPn.nd rfl (Or.inl rfl)) pgs_nil))))
        (pss_cons (ps_expr (pe_bm PySem.F.plainAttrs_list PySem.F.slot_list_append PySem.F.type_list_append mt_append (pv 2) (pa_cons (pe_tup (pa_cons (pv 4) (pa_cons (pe_c cLC hr passL (pa_cons (pe_fld (pv 5) rfl) pa_nil)) pa_nil))) pa_nil)))
        (pss_cons (ps_if (pt_cmpR op_lt (pv 6) (pe_len B.len (pa_cons (pv 0) pa_nil)) (nomark _)) (pss_one (ps_expr (pe_bm PySem.F.plainAttrs_list PySem.F.slot_list_append PySem.F.type_list_append mt_append (pv 3) (pa_cons (pe_tup (pa_cons (pv 4) (pa_cons (pv 6) pa_nil))) pa_nil)))) pss_nil)
        (pss_one (ps_set (i := 4) scPn.nd rfl (Or.inl rfl) (pv 6)))))))
      (pss_one (ps_ret (pe_mk mPl hr pass0 (pa_cons (pv 0) (pa_cons (pv 2) (pa_cons (pv 3) pa_nil))))))))), ?_⟩
    refine ⟨_, rfl, hp, prs, tss, rfl, hs, hi, fun tp H1 e1 ntp ht1 => ?_⟩
    refine gN ?_
    dsimp only
    refine ⟨by show 0 ≤ sizeLine; decide, fun cp ncp => ⟨by show 0 ≤ sizeLine; decide, fun sp nsp => ?_⟩⟩
    have e2 := e1.trans (same_new (o := .lst []) ncp)
    have c2 : upd H1 cp (.lst []) cp = some (.lst []) := upd_same
    have nc0 : H cp = none := old_no e1 ncp
    have ht2 := ht1.same (same_new (o := .lst []) ncp)
    generalize upd H1 cp (.lst []) = H2 at e2 c2 nsp ht2 ⊢
    have e3 := e2.trans (same_new (o := .lst []) nsp)
    have c3 := same_new (o := .lst []) nsp _ _ c2
    have s3 : upd H2 sp (.lst []) sp = some (.lst []) := upd_same
    have ns0 : H sp = none := old_no e2 nsp
    have ncs : cp ≠ sp := ne_of_none c2 nsp
    have ht3 := ht2.same (same_new (o := .lst []) nsp)
    generalize upd H2 sp (.lst []) = H3 at e3 c3 s3 ht3 ⊢
    refine ⟨_, _, rfl, ?_⟩
    dsimp only
    refine gN ?_
    dsimp only
    have lv : ∃ vs, LT H hp vs ∧ vs.length = prs.length := let ⟨vs, h1, h2⟩ := hs; ⟨vs, h1, Paired.length h2⟩
    obtain ⟨vs, hv1, lvs⟩ := lv
    have ntc : tp ≠ cp := by
      obtain ⟨ts, h1, _⟩ := ht1
      exact ne_of_none h1 ncp
    have nts : tp ≠ sp := by
      obtain ⟨ts, h1, _⟩ := ht2
      exact ne_of_none h1 nsp
    have nof : ∀ a ∈ [cp, sp], H a = none := fun a ha => by
      rcases List.mem_cons.mp ha with rfl | ha
      · exact nc0
      · rw [List.mem_singleton.mp ha]; exact ns0
    have nt2 : tp ∉ [cp, sp] := fun ha => by
      rcases List.mem_cons.mp ha with e | ha
      · exact ntc e
      · exact nts (List.mem_singleton.mp ha)
    obtain ⟨W, hW⟩ : ∃ W : Nat → St → Hp → Prop, W = fun m σ H' => ∃ (a : Nat) (sgs : List Sg) (x y : Option V) (us ts : List V), m = prs.length - a ∧ σ = [some (.ref hp), some (.ref tp), some (.ref cp), some (.ref sp), some (.int ((a : Nat) : Int)), x, y] ∧ LamX.ExtN H H' ∧ LamX.Tabs Tb H' ∧ Ts H' tp tss ∧
      H' cp = some (.lst us) ∧ Paired (CoV H') us (codsOf sgs) ∧ H' sp = some (.lst ts) ∧ Paired (StV H') ts (stsOf prs.length sgs) ∧ Cds C H' sgs ∧ (∀ g ∈ sgs, SgOk prs tss g) ∧ Chn 0 sgs a ∧ a ≤ prs.length ∧ sgs.length ≤ a := ⟨_, rfl⟩
    refine ⟨W, ⟨prs.length, by rw [hW]; exact ⟨0, [], none, none, [], [], rfl, rfl, LamX.ExtN.of e3, tabs.ext e3, ht3, c3, .nil, s3, .nil, (fun g hg => nomatch hg), (fun g hg => nomatch hg), rfl, Nat.zero_le _, Nat.le_refl _⟩⟩, ?_⟩
    clear e3 c3 s3 ht3 ht2 e2 c2 ncp nsp ht1
    intro m σ H4 w4
    have w4' := w4
    rw [hW] at w4'
    obtain ⟨a, sgs, x, y, us, ts, rfl, rfl, e4, tab4, ht4, c4, cv4, s4, sv4, cd4, ok4, ch4, an, lsg⟩ := w4'
    have hl4 := ext_lt e4 hv1
    refine ⟨_, rfl, _, rfl, hp, vs, rfl, hl4.sq, _, _, rfl, rfl, _, rfl, ?_⟩
    rw [lvs]
    by_cases c : a < prs.length
    · rw [decide_eq_true (show ((a : Nat) : Int) < ((prs.length : Nat) : Int) by omega)]
      refine iteT ⟨fun σ' H' => ∃ m', m' < prs.length - a ∧ W m' σ' H', fun σ' H' z => z, ?_⟩
      have sza := hi.sz a c
      have top := hi.top
      refine ⟨_, rfl, _, rfl, _, rfl, _, rfl, hp, vs, rfl, hl4.sq, ?_⟩
      rw [lvs]
      refine ⟨hp, tp, prs, tss, a, prs.length, rfl, hs.ext e4, ht4, hi, c, Nat.le_refl _, fun t p dx gp dp gsp gs ds ss m e H5 e5 h5 G far => ?_⟩
      refine ⟨t, _, rfl, SqT.of h5, rfl, _, _, rfl, _, _, rfl, rfl, ?_⟩
      obtain ⟨fa1, fa2, fa3, fa4, fa5⟩ := far
      have tab5 := tab4.ext e5
      refine ⟨_, rfl, .inl ⟨rfl, us, SqL.of (e5 _ _ c4)⟩, _, rfl, _, rfl, p, CG, dx, _, _, rfl, G.ob, T.cl, T.s, gr_sums _ _ _ _, ?_⟩
      refine ⟨gsp, nV ss, rfl, G.s, nV_kn ss, by rw [nV_len]; omega, tab5, .inr (.inr ⟨ss, rfl, by omega, by omega, fun q L ls ws H6 co cano nq best bl e6 tab6 => ?_⟩)⟩
      refine ⟨by show 2 ≤ sizeLine; decide, fun u nu => ?_⟩
      have lsn : Ls [cp, sp] H4 := fun b hb => by
        rcases List.mem_cons.mp hb with rfl | hb
        · exact ⟨_, c4⟩
        · rw [List.mem_singleton.mp hb]; exact ⟨_, s4⟩
      have k7 : Kp [cp, sp] H4 (upd H6 u (.tup [.int ((a : Nat) : Int), .ref q])) := (Kp.of e5).trans ((Kp.ext e6).trans (Kp.of (same_new nu)))
      have e7 : LamX.ExtN H (upd H6 u (.tup [.int ((a : Nat) : Int), .ref q])) := e4.trans ((LamX.ExtN.of e5).trans (e6.trans (LamX.ExtN.of (same_new nu))))
      have tab7 := tab6.ext (same_new (o := .tup [.int ((a : Nat) : Int), .ref q]) nu)
      have u7 : upd H6 u (.tup [.int ((a : Nat) : Int), .ref q]) u = some (.tup [.int ((a : Nat) : Int), .ref q]) := upd_same
      have co7 : IsCo C (upd H6 u (.tup [.int ((a : Nat) : Int), .ref q])) q L ls ws := co.kp (L := []) (Kp.of (same_new nu)) (fun _ h => nomatch h)
      have c7 : upd H6 u (.tup [.int ((a : Nat) : Int), .ref q]) cp = some (.lst us) := same_new nu _ _ (e6 _ _ (e5 _ _ c4) (fun _ y => nomatch y))
      have s7 : upd H6 u (.tup [.int ((a : Nat) : Int), .ref q]) sp = some (.lst ts) := same_new nu _ _ (e6 _ _ (e5 _ _ s4) (fun _ y => nomatch y))
      generalize upd H6 u (.tup [.int ((a : Nat) : Int), .ref q]) = H7 at k7 e7 tab7 u7 co7 c7 s7 ⊢
      have lus : us.length = sgs.length := by rw [Paired.length cv4]; exact List.length_map _
      have lts : ts.length ≤ sgs.length := by
        rw [Paired.length sv4]
        unfold stsOf
        rw [List.length_map]
        exact List.length_filter_le _ _
      refine ⟨cp, us, _, rfl, rfl, c7, small10 (by omega), ?_⟩
      have lsn7 : Ls [cp, sp] H7 := fun b hb => by
        rcases List.mem_cons.mp hb with rfl | hb
        · exact ⟨_, c7⟩
        · rw [List.mem_singleton.mp hb]; exact ⟨_, s7⟩
      have k78 : Kp [cp, sp] H7 (upd H7 cp (.lst (us ++ [.ref u]))) := Kp.upd List.mem_cons_self
      have c8 : upd H7 cp (.lst (us ++ [.ref u])) cp = some (.lst (us ++ [.ref u])) := upd_same
      have s8 : upd H7 cp (.lst (us ++ [.ref u])) sp = some (.lst ts) := (upd_ne ncs.symm).trans s7
      have e8 : LamX.ExtN H (upd H7 cp (.lst (us ++ [.ref u]))) := fun b o z m => (upd_ne (ne_of_none z nc0)).trans (e7 b o z m)
      have tab8 := tabs_at (H' := upd H7 cp (.lst (us ++ [.ref u]))) tab7 c7 (fun _ z => nomatch z) (fun _ z => nomatch z) (fun b o n z => (upd_ne n).trans z)
      generalize upd H7 cp (.lst (us ++ [.ref u])) = H8 at k78 c8 s8 e8 tab8 ⊢
      obtain ⟨os, O1, O2⟩ := cano
      have k8 := k7.trans k78
      have lls : ls.length = ss.length := best.len
      have sg : SgOk prs tss ⟨a, e, q, ls, ws⟩ := ⟨fa1, fa2, by show ls.length = (Ta tss a).length; omega, best.full, (fa4 ls (by omega) best.full).mpr best.eq, fa5, cano_cw O1 O2 best.full (by omega) (by omega) fun l hl => by have := bl l hl; omega, O2.lens O1⟩
      have ln8 : Ls [cp, sp] H8 := fun b hb => by
        rcases List.mem_cons.mp hb with rfl | hb
        · exact ⟨_, c8⟩
        · rw [List.mem_singleton.mp hb]; exact ⟨_, s8⟩
      have cv8 : Paired (CoV H8) (us ++ [.ref u]) (codsOf (sgs ++ [⟨a, e, q, ls, ws⟩])) := by
        unfold codsOf
        rw [List.map_append]
        exact Paired.snoc (Paired.mapP cv4 fun _ _ h => h.kp k8 lsn) ⟨u, rfl, k78.tup lsn7 u7⟩
      have ok8 : ∀ g ∈ sgs ++ [⟨a, e, q, ls, ws⟩], SgOk prs tss g := fun g hg => by
        rcases List.mem_append.mp hg with hg | hg
        · exact ok4 g hg
        · rw [List.mem_singleton.mp hg]; exact sg
      have cd8 : Cds C H8 (sgs ++ [⟨a, e, q, ls, ws⟩]) := fun g hg => by
        rcases List.mem_append.mp hg with hg | hg
        · exact cd4.kp k8 lsn g hg
        · rw [List.mem_singleton.mp hg]; exact ⟨L, co7.kp k78 lsn7⟩
      have sv8 := Paired.mapP sv4 fun _ _ h => StV.kp k8 lsn h
      have ht8 := ht4.kp k8 lsn nt2
      have ch8 : Chn 0 (sgs ++ [⟨a, e, q, ls, ws⟩]) e := Chn.snoc (g := ⟨a, e, q, ls, ws⟩) ch4 rfl
      have hl8 := ext_lt e8 hv1
      dsimp only
      refine ⟨_, rfl, _, rfl, hp, vs, rfl, hl8.sq, _, _, rfl, rfl, _, rfl, ?_⟩
      rw [lvs]
      by_cases c2 : e < prs.length
      · rw [decide_eq_true (show ((e : Nat) : Int) < ((prs.length : Nat) : Int) by omega)]
        refine iteT ?_
        refine ⟨_, rfl, .inl ⟨rfl, ts, SqL.of s8⟩, _, rfl, _, rfl, by show 2 ≤ sizeLine; decide, fun v nv => ?_⟩
        have k9 : Kp [cp, sp] H8 (upd H8 v (.tup [.int ((a : Nat) : Int), .int ((e : Nat) : Int)])) := Kp.of (same_new nv)
        have v9 : upd H8 v (.tup [.int ((a : Nat) : Int), .int ((e : Nat) : Int)]) v = some (.tup [.int ((a : Nat) : Int), .int ((e : Nat) : Int)]) := upd_same
        have e9 : LamX.ExtN H (upd H8 v (.tup [.int ((a : Nat) : Int), .int ((e : Nat) : Int)])) := e8.trans (LamX.ExtN.of (same_new nv))
        have tab9 := tab8.ext (same_new (o := .tup [.int ((a : Nat) : Int), .int ((e : Nat) : Int)]) nv)
        have c9 := same_new (o := .tup [.int ((a : Nat) : Int), .int ((e : Nat) : Int)]) nv _ _ c8
        have s9 := same_new (o := .tup [.int ((a : Nat) : Int), .int ((e : Nat) : Int)]) nv _ _ s8
        generalize upd H8 v (.tup [.int ((a : Nat) : Int), .int ((e : Nat) : Int)]) = H9 at k9 v9 e9 tab9 c9 s9 ⊢
        refine ⟨sp, ts, _, rfl, rfl, s9, small10 (by omega), ?_⟩
        have ln9 : Ls [cp, sp] H9 := fun b hb => by
          rcases List.mem_cons.mp hb with rfl | hb
          · exact ⟨_, c9⟩
          · rw [List.mem_singleton.mp hb]; exact ⟨_, s9⟩
        have k910 : Kp [cp, sp] H9 (upd H9 sp (.lst (ts ++ [.ref v]))) := Kp.upd (List.mem_cons_of_mem _ List.mem_cons_self)
        have s10 : upd H9 sp (.lst (ts ++ [.ref v])) sp = some (.lst (ts ++ [.ref v])) := upd_same
        have c10 : upd H9 sp (.lst (ts ++ [.ref v])) cp = some (.lst (us ++ [.ref u])) := (upd_ne ncs).trans c9
        have e10 : LamX.ExtN H (upd H9 sp (.lst (ts ++ [.ref v]))) := fun b o z m => (upd_ne (ne_of_none z ns0)).trans (e9 b o z m)
        have tab10 := tabs_at (H' := upd H9 sp (.lst (ts ++ [.ref v]))) tab9 s9 (fun _ z => nomatch z) (fun _ z => nomatch z) (fun b o n z => (upd_ne n).trans z)
        generalize upd H9 sp (.lst (ts ++ [.ref v])) = H10 at k910 s10 c10 e10 tab10 ⊢
        have k10 := k9.trans k910
        dsimp only
        refine ⟨_, rfl, ?_⟩
        refine gN ?_
        dsimp only
        rw [hW]
        refine ⟨prs.length - e, by omega, e, sgs ++ [⟨a, e, q, ls, ws⟩], _, _, us ++ [.ref u], ts ++ [.ref v], rfl, rfl, e10, tab10, ht8.kp k10 ln8 nt2, c10, Paired.mapP cv8 fun _ _ h => h.kp k10 ln8, s10, ?_, cd8.kp k10 ln8, ok8, ch8, by omega, by rw [List.length_append]; show _ + 1 ≤ _; omega⟩
        unfold stsOf
        rw [List.filter_append, List.map_append]
        rw [show (List.filter (fun g => decide (g.e < prs.length)) [({ a := a, e := e, q := q, ls := ls, ws := ws } : Sg)]) = [⟨a, e, q, ls, ws⟩] by rw [List.filter_cons_of_pos (by exact decide_eq_true c2)]; rfl]
        exact Paired.snoc (Paired.mapP sv8 fun _ _ h => h.kp k10 ln8) ⟨v, rfl, k910.tup ln9 v9⟩
      · rw [decide_eq_false (show ¬ ((e : Nat) : Int) < ((prs.length : Nat) : Int) by omega)]
        refine iteF ?_
        refine ⟨_, rfl, ?_⟩
        refine gN ?_
        dsimp only
        rw [hW]
        refine ⟨prs.length - e, by omega, e, sgs ++ [⟨a, e, q, ls, ws⟩], _, _, us ++ [.ref u], ts, rfl, rfl, e8, tab8, ht8, c8, cv8, s8, ?_, cd8, ok8, ch8, by omega, by rw [List.length_append]; show _ + 1 ≤ _; omega⟩
        unfold stsOf
        rw [List.filter_append, List.map_append]
        rw [show (List.filter (fun g => decide (g.e < prs.length)) [({ a := a, e := e, q := q, ls := ls, ws := ws } : Sg)]) = [] by rw [List.filter_cons_of_neg (by simpa using c2)]; rfl, List.map_nil, List.append_nil]
        exact sv8
    · rw [decide_eq_false (show ¬ ((a : Nat) : Int) < ((prs.length : Nat) : Int) by omega)]
      refine iteF ?_
      have ea : a = prs.length := by omega
      subst ea
      refine ⟨_, rfl, _, rfl, _, rfl, fun p dx np nd ne => ?_⟩
      refine ⟨p, dx, _, _, _, H4, _, _, _, rfl, upd_same, np, same_ins np nd, in_hs (hs.ext e4) (fun cs hc => ?_) (by have := hi.top; omega), in_all (R := CoV) (d := dC) (.inl c4) cv4 ?_ (fun v x hx h => ?_), in_all (R := StV) (d := dS) (.inl s4) sv4 ?_ (fun v x _ h => in_st h), fun r c t H5 e5 h5 o1 o2 o3 => ⟨rfl, ?_⟩⟩
      · have := hi.ta hc
        omega
      · unfold codsOf
        rw [List.length_map]
        have := hi.top
        omega
      · obtain ⟨g, hg, rfl⟩ := List.mem_map.mp hx
        obtain ⟨L, dx', lt, wt, tr, z1, _⟩ := cd4 g hg
        exact in_co h ⟨C, dx', _, z1, OC⟩ U
      · unfold stsOf
        rw [List.length_map]
        have := hi.top
        exact Nat.le_trans (List.length_filter_le _ _) (by omega)
      · obtain ⟨hv, vs', rfl, z1, z2⟩ := out_hs o1
        obtain ⟨cv, us', rfl, z3, z4⟩ := out_all (R := CoV) o2 fun v x h => out_two h
        obtain ⟨sv, ts', rfl, z5, z6⟩ := out_all (R := StV) o3 fun v x h => out_two h
        exact q p sgs H5 ⟨dx, hv, cv, sv, vs', us', ts', h5, z1, z2, z3, z4, z5, z6⟩ (cd4.kp (L := []) (Kp.of e5) fun _ h => nomatch h) ok4 ch4 (e4.trans (LamX.ExtN.of e5)) (tab4.ext e5)
end
end K40
set_option Elab.async false
set_option linter.all false
set_option maxRecDepth 100001
set_option maxHeartbeats 3999999
namespace K40
open PySem L2
open Huff (hf dot Best)
/-- no word of a full code is as long as there are words -/
theorem full_deep : ∀ (n : Nat) {ls : List Nat} {L : Nat}, ls.length = n → (∀ l ∈ ls, l ≤ L) → Huff.kl L ls = 2 ^ L → ∀ l ∈ ls, l + 1 ≤ n
  | 0, ls, L, e, _, _ => fun l hl => by
    rw [List.eq_nil_of_length_eq_zero e] at hl
    cases hl
  | 1, [a], L, _, h, k => fun l hl => by
    rw [List.mem_singleton.mp hl]
    rw [Huff.kl_cons] at k
    have k : 2 ^ (L - a) + 0 = 2 ^ L := k
    have ha := h a List.mem_cons_self
    by_cases c : a = 0
    · omega
    · have := Nat.pow_lt_pow_right (a := 2) (by decide) (show L - a < L by omega)
      omega
  | n + 2, ls, L, e, h, k => fun l hl => by
    obtain ⟨M, hM, lM⟩ := Huff.le_max (l := ls) (fun z => by rw [z] at e; cases e)
    have k2 := Huff.kl_max (h M hM) lM k
    obtain ⟨M1, r, p⟩ := Huff.kl_twice (by omega) (h M hM) lM hM k
    have lr := p.length_eq
    rw [List.length_cons, List.length_cons] at lr
    have := full_deep (n + 1) (ls := (M - 1) :: r) (L := M) (by rw [List.length_cons]; omega) (fun x hx => by
        rcases List.mem_cons.mp hx with rfl | hx
        · omega
        · exact lM x (p.symm.subset (List.mem_cons_of_mem _ (List.mem_cons_of_mem _ hx)))) (by
        rw [Huff.kl_perm p, Huff.kl_cons, Huff.kl_cons, Nat.sub_self] at k2
        rw [Huff.kl_cons, show M - (M - 1) = 1 by omega]
        omega) (M - 1) List.mem_cons_self
    have := lM l hl
    omega
/-- a comprehension that keeps what p says -/
theorem lcF {J : It} {n : Nat} {G : Hp → Prop} {Y : Nat → Hp → V → Hp → Prop} (wk : Walk J n G Y) {g : TG} {tt : L2.TT} {te : TE} {vs : List Nat} {σ : St} {H1 : Hp} {D : Addr} {Qd : Hp → Prop} (p : Nat → Bool) (f : Nat → V) (hb : n ≤ 10000) (nD : H1 D = none) (hG : ∀ H', Same H1 H' → G H')
    (hs : ∀ (i : Nat) (x : V) (H2 H3 : Hp) (Q : VK) (N : Hp → Prop), i < n → Same H1 H2 → Y i H2 x H3 → (p i = true → ∀ H4, Same H2 H4 → Q (f i) H4) → (p i = false → ∀ H4, Same H2 H4 → N H4) → g x (wipe σ vs) H3 fun σ2 H4 => wipe σ2 vs = wipe σ vs ∧ tt σ2 H4 fun b H5 => if b = true then te σ2 H5 Q else N H5)
    (hd : ∀ H', Same H1 H' → H' D = some (.lst (((List.range n).filter p).map f)) → Qd H') :
    ∃ W : Nat → Nat → Hp → Prop, (∃ m, W 0 m (upd H1 D (.lst []))) ∧ ∀ i m H, W i m H →
      (J.stop i H ∧ Qd H) ∨ (J.go i H ∧ ∃ Nx : Hp → Prop, (∀ H', Nx H' → ∃ m', m' < m ∧ W (i + 1) m' H') ∧ ∀ x H', J.yld i H x H' → g x (wipe σ vs) H' fun σ2 H2 => wipe σ2 vs = wipe σ vs ∧ tt σ2 H2 fun b H3 =>
        if b = true then te σ2 H3 fun y H4 => ∃ acc, H4 D = some (.lst acc) ∧ acc.length < sizeLine ∧ Nx (upd H4 D (.lst (acc ++ [y]))) else Nx H3) := by
  refine lc_it wk (fun i H' => Same H1 H' ∧ H' D = some (.lst (((List.range i).filter p).map f))) ⟨same_new nD, upd_same⟩ (fun i H' _ z => hG H' z.1) ?_ (fun H' z => hd H' z.1 z.2)
  rintro i x H H' hi ⟨e1, hD⟩ y
  refine hs i x H H' _ _ hi e1 y (fun hp H4 e4 => ⟨_, e4 _ _ hD, ?_, fun b o z => ?_, ?_⟩) fun hp H4 e4 => ⟨e1.trans e4, ?_⟩
  · rw [List.length_map]
    have := List.length_filter_le p (List.range i)
    rw [List.length_range] at this
    exact small10 (by omega)
  · rw [upd_ne (ne_of_none z nD)]
    exact e4 _ _ (e1 _ _ z)
  · rw [upd_same, List.range_succ, List.filter_append, List.map_append, List.filter_cons_of_pos hp]
    rfl
  · rw [e4 _ _ hD, List.range_succ, List.filter_append, List.filter_cons_of_neg (by rw [hp]; decide)]
    simp
theorem CW.fw {ws : List W} (h : CW ws) : FW ws := by
  have ln : (lens ws).length = ws.length := List.length_map _
  refine ⟨h.pf, fun w hw => (h.pos w hw).1, fun w hw => ?_, by rw [← krH_kl]; exact h.kl⟩
  exact full_deep _ ln h.hi h.kl _ (List.mem_map_of_mem hw)
theorem lens_put {ws : List W} {i : Nat} (r : Nat) (h : i < ws.length) : lens (putW ws i r) = Grp.part (lens ws) i r := by
  unfold putW Grp.part Grp.put lens
  rw [getD_at h, getD_at (by rw [List.length_map]; exact h), List.getElem_map, List.map_append, List.map_append, List.map_take, List.map_drop, List.map_set]
  simp
theorem Chn.ge : ∀ {sgs : List Sg} {a e : Nat}, (∀ g ∈ sgs, g.a < g.e) → Chn a sgs e → (∀ g ∈ sgs, a ≤ g.a) ∧ a ≤ e
  | [], _, _, _, h => ⟨(fun _ z => nomatch z), Nat.le_of_eq h⟩
  | g :: r, a, e, k, ⟨h1, h2⟩ => by
    obtain ⟨i1, i2⟩ := Chn.ge (fun x hx => k x (List.mem_cons_of_mem _ hx)) h2
    have := k g List.mem_cons_self
    refine ⟨fun x hx => ?_, by omega⟩
    rcases List.mem_cons.mp hx with rfl | hx
    · omega
    · have := i1 x hx
      omega
theorem Chn.few : ∀ {sgs : List Sg} {a e : Nat}, Chn a sgs e → (∀ g ∈ sgs, g.a < g.e) → sgs.length + a ≤ e
  | [], _, _, h, _ => by
    have h : _ = _ := h
    show 0 + _ ≤ _
    omega
  | g :: r, a, e, ⟨h1, h2⟩, k => by
    have := Chn.few h2 fun x hx => k x (List.mem_cons_of_mem _ hx)
    have := k g List.mem_cons_self
    show r.length + 1 + a ≤ e
    omega
/-- the stretch in which a place lies -/
theorem Chn.find : ∀ {sgs : List Sg} {a e i : Nat}, (∀ g ∈ sgs, g.a < g.e) → Chn a sgs e → a ≤ i → i < e → ∃ (k : Nat) (g : Sg), sgs[k]? = some g ∧ g.a ≤ i ∧ i < g.e ∧ ∀ (j : Nat) (h : Sg), sgs[j]? = some h → (h.a ≤ i ↔ j ≤ k)
  | [], _, _, _, _, h, h1, h2 => by
    have h : _ = _ := h
    omega
  | g :: r, a, e, i, k, ⟨h1, h2⟩, l1, l2 => by
    have k2 : ∀ x ∈ r, x.a < x.e := fun x hx => k x (List.mem_cons_of_mem _ hx)
    obtain ⟨i1, i2⟩ := Chn.ge k2 h2
    by_cases c : i < g.e
    · refine ⟨0, g, rfl, by omega, c, fun j h hj => ?_⟩
      cases j with
      | zero =>
        have : g = h := Option.some.inj hj
        subst this
        exact ⟨fun _ => Nat.le_refl _, fun _ => by omega⟩
      | succ j =>
        have := i1 h (List.mem_of_getElem? (show r[j]? = some h from hj))
        exact ⟨fun _ => by omega, fun z => by omega⟩
    · obtain ⟨n, g', h3, h4, h5, h6⟩ := Chn.find k2 h2 (by omega) l2
      refine ⟨n + 1, g', h3, h4, h5, fun j h hj => ?_⟩
      cases j with
      | zero =>
        have : g = h := Option.some.inj hj
        subst this
        exact ⟨fun _ => Nat.zero_le _, fun _ => by omega⟩
      | succ j =>
        have := h6 j h hj
        omega
theorem filt {p : Nat → Bool} {k : Nat} : ∀ {n : Nat}, k < n → (∀ j, j < n → p j = decide (j ≤ k)) → (List.range n).filter p = List.range (k + 1)
  | 0, h, _ => by omega
  | n + 1, h, hp => by
    rw [List.range_succ, List.filter_append]
    by_cases c : k = n
    · subst c
      rw [List.filter_eq_self.mpr (fun x hx => by have := List.mem_range.mp hx; rw [hp x (by omega)]; exact decide_eq_true (by omega)), List.filter_cons_of_pos (by rw [hp k (by omega)]; exact decide_eq_true (Nat.le_refl _)), List.filter_nil, ← List.range_succ]
    · rw [filt (by omega) fun j hj => hp j (by omega), List.filter_cons_of_neg (by rw [hp n (by omega), decide_eq_false (by omega)]; decide), List.filter_nil, List.append_nil]
abbrev sCa2 : Stmt := topS 49
abbrev NCa2 : List Str := ["plan", "index", "tallies", "start", "code", "pair", "words", "place", "kind", "told"]
/-- the code at a place of a right plan -/
def spCa2 (C CP : Addr) (Tb : List (Addr × Str)) : Sp := fun vs H Q _ => ∃ (p : Addr) (prs : List Pr) (tss : List (List Nat)) (sgs : List Sg) (i : Nat), vs = [.ref p, .int ((i : Nat) : Int)] ∧ IsPl CP H p prs (codsOf sgs) (stsOf prs.length sgs) ∧ Cds C H sgs ∧ (∀ g ∈ sgs, SgOk prs tss g) ∧ Chn 0 sgs prs.length ∧
  Hist prs tss ∧ i < prs.length ∧ LamX.Tabs Tb H ∧ ∀ g ∈ sgs, g.a ≤ i → i < g.e → ∀ q L ws H', IsCo C H' q L (grown prs tss g.a g.ls (i - g.a)) ws → LamX.ExtN H H' → LamX.Tabs Tb H' → Q (.ref q) H'
section
variable {P : Program} {w : World} {K : PySem.W.Frag} {mg : Str → Option Value} {base : Heap}
theorem scCa2 : FnScope NCa2 ["plan", "index"] (defScope sCa2) := ⟨rfl, rfl, rfl, by decide +kernel, rfl, by decide +kernel, by decide +kernel⟩
theorem ok_ca2 {f C CP : Addr} {fd : FuncData} {Tb : List (Addr × Str)} (F : Fun K "code_at" "code_at" sCa2 f fd) (B : Bi mg) (T : TxP K CP) (TC : TxC K C) (cB : Cal CX0 P w K mg base 2 "is_between" spBetween) (cTO : Cal CX0 P w K mg base 7 "tallies_of" spTO) (cPS : Cal CX0 P w K mg base 1 "parted_sign" spPS) (cP : Cal CX0 P w K mg base 1 "parted" spPt) (cCf : Cal CX0 P w K mg base 10 "code_of" (spCf C Tb)) : FnOk P w K mg base CX0 11 f fd ["plan", "index"] (spCa2 C CP Tb) := by
  refine F.ok scCa2 (fun vs H Q E h => ?_) (fun cdv A outer s H vs Q E hr h => ?_)
  · obtain ⟨p, prs, tss, sgs, i, rfl, _⟩ := h
    rfl
  · obtain ⟨p, prs, tss, sgs, i, rfl, ⟨dx, hv, cv, sv, vs, us, ts, h0, h1, h2, h3, h4, h5, h6⟩, cd, ok, ch, hi, li, tabs, q⟩ := h
    replace h2 := Paired.mapP h2 fun _ _ h => PrT.v h
    refine ⟨_, pss_cons (ps_if (pt_not (pt_val (pe_c cB hr pass0 (pa_cons (pv 1) (pa_cons pe_int (pa_cons (pe_op op_sub (pe_len B.len (pa_cons (pe_fld (pv 0) rfl) pa_nil)) pe_int) pa_nil)))))) pss_never pss_nil)
      (pss_cons (ps_set (i := 2) scCa2.nd rfl (Or.inl rfl) (pe_c cTO hr pass0 (pa_cons (pe_fld (pv 0) rfl) pa_nil)))
      (pss_cons (ps_asg (pe_ix ix_list (pe_lc (own := [("pair", 5)]) rfl scCa2.nd (pi_sqA (pe_fld (pv 0) rfl)) (blkOk_by (N := NCa2) (sc := defScope sCa2) (by decide +kernel)) (fun _ _ _ _ _ => (pg_name (i := 5) scCa2.nd rfl (Or.inl rfl))) (fun _ _ _ _ _ => (pts_one (pt_cmpR op_le (pe_ix (ix_tupK K rfl) (pv 5) pe_int (fun _ _ => rfl)) (pv 1) (nomark _)))) (fun _ _ _ _ _ => (pv 5))) (pe_un un_neg pe_int) (fun _ _ => rfl)) (pg_tup rfl (pgs_cons (pg_name (i := 3) scCa2.nd rfl (Or.inl rfl)) (pgs_cons (pg_name (i := 4) scCa2.nd rfl (Or.inl rfl)) pgs_nil))))
      (pss_cons (ps_set (i := 6) scCa2.nd rfl (Or.inl rfl) (pe_callTy call_list_of rfl B.list (by decide +kernel) (pa_cons (pe_fld (pv 4) rfl) pa_nil)))
      (pss_cons (ps_for PassesOwn.never rfl (pi_range2 rfl B.range (pa_cons (pe_op op_add (pv 3) pe_int) (pa_cons (pe_op op_add (pv 1) pe_int) pa_nil))) (pg_name (i := 7) scCa2.nd rfl (Or.inl rfl))
        (pss_cons (ps_asg (pe_ix ix_tup (pe_fld (pv 0) rfl) (pv 7) (fun _ _ => rfl)) (pg_tup rfl (pgs_cons (pg_name (i := 8) scCa2.nd rfl (Or.inl rfl)) (pgs_cons (pg_name (i := 9) scCa2.nd rfl (Or.inl rfl)) pgs_nil))))
        (pss_one (ps_if (pt_cmpR op_eq (pv 8) pe_str (nomark _)) (pss_one (ps_set (i := 6) scCa2.nd rfl (Or.inl rfl) (pe_c cP hr pass0 (pa_cons (pv 6) (pa_cons (pe_c cPS hr pass0 (pa_cons (pe_ix ix_list (pv 2) (pe_op op_sub (pv 7) pe_int) (fun _ _ => rfl)) pa_nil)) (pa_cons (pv 9) pa_nil)))))) pss_nil))))
      (pss_one (ps_ret (pe_c cCf hr pass0 (pa_cons (pv 6) pa_nil)))))))), ?_⟩
    have lv : vs.length = prs.length := Paired.length h2
    have lu : us.length = sgs.length := by rw [Paired.length h4]; exact List.length_map _
    have top := hi.top
    refine ⟨_, rfl, _, rfl, p, CP, dx, _, _, rfl, h0, T.cl, T.h, pl_history _ _ _, hv, vs, rfl, .inr (SqT.of h1), _, _, rfl, rfl, _, _, _, rfl, .int _, ?_⟩
    rw [lv, show btw (.int ((i : Nat) : Int)) 0 (((prs.length : Nat) : Int) - 1) = true by show decide (_ ∧ _) = true; exact decide_eq_true ⟨by omega, by omega⟩]
    refine ⟨_, rfl, iteF ?_⟩
    refine ⟨_, rfl, p, CP, dx, _, _, rfl, h0, T.cl, T.h, pl_history _ _ _, hv, prs, tss, rfl, ⟨vs, .inr h1, h2⟩, hi, fun tp H1 e1 ntp ht1 => ?_⟩
    refine gN ?_
    dsimp only
    obtain ⟨k, g, g1, g2, g3, g4⟩ := Chn.find (fun g hg => (ok g hg).lo) ch (Nat.zero_le i) li
    have hg : g ∈ sgs := List.mem_of_getElem? g1
    have kl : k < sgs.length := (List.getElem?_eq_some_iff.mp g1).1
    have cvat : ∀ j, j < sgs.length → ∃ (h : Sg) (x : Addr), sgs[j]? = some h ∧ us[j]? = some (.ref x) ∧ H x = some (.tup [.int ((h.a : Nat) : Int), .ref h.q]) := fun j hj => by
      obtain ⟨d, hd, x, ex, hx⟩ := paired_get h4 (List.getElem?_eq_getElem (show j < us.length by omega))
      have : d = (((sgs[j].a : Nat) : Int), sgs[j].q) := by
        unfold codsOf at hd
        rw [List.getElem?_map, List.getElem?_eq_getElem hj] at hd
        exact (Option.some.inj hd).symm
      subst this
      exact ⟨_, x, List.getElem?_eq_getElem hj, by rw [List.getElem?_eq_getElem (show j < us.length by omega), ex], hx⟩
    refine ⟨_, rfl, p, CP, dx, _, _, rfl, e1 _ _ h0, T.cl, T.c, pl_codes _ _ _, cv, us, rfl, .inr (SqT.of (e1 _ _ h3)), fun J G wk hG D nD => lcF wk (fun j => match sgs[j]? with | some h => decide (h.a ≤ i) | none => false) (fun j => us.getD j .non) (by rw [lu]; have := ch.few fun g hg => (ok g hg).lo; omega) nD (fun H' e => hG H' fun o z => e _ _ z) ?_ ?_⟩
    · rintro j x H2 H3 N N2 hj e2 ⟨rfl, hx⟩ yes no
      obtain ⟨h, y, j1, j2, j3⟩ := cvat j (by omega)
      rw [j2] at hx
      cases hx
      refine ⟨rfl, ?_⟩
      have j3' := e2 _ _ (e1 _ _ j3)
      refine ⟨_, rfl, y, _, _, _, rfl, rfl, SqT.of j3', atI_nat (j := 0) rfl, _, rfl, _, _, rfl, rfl, decide (((h.a : Nat) : Int) ≤ ((i : Nat) : Int)), rfl, ?_⟩
      rw [j1] at yes no
      by_cases c : h.a ≤ i
      · rw [decide_eq_true (show ((h.a : Nat) : Int) ≤ ((i : Nat) : Int) by omega)]
        have := yes (decide_eq_true c) _ (Same.refl _)
        rw [List.getD_eq_getElem?_getD, j2] at this
        exact iteT ⟨_, rfl, this⟩
      · rw [decide_eq_false (show ¬ ((h.a : Nat) : Int) ≤ ((i : Nat) : Int) by omega)]
        exact iteF (no (decide_eq_false c) _ (Same.refl _))
    · intro H2 e2 hD
      have ef : (List.range us.length).filter (fun j => match sgs[j]? with | some h => decide (h.a ≤ i) | none => false) = List.range (k + 1) := filt (by omega) fun j hj => by
        obtain ⟨h, y, j1, _, _⟩ := cvat j (by omega)
        rw [j1]
        exact decide_eq_decide.mpr (g4 j h j1)
      rw [ef] at hD
      obtain ⟨g', y, j1, j2, j3⟩ := cvat k kl
      have eg : g' = g := Option.some.inj (j1.symm.trans g1)
      subst eg
      have f2 := e1.trans e2
      refine ⟨_, rfl, D, _, _, .ref y, rfl, rfl, SqL.of hD, atI_neg1 (by
        rw [List.length_map, List.length_range, Nat.add_sub_cancel, List.getElem?_map, List.getElem?_range (by omega)]
        show some (us.getD k .non) = _
        rw [List.getD_eq_getElem?_getD, j2]
        rfl), ?_⟩
      refine ⟨y, _, rfl, SqT.of (f2 _ _ j3), rfl, _, _, rfl, _, _, rfl, rfl, ?_⟩
      obtain ⟨L, dx', lt, wt, tr, c1, c2, c3⟩ := cd g' hg
      obtain ⟨lo, hiE, glen, gfull, gsrv, gno, gcw, gwl⟩ := ok g' hg
      refine ⟨_, rfl, g'.q, C, dx', _, _, rfl, f2 _ _ c1, TC.cl, TC.w, co_words _ _ _ _ _, wt, _, rfl, .inr (SqT.of (f2 _ _ c3)), fun wp nwp => ?_⟩
      have e3 := f2.trans (same_new (o := .lst (g'.ws.map wV)) nwp)
      have w3 : upd H2 wp (.lst (g'.ws.map wV)) wp = some (.lst (g'.ws.map wV)) := upd_same
      have ht3 := (ht1.same e2).same (same_new (o := .lst (g'.ws.map wV)) nwp)
      generalize upd H2 wp (.lst (g'.ws.map wV)) = H3 at e3 w3 ht3 ⊢
      refine gN ?_
      dsimp only
      refine ⟨_, rfl, _, _, rfl, rfl, _, rfl, _, _, rfl, rfl, _, _, rfl, ⟨by omega, by omega, by omega, by omega⟩, ?_⟩
      have en : (((i : Nat) : Int) + 1 - (((g'.a : Nat) : Int) + 1)).toNat = i - g'.a := by omega
      rw [en]
      refine for_range (D := { nx := _, rt := Q, bk := fun _ _ => False, ct := fun _ _ => False }) (fun t σ H' => ∃ (wp : Addr) (ws : List W) (x y' z : Option V), σ = [some (.ref p), some (.int ((i : Nat) : Int)), some (.ref tp), some (.int ((g'.a : Nat) : Int)), some (.ref g'.q), none, some (.ref wp), x, y', z] ∧ Same H H' ∧ Ts H' tp tss ∧ H' wp = some (.lst (ws.map wV)) ∧ CW ws ∧ lens ws = grown prs tss g'.a g'.ls t) ⟨wp, g'.ws, none, none, none, rfl, e3, ht3, w3, gcw, gwl⟩ ?_ ?_
      · clear e3 w3 ht3 nwp
        rintro t σ H4 lt4 ⟨wp, ws, x, y', z, rfl, e4, ht4, w4, cw4, wl4⟩
        have ea : (((g'.a : Nat) : Int) + 1 + ((t : Nat) : Int)) = ((g'.a + t + 1 : Nat) : Int) := by omega
        rw [ea]
        refine gN ?_
        dsimp only
        have hv5 : vs[g'.a + t + 1]? = some (vs[g'.a + t + 1]'(by omega)) := List.getElem?_eq_getElem (by omega)
        have pv5 : PrV H4 (vs[g'.a + t + 1]'(by omega)) (Pa prs (g'.a + t + 1)) := (Hs.at h2 hv5).same e4
        obtain ⟨v, ev⟩ : ∃ v, v = vs[g'.a + t + 1]'(by omega) := ⟨_, rfl⟩
        rw [← ev] at hv5 pv5
        obtain ⟨u, rfl, pv5⟩ := pv5
        refine ⟨_, rfl, p, CP, dx, _, _, rfl, e4 _ _ h0, T.cl, T.h, pl_history _ _ _, _, rfl, hv, vs, _, _, rfl, rfl, SqT.of (e4 _ _ h1), atI_nat hv5, ?_⟩
        have gl := grown_len hi (a := g'.a) (l := g'.ls) glen t (by omega)
        have lw : ws.length = (Ta tss (g'.a + t)).length := by rw [← gl, ← wl4, List.length_map]
        have sz := hi.sz (g'.a + t) (by omega)
        have sz2 := hi.sz (g'.a + t + 1) (by omega)
        cases hpr : Pa prs (g'.a + t + 1) with
        | ta cs =>
          rw [hpr] at pv5
          obtain ⟨t0, k1, k2⟩ := pv5
          refine ⟨u, _, rfl, SqT.of k1, rfl, _, _, rfl, _, _, rfl, rfl, ?_⟩
          refine ⟨_, rfl, rfl, _, rfl, ?_⟩
          rw [decide_eq_false (by decide)]
          refine iteF ⟨wp, ws, _, _, _, rfl, e4, ht4, w4, cw4, ?_⟩
          show _ = stepL _ _ _
          rw [hpr]
          exact wl4
        | pt r =>
          rw [hpr] at pv5
          refine ⟨u, _, rfl, SqT.of pv5, rfl, _, _, rfl, _, _, rfl, rfl, ?_⟩
          refine ⟨_, rfl, rfl, _, rfl, ?_⟩
          rw [decide_eq_true rfl]
          refine iteT ?_
          have ei : (((g'.a + t + 1 : Nat) : Int) - 1) = ((g'.a + t : Nat) : Int) := by omega
          obtain ⟨f, f2⟩ := hi.nx (g'.a + t) (by omega)
          rw [hpr] at f f2
          have f : r ≤ (Ta tss (g'.a + t)).length := f
          obtain ⟨ts', z1, z2⟩ := id ht4
          obtain ⟨tb, i2, j2⟩ := z2.at (show g'.a + t < tss.length by have := hi.len; omega)
          refine ⟨_, rfl, _, rfl, _, rfl, _, _, rfl, rfl, tp, _, _, .ref tb, rfl, rfl, SqL.of z1, by rw [ei]; exact atI_nat (by rw [List.getElem?_map, i2]; rfl), ?_⟩
          refine ⟨tb, Ta tss (g'.a + t), rfl, .inr j2, by omega, fun j H5 fj e5 => ?_⟩
          have jl : j < ws.length := by rw [lw]; exact fj.lt
          refine ⟨_, rfl, wp, ws, j, r, rfl, .inl (e5 _ _ w4), jl, by omega, by omega, fun w hw => by have := (cw4.pos w hw).2; omega, fun D2 H6 e6 nD2 hD2 => ?_⟩
          refine gN ?_
          dsimp only
          have e46 := e5.trans e6
          have fw := cw4.fw.put (r := r) jl (by omega)
          have lp : (putW ws j r).length = ws.length + 1 := putW_len jl
          refine ⟨D2, putW ws j r, _, _, _, rfl, e4.trans e46, ht4.same e46, hD2, fw.cw (by omega) (by
            have f2 : Ta tss (g'.a + t + 1) = Grp.put (Ta tss (g'.a + t)) r 0 := f2
            rw [f2, Grp.put_len] at sz2
            omega), ?_⟩
          rw [lens_put r jl, wl4]
          show _ = stepL _ _ _
          rw [hpr]
          show _ = Grp.part _ (mi _) _
          rw [fj.mi]
      · rintro σ H4 ⟨wp, ws, x, y', z, rfl, e4, ht4, w4, cw4, wl4⟩
        refine ⟨_, rfl, wp, ws, rfl, w4, cw4, tabs.ext e4, fun q' L' H5 co nq e5 tab5 => ?_⟩
        rw [wl4] at co
        exact q g' hg g2 g3 q' L' ws H5 co ((LamX.ExtN.of e4).trans e5) tab5
end
end K40
set_option Elab.async false
set_option linter.all false
set_option maxRecDepth 100001
set_option maxHeartbeats 3999999
namespace K40
open PySem L2
open Huff (hf dot Best)
def spCOfL : Sp := fun vs H Q _ => ∃ (lt cp : Addr) (ls cs : List Nat), vs = [.ref lt, .ref cp] ∧ H lt = some (.lst (nV ls)) ∧ H cp = some (.tup (nV cs)) ∧ cs.length = ls.length ∧ ls.length ≤ 5000 ∧ Sm ls ∧ ∀ H', Same H H' → Q (.int ((dot ls cs : Nat) : Int)) H'
abbrev sSL : Stmt := topS 52
abbrev NSL : List Str := ["plan", "tallies", "pair", "end", "start", "code", "lengths", "index", "kind", "told", "sign"]
noncomputable def srvB (prs : List Pr) (tss : List (List Nat)) (a e : Nat) (ls : List Nat) : Bool := @decide (Srv prs tss a e ls) (Classical.propDecidable _)
theorem srvB_t {prs : List Pr} {tss : List (List Nat)} {a e : Nat} {ls : List Nat} (h : Srv prs tss a e ls) : srvB prs tss a e ls = true := @decide_eq_true _ (Classical.propDecidable _) h
theorem srvB_f {prs : List Pr} {tss : List (List Nat)} {a e : Nat} {ls : List Nat} (h : ¬ Srv prs tss a e ls) : srvB prs tss a e ls = false := @decide_eq_false _ (Classical.propDecidable _) h
/-- does a code serve from a up to e -/
def spSL (C CP : Addr) : Sp := fun vs H Q _ => ∃ (p tp x q : Addr) (prs : List Pr) (tss : List (List Nat)) (a e L : Nat) (ls : List Nat) (ws : List W) (cs : List (Int × Addr)) (ss : List (Int × Int)), vs = [.ref p, .ref tp, .ref x, .int ((e : Nat) : Int)] ∧ IsPl CP H p prs cs ss ∧ Ts H tp tss ∧ Hist prs tss ∧ a ≤ e ∧ e ≤ prs.length ∧
  H x = some (.tup [.int ((a : Nat) : Int), .ref q]) ∧ IsCo C H q L ls ws ∧ a < prs.length ∧ ls.length = (Ta tss a).length ∧ (∀ l ∈ ls, l ≤ 40) ∧ ∀ H', Same H H' → Q (.bl (srvB prs tss a e ls)) H'
section
variable {P : Program} {w : World} {K : PySem.W.Frag} {mg : Str → Option Value} {base : Heap}
theorem ok_cofL {f : Addr} {fd : FuncData} (F : Fun K "cost_of" "cost_of" sCostOf f fd) (Z : Bs mg) (mz : mg "zip" = none) : FnOk P w K mg base CX0 1 f fd ["lengths", "counts"] spCOfL := by
  refine F.ok scCOf (fun vs H Q E h => ?_) (fun cdv A outer s H vs Q E hr h => ?_)
  · obtain ⟨lt, cp, ls, cs, rfl, _⟩ := h
    rfl
  · obtain ⟨lt, cp, ls, cs, rfl, hl, hc, el, l5, sm, q⟩ := h
    refine ⟨_, pss_one (ps_ret (pe_sum rfl Z.sum (pa_cons (pe_lc (own := [("count", 2), ("length", 3)]) rfl scCOf.nd (ZM.pi_zipM true false mz (pa_cons (pv 1) (pa_cons (pv 0) pa_nil))) (blkOk_by (N := ["lengths", "counts", "count", "length"]) (sc := defScope sCostOf) (by decide +kernel))
          (fun _ _ _ _ _ => pg_pairK K rfl rfl (pg_name (i := 2) scCOf.nd rfl (Or.inl rfl) (.inr rfl)) (pg_name (i := 3) scCOf.nd rfl (Or.inl rfl) (.inr rfl))) (fun _ _ _ _ _ => pts_nil) (fun _ _ _ _ _ => pe_op op_mul (pv 2) (pv 3))) pa_nil))), ?_⟩
    have eN : min (nV cs).length (nV ls).length = ls.length := by rw [nV_len, nV_len, el, Nat.min_self]
    refine ⟨_, rfl, _, rfl, cp, lt, nV cs, nV ls, rfl, SqT.of hc, SqL.of hl, fun D nD => lcM (ZM.walk_zipM eN.symm) (fun i => .int ((lAt cs i * lAt ls i : Nat) : Int)) (by omega) nD (fun H' e => ⟨SqT.of (e _ _ hc), SqL.of (e _ _ hl)⟩) ?_ ?_⟩
    · rintro i x H2 H3 N hi e ⟨T0, y, z, rfl, nT0, rfl, hy, hz⟩ hN
      obtain ⟨i1, rfl⟩ := nV_get hy
      obtain ⟨i2, rfl⟩ := nV_get hz
      have b1 := sm _ (List.getElem_mem i2)
      rw [← lAt_get i2] at b1
      refine ⟨T0, _, rfl, SqT.of upd_same, rfl, _, _, rfl, _, _, rfl, rfl, rfl, ?_⟩
      refine ⟨_, rfl, _, rfl, _, _, rfl, rfl, .inr ⟨by omega, by omega⟩, ?_⟩
      have := hN _ (same_new (o := .tup [.int ((lAt cs i : Nat) : Int), .int ((lAt ls i : Nat) : Int)]) nT0)
      rw [Int.natCast_mul] at this
      exact this
    · intro H4 e4 hD
      refine ⟨D, (List.range ls.length).map fun i => ((lAt cs i * lAt ls i : Nat) : Int), rfl, SqL.of (by rw [List.map_map]; exact hD), ?_⟩
      rw [dot_sum el]
      exact q H4 e4
theorem scSL : FnScope NSL ["plan", "tallies", "pair", "end"] (defScope sSL) := ⟨rfl, rfl, rfl, by decide +kernel, rfl, by decide +kernel, by decide +kernel⟩
theorem part_sm {ls : List Nat} {j r k : Nat} (h : ∀ l ∈ ls, l ≤ k) (jl : j < ls.length) : ∀ l ∈ Grp.part ls j r, l ≤ k + 1 := fun l hl => by
  have hj : ls.getD j 0 ≤ k := by
    rw [getD_at jl]
    exact h _ (List.getElem_mem _)
  rcases List.mem_cons.mp ((Grp.put_perm _ _ _).mem_iff.mp hl) with rfl | hl
  · omega
  · rcases List.mem_or_eq_of_mem_set hl with hl | rfl
    · have := h l hl
      omega
    · omega
theorem ok_sl {f C CP : Addr} {fd : FuncData} (F : Fun K "stays_least" "stays_least" sSL f fd) (B : Bi mg) (T : TxP K CP) (TC : TxC K C) (cPS : Cal CX0 P w K mg base 1 "parted_sign" spPS) (cCo : Cal CX0 P w K mg base 1 "cost_of" spCOfL) (cLO : Cal CX0 P w K mg base 2 "least_of" spLO) : FnOk P w K mg base CX0 3 f fd ["plan", "tallies", "pair", "end"] (spSL C CP) := by
  refine F.ok scSL (fun vs H Q E h => ?_) (fun cdv A outer s H vs Q E hr h => ?_)
  · obtain ⟨p, tp, x, q, prs, tss, a, e, L, ls, ws, cs, ss, rfl, _⟩ := h
    rfl
  · obtain ⟨p, tp, x, q, prs, tss, a, e, L, ls, ws, cods, sts, rfl, ⟨dx, hv, cv, sv, vs, us, ts, h0, h1, h2, h3, h4, h5, h6⟩, ht, hi, ae, en, hx, ⟨dx', lt, wt, tr, c1, c2, c3⟩, al, el, sm, qq⟩ := h
    replace h2 := Paired.mapP h2 fun _ _ h => PrT.v h
    refine ⟨_, pss_cons (ps_asg (pv 2) (pg_tup rfl (pgs_cons (pg_name (i := 4) scSL.nd rfl (Or.inl rfl)) (pgs_cons (pg_name (i := 5) scSL.nd rfl (Or.inl rfl)) pgs_nil))))
      (pss_cons (ps_set (i := 6) scSL.nd rfl (Or.inl rfl) (pe_callTy call_list_of rfl B.list (by decide +kernel) (pa_cons (pe_fld (pv 5) rfl) pa_nil)))
      (pss_cons (ps_for PassesOwn.never rfl (pi_range2 rfl B.range (pa_cons (pv 4) (pa_cons (pv 3) pa_nil))) (pg_name (i := 7) scSL.nd rfl (Or.inl rfl))
        (pss_cons (ps_asg (pe_ix ix_tup (pe_fld (pv 0) rfl) (pv 7) (fun _ _ => rfl)) (pg_tup rfl (pgs_cons (pg_name (i := 8) scSL.nd rfl (Or.inl rfl)) (pgs_cons (pg_name (i := 9) scSL.nd rfl (Or.inl rfl)) pgs_nil))))
        (pss_cons (ps_if (PW.pt (pw_and (pt_cmpR op_eq (pv 8) pe_str (nomark _)) (pw_and1 (pt_cmpR op_gt (pv 7) (pv 4) (nomark _))))) (pss_cons (ps_set (i := 10) scSL.nd rfl (Or.inl rfl) (pe_c cPS hr pass0 (pa_cons (pe_ix ix_list (pv 1) (pe_op op_sub (pv 7) pe_int) (fun _ _ => rfl)) pa_nil)))
          (pss_cons (ps_augS (pv 6) (pv 10) get_list pe_int ip_add set_list)
          (pss_one (ps_expr (pe_bm PySem.F.plainAttrs_list PySem.F.slot_list_insert PySem.F.type_list_insert mt_insert (pv 6) (pa_cons (pv 9) (pa_cons (pe_ix ix_list (pv 6) (pv 10) (fun _ _ => rfl)) pa_nil))))))) pss_nil)
        (pss_one (ps_if (pt_cmpR op_ne (pe_c cCo hr pass0 (pa_cons (pv 6) (pa_cons (pe_ix ix_list (pv 1) (pv 7) (fun _ _ => rfl)) pa_nil))) (pe_c cLO hr pass0 (pa_cons (pe_ix ix_list (pv 1) (pv 7) (fun _ _ => rfl)) pa_nil)) (nomark _)) (pss_one (ps_ret pe_bl)) pss_nil)))))
      (pss_one (ps_ret pe_bl)))), ?_⟩
    have lv : vs.length = prs.length := Paired.length h2
    have top := hi.top
    have sza := hi.sz a al
    refine ⟨_, rfl, x, _, rfl, SqT.of hx, rfl, _, _, rfl, _, _, rfl, rfl, ?_⟩
    refine ⟨_, rfl, q, C, dx', _, _, rfl, c1, TC.cl, TC.l, co_lengths _ _ _ _ _, lt, _, rfl, .inr (SqT.of c2), fun lp nlp => ?_⟩
    have e1 := same_new (o := .lst (nV ls)) nlp
    have l1 : upd H lp (.lst (nV ls)) lp = some (.lst (nV ls)) := upd_same
    have ht1 := ht.same e1
    show gName 6 (.ref lp) _ (upd H lp (.lst (nV ls))) _
    generalize upd H lp (.lst (nV ls)) = H1 at e1 l1 ht1 ⊢
    refine gN ?_
    dsimp only
    refine ⟨_, rfl, _, rfl, _, _, rfl, ⟨by omega, by omega, by omega, by omega⟩, ?_⟩
    rw [show (((e : Nat) : Int) - ((a : Nat) : Int)).toNat = e - a by omega]
    refine for_range (D := { nx := _, rt := Q, bk := fun _ _ => False, ct := fun _ _ => False }) (fun t σ H' => ∃ (x' y' z' u' : Option V) (ls' : List Nat), σ = [some (.ref p), some (.ref tp), some (.ref x), some (.int ((e : Nat) : Int)), some (.int ((a : Nat) : Int)), some (.ref q), some (.ref lp), x', y', z', u'] ∧ Same H H' ∧ Ts H' tp tss ∧ H' lp = some (.lst (nV ls')) ∧ ls' = grown prs tss a ls (t - 1) ∧ (∀ l ∈ ls', l ≤ 40 + t) ∧ Srv prs tss a (a + t) ls) ⟨none, none, none, none, ls, rfl, e1, ht1, l1, rfl, sm, fun k hk => by omega⟩ ?_ ?_
    · clear e1 ht1 l1
      rintro t σ H2 lt2 ⟨x', y', z', u', ls', rfl, e2, ht2, l2, g2, sm2, sv2⟩
      rw [show (((a : Nat) : Int) + ((t : Nat) : Int)) = ((a + t : Nat) : Int) by omega]
      refine gN ?_
      dsimp only
      have hv5 : vs[a + t]? = some (vs[a + t]'(by omega)) := List.getElem?_eq_getElem (by omega)
      have pv5 : PrV H2 (vs[a + t]'(by omega)) (Pa prs (a + t)) := (Hs.at h2 hv5).same e2
      obtain ⟨v, ev⟩ : ∃ v, v = vs[a + t]'(by omega) := ⟨_, rfl⟩
      rw [← ev] at hv5 pv5
      obtain ⟨u, rfl, pv5⟩ := pv5
      refine ⟨_, rfl, p, CP, dx, _, _, rfl, e2 _ _ h0, T.cl, T.h, pl_history _ _ _, _, rfl, hv, vs, _, _, rfl, rfl, SqT.of (e2 _ _ h1), atI_nat hv5, ?_⟩
      have sz := hi.sz (a + t) (by omega)
      have gl := grown_len hi (a := a) (l := ls) el t (by omega)
      -- the rest of a turn
      have fin : ∀ (D : Ends) (k w2 : V) (o : Option V) (H5 : Hp), Same H H5 → Ts H5 tp tss → H5 lp = some (.lst (nV (grown prs tss a ls t))) → (∀ l ∈ grown prs tss a ls t, l ≤ 40 + (t + 1)) →
          (∀ H', Same H H' → Ts H' tp tss → H' lp = some (.lst (nV (grown prs tss a ls t))) → Srv prs tss a (a + t + 1) ls → D.nx [some (.ref p), some (.ref tp), some (.ref x), some (.int ((e : Nat) : Int)), some (.int ((a : Nat) : Int)), some (.ref q), some (.ref lp), some (.int ((a + t : Nat) : Int)), some k, some w2, o] H') → (∀ v H', Q v H' → D.rt v H') →
          tIfS (tTest (tOp rNe (tCall spCOfL [] E0 (tCons (tVar 6) (tCons (tOp (rIxL K) (tVar 1) (tVar 7)) tNil))) (tCall spLO [] E0 (tCons (tOp (rIxL K) (tVar 1) (tVar 7)) tNil)))) (tRet (tC (.bl false))) tNext
            D [some (.ref p), some (.ref tp), some (.ref x), some (.int ((e : Nat) : Int)), some (.int ((a : Nat) : Int)), some (.ref q), some (.ref lp), some (.int ((a + t : Nat) : Int)), some k, some w2, o] H5 := by
        intro D k w2 o H5 e5 ht5 l5 sm5 nx rt
        obtain ⟨ts', z1, z2⟩ := id ht5
        obtain ⟨tb, i2, j2⟩ := z2.at (show a + t < tss.length by have := hi.len; omega)
        have ix : atI (ts'.map V.ref) ((a + t : Nat) : Int) = some (.ref tb) := atI_nat (by rw [List.getElem?_map, i2]; rfl)
        refine ⟨_, rfl, _, rfl, _, rfl, tp, _, _, .ref tb, rfl, rfl, SqL.of z1, ix, lp, tb, grown prs tss a ls t, Ta tss (a + t), rfl, l5, j2, by rw [gl], by rw [gl]; omega, fun l hl => by have := sm5 l hl; omega, fun H6 e6 => ?_⟩
        refine ⟨_, rfl, _, rfl, tp, _, _, .ref tb, rfl, rfl, SqL.of (e6 _ _ z1), ix, tb, Ta tss (a + t), rfl, .inr (e6 _ _ j2), by omega, by omega, fun H7 e7 => ?_⟩
        refine ⟨rfl, ?_⟩
        have ii : ∀ i j : Nat, (((i : Nat) : Int) == ((j : Nat) : Int)) = decide (i = j) := fun i j => by rw [Bool.eq_iff_iff]; simp; omega
        rw [dec_int, ii]
        have e57 := e6.trans e7
        by_cases c : dot (grown prs tss a ls t) (Ta tss (a + t)) = hf (Ta tss (a + t))
        · rw [decide_eq_true c]
          exact ⟨_, rfl, iteF (nx H7 (e5.trans e57) (ht5.same e57) (e57 _ _ l5) (Srv.succ.mpr ⟨sv2, c⟩))⟩
        · rw [decide_eq_false c]
          refine ⟨_, rfl, iteT (rt _ _ ?_)⟩
          have := qq H7 (e5.trans e57)
          rw [srvB_f fun z => c (z t (by omega))] at this
          exact this
      have go : ∀ (ls3 : List Nat), ls3 = grown prs tss a ls t → ls' = ls3 → nV ls' = nV (grown prs tss a ls t) ∧ (∀ l ∈ grown prs tss a ls t, l ≤ 40 + (t + 1)) := fun ls3 h1 h2 => by
        rw [← h1, ← h2]
        exact ⟨rfl, fun l hl => Nat.le_succ_of_le (sm2 l hl)⟩
      cases hpr : Pa prs (a + t) with
      | ta cs =>
        rw [hpr] at pv5
        obtain ⟨t9, k1, k2⟩ := pv5
        refine ⟨u, _, rfl, SqT.of k1, rfl, _, _, rfl, _, _, rfl, rfl, ?_⟩
        refine ⟨_, rfl, rfl, _, rfl, ?_⟩
        rw [decide_eq_false (by decide)]
        refine iteF ?_
        obtain ⟨g3, sm3⟩ := go ls' (by
          rw [g2]
          cases t with
          | zero => rfl
          | succ t =>
            show _ = stepL _ _ _
            rw [show a + t + 1 = a + (t + 1) from rfl, hpr]
            rfl) rfl
        rw [g3] at l2
        exact fin _ _ _ _ H2 e2 ht2 l2 sm3 (fun H' e' ht' l' sv' => ⟨_, _, _, _, _, rfl, e', ht', l', rfl, sm3, sv'⟩) fun _ _ z => z
      | pt r =>
        rw [hpr] at pv5
        refine ⟨u, _, rfl, SqT.of pv5, rfl, _, _, rfl, _, _, rfl, rfl, ?_⟩
        refine ⟨_, rfl, rfl, _, rfl, ?_⟩
        rw [decide_eq_true rfl]
        refine iteT ?_
        refine ⟨_, rfl, _, rfl, _, _, rfl, rfl, _, rfl, ?_⟩
        cases t with
        | zero =>
          rw [decide_eq_false (by omega)]
          refine iteF ?_
          obtain ⟨g3, sm3⟩ := go ls' g2 rfl
          rw [g3] at l2
          exact fin _ _ _ _ H2 e2 ht2 l2 sm3 (fun H' e' ht' l' sv' => ⟨_, _, _, _, _, rfl, e', ht', l', rfl, sm3, sv'⟩) fun _ _ z => z
        | succ t =>
          rw [decide_eq_true (by omega)]
          refine iteT ?_
          have g2 : ls' = grown prs tss a ls t := g2
          obtain ⟨ts', z1, z2⟩ := id ht2
          obtain ⟨tb, i2, j2⟩ := z2.at (show a + t < tss.length by have := hi.len; omega)
          have ei : (((a + (t + 1) : Nat) : Int) - 1) = ((a + t : Nat) : Int) := by omega
          have sz' := hi.sz (a + t) (by omega)
          have gl' := grown_len hi (a := a) (l := ls) el t (by omega)
          obtain ⟨f1, f2⟩ := hi.nx (a + t) (by omega)
          rw [show a + t + 1 = a + (t + 1) from rfl, hpr] at f1
          have f1 : r ≤ (Ta tss (a + t)).length := f1
          refine ⟨_, rfl, _, rfl, _, _, rfl, rfl, tp, _, _, .ref tb, rfl, rfl, SqL.of z1, by rw [ei]; exact atI_nat (by rw [List.getElem?_map, i2]; rfl), ?_⟩
          refine ⟨tb, Ta tss (a + t), rfl, .inr j2, by omega, fun j H3 fj e3 => ?_⟩
          have l3 := e3 _ _ l2
          have lj : j < ls'.length := by rw [g2, gl']; exact fj.lt
          refine gN ?_
          dsimp only
          refine ⟨_, rfl, _, rfl, lp, nV ls', j, _, rfl, rfl, l3, nV_at lj, ?_⟩
          refine ⟨_, _, rfl, rfl, lp, _, _, j, rfl, rfl, l3, ixn (by rw [nV_len]; omega), ?_⟩
          have eset : (nV ls').set j (.int (((lAt ls' j : Nat) : Int) + 1)) = nV (ls'.set j (ls'.getD j 0 + 1)) := by
            unfold nV
            rw [List.map_set]
            rfl
          rw [eset]
          have nlp' : ∀ {b : Addr} {o : HO}, H b = some o → b ≠ lp := fun z => ne_of_none z nlp
          have e4 : Same H (upd H3 lp (.lst (nV (ls'.set j (ls'.getD j 0 + 1))))) := fun b o z => (upd_ne (nlp' z)).trans (e3 _ _ (e2 _ _ z))
          have l4 : upd H3 lp (.lst (nV (ls'.set j (ls'.getD j 0 + 1)))) lp = some (.lst (nV (ls'.set j (ls'.getD j 0 + 1)))) := upd_same
          obtain ⟨ts9, y1, y2⟩ := id ht
          generalize upd H3 lp (.lst (nV (ls'.set j (ls'.getD j 0 + 1)))) = H4 at e4 l4 ⊢
          refine ⟨_, rfl, .inl ⟨rfl, _, SqL.of l4⟩, _, rfl, _, rfl, _, rfl, lp, _, _, _, rfl, rfl, SqL.of l4, atI_nat (nV_at (ls := ls'.set j (ls'.getD j 0 + 1)) (i := j) (by rw [List.length_set]; exact lj)), lp, _, _, _, rfl, rfl, l4, small10 (by rw [nV_len, List.length_set, g2, gl']; omega), by omega, by omega, ?_⟩
          have ex : lAt (ls'.set j (ls'.getD j 0 + 1)) j = ls'.getD j 0 + 1 := by
            show (ls'.set j (ls'.getD j 0 + 1)).getD j 0 = _
            rw [List.getD_eq_getElem?_getD, List.getElem?_set_self lj]
            rfl
          rw [ex, Int.toNat_natCast, show (nV (ls'.set j (ls'.getD j 0 + 1))).take r ++ [V.int ((ls'.getD j 0 + 1 : Nat) : Int)] ++ (nV (ls'.set j (ls'.getD j 0 + 1))).drop r = nV (Grp.part ls' j r) by
            unfold Grp.part Grp.put nV
            rw [List.map_append, List.map_append, List.map_take, List.map_drop]
            rfl]
          have gg : Grp.part ls' j r = grown prs tss a ls (t + 1) := by
            show _ = stepL _ _ _
            rw [show a + t + 1 = a + (t + 1) from rfl, hpr]
            show _ = Grp.part _ (mi _) _
            rw [fj.mi, g2]
          have sm3 : ∀ l ∈ grown prs tss a ls (t + 1), l ≤ 40 + (t + 1 + 1) := by
            rw [← gg]
            exact part_sm sm2 lj
          rw [gg]
          have e5 : Same H (upd H4 lp (.lst (nV (grown prs tss a ls (t + 1))))) := fun b o z => (upd_ne (nlp' z)).trans (e4 _ _ z)
          have l5 : upd H4 lp (.lst (nV (grown prs tss a ls (t + 1)))) lp = some (.lst (nV (grown prs tss a ls (t + 1)))) := upd_same
          have ht5 : Ts (upd H4 lp (.lst (nV (grown prs tss a ls (t + 1))))) tp tss := ht.same e5
          exact fin _ _ _ _ _ e5 ht5 l5 sm3 (fun H' e' ht' l' sv' => ⟨_, _, _, _, _, rfl, e', ht', l', rfl, sm3, sv'⟩) fun _ _ z => z
    · rintro σ H2 ⟨x', y', z', u', ls', rfl, e2, ht2, l2, g2, sm2, sv2⟩
      rw [show a + (e - a) = e by omega] at sv2
      have := qq H2 e2
      rw [srvB_t sv2] at this
      exact this
end
end K40
set_option Elab.async false
set_option linter.all false
set_option maxRecDepth 100001
set_option maxHeartbeats 3999999
namespace K40
open PySem L2
open Huff (hf dot Best)
theorem IsPl.same {C p : Addr} {H H' : Hp} {prs : List Pr} {cs : List (Int × Addr)} {ss : List (Int × Int)} (h : IsPl C H p prs cs ss) (e : Same H H') : IsPl C H' p prs cs ss :=
  let ⟨dx, hv, cv, sv, vs, us, ts, h0, h1, h2, h3, h4, h5, h6⟩ := h
  ⟨dx, hv, cv, sv, vs, us, ts, e _ _ h0, e _ _ h1, Paired.mapP h2 fun _ _ h => h.tt (TT.same e), e _ _ h3, Paired.mapP h4 fun _ _ h => h.kp (L := []) (Kp.of e) (fun _ h => nomatch h), e _ _ h5, Paired.mapP h6 fun _ _ h => h.kp (L := []) (Kp.of e) (fun _ h => nomatch h)⟩
def loAt (cods : List (Int × Addr)) : Nat → Int
  | 0 => 0
  | i + 1 => match cods[i]? with
    | some y => y.1 + 1
    | none => 0
def endAt (n : Nat) (cods : List (Int × Addr)) (i : Nat) : Nat := match cods[i + 1]? with
  | some y => y.1.toNat
  | none => n
def okAt (n : Nat) (tss : List (List Nat)) (lsOf : Addr → List Nat) (cods : List (Int × Addr)) (i : Nat) (x : Int × Addr) : Prop := loAt cods i ≤ x.1 ∧ x.1 ≤ ((n : Nat) : Int) - 1 ∧ (lsOf x.2).length = (Ta tss x.1.toNat).length
/-- codes that stay least up to where the next one begins -/
structure AreC (prs : List Pr) (tss : List (List Nat)) (lsOf : Addr → List Nat) (cods : List (Int × Addr)) : Prop where
  ne : cods ≠ []
  ok : ∀ i x, cods[i]? = some x → okAt prs.length tss lsOf cods i x
  st : ∀ x, cods[0]? = some x → x.1 = 0
  srv : ∀ i x, cods[i]? = some x → Srv prs tss x.1.toNat (endAt prs.length cods i) (lsOf x.2)
noncomputable def areB (prs : List Pr) (tss : List (List Nat)) (lsOf : Addr → List Nat) (cods : List (Int × Addr)) : Bool := @decide (AreC prs tss lsOf cods) (Classical.propDecidable _)
section
variable {prs : List Pr} {tss : List (List Nat)} {lsOf : Addr → List Nat} {cods : List (Int × Addr)}
theorem areB_t (h : AreC prs tss lsOf cods) : areB prs tss lsOf cods = true := @decide_eq_true _ (Classical.propDecidable _) h
theorem areB_f (h : ¬ AreC prs tss lsOf cods) : areB prs tss lsOf cods = false := @decide_eq_false _ (Classical.propDecidable _) h
theorem lo_pos' : ∀ i, (∀ j x, j < i → cods[j]? = some x → okAt prs.length tss lsOf cods j x) → 0 ≤ loAt cods i
  | 0, _ => Int.le_refl _
  | i + 1, ok => by
    show 0 ≤ (match cods[i]? with | some y => y.1 + 1 | none => 0)
    cases h : cods[i]? with
    | none => exact Int.le_refl _
    | some y =>
      have h1 := (ok i y (Nat.lt_succ_self _) h).1
      have h2 := lo_pos' i fun j x hj => ok j x (by omega)
      show 0 ≤ y.1 + 1
      omega
theorem lo_pos (ok : ∀ i x, cods[i]? = some x → okAt prs.length tss lsOf cods i x) (i : Nat) : 0 ≤ loAt cods i := lo_pos' i fun j x _ => ok j x
theorem end_of (ok : ∀ i x, cods[i]? = some x → okAt prs.length tss lsOf cods i x) {i : Nat} {x : Int × Addr} (h : cods[i]? = some x) : ∃ a : Nat, x.1 = ((a : Nat) : Int) ∧ a < endAt prs.length cods i ∧ endAt prs.length cods i ≤ prs.length ∧ a < prs.length := by
  have h1 := ok i x h
  have h2 := lo_pos ok i
  obtain ⟨z1, z2, z3⟩ := h1
  refine ⟨x.1.toNat, by omega, ?_, ?_, by omega⟩
  · unfold endAt
    cases h5 : cods[i + 1]? with
    | none =>
      show _ < prs.length
      omega
    | some y =>
      have h6 := (ok (i + 1) y h5).1
      have e : loAt cods (i + 1) = x.1 + 1 := by
        show (match cods[i]? with | some y => y.1 + 1 | none => 0) = _
        rw [h]
      show _ < y.1.toNat
      omega
  · unfold endAt
    cases h5 : cods[i + 1]? with
    | none => exact Nat.le_refl _
    | some y =>
      have h6 := (ok (i + 1) y h5).2.1
      show y.1.toNat ≤ _
      omega
end
abbrev sAC : Stmt := topS 51
abbrev NAC : List Str := ["plan", "tallies", "least", "pair", "ends", "end"]
def spAC (C CP : Addr) : Sp := fun vs H Q _ => ∃ (p tp : Addr) (prs : List Pr) (tss : List (List Nat)) (cods : List (Int × Addr)) (sts : List (Int × Int)) (lsOf : Addr → List Nat), vs = [.ref p, .ref tp] ∧ IsPl CP H p prs cods sts ∧ Ts H tp tss ∧ Hist prs tss ∧ cods.length ≤ 1000 ∧
  (∀ x ∈ cods, ∃ L ws, IsCo C H x.2 L (lsOf x.2) ws ∧ ∀ l ∈ lsOf x.2, l ≤ 40) ∧ ∀ H', Same H H' → Q (.bl (areB prs tss lsOf cods)) H'
section
variable {P : Program} {w : World} {K : PySem.W.Frag} {mg : Str → Option Value} {base : Heap}
theorem scAC : FnScope NAC ["plan", "tallies"] (defScope sAC) := ⟨rfl, rfl, rfl, by decide +kernel, rfl, by decide +kernel, by decide +kernel⟩
theorem ok_ac {f C CP : Addr} {fd : FuncData} (F : Fun K "are_codes" "are_codes" sAC f fd) (B : Bi mg) (Z : Bs mg) (mz : mg "zip" = none) (T : TxP K CP) (TC : TxC K C) (TE : TxE K C) (gC : mg "Code" = some (.ref C)) (cT : Cal CX0 P w K mg base 1 "is_tuple_of" spTupOf) (cB : Cal CX0 P w K mg base 2 "is_between" spBetween) (cS : Cal CX0 P w K mg base 3 "stays_least" (spSL C CP)) : FnOk P w K mg base CX0 4 f fd ["plan", "tallies"] (spAC C CP) := by
  refine F.ok scAC (fun vs H Q E h => ?_) (fun cdv A outer s H vs Q E hr h => ?_)
  · obtain ⟨p, tp, prs, tss, cods, sts, lsOf, rfl, _⟩ := h
    rfl
  · obtain ⟨p, tp, prs, tss, cods, sts, lsOf, rfl, ⟨dx, hv, cv, sv, vs, us, ts, h0, h1, h2, h3, h4, h5, h6⟩, ht, hi, c10, cd, q⟩ := h
    refine ⟨_, pss_cons (ps_if (PW.pt (pw_or (pt_not (pt_val (pe_isi B.isi (pa_cons (pe_fld (pv 0) rfl) (pa_cons (pe_ty "tuple" B.tuple) pa_nil))))) (pw_or1 (pt_not (pt_truth (pe_fld (pv 0) rfl) (by intro _; rfl)))))) (pss_one (ps_ret pe_bl)) pss_nil)
      (pss_cons (ps_set (i := 2) scAC.nd rfl (Or.inl rfl) pe_int)
      (pss_cons (ps_for PassesOwn.never rfl (pi_sqA (pe_fld (pv 0) rfl)) (pg_name (i := 3) scAC.nd rfl (Or.inl rfl))
        (pss_cons (ps_if (PW.pt (pw_or (pt_not (pt_val (pe_c cT hr pass0 (pa_cons (pv 3) (pa_cons pe_int pa_nil))))) (pw_or1 (pt_not (pt_val (pe_c cB hr pass0 (pa_cons (pe_ix ix_tup (pv 3) pe_int (fun _ _ => rfl)) (pa_cons (pv 2) (pa_cons (pe_op op_sub (pe_len B.len (pa_cons (pv 1) pa_nil)) pe_int) pa_nil))))))))) (pss_one (ps_ret pe_bl)) pss_nil)
        (pss_cons (ps_if (PW.pt (pw_or (pt_not (pt_val (pe_isi B.isi (pa_cons (pe_ix ix_tup (pv 3) pe_int (fun _ _ => rfl)) (pa_cons (pe_glob (v := .ref C) rfl gC rfl) pa_nil))))) (pw_or1 (pt_cmpR op_ne (pe_fld (pe_ix ix_tup (pv 3) pe_int (fun _ _ => rfl)) rfl) (pe_len B.len (pa_cons (pe_ix ix_list (pv 1) (pe_ix ix_tup (pv 3) pe_int (fun _ _ => rfl)) (fun _ _ => rfl)) pa_nil)) (nomark _))))) (pss_one (ps_ret pe_bl)) pss_nil)
        (pss_one (ps_set (i := 2) scAC.nd rfl (Or.inl rfl) (pe_op op_add (pe_ix ix_tup (pv 3) pe_int (fun _ _ => rfl)) pe_int))))))
      (pss_cons (ps_if (pt_cmpR op_ne (pe_ix ix_tup (pe_ix ix_tup (pe_fld (pv 0) rfl) pe_int (fun _ _ => rfl)) pe_int (fun _ _ => rfl)) pe_int (nomark _)) (pss_one (ps_ret pe_bl)) pss_nil)
      (pss_cons (ps_set (i := 4) scAC.nd rfl (Or.inl rfl) (pe_op op_cat (pe_lc (own := [("pair", 3)]) rfl scAC.nd (pi_sqA (pe_slice sl_tupA (pe_fld (pv 0) rfl) (po_some pe_int) po_none)) (blkOk_by (N := NAC) (sc := defScope sAC) (by decide +kernel)) (fun _ _ _ _ _ => (pg_name (i := 3) scAC.nd rfl (Or.inl rfl))) (fun _ _ _ _ _ => pts_nil) (fun _ _ _ _ _ => (pe_ix (ix_tupK K rfl) (pv 3) pe_int (fun _ _ => rfl)))) (pe_lst (pa_cons (pe_len B.len (pa_cons (pv 1) pa_nil)) pa_nil))))
      (pss_one (ps_ret (pe_all rfl Z.all (pa_cons (pe_lc (own := [("pair", 3), ("end", 5)]) rfl scAC.nd (ZM.pi_zipM true false mz (pa_cons (pe_fld (pv 0) rfl) (pa_cons (pv 4) pa_nil))) (blkOk_by (N := NAC) (sc := defScope sAC) (by decide +kernel)) (fun _ _ _ _ _ => (pg_pairK K rfl rfl (pg_name (i := 3) scAC.nd rfl (Or.inl rfl) (.inr rfl)) (pg_name (i := 5) scAC.nd rfl (Or.inl rfl) (.inr rfl)))) (fun _ _ _ _ _ => pts_nil) (fun _ _ _ _ _ => (pe_c cS hr pass0 (pa_cons (pv 0) (pa_cons (pv 1) (pa_cons (pv 3) (pa_cons (pv 5) pa_nil))))))) pa_nil)))))))), ?_⟩
    have lu : us.length = cods.length := Paired.length h4
    have top := hi.top
    have qf : ∀ H', Same H H' → ¬ AreC prs tss lsOf cods → Q (.bl false) H' := fun H' e n => by
      have := q H' e
      rw [areB_f n] at this
      exact this
    obtain ⟨t, ty, _, _, kt, _, _⟩ := (Kn.tup h3).kinds K
    rw [isT_tup h3] at kt
    refine ⟨_, rfl, p, CP, dx, _, _, rfl, h0, T.cl, T.c, pl_codes _ _ _, _, _, _, _, _, rfl, .ty "tuple", ty, kt, _, rfl, iteF ?_⟩
    refine ⟨_, rfl, p, CP, dx, _, _, rfl, h0, T.cl, T.c, pl_codes _ _ _, _, .inr (.inl ⟨us, SqT.of h3, rfl⟩), ?_⟩
    by_cases ne : cods = []
    · have eu : us = [] := by
        rw [ne] at lu
        exact List.eq_nil_of_length_eq_zero lu
      rw [eu]
      exact iteT (qf H (Same.refl _) fun z => z.ne ne)
    rw [show us.isEmpty = false by cases us with | nil => exact absurd (List.eq_nil_of_length_eq_zero lu.symm) ne | cons _ _ => rfl]
    refine iteF ?_
    refine ⟨_, rfl, ?_⟩
    obtain ⟨tts, ht1, ht2⟩ := id ht
    have ltt : tts.length = prs.length := by rw [Paired.length ht2, hi.len]
    refine ⟨p, CP, dx, _, _, rfl, h0, T.cl, T.c, pl_codes _ _ _, cv, us, rfl, .inr (SqT.of h3), fun J G wk hG => for_it wk (fun i σ H' => ∃ (o : Option V), σ = [some (.ref p), some (.ref tp), some (.int (loAt cods i)), o, none, none] ∧ Same H H' ∧ ∀ j x, j < i → cods[j]? = some x → okAt prs.length tss lsOf cods j x) ⟨none, rfl, Same.refl _, fun j x h => absurd h (Nat.not_lt_zero _)⟩ (fun i σ H' _ ⟨_, _, e, _⟩ => hG H' fun o z => e _ _ z) ?_ ?_⟩
    · rintro i x σ H2 H3 hi2 ⟨o, rfl, e2, okp⟩ ⟨rfl, hx⟩
      obtain ⟨d, hd, a, rfl, ha⟩ := paired_get h4 hx
      have ha2 := e2 _ _ ha
      obtain ⟨L, ws, co, bl⟩ := cd d (List.mem_of_getElem? hd)
      refine gN ?_
      dsimp only
      have eT : isTn H3 (.ref a) 2 = true := by simp only [isTn, ha2]; rfl
      refine ⟨_, rfl, _, 2, rfl, .tup ha2, ?_⟩
      rw [eT]
      refine ⟨_, rfl, iteF ?_⟩
      refine ⟨_, rfl, a, _, _, _, rfl, rfl, SqT.of ha2, atI_nat (j := 0) rfl, _, rfl, _, rfl, tp, _, rfl, .inl (SqL.of (e2 _ _ ht1)), _, _, rfl, rfl, _, _, _, rfl, .int _, ?_⟩
      rw [List.length_map, ltt]
      by_cases c1 : loAt cods i ≤ d.1 ∧ d.1 ≤ ((prs.length : Nat) : Int) - 1
      · rw [show btw (.int d.1) (loAt cods i) (((prs.length : Nat) : Int) - 1) = true from decide_eq_true c1]
        refine ⟨_, rfl, iteF ?_⟩
        have lp := lo_pos' i okp
        obtain ⟨k, ek⟩ : ∃ k : Nat, d.1 = ((k : Nat) : Int) := ⟨d.1.toNat, by omega⟩
        obtain ⟨dx', lt, wt, tr, z1, z2, z3⟩ := id co
        have z1' := e2 _ _ z1
        have co2 : IsCo C H3 d.2 L (lsOf d.2) ws := ⟨dx', lt, wt, tr, z1', e2 _ _ z2, e2 _ _ z3⟩
        obtain ⟨tb, i2, j2⟩ := ht2.at (show k < tss.length by have := hi.len; omega)
        refine ⟨_, rfl, a, _, _, _, rfl, rfl, SqT.of ha2, atI_nat (j := 1) rfl, _, _, _, _, _, rfl, .own C, co2.ty TC TE, kit_self, _, rfl, iteF ?_⟩
        refine ⟨_, rfl, a, _, _, _, rfl, rfl, SqT.of ha2, atI_nat (j := 1) rfl, d.2, C, dx', _, _, rfl, z1', TC.cl, TC.s, co_size _ _ _ _ _, ?_⟩
        refine ⟨_, rfl, _, rfl, a, _, _, _, rfl, rfl, SqT.of ha2, atI_nat (j := 0) rfl, tp, _, _, .ref tb, rfl, rfl, SqL.of (e2 _ _ ht1), by rw [ek]; exact atI_nat (by rw [List.getElem?_map, i2]; rfl), tb, _, rfl, .inr (SqT.of (e2 _ _ j2)), rfl, ?_⟩
        rw [dec_int, nV_len]
        have ii : ∀ i j : Nat, (((i : Nat) : Int) == ((j : Nat) : Int)) = decide (i = j) := fun i j => by rw [Bool.eq_iff_iff]; simp; omega
        rw [ii]
        have etn : d.1.toNat = k := by omega
        by_cases c2 : (lsOf d.2).length = (Ta tss k).length
        · rw [decide_eq_true c2]
          refine ⟨_, rfl, iteF ?_⟩
          refine ⟨_, rfl, a, _, _, _, rfl, rfl, SqT.of ha2, atI_nat (j := 0) rfl, _, _, rfl, rfl, ?_⟩
          refine gN ?_
          dsimp only
          have elo : loAt cods (i + 1) = d.1 + 1 := by
            show (match cods[i]? with | some y => y.1 + 1 | none => 0) = _
            rw [hd]
          refine ⟨_, by rw [elo]; rfl, e2, fun j x' hj hx' => ?_⟩
          by_cases c : j = i
          · subst c
            have : d = x' := Option.some.inj (hd.symm.trans hx')
            subst this
            exact ⟨c1.1, c1.2, by rw [etn]; exact c2⟩
          · exact okp j x' (by omega) hx'
        · rw [decide_eq_false c2]
          exact ⟨_, rfl, iteT (qf _ e2 fun z => c2 (by have := (z.ok i d hd).2.2; rw [etn] at this; exact this))⟩
      · rw [show btw (.int d.1) (loAt cods i) (((prs.length : Nat) : Int) - 1) = false from decide_eq_false c1]
        refine ⟨_, rfl, iteT (qf _ e2 fun z => c1 ⟨(z.ok i d hd).1, (z.ok i d hd).2.1⟩)⟩
    · rintro σ H2 ⟨o, rfl, e2, okp⟩
      have ok : ∀ i x, cods[i]? = some x → okAt prs.length tss lsOf cods i x := fun i x h => okp i x (by have := (List.getElem?_eq_some_iff.mp h).1; omega) h
      have l0 : 0 < cods.length := List.length_pos_iff.mpr ne
      obtain ⟨d0, hd0, a0, ea0, ha0⟩ := paired_get h4 (List.getElem?_eq_getElem (show 0 < us.length by omega))
      have u0 : us[0]? = some (.ref a0) := by rw [List.getElem?_eq_getElem (show 0 < us.length by omega), ea0]
      refine ⟨_, rfl, p, CP, dx, _, _, rfl, e2 _ _ h0, T.cl, T.c, pl_codes _ _ _, cv, us, _, _, rfl, rfl, SqT.of (e2 _ _ h3), atI_nat (j := 0) u0, a0, _, _, _, rfl, rfl, SqT.of (e2 _ _ ha0), atI_nat (j := 0) rfl, rfl, ?_⟩
      rw [dec_int]
      have jj : ∀ i j : Int, (i == j) = decide (i = j) := fun i j => by rw [Bool.eq_iff_iff]; simp
      rw [jj]
      by_cases c0 : d0.1 = 0
      · rw [decide_eq_true c0]
        refine ⟨_, rfl, iteF ?_⟩
        refine ⟨_, rfl, p, CP, dx, _, _, rfl, e2 _ _ h0, T.cl, T.c, pl_codes _ _ _, ?_⟩
        refine ⟨_, rfl, ?_⟩
        simp only [tNoPart]
        refine slA (e2 _ _ h3) fun t1 H3 e3 ht3 => ?_
        have ecut : cutV us (some 1) none = us.drop 1 := cut_from (k := 1) (by omega)
        rw [ecut] at ht3
        refine ⟨t1, _, rfl, .inr (SqT.of ht3), fun J2 G2 wk2 hG2 D nD => lcM wk2 (fun i => .int (cods.getD (i + 1) (0, 0)).1) (by rw [List.length_drop]; omega) nD (fun H' e => hG2 H' fun o z => e _ _ z) ?_ ?_⟩
        · rintro i x H4 H5 N hi4 e4 ⟨rfl, hx⟩ fin
          rw [List.getElem?_drop] at hx
          obtain ⟨d, hd, a, rfl, ha⟩ := paired_get h4 hx
          have f := fin _ (Same.refl _)
          rw [Nat.add_comm] at hd
          rw [List.getD_eq_getElem?_getD, hd] at f
          exact ⟨rfl, _, rfl, a, _, _, _, rfl, rfl, SqT.of (e4 _ _ (e3 _ _ (e2 _ _ ha))), atI_nat (j := 0) rfl, f⟩
        · intro H4 e4 hD
          rw [List.length_drop, lu] at hD
          have f4 := e2.trans (e3.trans e4)
          refine ⟨_, rfl, tp, _, rfl, .inl (SqL.of (f4 _ _ ht1)), ?_⟩
          rw [List.length_map, ltt]
          refine ⟨by show 1 ≤ sizeLine; decide, fun o1 n1 => ?_⟩
          have e5 := same_new (o := .lst [.int ((prs.length : Nat) : Int)]) n1
          have o5 : upd H4 o1 (.lst [.int ((prs.length : Nat) : Int)]) o1 = some (.lst [.int ((prs.length : Nat) : Int)]) := upd_same
          have D5 := e5 _ _ hD
          have f5 := f4.trans e5
          generalize upd H4 o1 (.lst [.int ((prs.length : Nat) : Int)]) = H5 at o5 D5 f5 ⊢
          refine ⟨D, o1, _, _, rfl, rfl, D5, o5, by rw [List.length_map, List.length_range]; exact Nat.le_of_lt (small10 (by show _ + 1 ≤ _; omega)), fun ep nep => ?_⟩
          have e6 := same_new (o := .lst ((List.range (cods.length - 1)).map (fun i => V.int (cods.getD (i + 1) (0, 0)).1) ++ [.int ((prs.length : Nat) : Int)])) nep
          have p6 : upd H5 ep (.lst ((List.range (cods.length - 1)).map (fun i => V.int (cods.getD (i + 1) (0, 0)).1) ++ [.int ((prs.length : Nat) : Int)])) ep = some (.lst ((List.range (cods.length - 1)).map (fun i => V.int (cods.getD (i + 1) (0, 0)).1) ++ [.int ((prs.length : Nat) : Int)])) := upd_same
          have f6 := f5.trans e6
          generalize upd H5 ep (.lst ((List.range (cods.length - 1)).map (fun i => V.int (cods.getD (i + 1) (0, 0)).1) ++ [.int ((prs.length : Nat) : Int)])) = H6 at p6 f6 ⊢
          have ends : ((List.range (cods.length - 1)).map (fun i => V.int (cods.getD (i + 1) (0, 0)).1) ++ [V.int ((prs.length : Nat) : Int)]) = (List.range cods.length).map fun i => V.int ((endAt prs.length cods i : Nat) : Int) := by
            refine List.ext_getElem (by simp; omega) fun i g1 g2 => ?_
            have gi : i < cods.length := by simpa using g2
            rw [List.getElem_map, List.getElem_range]
            by_cases c : i < cods.length - 1
            · rw [List.getElem_append_left (by simpa using c), List.getElem_map, List.getElem_range]
              unfold endAt
              rw [List.getD_eq_getElem?_getD, List.getElem?_eq_getElem (by omega)]
              have z := ok (i + 1) _ (List.getElem?_eq_getElem (show i + 1 < cods.length by omega))
              have z1 := z.1
              have z2 := lo_pos ok (i + 1)
              show V.int cods[i + 1].1 = V.int ((cods[i + 1].1.toNat : Nat) : Int)
              rw [Int.toNat_of_nonneg (by omega)]
            · rw [List.getElem_append_right (by simpa using c)]
              unfold endAt
              rw [List.getElem?_eq_none (by omega)]
              simp
          rw [ends] at p6
          refine gN ?_
          refine ⟨_, rfl, p, CP, dx, _, _, rfl, f6 _ _ h0, T.cl, T.c, pl_codes _ _ _, _, rfl, cv, ep, us, _, rfl, SqT.of (f6 _ _ h3), SqL.of p6, fun D2 nD2 => lcM (ZM.walk_zipM (n := cods.length) (by rw [List.length_map, List.length_range, lu, Nat.min_self])) (fun i => .bl (match cods[i]? with | some x => srvB prs tss x.1.toNat (endAt prs.length cods i) (lsOf x.2) | none => true)) (by omega) nD2 (fun H' e => ⟨SqT.of (e _ _ (f6 _ _ h3)), SqL.of (e _ _ p6)⟩) ?_ ?_⟩
          · rintro i x H7 H8 N hi7 e7 ⟨T0, y, z, rfl, nT0, rfl, hy, hz⟩ fin
            obtain ⟨d, hd, a, rfl, ha⟩ := paired_get h4 hy
            dsimp only at hz
            rw [List.getElem?_map, List.getElem?_range hi7] at hz
            cases hz
            rw [hd] at fin
            obtain ⟨k, ek, k1, k2, k3⟩ := end_of ok hd
            have e8 := same_new (o := .tup [.ref a, .int ((endAt prs.length cods i : Nat) : Int)]) nT0
            have f8 := (f6.trans e7).trans e8
            obtain ⟨L, ws, ⟨dx', lt, wt, tr, z1, z2, z3⟩, bl⟩ := cd d (List.mem_of_getElem? hd)
            refine ⟨T0, _, rfl, SqT.of upd_same, rfl, _, _, rfl, _, _, rfl, rfl, rfl, ?_⟩
            generalize upd H7 T0 (.tup [.ref a, .int ((endAt prs.length cods i : Nat) : Int)]) = H8 at e8 f8 ⊢
            have okd := ok i d hd
            have etn : d.1.toNat = k := by omega
            have ha8 := f8 _ _ ha
            rw [ek] at ha8
            refine ⟨_, rfl, _, rfl, _, rfl, _, rfl, p, tp, a, d.2, prs, tss, k, endAt prs.length cods i, L, lsOf d.2, ws, cods, sts, rfl, IsPl.same ⟨dx, hv, cv, sv, vs, us, ts, h0, h1, h2, h3, h4, h5, h6⟩ f8, ht.same f8, hi, by omega, k2, ha8, ⟨dx', lt, wt, tr, f8 _ _ z1, f8 _ _ z2, f8 _ _ z3⟩, k3, by rw [okd.2.2, etn], bl, fun H9 e9 => ?_⟩
            have := fin H9 (e8.trans e9)
            dsimp only at this
            rw [etn] at this
            exact this
          · intro H7 e7 hD2
            refine ⟨D2, (List.range cods.length).map fun i => (match cods[i]? with | some x => srvB prs tss x.1.toNat (endAt prs.length cods i) (lsOf x.2) | none => true), rfl, SqL.of (by rw [List.map_map]; exact hD2), ?_⟩
            have := q H7 (f6.trans e7)
            have eb : ((List.range cods.length).map fun i => (match cods[i]? with | some x => srvB prs tss x.1.toNat (endAt prs.length cods i) (lsOf x.2) | none => true)).all id = areB prs tss lsOf cods := by
              by_cases A : AreC prs tss lsOf cods
              · rw [areB_t A, List.all_eq_true]
                intro b hb
                obtain ⟨i, hi9, rfl⟩ := List.mem_map.mp hb
                have hi9 := List.mem_range.mp hi9
                rw [List.getElem?_eq_getElem hi9]
                exact srvB_t (A.srv i _ (List.getElem?_eq_getElem hi9))
              · rw [areB_f A, List.all_eq_false]
                have : ∃ i x, cods[i]? = some x ∧ ¬ Srv prs tss x.1.toNat (endAt prs.length cods i) (lsOf x.2) := Classical.byContradiction fun no => A ⟨ne, ok, fun x hx => by rw [hd0] at hx; cases hx; exact c0, fun i x hx => Classical.byContradiction fun n => no ⟨i, x, hx, n⟩⟩
                obtain ⟨i, x, hx, n⟩ := this
                refine ⟨_, List.mem_map.mpr ⟨i, List.mem_range.mpr (List.getElem?_eq_some_iff.mp hx).1, rfl⟩, ?_⟩
                rw [hx]
                show ¬ srvB _ _ _ _ _ = true
                rw [srvB_f n]
                decide
            rw [eb]
            exact this
      · rw [decide_eq_false c0]
        exact ⟨_, rfl, iteT (qf _ e2 fun z => c0 (z.st d0 hd0))⟩
end
end K40
set_option Elab.async false
set_option linter.all false
set_option maxRecDepth 100001
set_option maxHeartbeats 3999999
namespace K40
open PySem L2
open Huff (hf dot Best)
def loS (sts : List (Int × Int)) : Nat → Int
  | 0 => 0
  | i + 1 => match sts[i]? with
    | some y => y.2
    | none => 0
def okS (n : Nat) (sts : List (Int × Int)) (i : Nat) (x : Int × Int) : Prop := (loS sts i ≤ x.1 ∧ x.1 ≤ ((n : Nat) : Int) - 1) ∧ x.1 ≤ x.2 ∧ x.2 ≤ ((n : Nat) : Int) - 1
/-- no code serves from a up to e, e with it -/
def NoC (prs : List Pr) (tss : List (List Nat)) (a e : Nat) : Prop := ∀ l, l.length = (Ta tss a).length → Huff.Full l → ¬ Srv prs tss a (e + 1) l
structure AreS (prs : List Pr) (tss : List (List Nat)) (m : Nat) (sts : List (Int × Int)) : Prop where
  len : ((sts.length : Nat) : Int) = ((m : Nat) : Int) - 1
  ok : ∀ i x, sts[i]? = some x → okS prs.length sts i x
  no : ∀ (i : Nat) (x : Int × Int), sts[i]? = some x → NoC prs tss x.1.toNat x.2.toNat
noncomputable def areSB (prs : List Pr) (tss : List (List Nat)) (m : Nat) (sts : List (Int × Int)) : Bool := @decide (AreS prs tss m sts) (Classical.propDecidable _)
noncomputable def noB (prs : List Pr) (tss : List (List Nat)) (a e : Nat) : Bool := @decide (NoC prs tss a e) (Classical.propDecidable _)
section
variable {prs : List Pr} {tss : List (List Nat)} {m a e : Nat} {sts : List (Int × Int)}
theorem areSB_t (h : AreS prs tss m sts) : areSB prs tss m sts = true := @decide_eq_true _ (Classical.propDecidable _) h
theorem areSB_f (h : ¬ AreS prs tss m sts) : areSB prs tss m sts = false := @decide_eq_false _ (Classical.propDecidable _) h
theorem noB_t (h : NoC prs tss a e) : noB prs tss a e = true := @decide_eq_true _ (Classical.propDecidable _) h
theorem noB_f (h : ¬ NoC prs tss a e) : noB prs tss a e = false := @decide_eq_false _ (Classical.propDecidable _) h
theorem loS_pos : ∀ i, (∀ j x, j < i → sts[j]? = some x → okS prs.length sts j x) → 0 ≤ loS sts i
  | 0, _ => Int.le_refl _
  | i + 1, ok => by
    show 0 ≤ (match sts[i]? with | some y => y.2 | none => 0)
    cases h : sts[i]? with
    | none => exact Int.le_refl _
    | some y =>
      have h1 := ok i y (Nat.lt_succ_self _) h
      have h2 := loS_pos i fun j x hj => ok j x (by omega)
      obtain ⟨⟨z1, z2⟩, z3, z4⟩ := h1
      show 0 ≤ y.2
      omega
end
/-- how far one code goes, where no code goes on -/
theorem Far.noB {prs : List Pr} {tss : List (List Nat)} {a e f : Nat} {ss : List Nat} (hi : Hist prs tss) (h : Far prs tss a (e + 1) f ss) (ha : a < prs.length) : noB prs tss a e = decide (f ≤ e) := by
  by_cases c : f ≤ e
  · rw [decide_eq_true c]
    refine noB_t fun l el fl s => h.no (by omega) l el fl fun k hk => s k (by omega)
  · rw [decide_eq_false c]
    refine noB_f fun n => ?_
    have ef : f = e + 1 := by have := h.hi; omega
    have z := hi.sz a ha
    obtain ⟨b, B, _⟩ := Huff.best_ex (cs := ss) (by rw [h.len]; omega)
    have lb : b.length = (Ta tss a).length := by rw [B.len, h.len]
    have := (h.iff b lb B.full).mpr B.eq
    rw [ef] at this
    exact n b lb B.full this
abbrev sAS : Stmt := topS 53
abbrev NAS : List Str := ["plan", "tallies", "least", "pair", "start", "end"]
def spAS (CP : Addr) : Sp := fun vs H Q _ => ∃ (p tp : Addr) (prs : List Pr) (tss : List (List Nat)) (cods : List (Int × Addr)) (sts : List (Int × Int)), vs = [.ref p, .ref tp] ∧ IsPl CP H p prs cods sts ∧ Ts H tp tss ∧ Hist prs tss ∧ cods.length ≤ 1000 ∧ ∀ H', Same H H' → Q (.bl (areSB prs tss cods.length sts)) H'
abbrev sIP : Stmt := topS 50
noncomputable def plB (prs : List Pr) (tss : List (List Nat)) (lsOf : Addr → List Nat) (cods : List (Int × Addr)) (sts : List (Int × Int)) : Bool := areB prs tss lsOf cods && areSB prs tss cods.length sts
def spIP (C CP : Addr) : Sp := fun vs H Q _ => ∃ (p : Addr) (prs : List Pr) (tss : List (List Nat)) (cods : List (Int × Addr)) (sts : List (Int × Int)) (lsOf : Addr → List Nat), vs = [.ref p] ∧ IsPl CP H p prs cods sts ∧ Hist prs tss ∧ cods.length ≤ 1000 ∧
  (∀ x ∈ cods, ∃ L ws, IsCo C H x.2 L (lsOf x.2) ws ∧ ∀ l ∈ lsOf x.2, l ≤ 40) ∧ ∀ H', Same H H' → Q (.bl (plB prs tss lsOf cods sts)) H'
section
variable {P : Program} {w : World} {K : PySem.W.Frag} {mg : Str → Option Value} {base : Heap}
theorem scAS : FnScope NAS ["plan", "tallies"] (defScope sAS) := ⟨rfl, rfl, rfl, by decide +kernel, rfl, by decide +kernel, by decide +kernel⟩
theorem ok_as {f CG CP : Addr} {fd : FuncData} (F : Fun K "are_stops" "are_stops" sAS f fd) (B : Bi mg) (Z : Bs mg) (T : TxP K CP) (cT : Cal CX0 P w K mg base 1 "is_tuple_of" spTupOf) (cB : Cal CX0 P w K mg base 2 "is_between" spBetween) (cFar : Cal CX0 P w K mg base 5 "farthest" (spFar CG)) : FnOk P w K mg base CX0 6 f fd ["plan", "tallies"] (spAS CP) := by
  refine F.ok scAS (fun vs H Q E h => ?_) (fun cdv A outer s H vs Q E hr h => ?_)
  · obtain ⟨p, tp, prs, tss, cods, sts, rfl, _⟩ := h
    rfl
  · obtain ⟨p, tp, prs, tss, cods, sts, rfl, ⟨dx, hv, cv, sv, vs, us, ts, h0, h1, h2, h3, h4, h5, h6⟩, ht, hi, c10, q⟩ := h
    replace h2 := Paired.mapP h2 fun _ _ h => PrT.v h
    refine ⟨_, pss_cons (ps_if (pt_not (pt_val (pe_c cT hr pass0 (pa_cons (pe_fld (pv 0) rfl) (pa_cons (pe_op op_sub (pe_len B.len (pa_cons (pe_fld (pv 0) rfl) pa_nil)) pe_int) pa_nil))))) (pss_one (ps_ret pe_bl)) pss_nil)
      (pss_cons (ps_set (i := 2) scAS.nd rfl (Or.inl rfl) pe_int)
      (pss_cons (ps_for PassesOwn.never rfl (pi_sqA (pe_fld (pv 0) rfl)) (pg_name (i := 3) scAS.nd rfl (Or.inl rfl))
        (pss_cons (ps_if (PW.pt (pw_or (pt_not (pt_val (pe_c cT hr pass0 (pa_cons (pv 3) (pa_cons pe_int pa_nil))))) (pw_or1 (pt_not (pt_val (pe_c cB hr pass0 (pa_cons (pe_ix ix_tup (pv 3) pe_int (fun _ _ => rfl)) (pa_cons (pv 2) (pa_cons (pe_op op_sub (pe_len B.len (pa_cons (pv 1) pa_nil)) pe_int) pa_nil))))))))) (pss_one (ps_ret pe_bl)) pss_nil)
        (pss_cons (ps_if (pt_not (pt_val (pe_c cB hr pass0 (pa_cons (pe_ix ix_tup (pv 3) pe_int (fun _ _ => rfl)) (pa_cons (pe_ix ix_tup (pv 3) pe_int (fun _ _ => rfl)) (pa_cons (pe_op op_sub (pe_len B.len (pa_cons (pv 1) pa_nil)) pe_int) pa_nil)))))) (pss_one (ps_ret pe_bl)) pss_nil)
        (pss_one (ps_set (i := 2) scAS.nd rfl (Or.inl rfl) (pe_ix ix_tup (pv 3) pe_int (fun _ _ => rfl)))))))
      (pss_one (ps_ret (pe_all rfl Z.all (pa_cons (pe_lc (own := [("start", 4), ("end", 5)]) rfl scAS.nd (pi_sqA (pe_fld (pv 0) rfl)) (blkOk_by (N := NAS) (sc := defScope sAS) (by decide +kernel)) (fun _ _ _ _ _ => (pg_pairK K rfl rfl (pg_name (i := 4) scAS.nd rfl (Or.inl rfl) (.inr rfl)) (pg_name (i := 5) scAS.nd rfl (Or.inl rfl) (.inr rfl)))) (fun _ _ _ _ _ => pts_nil) (fun _ _ _ _ _ => (pe_cmpR op_le (pe_ix (ix_tupK K rfl) (pe_c cFar hr pass0 (pa_cons (pe_fldK K rfl (pv 0) rfl) (pa_cons (pv 1) (pa_cons (pv 4) (pa_cons (pe_op op_add (pv 5) pe_int) pa_nil))))) pe_int (fun _ _ => rfl)) (pv 5) (nomark _)))) pa_nil)))))), ?_⟩
    have lu : us.length = cods.length := by rw [Paired.length h4]
    have lt : ts.length = sts.length := by rw [Paired.length h6]
    have top := hi.top
    have qf : ∀ H', Same H H' → ¬ AreS prs tss cods.length sts → Q (.bl false) H' := fun H' e n => by
      have := q H' e
      rw [areSB_f n] at this
      exact this
    have eT0 : isTn H (.ref sv) (((us.length : Nat) : Int) - 1) = decide (((sts.length : Nat) : Int) = ((cods.length : Nat) : Int) - 1) := by simp only [isTn, h5, lt, lu]
    refine ⟨_, rfl, p, CP, dx, _, _, rfl, h0, T.cl, T.s, pl_stops _ _ _, _, rfl, p, CP, dx, _, _, rfl, h0, T.cl, T.c, pl_codes _ _ _, cv, us, rfl, .inr (SqT.of h3), _, _, rfl, rfl, _, _, rfl, .tup h5, ?_⟩
    rw [eT0]
    by_cases el : ((sts.length : Nat) : Int) = ((cods.length : Nat) : Int) - 1
    · rw [decide_eq_true el]
      refine ⟨_, rfl, iteF ?_⟩
      refine ⟨_, rfl, ?_⟩
      obtain ⟨tts, ht1, ht2⟩ := id ht
      have ltt : tts.length = prs.length := by rw [Paired.length ht2, hi.len]
      refine ⟨p, CP, dx, _, _, rfl, h0, T.cl, T.s, pl_stops _ _ _, sv, ts, rfl, .inr (SqT.of h5), fun J G wk hG => for_it wk (fun i σ H' => ∃ (o : Option V), σ = [some (.ref p), some (.ref tp), some (.int (loS sts i)), o, none, none] ∧ Same H H' ∧ ∀ j x, j < i → sts[j]? = some x → okS prs.length sts j x) ⟨none, rfl, Same.refl _, fun j x h => absurd h (Nat.not_lt_zero _)⟩ (fun i σ H' _ ⟨_, _, e, _⟩ => hG H' fun o z => e _ _ z) ?_ ?_⟩
      · rintro i x σ H2 H3 hi2 ⟨o, rfl, e2, okp⟩ ⟨rfl, hx⟩
        obtain ⟨d, hd, a, rfl, ha⟩ := paired_get h6 hx
        have ha2 := e2 _ _ ha
        refine gN ?_
        dsimp only
        have eT : isTn H3 (.ref a) 2 = true := by simp only [isTn, ha2]; rfl
        refine ⟨_, rfl, _, 2, rfl, .tup ha2, ?_⟩
        rw [eT]
        refine ⟨_, rfl, iteF ?_⟩
        refine ⟨_, rfl, a, _, _, _, rfl, rfl, SqT.of ha2, atI_nat (j := 0) rfl, _, rfl, _, rfl, tp, _, rfl, .inl (SqL.of (e2 _ _ ht1)), _, _, rfl, rfl, _, _, _, rfl, .int _, ?_⟩
        rw [List.length_map, ltt]
        by_cases c1 : loS sts i ≤ d.1 ∧ d.1 ≤ ((prs.length : Nat) : Int) - 1
        · rw [show btw (.int d.1) (loS sts i) (((prs.length : Nat) : Int) - 1) = true from decide_eq_true c1]
          refine ⟨_, rfl, iteF ?_⟩
          refine ⟨_, rfl, a, _, _, _, rfl, rfl, SqT.of ha2, atI_nat (j := 1) rfl, _, rfl, a, _, _, _, rfl, rfl, SqT.of ha2, atI_nat (j := 0) rfl, _, rfl, tp, _, rfl, .inl (SqL.of (e2 _ _ ht1)), _, _, rfl, rfl, _, _, _, rfl, .int _, ?_⟩
          rw [List.length_map, ltt]
          by_cases c2 : d.1 ≤ d.2 ∧ d.2 ≤ ((prs.length : Nat) : Int) - 1
          · rw [show btw (.int d.2) d.1 (((prs.length : Nat) : Int) - 1) = true from decide_eq_true c2]
            refine ⟨_, rfl, iteF ?_⟩
            refine ⟨_, rfl, a, _, _, _, rfl, rfl, SqT.of ha2, atI_nat (j := 1) rfl, ?_⟩
            refine gN ?_
            have elo : loS sts (i + 1) = d.2 := by
              show (match sts[i]? with | some y => y.2 | none => 0) = _
              rw [hd]
            refine ⟨_, by rw [elo]; rfl, e2, fun j x' hj hx' => ?_⟩
            by_cases c : j = i
            · subst c
              have : d = x' := Option.some.inj (hd.symm.trans hx')
              subst this
              exact ⟨c1, c2⟩
            · exact okp j x' (by omega) hx'
          · rw [show btw (.int d.2) d.1 (((prs.length : Nat) : Int) - 1) = false from decide_eq_false c2]
            exact ⟨_, rfl, iteT (qf _ e2 fun z => c2 (z.ok i d hd).2)⟩
        · rw [show btw (.int d.1) (loS sts i) (((prs.length : Nat) : Int) - 1) = false from decide_eq_false c1]
          exact ⟨_, rfl, iteT (qf _ e2 fun z => c1 (z.ok i d hd).1)⟩
      · rintro σ H2 ⟨o, rfl, e2, okp⟩
        have ok : ∀ i x, sts[i]? = some x → okS prs.length sts i x := fun i x h => okp i x (by have := (List.getElem?_eq_some_iff.mp h).1; omega) h
        refine ⟨_, rfl, p, CP, dx, _, _, rfl, e2 _ _ h0, T.cl, T.s, pl_stops _ _ _, sv, ts, rfl, .inr (SqT.of (e2 _ _ h5)), fun J2 G2 wk2 hG2 D nD => lcM wk2 (fun i => .bl (match sts[i]? with | some x => noB prs tss x.1.toNat x.2.toNat | none => true)) (by omega) nD (fun H' e => hG2 H' fun o z => e _ _ z) ?_ ?_⟩
        · rintro i x H4 H5 N hi4 e4 ⟨rfl, hx⟩ fin
          obtain ⟨d, hd, a, rfl, ha⟩ := paired_get h6 hx
          rw [hd] at fin
          have f5 := e2.trans e4
          have ha5 := f5 _ _ ha
          obtain ⟨⟨z1, z2⟩, z3, z4⟩ := ok i d hd
          have lp := loS_pos (prs := prs) i fun j x hj => ok j x
          obtain ⟨k, ek⟩ : ∃ k : Nat, d.1 = ((k : Nat) : Int) := ⟨d.1.toNat, by omega⟩
          obtain ⟨k2, ek2⟩ : ∃ k : Nat, d.2 = ((k : Nat) : Int) := ⟨d.2.toNat, by omega⟩
          rw [ek, ek2] at ha5
          dsimp only at fin
          rw [show d.1.toNat = k by omega, show d.2.toNat = k2 by omega] at fin
          refine ⟨a, _, rfl, SqT.of ha5, rfl, _, _, rfl, _, _, rfl, rfl, rfl, ?_⟩
          refine ⟨_, rfl, p, CP, dx, _, _, rfl, f5 _ _ h0, T.cl, T.h, pl_history _ _ _, _, rfl, _, rfl, _, rfl, _, _, rfl, rfl, hv, tp, prs, tss, k, k2 + 1, rfl, ⟨vs, .inr (f5 _ _ h1), Paired.mapP h2 fun _ _ h => h.same f5⟩, ht.same f5, hi, by omega, by omega, fun t p' dx' gp dp sp gs ds ss m e H6 e6 h7 G far => ?_⟩
          refine ⟨t, _, _, _, rfl, rfl, SqT.of h7, atI_nat (j := 1) rfl, _, rfl, _, _, rfl, rfl, ?_⟩
          have := fin H6 e6
          rw [far.noB hi (by omega)] at this
          rw [show decide (e ≤ k2) = decide (((e : Nat) : Int) ≤ ((k2 : Nat) : Int)) from decide_eq_decide.mpr ⟨fun h => by omega, fun h => by omega⟩] at this
          exact this
        · intro H7 e7 hD2
          refine ⟨D, (List.range ts.length).map fun i => (match sts[i]? with | some x => noB prs tss x.1.toNat x.2.toNat | none => true), rfl, SqL.of (by rw [List.map_map]; exact hD2), ?_⟩
          have := q H7 (e2.trans e7)
          have eb : ((List.range ts.length).map fun i => (match sts[i]? with | some x => noB prs tss x.1.toNat x.2.toNat | none => true)).all id = areSB prs tss cods.length sts := by
            by_cases A : AreS prs tss cods.length sts
            · rw [areSB_t A, List.all_eq_true]
              intro b hb
              obtain ⟨i, hi9, rfl⟩ := List.mem_map.mp hb
              have hi9 := List.mem_range.mp hi9
              rw [List.getElem?_eq_getElem (show i < sts.length by omega)]
              exact noB_t (A.no i _ (List.getElem?_eq_getElem (by omega)))
            · rw [areSB_f A, List.all_eq_false]
              have : ∃ (i : Nat) (x : Int × Int), sts[i]? = some x ∧ ¬ NoC prs tss x.1.toNat x.2.toNat := Classical.byContradiction fun no => A ⟨el, ok, fun i x hx => Classical.byContradiction fun n => no ⟨i, x, hx, n⟩⟩
              obtain ⟨i, x, hx, n⟩ := this
              refine ⟨_, List.mem_map.mpr ⟨i, List.mem_range.mpr (by have := (List.getElem?_eq_some_iff.mp hx).1; omega), rfl⟩, ?_⟩
              rw [hx]
              show ¬ noB _ _ _ _ = true
              rw [noB_f n]
              decide
          rw [eb]
          exact this
    · rw [decide_eq_false el]
      exact ⟨_, rfl, iteT (qf _ (Same.refl _) fun z => el z.len)⟩
theorem scIP : FnScope ["plan", "tallies"] ["plan"] (defScope sIP) := ⟨rfl, rfl, rfl, by decide +kernel, rfl, by decide +kernel, by decide +kernel⟩
theorem ok_ip {f C CP : Addr} {fd : FuncData} (F : Fun K "is_plan" "is_plan" sIP f fd) (B : Bi mg) (T : TxP K CP) (cTO : Cal CX0 P w K mg base 7 "tallies_of" spTO) (cAC : Cal CX0 P w K mg base 4 "are_codes" (spAC C CP)) (cAS : Cal CX0 P w K mg base 6 "are_stops" (spAS CP)) : FnOk P w K mg base CX0 8 f fd ["plan"] (spIP C CP) := by
  refine F.ok scIP (fun vs H Q E h => ?_) (fun cdv A outer s H vs Q E hr h => ?_)
  · obtain ⟨p, prs, tss, cods, sts, lsOf, rfl, _⟩ := h
    rfl
  · obtain ⟨p, prs, tss, cods, sts, lsOf, rfl, pl, hi, c10, cd, q⟩ := h
    refine ⟨_, pss_cons (ps_if (pt_not (pt_val (pe_isi B.isi (pa_cons (pe_fld (pv 0) rfl) (pa_cons (pe_ty "tuple" B.tuple) pa_nil))))) (pss_one (ps_ret pe_bl)) pss_nil)
      (pss_cons (ps_set (i := 1) scIP.nd rfl (Or.inl rfl) (pe_c cTO hr pass0 (pa_cons (pe_fld (pv 0) rfl) pa_nil)))
      (pss_one (ps_ret (pe_and (pe_c cAC hr pass0 (pa_cons (pv 0) (pa_cons (pv 1) pa_nil))) (pe_one (pe_c cAS hr pass0 (pa_cons (pv 0) (pa_cons (pv 1) pa_nil)))))))), ?_⟩
    obtain ⟨dx, hv, cv, sv, vs, us, ts, h0, h1, h2, h3, h4, h5, h6⟩ := id pl
    replace h2 := Paired.mapP h2 fun _ _ h => PrT.v h
    obtain ⟨t, ty, _, _, kt, _, _⟩ := (Kn.tup h1).kinds K
    rw [isT_tup h1] at kt
    refine ⟨_, rfl, p, CP, dx, _, _, rfl, h0, T.cl, T.h, pl_history _ _ _, _, _, _, _, _, rfl, .ty "tuple", ty, kt, _, rfl, iteF ?_⟩
    refine ⟨_, rfl, p, CP, dx, _, _, rfl, h0, T.cl, T.h, pl_history _ _ _, hv, prs, tss, rfl, ⟨vs, .inr h1, h2⟩, hi, fun tp H1 e1 ntp ht1 => ?_⟩
    refine gN ?_
    have same : ∀ {H'}, Same H H' → ∀ x ∈ cods, ∃ L ws, IsCo C H' x.2 L (lsOf x.2) ws ∧ ∀ l ∈ lsOf x.2, l ≤ 40 := fun e x hx => by
      obtain ⟨L, ws, co, bl⟩ := cd x hx
      exact ⟨L, ws, co.kp (L := []) (Kp.of e) (fun _ h => nomatch h), bl⟩
    refine ⟨_, rfl, _, rfl, p, tp, prs, tss, cods, sts, lsOf, rfl, pl.same e1, ht1, hi, c10, same e1, fun H2 e2 => ?_⟩
    have e12 := e1.trans e2
    cases hb : areB prs tss lsOf cods with
    | false =>
      have := q H2 e12
      unfold plB at this
      rw [hb] at this
      exact ⟨_, rfl, this⟩
    | true =>
      refine ⟨_, rfl, _, rfl, _, rfl, p, tp, prs, tss, cods, sts, rfl, pl.same e12, ht1.same e2, hi, c10, fun H3 e3 => ?_⟩
      have := q H3 (e12.trans e3)
      unfold plB at this
      rw [hb] at this
      exact this
end
end K40
set_option Elab.async false
set_option linter.all false
set_option maxRecDepth 100001
set_option maxHeartbeats 3999999
namespace K40
open PySem L2
open Huff (hf dot Best)
/-- xs[:r] + [y] + xs[r:] -/
theorem cut_in {K : PySem.W.Frag} {σ : St} {H : Hp} {i j : Nat} {p : Addr} {xs : List V} {y : V} {r : Nat} {Q : VK} (hi : σ[i]? = some (some (.ref p))) (hj : σ[j]? = some (some (.int ((r : Nat) : Int)))) (hp : H p = some (.lst xs)) (hr : r ≤ xs.length) (hs : xs.length ≤ 9000)
    (q : ∀ D H', Same H H' → H D = none → H' D = some (.lst (xs.take r ++ [y] ++ xs.drop r)) → Q (.ref D) H') :
    tOp rCat (tOp rCat (tSl (rSlL K) (tVar i) tNoPart (tPart (tVar j))) (tLst (tCons (tC y) tNil))) (tSl (rSlL K) (tVar i) (tPart (tVar j)) tNoPart) σ H Q := by
  refine ⟨_, hi, ?_⟩
  simp only [tNoPart]
  refine ⟨_, hj, _, rfl, p, _, rfl, SqL.of hp, fun p1 np1 => ?_⟩
  rw [cut_to (by omega)]
  have e2 := same_new (o := .lst (xs.take r)) np1
  have h2 : upd H p1 (.lst (xs.take r)) p1 = some (.lst (xs.take r)) := upd_same
  have hp2 := e2 _ _ hp
  generalize upd H p1 (.lst (xs.take r)) = H2 at e2 h2 hp2 ⊢
  refine ⟨by show 1 ≤ sizeLine; decide, fun p4 np4 => ?_⟩
  have e4 := same_new (o := .lst [y]) np4
  have h4 : upd H2 p4 (.lst [y]) p4 = some (.lst [y]) := upd_same
  have h24 := e4 _ _ h2
  have hp4 := e4 _ _ hp2
  generalize upd H2 p4 (.lst [y]) = H4 at e4 h4 h24 hp4 ⊢
  refine ⟨p1, p4, _, _, rfl, rfl, h24, h4, ?_, fun p5 np5 => ?_⟩
  · rw [List.length_take]
    exact Nat.le_of_lt (small10 (by show _ + 1 ≤ _; omega))
  have e5 := same_new (o := .lst (xs.take r ++ [y])) np5
  have h5 : upd H4 p5 (.lst (xs.take r ++ [y])) p5 = some (.lst (xs.take r ++ [y])) := upd_same
  have hp5 := e5 _ _ hp4
  generalize upd H4 p5 (.lst (xs.take r ++ [y])) = H5 at e5 h5 hp5 ⊢
  refine ⟨_, hi, _, hj, _, rfl, ?_⟩
  simp only [tNoPart]
  refine ⟨p, _, rfl, SqL.of hp5, fun p2 np2 => ?_⟩
  rw [cut_from (by omega)]
  have e3 := same_new (o := .lst (xs.drop r)) np2
  have h3 : upd H5 p2 (.lst (xs.drop r)) p2 = some (.lst (xs.drop r)) := upd_same
  have h23 := e3 _ _ h5
  generalize upd H5 p2 (.lst (xs.drop r)) = H3 at e3 h3 h23 ⊢
  refine ⟨p5, p2, _, _, rfl, rfl, h23, h3, ?_, fun p3 np3 => ?_⟩
  · rw [List.length_append, List.length_take, List.length_drop]
    exact Nat.le_of_lt (small10 (by show _ + 1 + _ ≤ _; omega))
  · have e := e2.trans (e4.trans (e5.trans e3))
    exact q p3 _ (e.trans (same_new np3)) (Same.none' e np3) upd_same
/-- a comprehension over a range that draws -/
theorem lcPen {g : TG} {te : TE} {vs : List Nat} {σ : St} {H1 : Hp} {D : Addr} {Qd : Hp → Prop} {pn cl : Addr} {b n s N0 : Nat} (hb : n ≤ 10000) (nD : H1 D = none) (pen : Pen H1 pn cl b)
    (hs : ∀ (i : Nat) (H2 : Hp) (N : VK), i < n → But pn H1 H2 → Pen H2 pn cl (b + s * i) → (∀ (c : Nat) H4, c < N0 → But pn H2 H4 → Pen H4 pn cl (b + s * i + s) → N (.int ((c : Nat) : Int)) H4) → g (.int (0 + ((i : Nat) : Int))) (wipe σ vs) H2 fun σ2 H4 => wipe σ2 vs = wipe σ vs ∧ te σ2 H4 N)
    (hd : ∀ (cs : List Nat) H', cs.length = n → (∀ c ∈ cs, c < N0) → But pn H1 H' → Pen H' pn cl (b + s * n) → H' D = some (.lst (nV cs)) → Qd H') :
    ∃ W : Nat → Nat → Hp → Prop, (∃ m, W 0 m (upd H1 D (.lst []))) ∧ ∀ i m H, W i m H →
      ((Itr 0 n).stop i H ∧ Qd H) ∨ ((Itr 0 n).go i H ∧ ∃ Nx : Hp → Prop, (∀ H', Nx H' → ∃ m', m' < m ∧ W (i + 1) m' H') ∧ ∀ x H', (Itr 0 n).yld i H x H' → g x (wipe σ vs) H' fun σ2 H2 => wipe σ2 vs = wipe σ vs ∧ tYes σ2 H2 fun b H3 =>
        if b = true then te σ2 H3 fun y H4 => ∃ acc, H4 D = some (.lst acc) ∧ acc.length < sizeLine ∧ Nx (upd H4 D (.lst (acc ++ [y]))) else Nx H3) := by
  refine lc_it walk_range (fun i H' => ∃ cs : List Nat, cs.length = i ∧ H' D = some (.lst (nV cs)) ∧ (∀ c ∈ cs, c < N0) ∧ But pn H1 H' ∧ Pen H' pn cl (b + s * i)) ⟨[], rfl, upd_same, (fun c hc => nomatch hc), fun c o _ z => same_new nD _ _ z, pen.same (same_new nD)⟩ (fun _ _ _ _ => True.intro) ?_ (fun H' ⟨cs, lc, hD, cN, bt, p⟩ => hd cs H' lc cN bt p hD)
  rintro i x H2 H3 hi ⟨cs, lc, hD, cN, b2, pen2⟩ ⟨rfl, rfl⟩
  refine hs i _ _ hi b2 pen2 fun c H4 hc b4 pen4 => ?_
  have hD4 := b4 _ _ (pen2.ne hD fun _ z => nomatch z) hD
  refine ⟨_, hD4, ?_, cs ++ [c], ?_, ?_, ?_, ?_, ?_⟩
  · rw [nV_len]
    exact small10 (by omega)
  · rw [List.length_append, lc]
    rfl
  · rw [upd_same, nV_app]
    rfl
  · intro z hz
    rcases List.mem_append.mp hz with q | q
    · exact cN z q
    · rw [List.mem_singleton.mp q]
      exact hc
  · intro c o n z
    rw [upd_ne (ne_of_none z nD)]
    exact b4 _ _ n (b2 _ _ n z)
  · have e1 : pn ≠ D := Ne.symm (pen4.ne hD4 fun _ z => nomatch z)
    rw [Nat.mul_add, Nat.mul_one, ← Nat.add_assoc]
    refine pen4.upd e1 ?_
    obtain ⟨_, _, _, _, p2, _⟩ := pen
    exact ne_of_none p2 nD
/-- a comprehension that draws, over any walk -/
theorem lcPW {J : It} {n : Nat} {G : Hp → Prop} {Y : Nat → Hp → V → Hp → Prop} (wk : Walk J n G Y) {g : TG} {te : TE} {vs : List Nat} {σ : St} {H1 : Hp} {D : Addr} {Qd : Hp → Prop} {pn cl : Addr} {b s : Nat} (hb : n ≤ 10000) (nD : H1 D = none) (pen : Pen H1 pn cl b) (hG : ∀ H', But pn H1 H' → G H')
    (hs : ∀ (i : Nat) (x : V) (H2 H3 : Hp) (N : VK), i < n → But pn H1 H2 → Pen H2 pn cl (b + s * i) → Y i H2 x H3 → (∀ (c : Nat) H4, But pn H2 H4 → Pen H4 pn cl (b + s * i + s) → N (.int ((c : Nat) : Int)) H4) → g x (wipe σ vs) H3 fun σ2 H4 => wipe σ2 vs = wipe σ vs ∧ te σ2 H4 N)
    (hd : ∀ (cs : List Nat) H', cs.length = n → But pn H1 H' → Pen H' pn cl (b + s * n) → H' D = some (.lst (nV cs)) → Qd H') :
    ∃ W : Nat → Nat → Hp → Prop, (∃ m, W 0 m (upd H1 D (.lst []))) ∧ ∀ i m H, W i m H →
      (J.stop i H ∧ Qd H) ∨ (J.go i H ∧ ∃ Nx : Hp → Prop, (∀ H', Nx H' → ∃ m', m' < m ∧ W (i + 1) m' H') ∧ ∀ x H', J.yld i H x H' → g x (wipe σ vs) H' fun σ2 H2 => wipe σ2 vs = wipe σ vs ∧ tYes σ2 H2 fun b H3 =>
        if b = true then te σ2 H3 fun y H4 => ∃ acc, H4 D = some (.lst acc) ∧ acc.length < sizeLine ∧ Nx (upd H4 D (.lst (acc ++ [y]))) else Nx H3) := by
  refine lc_it wk (fun i H' => ∃ cs : List Nat, cs.length = i ∧ H' D = some (.lst (nV cs)) ∧ But pn H1 H' ∧ Pen H' pn cl (b + s * i)) ⟨[], rfl, upd_same, fun c o _ z => same_new nD _ _ z, pen.same (same_new nD)⟩ (fun i H' _ ⟨_, _, _, e, _⟩ => hG H' e) ?_ (fun H' ⟨cs, lc, hD, bt, p⟩ => hd cs H' lc bt p hD)
  rintro i x H2 H3 hi ⟨cs, lc, hD, b2, pen2⟩ y
  refine hs i _ _ _ _ hi b2 pen2 y fun c H4 b4 pen4 => ?_
  have hD4 := b4 _ _ (pen2.ne hD fun _ z => nomatch z) hD
  refine ⟨_, hD4, ?_, cs ++ [c], ?_, ?_, ?_, ?_⟩
  · rw [nV_len]
    exact small10 (by omega)
  · rw [List.length_append, lc]
    rfl
  · rw [upd_same, nV_app]
    rfl
  · intro c o n z
    rw [upd_ne (ne_of_none z nD)]
    exact b4 _ _ n (b2 _ _ n z)
  · have e1 : pn ≠ D := Ne.symm (pen4.ne hD4 fun _ z => nomatch z)
    rw [Nat.mul_add, Nat.mul_one, ← Nat.add_assoc]
    refine pen4.upd e1 ?_
    obtain ⟨_, _, _, _, p2, _⟩ := pen
    exact ne_of_none p2 nD
theorem Ta_app {tss : List (List Nat)} {x : List Nat} {i : Nat} (h : i < tss.length) : Ta (tss ++ [x]) i = Ta tss i := by
  unfold Ta
  rw [List.getD_eq_getElem?_getD, List.getD_eq_getElem?_getD, List.getElem?_append_left h]
theorem Ta_end {tss : List (List Nat)} {x : List Nat} : Ta (tss ++ [x]) tss.length = x := by
  unfold Ta
  rw [List.getD_eq_getElem?_getD, List.getElem?_append_right (Nat.le_refl _), Nat.sub_self]
  rfl
theorem Pa_app {prs : List Pr} {x : Pr} {i : Nat} (h : i < prs.length) : Pa (prs ++ [x]) i = Pa prs i := by
  unfold Pa
  rw [List.getD_eq_getElem?_getD, List.getD_eq_getElem?_getD, List.getElem?_append_left h]
theorem Pa_end {prs : List Pr} {x : Pr} : Pa (prs ++ [x]) prs.length = x := by
  unfold Pa
  rw [List.getD_eq_getElem?_getD, List.getElem?_append_right (Nat.le_refl _), Nat.sub_self]
  rfl
/-- a history with at most k signs -/
structure HistK (k : Nat) (prs : List Pr) (tss : List (List Nat)) : Prop where
  h : Hist prs tss
  k : ∀ i, i < prs.length → (Ta tss i).length ≤ k
theorem HistK.one {k : Nat} {cs : List Nat} (l2 : 2 ≤ cs.length) (lk : cs.length ≤ k) (k4 : k ≤ 40) : HistK k [.ta cs] [cs] := by
  refine ⟨⟨rfl, Nat.le_refl _, by show 1 ≤ 40; decide, rfl, fun i hi => by simp at hi, fun i hi => ?_⟩, fun i hi => ?_⟩
  · have : i = 0 := by simp at hi; omega
    subst this
    exact ⟨l2, Nat.le_trans lk k4⟩
  · have : i = 0 := by simp at hi; omega
    subst this
    exact lk
theorem HistK.snoc {k : Nat} {prs : List Pr} {tss : List (List Nat)} {pr : Pr} (H : HistK k prs tss) (f : Fits (Ta tss (prs.length - 1)) pr) (lt : prs.length < 40) (l2 : 2 ≤ (nxt (Ta tss (prs.length - 1)) pr).length) (lk : (nxt (Ta tss (prs.length - 1)) pr).length ≤ k) (k4 : k ≤ 40) : HistK k (prs ++ [pr]) (tss ++ [nxt (Ta tss (prs.length - 1)) pr]) := by
  obtain ⟨⟨h1, h2, h3, h4, h5, h6⟩, h7⟩ := H
  have ll : (prs ++ [pr]).length = prs.length + 1 := by simp
  have e1 : ∀ i, i < prs.length → Ta (tss ++ [nxt (Ta tss (prs.length - 1)) pr]) i = Ta tss i := fun i hi => Ta_app (by omega)
  have e2 : Ta (tss ++ [nxt (Ta tss (prs.length - 1)) pr]) prs.length = nxt (Ta tss (prs.length - 1)) pr := by
    have := Ta_end (tss := tss) (x := nxt (Ta tss (prs.length - 1)) pr)
    rw [h1] at this
    exact this
  refine ⟨⟨by simp [h1], by omega, by omega, ?_, fun i hi => ?_, fun i hi => ?_⟩, fun i hi => ?_⟩
  · rw [Pa_app (by omega), e1 0 (by omega)]
    exact h4
  · rw [ll] at hi
    rw [e1 i (by omega)]
    by_cases c : i + 1 < prs.length
    · rw [e1 _ c, Pa_app c]
      exact h5 i c
    · have ei : i + 1 = prs.length := by omega
      rw [ei, e2, Pa_end, show prs.length - 1 = i by omega]
      rw [show prs.length - 1 = i by omega] at f
      exact ⟨f, rfl⟩
  · rw [ll] at hi
    by_cases c : i < prs.length
    · rw [e1 i c]
      exact h6 i c
    · rw [show i = prs.length by omega, e2]
      exact ⟨l2, Nat.le_trans lk k4⟩
  · rw [ll] at hi
    by_cases c : i < prs.length
    · rw [e1 i c]
      exact h7 i c
    · rw [show i = prs.length by omega, e2]
      exact lk
theorem if_mid {tt : L2.TT} {A B : TS} {D : Ends} {σ : St} {H : Hp} (R : Bool → Hp → Prop) (h1 : ∀ Q' : Bool → Hp → Prop, (∀ b H', R b H' → Q' b H') → tt σ H Q') (h2 : ∀ b H', R b H' → if b = true then A D σ H' else B D σ H') : tIfS tt A B D σ H := h1 _ h2
/-- lists of counts, in a list -/
def TsL (H : Hp) (tp : Addr) (tss : List (List Nat)) : Prop := ∃ ts : List Addr, H tp = some (.lst (ts.map V.ref)) ∧ Paired (fun t cs => H t = some (.lst (nV cs))) ts tss
abbrev sHis : Stmt := topS 61
abbrev NHis : List Str := ["_law_pen", "_law_most", "_law_counts", "_law_sign", "_law_pairs", "_law_tallies", "_law_lap", "_law_rank", "_law_count"]
def spHis (Tb : List (Addr × Str)) : Sp := fun vs H Q _ => ∃ (pn cl : Addr) (m b : Nat), vs = [.ref pn, .int ((m : Nat) : Int)] ∧ PT Tb H pn cl b ∧ 1 ≤ m ∧ m ≤ 40 ∧ b ≤ 900000 ∧
  ∀ t pp tp vs prs tss H', But pn H H' → PT Tb H' pn cl (b + 1000) → H' t = some (.tup [.ref pp, .ref tp]) → H' pp = some (.lst vs) → Paired (PrT H') vs prs → TsL H' tp tss → HistK 5 prs tss → prs.length ≤ m → Q (.ref t) H'
section
variable {P : Program} {w : World} {K : PySem.W.Frag} {mg : Str → Option Value} {base : Heap}
theorem scHis : FnScope NHis ["_law_pen", "_law_most"] (defScope sHis) := ⟨rfl, rfl, rfl, by decide +kernel, rfl, by decide +kernel, by decide +kernel⟩
theorem ok_his {f : Addr} {fd : FuncData} {Tb : List (Addr × Str)} (F : Fun K "_law_history" "_law_history" sHis f fd) (B : Bi mg) (cD : Cal CX0 P w K mg base 1 "_law_draw" spDraw) (cK : Cal CX0 P w K mg base 2 "_law_pick" spPick) : FnOk P w K mg base CX0 3 f fd ["_law_pen", "_law_most"] (spHis Tb) := by
  refine F.ok scHis (fun vs H Q E h => ?_) (fun cdv A outer s H vs Q E hr h => ?_)
  · obtain ⟨pn, cl, m, b, rfl, _⟩ := h
    rfl
  · obtain ⟨pn, cl, m, b, rfl, pt, m1, m4, hb, q⟩ := h
    refine ⟨_, pss_cons (ps_setLc (i := 2) (own := [("_law_sign", 3)]) rfl scHis.nd rfl rfl (sw_true rfl rfl rfl (by decide +kernel)) (pi_range1 rfl B.range (pa_cons (pe_op op_add pe_int (pe_c cD hr pass0 (pa_cons (pv 0) (pa_cons pe_int pa_nil)))) pa_nil)) (blkOk_by (N := NHis) (sc := defScope sHis) (by decide +kernel)) (fun _ _ _ _ _ => (pg_name (i := 3) scHis.nd rfl (Or.inl rfl))) (fun _ _ _ _ _ => pts_nil) (fun _ _ _ _ _ => (pe_c cD hr pass0 (pa_cons (pv 0) (pa_cons pe_int pa_nil)))))
      (pss_cons (ps_par (i := 4) (j := 5) rfl scHis.nd rfl rfl (by decide) rfl rfl (pa_cons (pe_lst (pa_cons (pe_tup (pa_cons pe_str (pa_cons (pe_tupleOf rfl B.tuple (pv 2)) pa_nil))) pa_nil)) (pa_cons (pe_lst (pa_cons (pe_callTy call_list_of rfl B.list (by decide +kernel) (pa_cons (pv 2) pa_nil)) pa_nil)) pa_nil)) rfl)
      (pss_cons (ps_for PassesOwn.never rfl (pi_range1 rfl B.range (pa_cons (pe_c cD hr pass0 (pa_cons (pv 0) (pa_cons (pv 1) pa_nil))) pa_nil)) (pg_name (i := 6) scHis.nd rfl (Or.inl rfl))
        (pss_cons (ps_if (PW.pt (pw_and (pt_cmpR op_lt (pe_len B.len (pa_cons (pv 2) pa_nil)) pe_int (nomark _)) (pw_and1 (pt_cmpR op_eq (pe_c cD hr pass0 (pa_cons (pv 0) (pa_cons pe_int pa_nil))) pe_int (nomark _))))) (pss_cons (ps_set (i := 7) scHis.nd rfl (Or.inl rfl) (pe_c cD hr pass0 (pa_cons (pv 0) (pa_cons (pe_op op_add (pe_len B.len (pa_cons (pv 2) pa_nil)) pe_int) pa_nil))))
          (pss_cons (ps_set (i := 2) scHis.nd rfl (Or.inl rfl) (pe_op op_cat (pe_op op_cat (pe_slice sl_list (pv 2) po_none (po_some (pv 7))) (pe_lst (pa_cons pe_int pa_nil))) (pe_slice sl_list (pv 2) (po_some (pv 7)) po_none)))
          (pss_one (ps_expr (pe_bm PySem.F.plainAttrs_list PySem.F.slot_list_append PySem.F.type_list_append mt_append (pv 4) (pa_cons (pe_tup (pa_cons pe_str (pa_cons (pv 7) pa_nil))) pa_nil)))))) (pss_cons (ps_setLc (i := 2) (own := [("_law_count", 8)]) rfl scHis.nd rfl rfl (sw_true rfl rfl rfl (by decide +kernel)) (pi_sqA (pv 2)) (blkOk_by (N := NHis) (sc := defScope sHis) (by decide +kernel)) (fun _ _ _ _ _ => (pg_name (i := 8) scHis.nd rfl (Or.inl rfl))) (fun _ _ _ _ _ => pts_nil) (fun _ _ _ _ _ => (pe_op op_add (pv 8) (pe_c cK hr pass0 (pa_cons (pv 0) (pa_cons (pe_lst (pa_cons pe_int (pa_cons pe_int (pa_cons pe_int (pa_cons pe_int (pa_cons pe_int (pa_cons pe_int (pa_cons pe_int pa_nil)))))))) pa_nil))))))
          (pss_one (ps_expr (pe_bm PySem.F.plainAttrs_list PySem.F.slot_list_append PySem.F.type_list_append mt_append (pv 4) (pa_cons (pe_tup (pa_cons pe_str (pa_cons (pe_tupleOf rfl B.tuple (pv 2)) pa_nil))) pa_nil))))))
        (pss_one (ps_expr (pe_bm PySem.F.plainAttrs_list PySem.F.slot_list_append PySem.F.type_list_append mt_append (pv 5) (pa_cons (pv 2) pa_nil))))))
      (pss_one (ps_ret (pe_tup (pa_cons (pv 4) (pa_cons (pv 5) pa_nil))))))), ?_⟩
    refine ⟨_, rfl, pn, cl, 2, b, rfl, pt.pen, by omega, by decide, by decide, fun r H1 r0 r1 b1 pen1 => ?_⟩
    obtain ⟨n, en⟩ : ∃ n : Nat, 2 + r = ((n : Nat) : Int) ∧ 2 ≤ n ∧ n ≤ 3 := ⟨(2 + r).toNat, by omega, by omega, by omega⟩
    obtain ⟨en, n2, n3⟩ := en
    refine ⟨_, _, rfl, rfl, _, rfl, by omega, by omega, fun cp ncp => ?_⟩
    rw [en, Int.toNat_natCast]
    refine lcPen (s := 1) (N0 := 5) (by omega) ncp pen1 (fun i H2 N hi b2 pen2 hN => ?_) fun cs H2 lcs cN b2 pen2 hcp => ?_
    · refine ⟨rfl, _, rfl, pn, cl, 5, _, rfl, pen2, by omega, by decide, by decide, fun r H4 r0 r1 b4 pen4 => ?_⟩
      obtain ⟨r, rfl⟩ := Int.eq_ofNat_of_zero_le r0
      exact hN r H4 (by omega) b4 pen4
    refine gN ?_
    refine ⟨_, rfl, LT.tup (.inl hcp) fun t H3 e3 ht3 => ?_⟩
    refine ⟨by show 2 ≤ sizeLine; decide, fun a na => ?_⟩
    have e4 := e3.trans (same_new (o := .tup [.str "tally", .ref t]) na)
    have a4 : upd H3 a (.tup [.str "tally", .ref t]) a = some (.tup [.str "tally", .ref t]) := upd_same
    have t4 := same_new (o := .tup [.str "tally", .ref t]) na _ _ ht3
    generalize upd H3 a (.tup [.str "tally", .ref t]) = H4 at e4 a4 t4 ⊢
    refine ⟨by show 1 ≤ sizeLine; decide, fun pp npp => ?_⟩
    have e5 := e4.trans (same_new (o := .lst [.ref a]) npp)
    have p5 : upd H4 pp (.lst [.ref a]) pp = some (.lst [.ref a]) := upd_same
    have a5 := same_new (o := .lst [.ref a]) npp _ _ a4
    have t5 := same_new (o := .lst [.ref a]) npp _ _ t4
    have np2 : H2 pp = none := old_no e4 npp
    generalize upd H4 pp (.lst [.ref a]) = H5 at e5 p5 a5 t5 ⊢
    refine ⟨_, rfl, cp, _, rfl, .inl (SqL.of (e5 _ _ hcp)), fun t0 nt0 => ?_⟩
    have e6 := e5.trans (same_new (o := .lst (nV cs)) nt0)
    have p6 := same_new (o := .lst (nV cs)) nt0 _ _ p5
    have a6 := same_new (o := .lst (nV cs)) nt0 _ _ a5
    have t6 := same_new (o := .lst (nV cs)) nt0 _ _ t5
    have z6 : upd H5 t0 (.lst (nV cs)) t0 = some (.lst (nV cs)) := upd_same
    have n0p : t0 ≠ pp := fun z => by rw [z, p5] at nt0; cases nt0
    generalize upd H5 t0 (.lst (nV cs)) = H6 at e6 p6 a6 t6 z6 ⊢
    refine ⟨by show 1 ≤ sizeLine; decide, fun tp ntp => ?_⟩
    have e7 := e6.trans (same_new (o := .lst [.ref t0]) ntp)
    have p7 := same_new (o := .lst [.ref t0]) ntp _ _ p6
    have a7 := same_new (o := .lst [.ref t0]) ntp _ _ a6
    have t7 := same_new (o := .lst [.ref t0]) ntp _ _ t6
    have z7 := same_new (o := .lst [.ref t0]) ntp _ _ z6
    have s7 : upd H6 tp (.lst [.ref t0]) tp = some (.lst [.ref t0]) := upd_same
    have ntp2 : H2 tp = none := old_no e6 ntp
    have ntpp : tp ≠ pp := fun z => by rw [z, p6] at ntp; cases ntp
    have n0t : t0 ≠ tp := fun z => by rw [z] at z6; rw [z6] at ntp; cases ntp
    generalize upd H6 tp (.lst [.ref t0]) = H7 at e7 p7 a7 t7 z7 s7 ⊢
    refine ⟨_, _, rfl, ?_⟩
    dsimp only
    have b7 : But pn H H7 := fun c o n z => e7 _ _ (b2 c o n (b1 c o n z))
    have pen7 := pen2.same e7
    have np0 : H pp = none := old_none (b1.trans b2) pen2.some_ np2
    have nt0' : H tp = none := old_none (b1.trans b2) pen2.some_ ntp2
    have ncpp : cp ≠ pp := ne_of_none hcp np2
    have ncpt : cp ≠ tp := ne_of_none hcp ntp2
    refine ⟨_, rfl, _, rfl, pn, cl, _, _, rfl, pen7, by omega, by omega, by omega, fun r2 H8 s0 s1 b8 pen8 => ?_⟩
    obtain ⟨k, rfl⟩ := Int.eq_ofNat_of_zero_le s0
    refine ⟨_, rfl, by omega, by omega, ?_⟩
    rw [Int.toNat_natCast]
    have k8 : ∀ {x : Addr} {o : HO}, H7 x = some o → (∀ kvs, o ≠ .dK kvs) → H8 x = some o := fun z d => b8 _ _ (pen7.ne z d) z
    have cp8 := k8 (e7 _ _ hcp) (fun _ z => nomatch z)
    have p8 := k8 p7 (fun _ z => nomatch z)
    have a8 := k8 a7 (fun _ z => nomatch z)
    have t8 := k8 t7 (fun _ z => nomatch z)
    have z8 := k8 z7 (fun _ z => nomatch z)
    have s8 := k8 s7 (fun _ z => nomatch z)
    have bb8 : But pn H H8 := fun c o n z => b8 c o n (b7 c o n z)
    refine for_range (D := { nx := _, rt := Q, bk := fun _ _ => False, ct := fun _ _ => False }) (fun i σ H' => ∃ (cp : Addr) (cs : List Nat) (prs : List Pr) (tss : List (List Nat)) (vs : List V) (ts : List Addr) (o6 o7 : Option V), σ = [some (.ref pn), some (.int ((m : Nat) : Int)), some (.ref cp), none, some (.ref pp), some (.ref tp), o6, o7, none] ∧ But pn H H' ∧ Pen H' pn cl (b + 10 + i * 10) ∧
      H' cp = some (.lst (nV cs)) ∧ cp ≠ pp ∧ cp ≠ tp ∧ H' pp = some (.lst vs) ∧ Paired (PrT H') vs prs ∧ H' tp = some (.lst (ts.map V.ref)) ∧ Paired (fun t cs => H' t = some (.lst (nV cs)) ∧ t ≠ pp ∧ t ≠ tp) ts tss ∧ HistK 5 prs tss ∧ prs.length = i + 1 ∧ Ta tss i = cs)
      ⟨cp, cs, [.ta cs], [cs], [.ref a], [t0], none, none, rfl, bb8, pen8.mono (by omega), cp8, ncpp, ncpt, p8, .cons ⟨a, rfl, t, a8, t8⟩ .nil, s8, .cons ⟨z8, n0p, n0t⟩ .nil, HistK.one (by omega) (by omega) (by omega), rfl, rfl⟩ ?_ ?_
    · clear cp8 p8 a8 t8 z8 s8
      rintro i σ H9 hi9 ⟨cp, cs, prs, tss, vs, ts, o6, o7, rfl, b9, pen9, c9, n1, n2, p9, pv9, s9, sv9, hk, lp, ec⟩
      have lcs : 2 ≤ cs.length ∧ cs.length ≤ 5 := by
        rw [← ec]
        exact ⟨(hk.h.sz i (by omega)).1, hk.k i (by omega)⟩
      have lvs : vs.length = i + 1 := by rw [Paired.length pv9, lp]
      have lts : ts.length = i + 1 := by rw [Paired.length sv9, hk.h.len, lp]
      refine gN ?_
      dsimp only
      refine cutSeq (R := fun σ' H' => ∃ (cp' : Addr) (cs' : List Nat) (pr : Pr) (v : V) (o7 : Option V), σ' = [some (.ref pn), some (.int ((m : Nat) : Int)), some (.ref cp'), none, some (.ref pp), some (.ref tp), some (.int (0 + ((i : Nat) : Int))), o7, none] ∧ But pn H H' ∧ Pen H' pn cl (b + 10 + i * 10 + 10) ∧
        H' cp' = some (.lst (nV cs')) ∧ cp' ≠ pp ∧ cp' ≠ tp ∧ H' pp = some (.lst (vs ++ [v])) ∧ Paired (PrT H') (vs ++ [v]) (prs ++ [pr]) ∧ H' tp = some (.lst (ts.map V.ref)) ∧ Paired (fun t cs => H' t = some (.lst (nV cs)) ∧ t ≠ pp ∧ t ≠ tp) ts tss ∧ HistK 5 (prs ++ [pr]) (tss ++ [cs'])) (fun nx hnx => ?_) ?_
      · have lc5 : (nV cs).length = cs.length := nV_len cs
        have hk1 : Ta tss (prs.length - 1) = cs := by rw [lp, Nat.add_sub_cancel]; exact ec
        refine if_mid (R := fun k H' => But pn H9 H' ∧ Pen H' pn cl (b + 10 + i * 10 + 1) ∧ (k = true → cs.length < 5)) (fun Q' hQ => ?_) ?_
        · refine ⟨_, rfl, cp, _, rfl, .inl (SqL.of c9), _, _, rfl, rfl, _, rfl, ?_⟩
          rw [lc5]
          by_cases c5 : cs.length < 5
          · rw [decide_eq_true (show ((cs.length : Nat) : Int) < 5 by omega)]
            refine iteT ?_
            refine ⟨_, rfl, pn, cl, 3, _, rfl, pen9, by omega, by decide, by decide, fun r H10 r0 r1 b10 pen10 => ?_⟩
            exact ⟨rfl, _, rfl, hQ _ _ ⟨b10, pen10, fun _ => c5⟩⟩
          · rw [decide_eq_false (show ¬ ((cs.length : Nat) : Int) < 5 by omega)]
            exact iteF (hQ _ _ ⟨fun _ _ _ z => z, pen9.mono (by omega), fun z => nomatch z⟩)
        · rintro k H10 ⟨b10, pen10, k5⟩
          have kp : ∀ {x : Addr} {xs : List V}, H9 x = some (.lst xs) → H10 x = some (.lst xs) := fun z => b10 _ _ (pen9.ne z fun _ y => nomatch y) z
          have tt10 : TT H9 H10 := fun x xs z => b10 _ _ (pen9.ne z fun _ y => nomatch y) z
          have c10 := kp c9
          have p10 := kp p9
          have s10 := kp s9
          have pv10 := Paired.mapP pv9 fun _ _ h => PrT.tt h tt10
          have sv10 : Paired (fun t cs => H10 t = some (.lst (nV cs)) ∧ t ≠ pp ∧ t ≠ tp) ts tss := Paired.mapP sv9 fun _ _ h => ⟨kp h.1, h.2⟩
          have bb10 : But pn H H10 := fun c o n z => b10 c o n (b9 c o n z)
          clear kp tt10
          -- a new pair at the end
          have fin : ∀ (D : Ends) (H11 : Hp) (cp' v' : Addr) (cs' : List Nat) (pr : Pr) (o7 : Option V), But pn H H11 → Pen H11 pn cl (b + 10 + i * 10 + 10) → H11 cp' = some (.lst (nV cs')) → cp' ≠ pp → cp' ≠ tp → H11 pp = some (.lst vs) → Paired (PrT H11) vs prs → PrT H11 (.ref v') pr → H11 tp = some (.lst (ts.map V.ref)) → Paired (fun t cs => H11 t = some (.lst (nV cs)) ∧ t ≠ pp ∧ t ≠ tp) ts tss → HistK 5 (prs ++ [pr]) (tss ++ [cs']) → (∀ σ' H', D.nx σ' H' = nx σ' H') →
              D.nx [some (.ref pn), some (.int ((m : Nat) : Int)), some (.ref cp'), none, some (.ref pp), some (.ref tp), some (.int (0 + ((i : Nat) : Int))), o7, none] (upd H11 pp (.lst (vs ++ [.ref v']))) := by
            intro D H11 cp' v' cs' pr o7 b11 pen11 c11 n11 n12 p11 pv11 pr11 s11 sv11 hk11 eD
            rw [eD]
            have ne : ∀ {x : Addr} {xs : List V}, H11 x = some (.lst xs) → x ≠ pp → upd H11 pp (.lst (vs ++ [.ref v'])) x = some (.lst xs) := fun z n => (upd_ne n).trans z
            have tt : TT H11 (upd H11 pp (.lst (vs ++ [.ref v']))) := TT.lst p11
            refine hnx _ _ ⟨cp', cs', pr, .ref v', o7, rfl, fun c o n z => (upd_ne (ne_of_none z np0)).trans (b11 c o n z), pen11.upd (pen11.ne p11 fun _ z => nomatch z).symm (by
              obtain ⟨_, _, _, _, g2, _⟩ := pt.pen
              exact ne_of_none g2 np0), ne c11 n11, n11, n12, upd_same, Paired.snoc (Paired.mapP pv11 fun _ _ h => h.tt tt) (pr11.tt tt), ne s11 ntpp, Paired.mapP sv11 fun _ _ h => ⟨ne h.1 h.2.1, h.2⟩, hk11⟩
          cases k with
          | true =>
            have k5 := k5 rfl
            refine iteT ?_
            refine ⟨_, rfl, _, rfl, cp, _, rfl, .inl (SqL.of c10), _, _, rfl, rfl, pn, cl, _, _, rfl, pen10, by omega, by omega, by rw [lc5]; omega, fun r H11 r0 r1 b11 pen11 => ?_⟩
            rw [lc5] at r1
            obtain ⟨r, rfl⟩ := Int.eq_ofNat_of_zero_le r0
            have kp : ∀ {x : Addr} {xs : List V}, H10 x = some (.lst xs) → H11 x = some (.lst xs) := fun z => b11 _ _ (pen10.ne z fun _ y => nomatch y) z
            have tt11 : TT H10 H11 := fun x xs z => b11 _ _ (pen10.ne z fun _ y => nomatch y) z
            refine gN ?_
            dsimp only
            refine cut_in rfl rfl (kp c10) (by rw [lc5]; omega) (by rw [lc5]; omega) fun D H12 e12 nD hD => ?_
            have eD : (nV cs).take r ++ [V.int 0] ++ (nV cs).drop r = nV (Grp.put cs r 0) := by
              unfold Grp.put
              rw [nV_app, nV_app, nV_take, nV_drop]
              rfl
            rw [eD] at hD
            refine gN ?_
            dsimp only
            have p12 := e12 _ _ (kp p10)
            have s12 := e12 _ _ (kp s10)
            have nDp : D ≠ pp := fun z => by rw [z, kp p10] at nD; cases nD
            have nDt : D ≠ tp := fun z => by rw [z, kp s10] at nD; cases nD
            refine ⟨_, rfl, .inl ⟨rfl, _, SqL.of p12⟩, _, rfl, by show 2 ≤ sizeLine; decide, fun v' nv' => ?_⟩
            have e13 := same_new (o := .tup [.str "put", .int ((r : Nat) : Int)]) nv'
            have v13 : upd H12 v' (.tup [.str "put", .int ((r : Nat) : Int)]) v' = some (.tup [.str "put", .int ((r : Nat) : Int)]) := upd_same
            have h13 : Same H11 (upd H12 v' (.tup [.str "put", .int ((r : Nat) : Int)])) := e12.trans e13
            have p13 := e13 _ _ p12
            have d13 := e13 _ _ hD
            generalize upd H12 v' (.tup [.str "put", .int ((r : Nat) : Int)]) = H13 at v13 h13 p13 d13 ⊢
            refine ⟨pp, vs, _, rfl, rfl, p13, small10 (by omega), ?_⟩
            have hk13 : HistK 5 (prs ++ [.pt r]) (tss ++ [Grp.put cs r 0]) := by
              have f : Fits (Ta tss (prs.length - 1)) (.pt r) := by rw [hk1]; show r ≤ cs.length; omega
              have z := hk.snoc f (by omega) (by rw [hk1]; show 2 ≤ (Grp.put cs r 0).length; rw [Grp.put_len]; omega) (by rw [hk1]; show (Grp.put cs r 0).length ≤ 5; rw [Grp.put_len]; omega) (by omega)
              rw [hk1] at z
              exact z
            exact fin ⟨nx, Q, fun _ _ => False, fun _ _ => False⟩ H13 D v' _ _ _ (fun c o n z => h13 _ _ (b11 c o n (bb10 c o n z))) ((pen11.same h13).mono (by omega)) d13 nDp nDt p13 (Paired.mapP pv10 fun _ _ h => h.tt (tt11.trans (TT.same h13))) ⟨v', rfl, v13⟩ (h13 _ _ (kp s10)) (Paired.mapP sv10 fun _ _ h => ⟨h13 _ _ (kp h.1), h.2⟩) hk13 fun _ _ => rfl
          | false =>
            refine iteF ?_
            refine ⟨_, rfl, cp, _, rfl, .inl (SqL.of c10), fun J G wk hG D nD => lcPW wk (s := 1) (by rw [lc5]; omega) nD pen10 (fun H' e => hG H' fun o z => e _ _ (pen10.ne c10 fun _ y => nomatch y) (by rw [c10] at z; cases z; exact c10)) (fun j x H11 H12 N hj b11 pen11 hY hN => ?_) fun cs' H11 lcs' b11 pen11 hD => ?_⟩
            · obtain ⟨rfl, hx⟩ := hY
              obtain ⟨hj, rfl⟩ := nV_get hx
              refine ⟨rfl, _, rfl, _, rfl, by show 7 ≤ sizeLine; decide, fun s0 ns0 => ?_⟩
              refine ⟨pn, cl, s0, _, _, rfl, pen11.same (same_new ns0), by omega, upd_same, by show 0 < 7; decide, by show 7 ≤ 1000; decide, fun x H13 hx b13 pen13 => ?_⟩
              have : ∃ c : Nat, x = .int ((c : Nat) : Int) := by
                simp only [List.mem_cons, List.not_mem_nil, or_false] at hx
                rcases hx with rfl | rfl | rfl | rfl | rfl | rfl | rfl <;> first | exact ⟨0, rfl⟩ | exact ⟨1, rfl⟩ | exact ⟨2, rfl⟩ | exact ⟨3, rfl⟩
              obtain ⟨c, rfl⟩ := this
              refine ⟨_, _, rfl, rfl, ?_⟩
              have := hN (lAt cs j + c) H13 (fun c o n z => b13 c o n (same_new ns0 _ _ z)) pen13
              rw [Int.natCast_add] at this
              exact this
            · rw [lc5] at lcs'
              rw [lc5] at pen11
              have kp : ∀ {x : Addr} {xs : List V}, H10 x = some (.lst xs) → H11 x = some (.lst xs) := fun z => b11 _ _ (pen10.ne z fun _ y => nomatch y) z
              have tt11 : TT H10 H11 := fun x xs z => b11 _ _ (pen10.ne z fun _ y => nomatch y) z
              refine gN ?_
              dsimp only
              have nDp : D ≠ pp := fun z => by rw [z, p10] at nD; cases nD
              have nDt : D ≠ tp := fun z => by rw [z, s10] at nD; cases nD
              refine ⟨_, rfl, .inl ⟨rfl, _, SqL.of (kp p10)⟩, _, rfl, LT.tup (.inl hD) fun t H12 e12 ht12 => ?_⟩
              refine ⟨by show 2 ≤ sizeLine; decide, fun v' nv' => ?_⟩
              have e13 := same_new (o := .tup [.str "tally", .ref t]) nv'
              have v13 : upd H12 v' (.tup [.str "tally", .ref t]) v' = some (.tup [.str "tally", .ref t]) := upd_same
              have h13 : Same H11 (upd H12 v' (.tup [.str "tally", .ref t])) := e12.trans e13
              have t13 := e13 _ _ ht12
              generalize upd H12 v' (.tup [.str "tally", .ref t]) = H13 at v13 h13 t13 ⊢
              have p13 := h13 _ _ (kp p10)
              refine ⟨pp, vs, _, rfl, rfl, p13, small10 (by omega), ?_⟩
              have hk13 : HistK 5 (prs ++ [.ta cs']) (tss ++ [cs']) := by
                have f : Fits (Ta tss (prs.length - 1)) (.ta cs') := by rw [hk1]; exact lcs'
                exact hk.snoc f (by omega) (by show 2 ≤ cs'.length; omega) (by show cs'.length ≤ 5; omega) (by omega)
              exact fin ⟨nx, Q, fun _ _ => False, fun _ _ => False⟩ H13 D v' cs' (.ta cs') _ (fun c o n z => h13 _ _ (b11 c o n (bb10 c o n z))) ((pen11.same h13).mono (by omega)) (h13 _ _ hD) nDp nDt p13 (Paired.mapP pv10 fun _ _ h => h.tt (tt11.trans (TT.same h13))) ⟨v', rfl, t, v13, t13⟩ (h13 _ _ (kp s10)) (Paired.mapP sv10 fun _ _ h => ⟨h13 _ _ (kp h.1), h.2⟩) hk13 fun _ _ => rfl
      · rintro σ' H' ⟨cp', cs', pr, v, o7, rfl, b10, pen10, c10, n10, n11, p10, pv10, s10, sv10, hk10⟩
        refine ⟨_, rfl, .inl ⟨rfl, _, SqL.of s10⟩, _, rfl, tp, _, _, rfl, rfl, s10, small10 (by rw [List.length_map]; omega), ?_⟩
        have ne : ∀ {x : Addr} {xs : List V}, H' x = some (.lst xs) → x ≠ tp → upd H' tp (.lst (ts.map V.ref ++ [.ref cp'])) x = some (.lst xs) := fun z n => (upd_ne n).trans z
        have tt : TT H' (upd H' tp (.lst (ts.map V.ref ++ [.ref cp']))) := TT.lst s10
        refine ⟨cp', cs', prs ++ [pr], tss ++ [cs'], vs ++ [v], ts ++ [cp'], _, o7, rfl, fun c o n z => (upd_ne (ne_of_none z nt0')).trans (b10 c o n z), (pen10.mono (by omega)).upd (pen10.ne s10 fun _ z => nomatch z).symm (by
          obtain ⟨_, _, _, _, g2, _⟩ := pt.pen
          exact ne_of_none g2 nt0'), ne c10 n11, n10, n11, ne p10 ntpp.symm, ?_, by rw [List.map_append]; exact upd_same, ?_, hk10, by rw [List.length_append, lp]; rfl, ?_⟩
        · exact Paired.mapP pv10 fun _ _ h => h.tt tt
        · exact Paired.snoc (Paired.mapP sv10 fun _ _ h => ⟨ne h.1 h.2.2, h.2⟩) ⟨ne c10 n11, n10, n11⟩
        · have := Ta_end (tss := tss) (x := cs')
          rw [hk.h.len, lp] at this
          exact this
    · rintro σ H9 ⟨cp, cs, prs, tss, vs, ts, o6, o7, rfl, b9, pen9, c9, n1, n2, p9, pv9, s9, sv9, hk, lp, ec⟩
      refine ⟨_, rfl, _, rfl, by show 2 ≤ sizeLine; decide, fun u nu => ?_⟩
      have e10 := same_new (o := .tup [.ref pp, .ref tp]) nu
      refine q u pp tp vs prs tss _ (fun c o n z => e10 _ _ (b9 c o n z)) ⟨(pen9.same e10).mono (by omega), (tabs_but pt.tabs pt.pen b9).ext e10⟩ upd_same (e10 _ _ p9) (Paired.mapP pv9 fun _ _ h => h.tt (TT.same e10)) ⟨ts, e10 _ _ s9, Paired.mapP sv9 fun _ _ h => e10 _ _ h.1⟩ hk (by omega)
end
end K40
set_option Elab.async false
set_option linter.all false
set_option maxRecDepth 100001
set_option maxHeartbeats 3999999
/-! d.values() of a dict keyed by tuples, and min of it -/
namespace L2
open PySem.Spec PySem PyProof.Rows
/-- the view d.values() at p -/
def valuesO (p d : Addr) : HO := .ext fun h => h.IsValuesView p d
theorem valuesO_ok {P : Program} {w : World} {H : Hp} {h : Heap} {p d : Addr} (e : h.get? p = some { cls := .type "dict_values", data := .fields #[.ref d] }) : ObjOk P w H h p (valuesO p d) :=
  ⟨⟨_, e, rfl, rfl⟩, ⟨_, e⟩, fun h1 h2 x k => let ⟨o, ho, r⟩ := x; ⟨o, k o ho, r⟩⟩
section
variable {X : Cx}
def rValuesT : V → List V → Hp → VK → Prop := fun x xs H Q => ∃ (a : Addr) (kvs : List (List L2.Key × V)), x = .ref a ∧ xs = [] ∧ H a = some (.dT kvs) ∧ ∀ p, H p = none → Q (.ref p) (upd H p (valuesO p a))
theorem mt_valuesT : MtR X "dict.values" rValuesT := by
  intro pins s σ H x xs v us Q I rx rxs h
  obtain ⟨a, kvs, rfl, rfl, ha, q⟩ := h
  cases rx
  cases rxs
  obtain ⟨z, hd, xs', rel, o, es, ep, ho, hx, hdat, _⟩ := dt_of I.hok ha
  have hm : s.heap.DictRaw a es ep := ⟨o, ho, hx, hdat⟩
  have hf : H s.heap.objs.size = none := I.hok.fresh (Nat.le_refl _)
  refine call_meetsIn PySem.F.slot_dict_values hm.typeIs PySem.F.entry_dict_values (PySem.F.args_dict_values_1 _) (PySem.meets_dict_values_raw a hd) ⟨⟨es, ep, hm⟩, ?_⟩
  exact ⟨.ref s.heap.objs.size, upd H s.heap.objs.size (valuesO s.heap.objs.size a), I.laid (t' := s.toks) (fun b u e => Heap.get?_push_of_some _ e) (Nat.le_refl _) (valuesO_ok (Heap.get?_push_size _ rfl)), rfl, q _ hf⟩
def rMinV : List V → Hp → VK → Prop := fun vs H Q => ∃ (p a : Addr) (kvs : List (List L2.Key × V)) (ns : List Int), vs = [.ref p] ∧ H p = some (valuesO p a) ∧ H a = some (.dT kvs) ∧ kvs.map (·.2) = ns.map V.int ∧ 0 < ns.length ∧ ∀ m, m ∈ ns → (∀ y, y ∈ ns → m ≤ y) → Q (.int m) H
theorem cr_minV (hc : X.calm = true) : CallR X (.builtin "min") rMinV := by
  intro pins s σ H xs us Q I r h
  obtain ⟨p, a, kvs, ns, rfl, hp, ha, ev, hne, q⟩ := h
  obtain rfl := Vals.ref1 r
  have view : s.heap.IsValuesView p a := (show ObjOk X.prog X.w H s.heap p (valuesO p a) from I.hok p _ hp).1
  obtain ⟨z, hd, xs', rel, dd⟩ := dt_of I.hok ha
  obtain ⟨es, ep, hm, hs, hx⟩ := dd.raw
  have hh : X.A.handled = none := I.ok.hd hc
  have lk : kvs.length = xs'.length := Paired.length rel
  have ln : kvs.length = ns.length := by have := congrArg List.length ev; simpa using this
  have lt : a < s.heap.objs.size := by obtain ⟨o, ho, _⟩ := hm; exact Heap.lt_size ho
  have val : ∀ i v, (∃ y, xs'[i]? = some y ∧ v = y.2.2) → ∃ t, v = Value.int (ns.getD i 0) t := fun i v ⟨y, hy, e⟩ => by
    have hi : i < xs'.length := (List.getElem?_eq_some_iff.mp hy).1
    obtain ⟨kv, hk, _, _, rv⟩ := DX.pget rel hy
    have e2 : (kvs.map (·.2))[i]? = some kv.2 := by rw [List.getElem?_map, hk]; rfl
    rw [ev, List.getElem?_map, List.getElem?_eq_getElem (show i < ns.length by omega)] at e2
    have e2 : V.int ns[i] = kv.2 := Option.some.inj e2
    rw [← e2] at rv
    obtain ⟨t, rv⟩ := rv
    exact ⟨t, by rw [e, rv, List.getD_eq_getElem?_getD, List.getElem?_eq_getElem (show i < ns.length by omega)]; rfl⟩
  have n1 : es.size = ns.length := by omega
  refine call_min_walk (wpAny_pyIter_values_raw view hm ?_)
  refine ⟨s.heap.objs.size, [s.heap.objs.size, a], [s.heap.objs.size], es.size, _, _, fun i j => decide (ns.getD i 0 < ns.getD j 0), rfl,
    Walks.valuesH (A := X.A.in1) (xs := xs') hh s.heap.objs.size a (Nat.ne_of_lt lt) es ep (fun i hi => let ⟨y, h1, h2, h3, _⟩ := hx i hi; ⟨y, h1, h2, h3⟩), ⟨⟨_, Heap.get?_push_size _ rfl, rfl, rfl⟩, hm.at fun o e => Heap.get?_push_of_some _ e⟩, fun b hb => ?_, by omega, CmpOf.ints_lt (fun i => ns.getD i 0) val, fun v h' tk hP hk => ?_⟩
  · show b < (s.heap.push _).objs.size
    rw [Heap.size_push]
    rcases List.mem_cons.mp hb with e | hb
    · rw [e]; exact Nat.lt_succ_self _
    · rw [List.mem_singleton.mp hb]; exact Nat.lt_succ_of_lt lt
  · obtain ⟨t, rfl⟩ := val _ _ hP
    obtain ⟨h1, h2⟩ := argBest_lt (fun i => ns.getD i 0) (es.size - 1)
    have keep : ∀ b o, s.heap.get? b = some o → h'.get? b = some o := fun b o e => hk b o (fun hb => absurd (Heap.lt_size e) (by rw [List.mem_singleton.mp hb]; exact Nat.lt_irrefl _)) (Heap.get?_push_of_some _ e)
    refine ⟨.int _, H, I.kept (t' := tk) keep, ⟨_, rfl⟩, q _ ?_ fun y hy => ?_⟩
    · rw [List.getD_eq_getElem?_getD, List.getElem?_eq_getElem (show argBest (fun i j => decide (ns.getD i 0 < ns.getD j 0)) (es.size - 1) < ns.length by omega)]
      exact List.getElem_mem _
    · obtain ⟨j, hj, rfl⟩ := List.mem_iff_getElem.mp hy
      have := h2 j (by omega)

      rw [show ns.getD j 0 = ns[j] by rw [List.getD_eq_getElem?_getD, List.getElem?_eq_getElem hj]; rfl] at this
      exact this
end
end L2
set_option Elab.async false
set_option linter.all false
set_option maxRecDepth 100001
set_option maxHeartbeats 3999999
/-! dict(xs) of a list of pairs (tuple, value) -/
namespace L2
open PySem.Spec PySem PyProof.Rows
def mergeT (kvs : List (List Key × V)) : List (List Key × V) := kvs.foldl (fun acc kv => putK acc kv.1 kv.2) []
theorem mergeT_new : ∀ (kvs acc : List (List Key × V)), (kvs.map (·.1)).Nodup → (∀ kv ∈ kvs, ∀ x ∈ acc, x.1 ≠ kv.1) → kvs.foldl (fun acc kv => putK acc kv.1 kv.2) acc = acc ++ kvs
  | [], acc, _, _ => (List.append_nil _).symm
  | kv :: kvs, acc, nd, no => by
    have e : putK acc kv.1 kv.2 = acc ++ [kv] := by
      unfold putK
      rw [if_neg]
      intro h
      rw [List.any_eq_true] at h
      obtain ⟨x, hx, e⟩ := h
      exact no kv List.mem_cons_self x hx (of_decide_eq_true e)
    rw [List.map_cons, List.nodup_cons] at nd
    rw [List.foldl_cons, e, mergeT_new kvs (acc ++ [kv]) nd.2 fun k hk x hx => ?_, List.append_assoc]
    · rfl
    · rcases List.mem_append.mp hx with hx | hx
      · exact no k (List.mem_cons_of_mem _ hk) x hx
      · rw [List.mem_singleton.mp hx]
        intro z
        exact nd.1 (z ▸ List.mem_map_of_mem hk)
theorem KT.merge {H : Hp} : ∀ {kvs : List (List Key × V)} {ps : List (List Key × Addr × Value)} {acc : List (List Key × V)} {xs : List (List Key × Addr × Value)}, KT H kvs ps → KT H acc xs →
    KT H (kvs.foldl (fun acc kv => putK acc kv.1 kv.2) acc) (storedAllH xs ps)
  | _, _, _, _, .nil, r => r
  | _, _, _, _, .cons (a := kv) (b := p) ⟨h1, h2, h3⟩ t, r => by
    have := KT.put r kv.1 h2 h3
    rw [List.foldl_cons]
    unfold storedAllH
    rw [List.foldl_cons, ← h1]
    exact KT.merge t this
section
variable {X : Cx}
theorem pairsT_of {pins : List (Addr × Obj)} {σ : St} {H : Hp} {s : Shared} (I : Inv X pins σ H s) : ∀ {ps : List Addr} {kvs : List (List Key × V)}, Paired (fun p kv => ∃ b, H p = some (.tup [.ref b, kv.2]) ∧ H b = some (.tup (kv.1.map kV))) ps kvs →
    ∃ hs : List (List Key × Addr × Value), KT H kvs hs ∧ hs.length = ps.length ∧ ∀ (j : Nat) (q : List Key × Addr × Value), hs[j]? = some q → ∃ T, ps[j]? = some T ∧ s.heap.IsTuple T #[.ref q.2.1, q.2.2] ∧ (tupleKind (mixKind X.prog X.w)).is s.heap q.1 q.2.1
  | _, _, .nil => ⟨[], .nil, rfl, fun j q e => by simp at e⟩
  | _, _, .cons (a := p) (b := kv) ⟨b, h1, h2⟩ t => by
    obtain ⟨hs, r, hl, hp⟩ := pairsT_of I t
    obtain ⟨its, rv, ht, _⟩ := I.tuple (SqT.of (K := X.K) h1)
    obtain ⟨u, y, ei, ru, ry⟩ := vals2 rv
    subst ei
    cases (show u = Value.ref b from ru)
    refine ⟨(kv.1, b, y) :: hs, .cons ⟨rfl, h2, ry⟩ r, by rw [List.length_cons, List.length_cons, hl], fun j q e => ?_⟩
    cases j with
    | zero =>
      have e' : (kv.1, b, y) = q := Option.some.inj e
      subst e'
      obtain ⟨o, ho, hc, n, hd⟩ := ht
      exact ⟨p, rfl, ⟨o, ho, hc, n, hd⟩, key_of I.hok h2⟩
    | succ j =>
      obtain ⟨T, e1, e2, e3⟩ := hp j q (by simpa using e)
      exact ⟨T, by simpa using e1, e2, e3⟩
theorem call_dictPT (hc : X.calm = true) (hu : X.A.units + 2 < cLine) : CallR X (.type "dict") (fun xs H Q => ∃ (a : Addr) (ps : List Addr) (kvs : List (List Key × V)), xs = [.ref a] ∧ SqL X.K H a (ps.map V.ref) ∧ Paired (fun p kv => ∃ b, H p = some (.tup [.ref b, kv.2]) ∧ H b = some (.tup (kv.1.map kV))) ps kvs ∧
    ∀ p, H p = none → Q (.ref p) (upd H p (.dT (mergeT kvs)))) := by
  intro pins s σ H xs us Q I r q
  obtain ⟨a, ps, kvs, ex, hq, hp, q⟩ := q
  subst ex
  obtain ⟨u, eu, rx⟩ := vals1 r
  subst eu
  cases rx
  obtain ⟨its, rv, pl, hz⟩ := I.list hq
  have ei := refs_at rv
  subst ei
  have hh : X.A.handled = none := I.ok.hd hc
  obtain ⟨hs, kt, hl, hat⟩ := pairsT_of I hp
  rw [List.length_map] at hz
  have hrs : PairItems s.heap (ps.map Value.ref).toArray (fun j => ps.getD j 0) (hs.map fun q => (Value.ref q.2.1, q.2.2)) := by
    refine ⟨by simp [hl], fun j k v e => ?_⟩
    rw [List.getElem?_map] at e
    cases hj : hs[j]? with
    | none => rw [hj] at e; cases e
    | some q' =>
      rw [hj] at e
      cases e
      obtain ⟨T, e1, e2, _⟩ := hat j q' hj
      have eT : (fun j => ps.getD j 0) j = T := by
        show ps.getD j 0 = T
        rw [List.getD_eq_getElem?_getD, e1]
        rfl
      rw [eT]
      refine ⟨?_, .inl e2⟩
      rw [List.getElem?_toArray, List.getElem?_map, e1]
      rfl
  obtain ⟨o, n, ho, hcl, hd, hdat⟩ := pl
  have lhs : (hs.map fun q => (Value.ref q.2.1, q.2.2)).length = hs.length := List.length_map _
  refine PySem.call_dict_pairsH (knd := tupleKind (mixKind X.prog X.w)) (ps := hs) (PairArg.list a _ _ _) hh (tupleKind_room_in1 (A := X.A.in1) (show X.A.units + 1 + 1 < cLine from hu)) ⟨⟨o, n, ho, hcl, hd, hdat⟩, hrs⟩ ⟨lhs.symm, fun i key v h => ?_⟩ (fun h' hk x hx => ?_) (by rw [lhs, hl]; exact hz) fun h' tk hd' k => ?_
  · have h : (hs.map fun q => (Value.ref q.2.1, q.2.2))[i]? = some (key, v) := h
    rw [List.getElem?_map] at h
    cases hj : hs[i]? with
    | none => rw [hj] at h; cases h
    | some q' =>
      rw [hj] at h
      cases h
      exact ⟨q'.1, q'.2.1, rfl, rfl⟩
  · obtain ⟨j, hj, e⟩ := List.mem_iff_getElem.mp hx
    obtain ⟨T, _, _, e3⟩ := hat j x (by rw [List.getElem?_eq_getElem hj, e])
    obtain ⟨o3, items, n3, g1, g2, g3, g4⟩ := (show IsTupleKey (mixKind X.prog X.w) s.heap x.1 x.2.1 from e3)
    exact ⟨o3, items, n3, hk _ _ (Nat.ne_of_lt (Heap.lt_size g1)) (fun z => nomatch z) g1, g2, g3, g4⟩
  · have k : ∀ b o, s.heap.get? b = some o → h'.get? b = some o := fun b o e => k b o (fun z => nomatch z) e
    have hm : (s.heap.objs.size == sysModules) = false := beq_eq_false_iff_ne.mpr (Nat.ne_of_gt I.big)
    have km := KT.merge kt (acc := []) (xs := []) .nil
    have hlen : (mergeT kvs).length ≤ sizeLine := by
      have e1 : (mergeT kvs).length = (storedAllH [] hs).length := Paired.length km
      have e2 := storedAllH_length hs []
      rw [e1]
      refine Nat.le_trans e2 ?_
      rw [List.length_nil, Nat.zero_add, hl]
      exact hz
    obtain ⟨qo, es, ep, g1, g2, g3, g4, _, g5⟩ := hd'
    refine ⟨.ref s.heap.objs.size, upd H s.heap.objs.size (.dT (mergeT kvs)), I.laid (t' := tk) k (Nat.le_refl _) ⟨hlen, hm, storedAllH [] hs, ?_, qo, es, ep, g1, g2, g3, g4, g5⟩, rfl, q _ (I.hok.fresh (Nat.le_refl _))⟩
    exact KT.keeps km fun c ys ec => by
      rw [upd_ne (fun z => by rw [z, I.hok.fresh (Nat.le_refl _)] at ec; cases ec)]
      exact ec
end
end L2
set_option Elab.async false
set_option linter.all false
set_option maxRecDepth 100001
set_option maxHeartbeats 3999999
namespace K40
open PySem L2
open Huff (hf dot Best)
/-- xs[:r] + [y] + xs[r:], r and y by terms -/
theorem cut_in3 {K : PySem.W.Frag} {σ : St} {H : Hp} {i : Nat} {tj ty : TE} {p : Addr} {xs : List V} {y : V} {r : Nat} {Q : VK} (hi : σ[i]? = some (some (.ref p))) (hj : ∀ H', Same H H' → ∀ Q' : VK, Q' (.int ((r : Nat) : Int)) H' → tj σ H' Q') (hk : ∀ H', Same H H' → ∀ Q' : VK, Q' y H' → ty σ H' Q') (hp : H p = some (.lst xs)) (hr : r ≤ xs.length) (hs : xs.length ≤ 9000)
    (q : ∀ D H', Same H H' → H' D = some (.lst (xs.take r ++ [y] ++ xs.drop r)) → Q (.ref D) H') :
    tOp rCat (tOp rCat (tSl (rSlL K) (tVar i) tNoPart (tPart tj)) (tLst (tCons ty tNil))) (tSl (rSlL K) (tVar i) (tPart tj) tNoPart) σ H Q := by
  refine ⟨_, hi, ?_⟩
  simp only [tNoPart]
  refine hj H (Same.refl _) _ ⟨_, rfl, p, _, rfl, SqL.of hp, fun p1 np1 => ?_⟩
  rw [cut_to (by omega)]
  have e2 := same_new (o := .lst (xs.take r)) np1
  have h2 : upd H p1 (.lst (xs.take r)) p1 = some (.lst (xs.take r)) := upd_same
  have hp2 := e2 _ _ hp
  generalize upd H p1 (.lst (xs.take r)) = H2 at e2 h2 hp2 ⊢
  refine hk _ e2 _ ⟨by show 1 ≤ sizeLine; decide, fun p4 np4 => ?_⟩
  have e4 := same_new (o := .lst [y]) np4
  have h4 : upd H2 p4 (.lst [y]) p4 = some (.lst [y]) := upd_same
  have h24 := e4 _ _ h2
  have hp4 := e4 _ _ hp2
  generalize upd H2 p4 (.lst [y]) = H4 at e4 h4 h24 hp4 ⊢
  refine ⟨p1, p4, _, _, rfl, rfl, h24, h4, ?_, fun p5 np5 => ?_⟩
  · rw [List.length_take]
    exact Nat.le_of_lt (small10 (by show _ + 1 ≤ _; omega))
  have e5 := same_new (o := .lst (xs.take r ++ [y])) np5
  have h5 : upd H4 p5 (.lst (xs.take r ++ [y])) p5 = some (.lst (xs.take r ++ [y])) := upd_same
  have hp5 := e5 _ _ hp4
  have e25 := e2.trans (e4.trans e5)
  generalize upd H4 p5 (.lst (xs.take r ++ [y])) = H5 at h5 hp5 e25 ⊢
  refine ⟨_, hi, hj _ e25 _ ⟨_, rfl, ?_⟩⟩
  simp only [tNoPart]
  refine ⟨p, _, rfl, SqL.of hp5, fun p6 np6 => ?_⟩
  rw [cut_from (by omega)]
  have e6 := same_new (o := .lst (xs.drop r)) np6
  have h6 : upd H5 p6 (.lst (xs.drop r)) p6 = some (.lst (xs.drop r)) := upd_same
  have h56 := e6 _ _ h5
  have e26 := e25.trans e6
  generalize upd H5 p6 (.lst (xs.drop r)) = H6 at h6 h56 e26 ⊢
  refine ⟨p5, p6, _, _, rfl, rfl, h56, h6, by rw [List.length_append, List.length_take, List.length_drop]; exact Nat.le_of_lt (small10 (by show _ + 1 + _ ≤ _; omega)), fun p7 np7 => ?_⟩
  exact q p7 _ (e26.trans (same_new np7)) upd_same
abbrev sBeh : Stmt := topS 62
abbrev NBeh : List Str := ["_law_lengths", "_law_pair", "_law_counts", "_law_sign", "_law_found"]
def spBeh : Sp := fun vs H Q _ => ∃ (lp cp : Addr) (v : V) (pr : Pr) (ls cs : List Nat), vs = [.ref lp, v, .ref cp] ∧ H lp = some (.tup (nV ls)) ∧ PrT H v pr ∧ H cp = some (.lst (nV cs)) ∧ 1 ≤ cs.length ∧ ls.length = cs.length ∧ ls.length ≤ 100 ∧ Fits cs pr ∧
  ∀ t H', Same H H' → H' t = some (.tup (nV (stepL cs pr ls))) → Q (.ref t) H'
section
variable {P : Program} {w : World} {K : PySem.W.Frag} {mg : Str → Option Value} {base : Heap}
theorem scBeh : FnScope NBeh ["_law_lengths", "_law_pair", "_law_counts"] (defScope sBeh) := ⟨rfl, rfl, rfl, by decide +kernel, rfl, by decide +kernel, by decide +kernel⟩
theorem ok_beh {f : Addr} {fd : FuncData} (F : Fun K "_law_behind" "_law_behind" sBeh f fd) (B : Bi mg) : FnOk P w K mg base CX0 1 f fd ["_law_lengths", "_law_pair", "_law_counts"] spBeh := by
  refine F.ok scBeh (fun vs H Q E h => ?_) (fun cdv A outer s H vs Q E hr h => ?_)
  · obtain ⟨lp, cp, v, pr, ls, cs, rfl, _⟩ := h
    rfl
  · obtain ⟨lp, cp, v, pr, ls, cs, rfl, hl, ⟨a, rfl, hv⟩, hc, c1, lc, l100, fit, q⟩ := h
    refine ⟨_, pss_cons (ps_if (pt_cmpR op_eq (pe_ix ix_tup (pv 1) pe_int (fun _ _ => rfl)) pe_str (nomark _)) (pss_one (ps_ret (pv 0))) pss_nil)
      (pss_cons (ps_par (i := 3) (j := 4) rfl scBeh.nd rfl rfl (by decide) rfl rfl (pa_cons (pe_bm PySem.F.plainAttrs_list PySem.F.slot_list_index PySem.F.type_list_index mt_index (pv 2) (pa_cons (pe_callB (cr_min rfl) rfl B.min (by decide +kernel) (pa_cons (pv 2) pa_nil)) pa_nil)) (pa_cons (pe_callTy call_list_of rfl B.list (by decide +kernel) (pa_cons (pv 0) pa_nil)) pa_nil)) rfl)
      (pss_cons (ps_asg (pe_op op_add (pe_ix ix_tup (pv 0) (pv 3) (fun _ _ => rfl)) pe_int) (pg_sub (pv 4) (pv 3) set_list))
      (pss_one (ps_ret (pe_tupleOf rfl B.tuple (pe_op op_cat (pe_op op_cat (pe_slice sl_list (pv 4) po_none (po_some (pe_ix ix_tup (pv 1) pe_int (fun _ _ => rfl)))) (pe_lst (pa_cons (pe_op op_add (pe_ix ix_tup (pv 0) (pv 3) (fun _ _ => rfl)) pe_int) pa_nil))) (pe_slice sl_list (pv 4) (po_some (pe_ix ix_tup (pv 1) pe_int (fun _ _ => rfl))) po_none))))))), ?_⟩
    cases pr with
    | ta ts =>
      obtain ⟨t, h1, h2⟩ := hv
      refine ⟨_, rfl, a, _, _, _, rfl, rfl, SqT.of h1, atI_nat (j := 0) rfl, rfl, _, rfl, ?_⟩
      rw [decide_eq_true rfl]
      exact iteT ⟨_, rfl, q lp H (Same.refl _) hl⟩
    | pt r =>
      have hv : H a = some (.tup [.str "put", .int ((r : Nat) : Int)]) := hv
      have fit : r ≤ cs.length := fit
      refine ⟨_, rfl, a, _, _, _, rfl, rfl, SqT.of hv, atI_nat (j := 0) rfl, rfl, _, rfl, ?_⟩
      rw [decide_eq_false (by decide)]
      refine iteF ?_
      refine ⟨_, rfl, .inl ⟨rfl, _, SqL.of hc⟩, _, rfl, cp, cs.map fun c : Nat => (c : Int), rfl, SqL.of (by rw [← nV_I]; exact hc), by rw [List.length_map]; omega, fun m hm hle => ?_⟩
      obtain ⟨m, mm, rfl⟩ := List.mem_map.mp hm
      obtain ⟨j, fj, ej⟩ := Fst.of mm fun z hz => by have := hle _ (List.mem_map_of_mem (f := fun c : Nat => (c : Int)) hz); omega
      have g := getD_at (d := 0) fj.lt
      have hj : j < ls.length := by have := fj.lt; omega
      refine ⟨cp, nV cs, .int ((m : Nat) : Int), j, .int ((m : Nat) : Int), rfl, rfl, SqL.of hc, rfl, ?_, ?_, ?_, ?_, ?_⟩
      · rw [List.all_eq_true]
        intro v hv
        obtain ⟨c, _, rfl⟩ := List.mem_map.mp hv
        rfl
      · rw [nV_at fj.lt, lAt_get fj.lt, ← g, ej]
      · show (((m : Nat) : Int) == ((m : Nat) : Int)) = true
        exact beq_self_eq_true _
      · intro k z hk hz
        obtain ⟨lk, rfl⟩ := nV_get hz
        have := fj.no k hk
        show ((((lAt cs k : Nat) : Int)) == ((m : Nat) : Int)) = false
        rw [beq_eq_false_iff_ne]
        rw [ej] at this
        have e : lAt cs k = cs.getD k 0 := rfl
        omega
      refine ⟨_, rfl, lp, _, rfl, .inr (SqT.of hl), fun t nt => ⟨_, _, rfl, ?_⟩⟩
      have e1 := same_new (o := .lst (nV ls)) nt
      have ht : upd H t (.lst (nV ls)) t = some (.lst (nV ls)) := upd_same
      generalize upd H t (.lst (nV ls)) = H1 at e1 ht ⊢
      dsimp only
      have l1 := e1 _ _ hl
      refine ⟨_, rfl, _, rfl, lp, _, _, _, rfl, rfl, SqT.of l1, atI_nat (nV_at hj), _, _, rfl, rfl, ?_⟩
      refine ⟨_, rfl, _, rfl, t, _, _, j, rfl, rfl, ht, ixn (by rw [nV_len]; exact hj), ?_⟩
      have eset : (nV ls).set j (.int (((lAt ls j : Nat) : Int) + 1)) = nV (ls.set j (ls.getD j 0 + 1)) := by
        unfold nV
        rw [List.map_set]
        rfl
      rw [eset]
      have nth : ∀ {b : Addr} {o : HO}, H b = some o → b ≠ t := fun z => ne_of_none z nt
      have e2 : Same H (upd H1 t (.lst (nV (ls.set j (ls.getD j 0 + 1))))) := fun b o z => (upd_ne (nth z)).trans (e1 _ _ z)
      have t2 : upd H1 t (.lst (nV (ls.set j (ls.getD j 0 + 1)))) t = some (.lst (nV (ls.set j (ls.getD j 0 + 1)))) := upd_same
      generalize upd H1 t (.lst (nV (ls.set j (ls.getD j 0 + 1)))) = H2 at e2 t2 ⊢
      refine cut_in3 (r := r) (y := .int ((ls.getD j 0 + 1 : Nat) : Int)) rfl (fun H' e Q' h => ⟨_, rfl, a, _, _, _, rfl, rfl, SqT.of (e _ _ (e2 _ _ hv)), atI_nat (j := 1) rfl, h⟩) (fun H' e Q' h => ⟨_, rfl, _, rfl, lp, _, _, _, rfl, rfl, SqT.of (e _ _ (e2 _ _ hl)), atI_nat (nV_at hj), _, _, rfl, rfl, h⟩) t2 (by rw [nV_len, List.length_set]; omega) (by rw [nV_len, List.length_set]; omega) fun D H3 e3 hD => ?_
      rw [show (nV (ls.set j (ls.getD j 0 + 1))).take r ++ [V.int ((ls.getD j 0 + 1 : Nat) : Int)] ++ (nV (ls.set j (ls.getD j 0 + 1))).drop r = nV (Grp.part ls j r) by
        unfold Grp.part Grp.put nV
        rw [List.map_append, List.map_append, List.map_take, List.map_drop]
        rfl] at hD
      refine LT.tup (.inl hD) fun t4 H4 e4 h4 => ?_
      refine q t4 H4 (e2.trans (e3.trans e4)) ?_
      rw [h4]
      show _ = some (HO.tup (nV (Grp.part ls (mi cs) r)))
      rw [fj.mi]
end
end K40
set_option Elab.async false
set_option linter.all false
set_option maxRecDepth 100001
set_option maxHeartbeats 3999999
namespace K40
open PySem L2
open Huff (hf dot Best)
theorem fu_full {m : Nat} {ls : List Nat} (h : AllL.Fu m ls) (m10 : m ≤ 11) : ls.length = m ∧ Huff.Full ls := ⟨h.len, 10, fun l hl => by have := h.hi l hl; omega, h.kl⟩
theorem full_fu {m : Nat} {ls : List Nat} (e : ls.length = m) (m2 : 2 ≤ m) (m10 : m ≤ 11) (f : Huff.Full ls) : AllL.Fu m ls := by
  obtain ⟨L, hL, k⟩ := f
  have d := full_deep m e hL k
  refine ⟨e, Huff.full_pos (by omega) k, d, ?_⟩
  have b : ∀ l ∈ ls, l ≤ 10 := fun l hl => by have := d l hl; omega
  by_cases c : L ≤ 10
  · rw [Huff.kl_scale c hL, k, ← Nat.pow_add, Nat.sub_add_cancel c]
  · exact Huff.kl_max (by omega) b k
/-- the tables: all lengths of codes of two to five signs -/
structure Tabl (H : Hp) (tb : Addr) (D : Nat → Addr) (bs : Nat → List Addr) (rows : Nat → List (List Nat)) : Prop where
  d : H tb = some (.dK [(.inl 2, .ref (D 2)), (.inl 3, .ref (D 3)), (.inl 4, .ref (D 4)), (.inl 5, .ref (D 5))])
  l : ∀ m, 2 ≤ m → m ≤ 5 → H (D m) = some (.lst ((bs m).map V.ref))
  r : ∀ m, 2 ≤ m → m ≤ 5 → Rws H (bs m) (rows m)
  nd : ∀ m, 2 ≤ m → m ≤ 5 → (rows m).Nodup
  fu : ∀ m, 2 ≤ m → m ≤ 5 → ∀ ls, ls ∈ rows m ↔ AllL.Fu m ls
theorem Tabl.kp {H H' : Hp} {tb : Addr} {D : Nat → Addr} {bs : Nat → List Addr} {rows : Nat → List (List Nat)} (h : Tabl H tb D bs rows) (e1 : ∀ kvs, H tb = some (.dK kvs) → H' tb = some (.dK kvs)) (e2 : ∀ a xs, H a = some (.lst xs) → H' a = some (.lst xs)) (e3 : ∀ a xs, H a = some (.tup xs) → H' a = some (.tup xs)) : Tabl H' tb D bs rows :=
  ⟨e1 _ h.d, fun m h1 h2 => e2 _ _ (h.l m h1 h2), fun m h1 h2 => Rws.same (h.r m h1 h2) fun _ _ z => e3 _ _ z, h.nd, h.fu⟩
theorem Tabl.same {H H' : Hp} {tb : Addr} {D : Nat → Addr} {bs : Nat → List Addr} {rows : Nat → List (List Nat)} (h : Tabl H tb D bs rows) (e : Same H H') : Tabl H' tb D bs rows := h.kp (fun _ z => e _ _ z) (fun _ _ z => e _ _ z) fun _ _ z => e _ _ z
theorem Tabl.get {H : Hp} {tb : Addr} {D : Nat → Addr} {bs : Nat → List Addr} {rows : Nat → List (List Nat)} (h : Tabl H tb D bs rows) {m : Nat} (h1 : 2 ≤ m) (h2 : m ≤ 5) : DGet H tb (.int ((m : Nat) : Int)) (some (.ref (D m))) := by
  have g := DGet.k (k := .inl ((m : Nat) : Int)) h.d
  have : m = 2 ∨ m = 3 ∨ m = 4 ∨ m = 5 := by omega
  rcases this with rfl | rfl | rfl | rfl <;> exact g
abbrev sRo : Stmt := topS 63
abbrev NRo : List Str := ["_law_tables", "_law_counts", "_law_least_here", "_law_lengths"]
def spRo : Sp := fun vs H Q _ => ∃ (tb cp : Addr) (Dt : Nat → Addr) (bs : Nat → List Addr) (rows : Nat → List (List Nat)) (cs : List Nat), vs = [.ref tb, .ref cp] ∧ Tabl H tb Dt bs rows ∧ H cp = some (.lst (nV cs)) ∧ 2 ≤ cs.length ∧ cs.length ≤ 5 ∧
  ∀ D as rs H', Same H H' → H D = none → H' D = some (.lst (as.map V.ref)) → Rws H' as rs → rs.Nodup → (∀ ls, ls ∈ rs ↔ ls.length = cs.length ∧ Huff.Full ls ∧ dot ls cs = hf cs) → Q (.ref D) H'
theorem rws_pick {H : Hp} {bs : List Addr} {rows : List (List Nat)} (h : Rws H bs rows) : ∀ is : List Nat, (∀ i ∈ is, i < rows.length) → Rws H (is.map fun i => bs.getD i 0) (is.map fun i => rows.getD i [])
  | [], _ => .nil
  | i :: is, hi => by
    refine .cons ?_ (rws_pick h is fun j hj => hi j (List.mem_cons_of_mem _ hj))
    obtain ⟨t, h1, h2⟩ := h.at (hi i List.mem_cons_self)
    show H (bs.getD i 0) = _
    rw [List.getD_eq_getElem?_getD, h1]
    exact h2
theorem nd_inj {α : Type} {l : List α} (h : l.Nodup) {i j : Nat} (hi : i < l.length) (hj : j < l.length) (e : l[i] = l[j]) : i = j := by
  have p := List.pairwise_iff_getElem.mp h
  rcases Nat.lt_trichotomy i j with c | c | c
  · exact absurd e (p i j hi hj c)
  · exact c
  · exact absurd e.symm (p j i hj hi c)
section
variable {P : Program} {w : World} {K : PySem.W.Frag} {mg : Str → Option Value} {base : Heap}
theorem scRo : FnScope NRo ["_law_tables", "_law_counts"] (defScope sRo) := ⟨rfl, rfl, rfl, by decide +kernel, rfl, by decide +kernel, by decide +kernel⟩
theorem ok_ro {f : Addr} {fd : FuncData} (F : Fun K "_law_right_ones" "_law_right_ones" sRo f fd) (B : Bi mg) (cLe : Cal CX0 P w K mg base 1 "_law_least" spLLe) (cLc : Cal CX0 P w K mg base 1 "_law_cost" spLCo) : FnOk P w K mg base CX0 2 f fd ["_law_tables", "_law_counts"] spRo := by
  refine F.ok scRo (fun vs H Q E h => ?_) (fun cdv A outer s H vs Q E hr h => ?_)
  · obtain ⟨tb, cp, Dt, bs, rows, cs, rfl, _⟩ := h
    rfl
  · obtain ⟨tb, cp, Dt, bs, rows, cs, rfl, T, hc, c2, c5, q⟩ := h
    refine ⟨_, pss_cons (ps_set (i := 2) scRo.nd rfl (Or.inr rfl) (pe_c cLe hr pass0 (pa_cons (pv 1) pa_nil)))
      (pss_one (ps_ret (pe_lc (own := [("_law_lengths", 3)]) rfl scRo.nd (pi_sqA (pe_dget (hu_of hr) (pv 0) (pe_len B.len (pa_cons (pv 1) pa_nil)) (fun _ _ => rfl))) (blkOk_by (N := NRo) (sc := defScope sRo) (by decide +kernel)) (fun _ _ _ _ _ => (pg_name (i := 3) scRo.nd rfl (Or.inl rfl))) (fun _ _ _ _ _ => (pts_one (pt_cmpR op_eq (pe_c cLc hr pass0 (pa_cons (pv 3) (pa_cons (pv 1) pa_nil))) (pv 2) (nomark _)))) (fun _ _ _ _ _ => (pv 3))))), ?_⟩
    have lc : (nV cs).length = cs.length := nV_len cs
    refine ⟨_, rfl, cp, cs, rfl, hc, by omega, fun H1 e1 => ?_⟩
    refine gN ?_
    have T1 := T.same e1
    have hc1 := e1 _ _ hc
    refine ⟨_, rfl, _, rfl, cp, _, rfl, .inl (SqL.of hc1), tb, .ref (Dt cs.length), rfl, by rw [lc]; exact T1.get c2 c5, ?_⟩
    have lb : (bs cs.length).length = (rows cs.length).length := Paired.length (T1.r cs.length c2 c5)
    have few : (rows cs.length).length ≤ 9000 := by
      have := AllL.fu_few (s := cs.length) (by omega) (T1.nd _ c2 c5) (fun ls hl => (T1.fu _ c2 c5 ls).mp hl)
      omega
    refine ⟨Dt cs.length, _, rfl, .inl (SqL.of (T1.l _ c2 c5)), fun J G wk hG D nD => lcF wk (fun i => decide (dot ((rows cs.length).getD i []) cs = hf cs)) (fun i => .ref ((bs cs.length).getD i 0)) (by rw [List.length_map]; omega) nD (fun H' e => hG H' fun o z => e _ _ z) ?_ ?_⟩
    · rintro i x H2 H3 N N2 hi e2 ⟨rfl, hx⟩ yes no
      rw [List.length_map] at hi
      obtain ⟨t, h1, h2⟩ := (T1.r cs.length c2 c5).at (show i < (rows cs.length).length by omega)
      rw [List.getElem?_map, h1] at hx
      cases hx
      have hfu := (T1.fu _ c2 c5 (Ta (rows cs.length) i)).mp (by
        unfold Ta
        rw [getD_at (show i < (rows cs.length).length by omega)]
        exact List.getElem_mem _)
      refine ⟨rfl, ?_⟩
      refine ⟨_, rfl, _, rfl, t, cp, Ta (rows cs.length) i, cs, rfl, .inr (e2 _ _ h2), e2 _ _ hc1, hfu.len.symm, by rw [hfu.len]; omega, fun l hl => by have := hfu.hi l hl; omega, fun H4 e4 => ?_⟩
      refine ⟨_, rfl, rfl, _, rfl, ?_⟩
      rw [dec_int]
      have ii : ∀ i j : Nat, (((i : Nat) : Int) == ((j : Nat) : Int)) = decide (i = j) := fun i j => by rw [Bool.eq_iff_iff]; simp; omega
      rw [ii]
      have eb : (bs cs.length).getD i 0 = t := by rw [List.getD_eq_getElem?_getD, h1]; rfl
      by_cases c : dot (Ta (rows cs.length) i) cs = hf cs
      · rw [decide_eq_true c]
        have := yes (decide_eq_true c) H4 e4
        rw [eb] at this
        exact iteT ⟨_, rfl, this⟩
      · rw [decide_eq_false c]
        exact iteF (no (decide_eq_false c) H4 e4)
    · intro H2 e2 hD
      rw [List.length_map, lb] at hD
      have hm : ∀ i ∈ (List.range (rows cs.length).length).filter (fun i => decide (dot ((rows cs.length).getD i []) cs = hf cs)), i < (rows cs.length).length := fun i hi => List.mem_range.mp (List.mem_filter.mp hi).1
      refine q D (((List.range (rows cs.length).length).filter (fun i => decide (dot ((rows cs.length).getD i []) cs = hf cs))).map fun i => (bs cs.length).getD i 0) (((List.range (rows cs.length).length).filter (fun i => decide (dot ((rows cs.length).getD i []) cs = hf cs))).map fun i => (rows cs.length).getD i []) H2 (e1.trans e2) (old_no e1 nD) (by rw [List.map_map]; exact hD) (rws_pick (Rws.same (T1.r _ c2 c5) fun _ _ z => e2 _ _ z) _ hm) ?_ fun ls => ?_
      · refine List.pairwise_map.mpr (List.Pairwise.imp_of_mem (fun {i j} hi hj ne z => ne ?_) ((List.nodup_range).filter _))
        have hi := hm i hi
        have hj := hm j hj
        rw [getD_at hi, getD_at hj] at z
        exact nd_inj (T1.nd _ c2 c5) hi hj z
      · have fu := T1.fu _ c2 c5 ls
        rw [List.mem_map]
        constructor
        · rintro ⟨i, hi, rfl⟩
          have l := hm i hi
          have p := of_decide_eq_true (List.mem_filter.mp hi).2
          have fu := fu_full (fu.mp (by rw [getD_at l]; exact List.getElem_mem l)) (by omega)
          exact ⟨fu.1, fu.2, p⟩
        · rintro ⟨h1, h2, h3⟩
          have := fu.mpr (full_fu h1 c2 (by omega) h2)
          obtain ⟨i, hi, e⟩ := List.mem_iff_getElem.mp this
          exact ⟨i, List.mem_filter.mpr ⟨List.mem_range.mpr hi, decide_eq_true (by rw [getD_at hi, e]; exact h3)⟩, by rw [getD_at hi, e]⟩
end
end K40
set_option Elab.async false
set_option linter.all false
set_option maxRecDepth 100001
set_option maxHeartbeats 3999999
namespace K40
open PySem L2
open Huff (hf dot Best)
theorem grown_full {prs : List Pr} {tss : List (List Nat)} (hi : Hist prs tss) {a : Nat} {l : List Nat} (e : l.length = (Ta tss a).length) (f : Huff.Full l) : ∀ k, a + k < prs.length → Huff.Full (grown prs tss a l k)
  | 0, _ => f
  | k + 1, hk => by
    have ih := grown_full hi e f k (by omega)
    have gl := grown_len hi e k (by omega)
    show Huff.Full (stepL _ _ _)
    cases h : Pa prs (a + k + 1) with
    | ta cs => exact ih
    | pt r => exact Grp.full_part r (by rw [gl]; exact (hi.pos (by omega)).lt) ih
/-- how many codes are wanted from f on, the last one begun at s -/
inductive Cnt (prs : List Pr) (tss : List (List Nat)) (f : Nat) : Nat → Nat → Nat → Prop where
  | one : Cnt prs tss f f 1 f
  | on {t m s : Nat} (c : Cnt prs tss f t m s) (h : ∃ l, l.length = (Ta tss s).length ∧ Huff.Full l ∧ Srv prs tss s (t + 2) l) : Cnt prs tss f (t + 1) m s
  | new {t m s : Nat} (c : Cnt prs tss f t m s) (h : ∀ l, l.length = (Ta tss s).length → Huff.Full l → ¬ Srv prs tss s (t + 2) l) : Cnt prs tss f (t + 1) (m + 1) (t + 1)
section
variable {prs : List Pr} {tss : List (List Nat)} {f t m s : Nat}
theorem Cnt.le (c : Cnt prs tss f t m s) : f ≤ s ∧ s ≤ t ∧ 1 ≤ m := by
  induction c with
  | one => exact ⟨Nat.le_refl _, Nat.le_refl _, Nat.le_refl _⟩
  | on c h ih => omega
  | new c h ih => omega
theorem Cnt.uniq {m2 s2 : Nat} (c : Cnt prs tss f t m s) : Cnt prs tss f t m2 s2 → m = m2 ∧ s = s2 := by
  induction c generalizing m2 s2 with
  | one =>
    intro c2
    generalize e : f = t at c2
    cases c2 with
    | one => exact ⟨rfl, rfl⟩
    | on c h => have := c.le; omega
    | new c h => have := c.le; omega
  | @on t m s c h ih =>
    intro c2
    generalize e : t + 1 = t2 at c2
    cases c2 with
    | one => have := c.le; omega
    | on c3 h3 =>
      have : t = _ := Nat.succ.inj e
      subst this
      exact ih c3
    | new c3 h3 =>
      have : t = _ := Nat.succ.inj e
      subst this
      obtain ⟨rfl, rfl⟩ := ih c3
      obtain ⟨l, h1, h2, h4⟩ := h
      exact absurd h4 (h3 l h1 h2)
  | @new t m s c h ih =>
    intro c2
    generalize e : t + 1 = t2 at c2
    cases c2 with
    | one => have := c.le; omega
    | on c3 h3 =>
      have : t = _ := Nat.succ.inj e
      subst this
      obtain ⟨rfl, rfl⟩ := ih c3
      obtain ⟨l, h1, h2, h4⟩ := h3
      exact absurd h4 (h l h1 h2)
    | new c3 h3 =>
      have : t = _ := Nat.succ.inj e
      subst this
      obtain ⟨rfl, rfl⟩ := ih c3
      exact ⟨rfl, rfl⟩
/-- one code is enough -/
theorem Cnt.serves (hi : Hist prs tss) (c : Cnt prs tss f t m s) (ht : t < prs.length) : ∃ l, l.length = (Ta tss s).length ∧ Huff.Full l ∧ Srv prs tss s (t + 1) l := by
  have new : ∀ s, s < prs.length → ∃ l, l.length = (Ta tss s).length ∧ Huff.Full l ∧ Srv prs tss s (s + 1) l := fun s hs => by
    have z := hi.sz s hs
    obtain ⟨b, B, _⟩ := Huff.best_ex (cs := Ta tss s) (by omega)
    exact ⟨b, B.len, B.full, Srv.one.mpr B.eq⟩
  cases c with
  | one => exact new _ ht
  | on c h => exact h
  | new c h => exact new _ ht
theorem Cnt.two (hi : Hist prs tss) (c : Cnt prs tss f t m s) (ht : t < prs.length) (no : NoC prs tss f t) : 2 ≤ m := by
  have h := c.le
  by_cases e : m = 1
  · exfalso
    have es : ∀ {t m s}, Cnt prs tss f t m s → m = 1 → s = f := by
      intro t m s c e
      induction c with
      | one => rfl
      | on c h ih => exact ih e
      | new c h ih => have := c.le; omega
    have := es c e
    subst this
    obtain ⟨l, h1, h2, h3⟩ := c.serves hi ht
    exact no l h1 h2 h3
  · omega
/-- within one stretch -/
theorem Cnt.walk {a e k : Nat} {ls : List Nat} (c : Cnt prs tss f a m a) (len : ls.length = (Ta tss a).length) (full : Huff.Full ls) (srv : Srv prs tss a e ls) : a + k < e → Cnt prs tss f (a + k) m a := by
  induction k with
  | zero => exact fun _ => c
  | succ k ih => exact fun h => .on (ih (by omega)) ⟨ls, len, full, fun j hj => srv j (by have hj : a + j < a + k + 2 := hj; omega)⟩
/-- the plan has as many codes as are wanted -/
theorem Cnt.plan : ∀ {sgs : List Sg} {a m : Nat}, (∀ g ∈ sgs, SgOk prs tss g) → Chn a sgs prs.length → sgs ≠ [] → Cnt prs tss f a m a → ∃ s, Cnt prs tss f (prs.length - 1) (m + sgs.length - 1) s
  | [g], a, m, ok, ⟨e1, e2⟩, _, c => by
    have e2 : g.e = prs.length := e2
    have o := ok g List.mem_cons_self
    have lo := o.lo
    subst e1
    have := c.walk (k := prs.length - 1 - g.a) o.len o.full o.srv (by omega)
    rw [show g.a + (prs.length - 1 - g.a) = prs.length - 1 by omega] at this
    exact ⟨g.a, this⟩
  | g :: g2 :: r, a, m, ok, ⟨e1, e2, e3⟩, _, c => by
    have o := ok g List.mem_cons_self
    have lo := o.lo
    have o2 := ok g2 (List.mem_cons_of_mem _ List.mem_cons_self)
    have lo2 := o2.lo
    have hi2 := o2.hi
    subst e1
    have := c.walk (k := g.e - 1 - g.a) o.len o.full o.srv (by omega)
    rw [show g.a + (g.e - 1 - g.a) = g.e - 1 by omega] at this
    have n := Cnt.new this fun l h1 h2 h3 => o.no (by omega) l h1 h2 (by rw [show g.e + 1 = g.e - 1 + 2 by omega]; exact h3)
    rw [show g.e - 1 + 1 = g.e by omega] at n
    obtain ⟨s, h⟩ := Cnt.plan (sgs := g2 :: r) (fun x hx => ok x (List.mem_cons_of_mem _ hx)) ⟨e2, e3⟩ (by simp) n
    refine ⟨s, ?_⟩
    rw [show m + (g :: g2 :: r).length - 1 = m + 1 + (g2 :: r).length - 1 by simp; omega]
    exact h
end
/-- what is known at a place -/
structure Dp (prs : List Pr) (tss : List (List Nat)) (f t : Nat) (ks : List (List Nat)) (val : List Nat → Nat) (m s : Nat) : Prop where
  cnt : Cnt prs tss f t m s
  keys : ∀ ls, ls ∈ ks ↔ ls.length = (Ta tss t).length ∧ Huff.Full ls ∧ Sv tss t ls
  nd : ks.Nodup
  vals : ∀ ls ∈ ks, val ls = m ∨ val ls = m + 1
  best : ∀ ls ∈ ks, (val ls = m ↔ ∃ l, l.length = (Ta tss s).length ∧ Huff.Full l ∧ Srv prs tss s (t + 1) l ∧ ls = grown prs tss s l (t - s))
  ex : ∃ ls ∈ ks, val ls = m
section
variable {prs : List Pr} {tss : List (List Nat)} {f t m s : Nat} {ks ks' : List (List Nat)} {val val' : List Nat → Nat}
theorem right_ex (hi : Hist prs tss) (ht : t < prs.length) (keys : ∀ ls, ls ∈ ks ↔ ls.length = (Ta tss t).length ∧ Huff.Full ls ∧ Sv tss t ls) : ∃ ls, ls ∈ ks := by
  have z := hi.sz t ht
  obtain ⟨b, B, _⟩ := Huff.best_ex (cs := Ta tss t) (by omega)
  exact ⟨b, (keys b).mpr ⟨B.len, B.full, B.eq⟩⟩
theorem Dp.start (hi : Hist prs tss) (ht : t < prs.length) (keys : ∀ ls, ls ∈ ks ↔ ls.length = (Ta tss t).length ∧ Huff.Full ls ∧ Sv tss t ls) (nd : ks.Nodup) (hv : ∀ ls ∈ ks, val ls = 1) : Dp prs tss t t ks val 1 t := by
  refine ⟨.one, keys, nd, fun ls h => .inl (hv ls h), fun ls h => ⟨fun _ => ?_, fun _ => hv ls h⟩, ?_⟩
  · obtain ⟨h1, h2, h3⟩ := (keys ls).mp h
    exact ⟨ls, h1, h2, Srv.one.mpr h3, by rw [Nat.sub_self]; rfl⟩
  · obtain ⟨ls, h⟩ := right_ex hi ht keys
    exact ⟨ls, h, hv ls h⟩
theorem Dp.step (hi : Hist prs tss) (D : Dp prs tss f t ks val m s) (ht : t + 1 < prs.length) (keys : ∀ ls, ls ∈ ks' ↔ ls.length = (Ta tss (t + 1)).length ∧ Huff.Full ls ∧ Sv tss (t + 1) ls) (nd : ks'.Nodup)
    (vals : ∀ ls ∈ ks', val' ls = m ∨ val' ls = m + 1) (iff : ∀ ls' ∈ ks', (val' ls' = m ↔ ∃ ls ∈ ks, val ls = m ∧ stepL (Ta tss t) (Pa prs (t + 1)) ls = ls')) : ∃ m' s', Dp prs tss f (t + 1) ks' val' m' s' := by
  obtain ⟨cnt, k0, nd0, v0, b0, ex0⟩ := D
  have cl := cnt.le
  have gs : ∀ l, grown prs tss s l (t + 1 - s) = stepL (Ta tss t) (Pa prs (t + 1)) (grown prs tss s l (t - s)) := fun l => by
    rw [show t + 1 - s = (t - s) + 1 by omega]
    show stepL (Ta tss (s + (t - s))) (Pa prs (s + (t - s) + 1)) _ = _
    rw [show s + (t - s) = t by omega]
  have sv : ∀ l, Srv prs tss s (t + 2) l ↔ Srv prs tss s (t + 1) l ∧ Sv tss (t + 1) (grown prs tss s l (t + 1 - s)) := fun l => by
    have := Srv.succ (prs := prs) (tss := tss) (a := s) (k := t + 1 - s) (l := l)
    rw [show s + (t + 1 - s) = t + 1 by omega] at this
    exact this
  have key : ∀ ls' ∈ ks', (val' ls' = m ↔ ∃ l, l.length = (Ta tss s).length ∧ Huff.Full l ∧ Srv prs tss s (t + 2) l ∧ ls' = grown prs tss s l (t + 1 - s)) := fun ls' h' => by
    rw [iff ls' h']
    constructor
    · rintro ⟨ls, h1, h2, h3⟩
      obtain ⟨l, a1, a2, a3, a4⟩ := (b0 ls h1).mp h2
      have e : ls' = grown prs tss s l (t + 1 - s) := by rw [gs, ← a4, h3]
      refine ⟨l, a1, a2, (sv l).mpr ⟨a3, ?_⟩, e⟩
      rw [← e]
      exact ((keys ls').mp h').2.2
    · rintro ⟨l, a1, a2, a3, a4⟩
      obtain ⟨a5, a6⟩ := (sv l).mp a3
      have hk : grown prs tss s l (t - s) ∈ ks := by
        refine (k0 _).mpr ⟨?_, grown_full hi a1 a2 _ (by omega), ?_⟩
        · rw [grown_len hi a1 _ (by omega), show s + (t - s) = t by omega]
        · have := a5 (t - s) (by omega)
          rw [show s + (t - s) = t by omega] at this
          exact this
      exact ⟨_, hk, (b0 _ hk).mpr ⟨l, a1, a2, a5, rfl⟩, by rw [a4, gs]⟩
  by_cases c : ∃ ls' ∈ ks', val' ls' = m
  · obtain ⟨ls', h1, h2⟩ := id c
    obtain ⟨l, a1, a2, a3, _⟩ := (key ls' h1).mp h2
    exact ⟨m, s, .on cnt ⟨l, a1, a2, a3⟩, keys, nd, vals, key, c⟩
  · have all : ∀ ls ∈ ks', val' ls = m + 1 := fun ls h => (vals ls h).resolve_left fun e => c ⟨ls, h, e⟩
    refine ⟨m + 1, t + 1, .new cnt fun l h1 h2 h3 => ?_, keys, nd, fun ls h => .inl (all ls h), fun ls h => ⟨fun _ => ?_, fun _ => all ls h⟩, ?_⟩
    · obtain ⟨_, h4⟩ := (sv l).mp h3
      have hk : grown prs tss s l (t + 1 - s) ∈ ks' := (keys _).mpr ⟨by rw [grown_len hi h1 _ (by omega), show s + (t + 1 - s) = t + 1 by omega], grown_full hi h1 h2 _ (by omega), h4⟩
      exact c ⟨_, hk, (key _ hk).mpr ⟨l, h1, h2, h3, rfl⟩⟩
    · obtain ⟨h1, h2, h3⟩ := (keys ls).mp h
      exact ⟨ls, h1, h2, Srv.one.mpr h3, by rw [Nat.sub_self]; rfl⟩
    · obtain ⟨ls, h⟩ := right_ex hi ht keys
      exact ⟨ls, h, all ls h⟩
end
end K40
set_option Elab.async false
set_option linter.all false
set_option maxRecDepth 100001
set_option maxHeartbeats 3999999
namespace K40
open PySem L2
open Huff (hf dot Best)
/-- a dict keyed by lengths -/
def kd (ks : List (List Nat)) (val : List Nat → Nat) : List (List Key × V) := ks.map fun ls => (KL ls, V.int ((val ls : Nat) : Int))
theorem kd_get {ks : List (List Nat)} {val : List Nat → Nat} {ls : List Nat} : valV (kd ks val) (KL ls) = if ls ∈ ks then some (.int ((val ls : Nat) : Int)) else none := by
  induction ks with
  | nil => rfl
  | cons k ks ih =>
    unfold kd valV at ih ⊢
    rw [List.map_cons, List.find?_cons]
    by_cases c : k = ls
    · subst c
      rw [decide_eq_true rfl, if_pos List.mem_cons_self]
      rfl
    · rw [decide_eq_false fun z => c (KL_inj z)]
      show (List.find? _ _).map _ = _
      rw [ih]
      by_cases c2 : ls ∈ ks
      · rw [if_pos c2, if_pos (List.mem_cons_of_mem _ c2)]
      · rw [if_neg c2, if_neg fun z => (List.mem_cons.mp z).elim (fun e => c e.symm) c2]
theorem kd_any {ks : List (List Nat)} {val : List Nat → Nat} {ls : List Nat} : ((kd ks val).any fun kv => decide (kv.1 = KL ls)) = decide (ls ∈ ks) := by
  rw [Bool.eq_iff_iff, List.any_eq_true, decide_eq_true_iff]
  constructor
  · rintro ⟨kv, h, e⟩
    obtain ⟨k, hk, rfl⟩ := List.mem_map.mp h
    exact KL_inj (of_decide_eq_true e) ▸ hk
  · exact fun h => ⟨_, List.mem_map_of_mem h, decide_eq_true rfl⟩
theorem kd_new {ks : List (List Nat)} {c : Nat} {ls : List Nat} (h : ls ∉ ks) : putK (kd ks fun _ => c) (KL ls) (.int ((c : Nat) : Int)) = kd (ks ++ [ls]) fun _ => c := by
  unfold putK
  rw [kd_any, if_neg (by simpa using h)]
  unfold kd
  rw [List.map_append]
  rfl
theorem kd_put {ks : List (List Nat)} {val : List Nat → Nat} {c : Nat} {ls : List Nat} (h : ls ∈ ks) : putK (kd ks val) (KL ls) (.int ((c : Nat) : Int)) = kd ks fun x => if x = ls then c else val x := by
  unfold putK
  rw [kd_any, if_pos (by simpa using h)]
  unfold kd
  rw [List.map_map]
  refine List.map_congr_left fun x _ => ?_
  show (if KL x = KL ls then (KL x, V.int ((c : Nat) : Int)) else (KL x, V.int ((val x : Nat) : Int))) = (KL x, V.int (((if x = ls then c else val x : Nat)) : Int))
  by_cases e : x = ls
  · rw [e, if_pos rfl, if_pos rfl]
  · rw [if_neg fun z => e (KL_inj z), if_neg e]
/-- the right ones place by place, lists in a list -/
def RtL (H : Hp) (rp : Addr) (tss : List (List Nat)) : Prop := ∃ rds : List Addr, H rp = some (.lst (rds.map V.ref)) ∧
  Paired (fun d cs => ∃ (as : List Addr) (rs : List (List Nat)), H d = some (.lst (as.map V.ref)) ∧ Rws H as rs ∧ rs.Nodup ∧ (∀ ls, ls ∈ rs ↔ ls.length = cs.length ∧ Huff.Full ls ∧ dot ls cs = hf cs) ∧ rs.length ≤ 9000) rds tss
abbrev sFew : Stmt := topS 64
abbrev NFew : List Str := ["_law_pairs", "_law_tallies", "_law_rights", "_law_first", "_law_last", "_law_known", "_law_lengths", "_law_at", "_law_best", "_law_later", "_law_behind_here"]
def spFew : Sp := fun vs H Q _ => ∃ (pp tp rp : Addr) (vs' : List V) (prs : List Pr) (tss : List (List Nat)) (f l : Nat), vs = [.ref pp, .ref tp, .ref rp, .int ((f : Nat) : Int), .int ((l : Nat) : Int)] ∧ H pp = some (.lst vs') ∧ Paired (PrT H) vs' prs ∧ TsL H tp tss ∧ RtL H rp tss ∧ Hist prs tss ∧ f ≤ l ∧ l < prs.length ∧
  ∀ m s H', Cnt prs tss f l m s → Same H H' → Q (.int ((m : Nat) : Int)) H'
theorem ones_of {H : Hp} : ∀ {as : List Addr} {rs : List (List Nat)} {acc : List V}, Rws H as rs → acc.length = as.length → (∀ (i : Nat) (v : V), acc[i]? = some v → ∃ (p b : Addr), v = V.ref p ∧ as[i]? = some b ∧ H p = some (.tup [.ref b, .int 1])) →
    ∃ ps : List Addr, acc = ps.map V.ref ∧ Paired (fun p kv => ∃ b, H p = some (.tup [.ref b, kv.2]) ∧ H b = some (.tup (kv.1.map kV))) ps (kd rs fun _ => 1)
  | [], _, [], h, _, _ => by
    cases h
    exact ⟨[], rfl, .nil⟩
  | a :: as, _, v :: acc, h, e, r => by
    cases h with
    | @cons _ ls _ rs h1 h2 =>
      obtain ⟨ps, e1, e2⟩ := ones_of (acc := acc) h2 (by simpa using e) fun i v hv => r (i + 1) v hv
      obtain ⟨p, b, rfl, hb, hp⟩ := r 0 v rfl
      have : a = b := Option.some.inj hb
      subst this
      exact ⟨p :: ps, by rw [e1]; rfl, .cons ⟨a, hp, by show H a = some (.tup ((KL ls).map kV)); rw [KL_V]; exact h1⟩ e2⟩
  | [], _, _ :: _, _, e, _ => by simp at e
  | _ :: _, _, [], _, e, _ => by simp at e
section
variable {P : Program} {w : World} {K : PySem.W.Frag} {mg : Str → Option Value} {base : Heap}
theorem scFew : FnScope NFew ["_law_pairs", "_law_tallies", "_law_rights", "_law_first", "_law_last"] (defScope sFew) := ⟨rfl, rfl, rfl, by decide +kernel, rfl, by decide +kernel, by decide +kernel⟩
/-- the least of the values -/
theorem Dp.min {prs : List Pr} {tss : List (List Nat)} {f t m s : Nat} {ks : List (List Nat)} {val : List Nat → Nat} {H : Hp} {d p : Addr} {Q : VK} (D : Dp prs tss f t ks val m s) (hd : H d = some (.dT (kd ks val))) (np : H p = none) (q : Q (.int ((m : Nat) : Int)) (upd H p (valuesO p d))) :
    rMinV [.ref p] (upd H p (valuesO p d)) Q := by
  refine ⟨p, d, kd ks val, ks.map fun ls => ((val ls : Nat) : Int), rfl, upd_same, (upd_ne (ne_of_none hd np)).trans hd, ?_, ?_, fun mm h1 h2 => ?_⟩
  · unfold kd
    rw [List.map_map, List.map_map]
    rfl
  · obtain ⟨ls, h, _⟩ := D.ex
    rw [List.length_map]
    exact List.length_pos_of_mem h
  · obtain ⟨ls, h, e⟩ := D.ex
    have b := h2 _ (List.mem_map_of_mem h)
    obtain ⟨ls2, h3, rfl⟩ := List.mem_map.mp h1
    have := D.vals ls2 h3
    rw [show (((val ls2 : Nat) : Int)) = ((m : Nat) : Int) by omega]
    exact q
theorem ok_few {f : Addr} {fd : FuncData} (F : Fun K "_law_fewest" "_law_fewest" sFew f fd) (B : Bi mg) (cBe : Cal CX0 P w K mg base 1 "_law_behind" spBeh) : FnOk P w K mg base CX0 2 f fd ["_law_pairs", "_law_tallies", "_law_rights", "_law_first", "_law_last"] spFew := by
  refine F.ok scFew (fun vs H Q E h => ?_) (fun cdv A outer s H vs Q E hr h => ?_)
  · obtain ⟨pp, tp, rp, vs', prs, tss, f, l, rfl, _⟩ := h
    rfl
  · obtain ⟨pp, tp, rp, vs, prs, tss, f, l, rfl, hpp, hpv, ht, hrt, hi, fl, ll, q⟩ := h
    have hu2 := Nat.lt_of_le_of_lt (Nat.add_le_add_left (show 2 ≤ 64 by decide) _) (hu64 hr)
    refine ⟨_, pss_cons (ps_set (i := 5) scFew.nd rfl (Or.inl rfl) (pe_callTy (call_dictPT rfl hu2) rfl B.dict (by decide +kernel) (pa_cons (pe_lc (own := [("_law_lengths", 6)]) rfl scFew.nd (pi_sqA (pe_ix ix_list (pv 2) (pv 3) (fun _ _ => rfl))) (blkOk_by (N := NFew) (sc := defScope sFew) (by decide +kernel)) (fun _ _ _ _ _ => (pg_name (i := 6) scFew.nd rfl (Or.inl rfl))) (fun _ _ _ _ _ => pts_nil) (fun _ _ _ _ _ => (pe_tup (pa_cons (pv 6) (pa_cons pe_int pa_nil))))) pa_nil)))
      (pss_cons (ps_for PassesOwn.never rfl (pi_range2 rfl B.range (pa_cons (pe_op op_add (pv 3) pe_int) (pa_cons (pe_op op_add (pv 4) pe_int) pa_nil))) (pg_name (i := 7) scFew.nd rfl (Or.inl rfl))
        (pss_cons (ps_par (i := 8) (j := 9) rfl scFew.nd rfl rfl (by decide) rfl rfl (pa_cons (pe_callB (cr_minV rfl) rfl B.min (by decide +kernel) (pa_cons (pe_bm0 PySem.F.plainAttrs_dict PySem.F.slot_dict_values PySem.F.type_dict_values mt_valuesT (pv 5)) pa_nil)) (pa_cons pe_dnewT pa_nil)) rfl)
        (pss_cons (ps_for PassesOwn.never rfl (pi_sqA (pe_ix ix_list (pv 2) (pv 7) (fun _ _ => rfl))) (pg_name (i := 6) scFew.nd rfl (Or.inl rfl))
          (pss_one (ps_dput (hu_of hr) (pv 9) (pv 6) (pe_op op_add (pv 8) pe_int) rfl)))
        (pss_cons (ps_lock (ps_for PassesOwn.never rfl (pi_keys (pv 5)) (pg_name (i := 6) scFew.nd rfl (Or.inl rfl))
          (pss_cons (ps_set (i := 10) scFew.nd rfl (Or.inl rfl) (pe_c cBe hr pass0 (pa_cons (pv 6) (pa_cons (pe_ix ix_list (pv 0) (pv 7) (fun _ _ => rfl)) (pa_cons (pe_ix ix_list (pv 1) (pe_op op_sub (pv 7) pe_int) (fun _ _ => rfl)) pa_nil)))))
          (pss_one (ps_if (pt_cmp (pc_din (hu_of hr) (pv 10) (pv 9))) (pss_one (ps_dput (hu_of hr) (pv 9) (pv 10) (pe_callB (call_min2 rfl) rfl B.min (by decide +kernel) (pa_cons (pe_dget (hu_of hr) (pv 9) (pv 10) (fun _ _ => rfl)) (pa_cons (pe_dget (hu_of hr) (pv 5) (pv 6) (fun _ _ => rfl)) pa_nil))) rfl)) pss_nil)))))
        (pss_one (ps_set (i := 5) scFew.nd rfl (Or.inl rfl) (pv 9)))))))
      (pss_one (ps_ret (pe_callB (cr_minV rfl) rfl B.min (by decide +kernel) (pa_cons (pe_bm0 PySem.F.plainAttrs_dict PySem.F.slot_dict_values PySem.F.type_dict_values mt_valuesT (pv 5)) pa_nil))))), ?_⟩
    obtain ⟨rds, hr1, hr2⟩ := id hrt
    obtain ⟨cts, ht1, ht2⟩ := id ht
    have lr : rds.length = prs.length := by rw [Paired.length hr2, hi.len]
    have lcts : cts.length = prs.length := by rw [Paired.length ht2, hi.len]
    have lv : vs.length = prs.length := Paired.length hpv
    have top := hi.top
    have rat : ∀ i, i < prs.length → ∃ d as rs, rds[i]? = some d ∧ H d = some (.lst (as.map V.ref)) ∧ Rws H as rs ∧ rs.Nodup ∧ (∀ ls, ls ∈ rs ↔ ls.length = (Ta tss i).length ∧ Huff.Full ls ∧ Sv tss i ls) ∧ rs.length ≤ 9000 := fun i hi' => by
      obtain ⟨d, hd, as, rs, h1, h2, h3, h4, h5⟩ := paired_get hr2 (List.getElem?_eq_getElem (show i < rds.length by omega))
      have e : d = Ta tss i := by
        unfold Ta
        rw [List.getD_eq_getElem?_getD, hd]
        rfl
      subst e
      exact ⟨_, as, rs, List.getElem?_eq_getElem _, h1, h2, h3, h4, h5⟩
    have cat : ∀ i, i < prs.length → ∃ c, cts[i]? = some c ∧ H c = some (.lst (nV (Ta tss i))) := fun i hi' => by
      obtain ⟨d, hd, h1⟩ := paired_get ht2 (List.getElem?_eq_getElem (show i < cts.length by omega))
      have e : d = Ta tss i := by
        unfold Ta
        rw [List.getD_eq_getElem?_getD, hd]
        rfl
      subst e
      exact ⟨_, List.getElem?_eq_getElem _, h1⟩
    obtain ⟨d0, as0, rs0, i0, j0, w0, n0, k0, f0⟩ := rat f (by omega)
    refine ⟨_, rfl, _, rfl, rp, _, _, .ref d0, rfl, rfl, SqL.of hr1, atI_nat (by rw [List.getElem?_map, i0]; rfl), ?_⟩
    have la0 : as0.length = rs0.length := Paired.length w0
    refine ⟨d0, _, rfl, .inl (SqL.of j0), fun J G wk hG D nD => lcR wk (fun i v H' => ∃ p b, v = .ref p ∧ as0[i]? = some b ∧ H' p = some (.tup [.ref b, .int 1])) (fun i v H1 H2 tt ⟨p, b, h1, h2, h3⟩ => ⟨p, b, h1, h2, tt _ _ h3⟩) (by rw [List.length_map]; omega) nD (fun H' e => hG H' fun o z => e _ _ z) ?_ ?_⟩
    · rintro i x H2 H3 N hi2 e2 ⟨rfl, hx⟩ fin
      rw [List.length_map] at hi2
      rw [List.getElem?_map, List.getElem?_eq_getElem hi2] at hx
      cases hx
      refine ⟨rfl, _, rfl, by show 2 ≤ sizeLine; decide, fun p np => ?_⟩
      exact fin _ _ (same_new np) ⟨p, as0[i], rfl, List.getElem?_eq_getElem hi2, upd_same⟩
    · intro acc H2 e2 lacc racc hD
      rw [List.length_map] at lacc
      have kvs : ∃ ps : List Addr, acc = ps.map V.ref ∧ Paired (fun p kv => ∃ b, H2 p = some (.tup [.ref b, kv.2]) ∧ H2 b = some (.tup (kv.1.map kV))) ps (kd rs0 fun _ => 1) := ones_of (Rws.same w0 fun _ _ z => e2 _ _ z) lacc racc
      obtain ⟨ps, eacc, pps⟩ := kvs
      refine ⟨D, ps, kd rs0 fun _ => 1, rfl, SqL.of (by rw [← eacc]; exact hD), pps, fun kn nkn => ?_⟩
      have em : mergeT (kd rs0 fun _ => 1) = kd rs0 fun _ => 1 := by
        have := mergeT_new (kd rs0 fun _ => 1) [] (by
          unfold kd
          rw [List.map_map]
          exact List.pairwise_map.mpr (List.Pairwise.imp (fun n z => n (KL_inj z)) n0)) (fun _ _ _ h => nomatch h)
        rw [List.nil_append] at this
        exact this
      rw [em]
      have e3 := e2.trans (same_new (o := .dT (kd rs0 fun _ => 1)) nkn)
      have k3 : upd H2 kn (.dT (kd rs0 fun _ => 1)) kn = some (.dT (kd rs0 fun _ => 1)) := upd_same
      have nk0 : H kn = none := old_no e2 nkn
      generalize upd H2 kn (.dT (kd rs0 fun _ => 1)) = H3 at e3 k3 ⊢
      have D0 : Dp prs tss f f rs0 (fun _ => 1) 1 f := Dp.start hi (by omega) k0 n0 fun _ _ => rfl
      refine gN ?_
      dsimp only
      refine ⟨_, rfl, _, _, rfl, rfl, _, rfl, _, _, rfl, rfl, _, _, rfl, ⟨by omega, by omega, by omega, by omega⟩, ?_⟩
      rw [show (((l : Nat) : Int) + 1 - (((f : Nat) : Int) + 1)).toNat = l - f by omega]
      refine for_range (D := { nx := _, rt := Q, bk := fun _ _ => False, ct := fun _ _ => False }) (fun i σ H' => ∃ (kn : Addr) (ks : List (List Nat)) (val : List Nat → Nat) (m s : Nat) (o6 o7 o8 o9 o10 : Option V), σ = [some (.ref pp), some (.ref tp), some (.ref rp), some (.int ((f : Nat) : Int)), some (.int ((l : Nat) : Int)), some (.ref kn), o6, o7, o8, o9, o10] ∧ Same H H' ∧ H kn = none ∧ H' kn = some (.dT (kd ks val)) ∧ ks.length ≤ 9000 ∧ Dp prs tss f (f + i) ks val m s)
        ⟨kn, rs0, _, 1, f, none, none, none, none, none, rfl, e3, nk0, k3, f0, D0⟩ ?_ ?_
      · clear D0 e3 k3 nkn em pps eacc hD
        rintro i σ H4 hi4 ⟨kn, ks, val, m, s, o6, o7, o8, o9, o10, rfl, e4, nk4, k4, f4, D4⟩
        rw [show (((f : Nat) : Int) + 1 + ((i : Nat) : Int)) = ((f + i + 1 : Nat) : Int) by omega]
        refine gN ?_
        dsimp only
        refine ⟨_, rfl, .inr (.inr (.inl ⟨rfl, .inr ⟨_, k4⟩⟩)), kn, _, rfl, rfl, k4, fun p np => ?_⟩
        delta tNil
        dsimp only
        refine D4.min k4 np ?_
        have e5 := e4.trans (same_new (o := valuesO p kn) np)
        have k5 := same_new (o := valuesO p kn) np _ _ k4
        generalize upd H4 p (valuesO p kn) = H5 at e5 k5 ⊢
        refine fun la nla => ⟨_, _, rfl, ?_⟩
        have e6 := e5.trans (same_new (o := .dT []) nla)
        have k6 := same_new (o := .dT []) nla _ _ k5
        have l6 : upd H5 la (.dT []) la = some (.dT []) := upd_same
        have nkl : kn ≠ la := ne_of_none k5 nla
        have nl0 : H la = none := old_no e5 nla
        generalize upd H5 la (.dT []) = H6 at e6 k6 l6 ⊢
        obtain ⟨d1, as1, rs1, i1, j1, w1, n1, q1, f1⟩ := rat (f + i + 1) (by omega)
        have la1 : as1.length = rs1.length := Paired.length w1
        have offl : ∀ {b : Addr} {o : HO}, H b = some o → b ≠ la := fun z => ne_of_none z nl0
        -- all right ones, one more each
        refine ⟨_, rfl, _, rfl, rp, _, _, .ref d1, rfl, rfl, SqL.of (e6 _ _ hr1), atI_nat (by rw [List.getElem?_map, i1]; rfl), ?_⟩
        refine ⟨d1, _, rfl, .inl (SqL.of (e6 _ _ j1)), fun J G wk hG => for_it wk (fun j σ H' => ∃ (o6 o10 : Option V), σ = [some (.ref pp), some (.ref tp), some (.ref rp), some (.int ((f : Nat) : Int)), some (.int ((l : Nat) : Int)), some (.ref kn), o6, some (.int ((f + i + 1 : Nat) : Int)), some (.int ((m : Nat) : Int)), some (.ref la), o10] ∧ Same H H' ∧ H' kn = some (.dT (kd ks val)) ∧ H' la = some (.dT (kd (rs1.take j) fun _ => m + 1))) ⟨o6, o10, rfl, e6, k6, l6⟩ (fun j σ H' _ ⟨_, _, _, e, _⟩ => hG H' fun o z => by rw [e6 _ _ j1] at z; cases z; exact e _ _ j1) ?_ ?_⟩
        · rintro j x σ H7 H8 hj ⟨o6, o10, rfl, e7, k7, l7⟩ ⟨rfl, hx⟩
          rw [List.length_map] at hj
          rw [List.getElem?_map, List.getElem?_eq_getElem hj] at hx
          cases hx
          obtain ⟨t, h1, h2⟩ := w1.at (show j < rs1.length by omega)
          have et : as1[j] = t := by rw [List.getElem?_eq_getElem hj] at h1; exact Option.some.inj h1
          rw [et]
          refine gN ?_
          dsimp only
          refine ⟨_, rfl, _, _, rfl, rfl, _, rfl, _, rfl, ?_⟩
          have hk2 : H8 t = some (.tup ((KL (Ta rs1 j)).map kV)) := by rw [KL_V]; exact e7 _ _ h2
          refine ⟨la, _, rfl, DPut.t (k := KL (Ta rs1 j)) l7 hk2 (by
            unfold kd
            rw [List.length_map, List.length_take]
            exact small10 (by omega)), ?_⟩
          have tk : rs1.take (j + 1) = rs1.take j ++ [Ta rs1 j] := by
            rw [List.take_succ, List.getElem?_eq_getElem (show j < rs1.length by omega)]
            unfold Ta
            rw [getD_at (show j < rs1.length by omega)]
            rfl
          have nin : Ta rs1 j ∉ rs1.take j := fun z => by
            obtain ⟨y, hy, ey⟩ := List.mem_iff_getElem.mp z
            rw [List.length_take] at hy
            rw [List.getElem_take] at ey
            unfold Ta at ey
            rw [getD_at (show j < rs1.length by omega)] at ey
            have := nd_inj n1 (by omega) (by omega) ey
            omega
          have ep : putK (kd (rs1.take j) fun _ => m + 1) (KL (Ta rs1 j)) (.int (((m : Nat) : Int) + 1)) = kd (rs1.take (j + 1)) fun _ => m + 1 := by
            rw [tk]
            exact kd_new nin
          rw [ep]
          exact ⟨_, _, rfl, fun b o z => (upd_ne (offl z)).trans (e7 _ _ z), (upd_ne nkl).trans k7, upd_same⟩
        · clear e6 k6 l6
          rintro σ H7 ⟨o6, o10, rfl, e7, k7, l7⟩
          rw [List.length_map, la1, List.take_length] at l7
          refine ⟨kn, _, k7, True.intro, fun od => ?_⟩
          have kf : upd H7 kn (.frz od (.dT (kd ks val))) kn = some (.frz od (.dT (kd ks val))) := upd_same
          have lf : upd H7 kn (.frz od (.dT (kd ks val))) la = some (.dT (kd rs1 fun _ => m + 1)) := (upd_ne nkl.symm).trans l7
          have ef : Same H (upd H7 kn (.frz od (.dT (kd ks val)))) := fun b o z => (upd_ne (ne_of_none z nk4)).trans (e7 _ _ z)
          generalize upd H7 kn (.frz od (.dT (kd ks val))) = H8 at kf lf ef ⊢
          refine ⟨_, rfl, kn, od, rfl, .inr ⟨_, kf, ?_⟩⟩
          refine for_it walk_keysT (fun j σ H' => ∃ (o6 o10 : Option V) (val' : List Nat → Nat), σ = [some (.ref pp), some (.ref tp), some (.ref rp), some (.int ((f : Nat) : Int)), some (.int ((l : Nat) : Int)), some (.ref kn), o6, some (.int ((f + i + 1 : Nat) : Int)), some (.int ((m : Nat) : Int)), some (.ref la), o10] ∧ Same H H' ∧ H' kn = some (.frz od (.dT (kd ks val))) ∧ H' la = some (.dT (kd rs1 val')) ∧
            (∀ ls ∈ rs1, val' ls = m ∨ val' ls = m + 1) ∧ ∀ ls' ∈ rs1, (val' ls' = m ↔ ∃ (k : Nat) (ls : List Nat), k < j ∧ ks[k]? = some ls ∧ val ls = m ∧ stepL (Ta tss (f + i)) (Pa prs (f + i + 1)) ls = ls')) ⟨o6, o10, _, rfl, ef, kf, lf, fun _ _ => .inr rfl, fun ls' _ => ⟨fun z => by omega, fun ⟨k, _, h, _⟩ => absurd h (Nat.not_lt_zero _)⟩⟩ (fun j σ H' _ ⟨_, _, _, _, _, z, _⟩ => z) ?_ ?_
          · clear kf lf ef e7 k7 l7
            rintro j x σ H9 H10 hj ⟨o6, o10, val', rfl, e9, k9, l9, v9, b9⟩ ⟨rfl, kk, vv, q0, hkv, rfl, hq0⟩
            have hj : j < ks.length := by rw [kd, List.length_map] at hj; exact hj
            obtain ⟨ls, els⟩ : ∃ ls, ls = ks[j] := ⟨_, rfl⟩
            have hkj : ks[j]? = some ls := by rw [List.getElem?_eq_getElem hj, els]
            have ekv : (kd ks val)[j]? = some (KL ls, V.int ((val ls : Nat) : Int)) := by
              unfold kd
              rw [List.getElem?_map, hkj]
              rfl
            rw [ekv] at hkv
            cases hkv
            have hls : ls ∈ ks := List.mem_of_getElem? hkj
            obtain ⟨g1, g2, g3⟩ := (D4.keys ls).mp hls
            have vls := D4.vals ls hls
            have hq1 : H10 q0 = some (.tup (nV ls)) := by rw [← KL_V]; exact hq0
            refine gN ?_
            dsimp only
            obtain ⟨c, c1, c2⟩ := cat (f + i) (by omega)
            have sz := hi.sz (f + i) (by omega)
            obtain ⟨fit, _⟩ := hi.nx (f + i) (by omega)
            have hv : vs[f + i + 1]? = some (vs[f + i + 1]'(by omega)) := List.getElem?_eq_getElem (by omega)
            have pv1 : PrT H (vs[f + i + 1]'(by omega)) (Pa prs (f + i + 1)) := by
              obtain ⟨d, hd, z⟩ := paired_get hpv hv
              unfold Pa
              rw [List.getD_eq_getElem?_getD, hd]
              exact z
            obtain ⟨v, ev⟩ : ∃ v, v = vs[f + i + 1]'(by omega) := ⟨_, rfl⟩
            rw [← ev] at hv pv1
            refine ⟨_, rfl, _, rfl, _, rfl, pp, _, _, v, rfl, rfl, SqL.of (e9 _ _ hpp), atI_nat hv, _, rfl, _, rfl, _, _, rfl, rfl, tp, _, _, .ref c, rfl, rfl, SqL.of (e9 _ _ ht1), by rw [show (((f + i + 1 : Nat) : Int) - 1) = ((f + i : Nat) : Int) by omega]; exact atI_nat (by rw [List.getElem?_map, c1]; rfl), ?_⟩
            refine ⟨q0, c, v, Pa prs (f + i + 1), ls, Ta tss (f + i), rfl, hq1, pv1.tt (TT.same e9), e9 _ _ c2, by omega, g1, by omega, fit, fun bt H11 e11 hbt => ?_⟩
            obtain ⟨b, eb⟩ : ∃ b, b = stepL (Ta tss (f + i)) (Pa prs (f + i + 1)) ls := ⟨_, rfl⟩
            rw [← eb] at hbt
            have hbk : H11 bt = some (.tup ((KL b).map kV)) := by rw [KL_V]; exact hbt
            have e12 := e9.trans e11
            have k11 := e11 _ _ k9
            have l11 := e11 _ _ l9
            have hq11 := e11 _ _ hq0
            refine gN ?_
            dsimp only
            refine ⟨_, rfl, _, rfl, la, _, rfl, DGet.t (k := KL b) l11 hbk, ?_⟩
            rw [kd_get]
            by_cases hb : b ∈ rs1
            · rw [if_pos hb]
              refine ⟨_, rfl, iteT ?_⟩
              have vb := v9 b hb
              refine ⟨_, rfl, _, rfl, la, .int ((val' b : Nat) : Int), rfl, by have := DGet.t (k := KL b) l11 hbk; rw [kd_get, if_pos hb] at this; exact this, ?_⟩
              refine ⟨_, rfl, _, rfl, kn, .int ((val ls : Nat) : Int), rfl, .inr ⟨kd ks val, KL ls, q0, .inr ⟨od, k11⟩, rfl, hq11, by rw [kd_get, if_pos hls]⟩, ?_⟩
              refine ⟨_, _, rfl, ?_⟩
              obtain ⟨cc, ecc⟩ : ∃ cc : Nat, cc = if val ls < val' b then val ls else val' b := ⟨_, rfl⟩
              have ei : (if ((val ls : Nat) : Int) < ((val' b : Nat) : Int) then ((val ls : Nat) : Int) else ((val' b : Nat) : Int)) = ((cc : Nat) : Int) := by
                rw [ecc]
                by_cases z : val ls < val' b
                · rw [if_pos z, if_pos (by omega)]
                · rw [if_neg z, if_neg (by omega)]
              rw [ei]
              refine ⟨_, rfl, _, rfl, la, _, rfl, DPut.t (k := KL b) l11 hbk (by
                unfold kd
                rw [List.length_map]
                exact small10 (by omega)), ?_⟩
              rw [kd_put hb]
              refine ⟨_, _, fun x => if x = b then cc else val' x, rfl, fun b o z => (upd_ne (offl z)).trans (e12 _ _ z), (upd_ne nkl).trans k11, upd_same, fun y hy => ?_, fun ls' h' => ?_⟩
              · dsimp only
                by_cases z : y = b
                · rw [if_pos z, ecc]
                  split <;> omega
                · rw [if_neg z]
                  exact v9 y hy
              · dsimp only
                by_cases z : ls' = b
                · rw [if_pos z]
                  have b9b := b9 b hb
                  constructor
                  · intro ec
                    by_cases cv : val ls = m
                    · exact ⟨j, ls, Nat.lt_succ_self _, hkj, cv, by rw [z, eb]⟩
                    · have : val' b = m := by
                        rw [ecc] at ec
                        split at ec <;> omega
                      obtain ⟨k, y, z1, z2, z3, z4⟩ := b9b.mp this
                      exact ⟨k, y, by omega, z2, z3, by rw [z4, z]⟩
                  · rintro ⟨k, y, z1, z2, z3, z4⟩
                    rw [ecc]
                    by_cases ck : k = j
                    · subst ck
                      rw [hkj] at z2
                      cases z2
                      split <;> omega
                    · have := b9b.mpr ⟨k, y, by omega, z2, z3, by rw [z4, z]⟩
                      split <;> omega
                · rw [if_neg z, b9 ls' h']
                  constructor
                  · rintro ⟨k, y, z1, z2⟩
                    exact ⟨k, y, by omega, z2⟩
                  · rintro ⟨k, y, z1, z2, z3, z4⟩
                    by_cases ck : k = j
                    · subst ck
                      rw [hkj] at z2
                      cases z2
                      exact absurd (by rw [eb, z4]) z
                    · exact ⟨k, y, by omega, z2, z3, z4⟩
            · rw [if_neg hb]
              refine ⟨_, rfl, iteF ⟨_, _, val', rfl, e12, k11, l11, v9, fun ls' h' => ?_⟩⟩
              rw [b9 ls' h']
              constructor
              · rintro ⟨k, y, z1, z2⟩
                exact ⟨k, y, by omega, z2⟩
              · rintro ⟨k, y, z1, z2, z3, z4⟩
                by_cases ck : k = j
                · subst ck
                  rw [hkj] at z2
                  cases z2
                  exact absurd (by rw [eb, z4]; exact h') hb
                · exact ⟨k, y, by omega, z2, z3, z4⟩
          · clear kf lf ef
            rintro σ H9 ⟨o6, o10, val', rfl, e9, k9, l9, v9, b9⟩
            refine ⟨k9, ?_⟩
            have ek : Same H (upd H9 kn (.dT (kd ks val))) := fun b o z => (upd_ne (ne_of_none z nk4)).trans (e9 _ _ z)
            have lk : upd H9 kn (.dT (kd ks val)) la = some (.dT (kd rs1 val')) := (upd_ne nkl.symm).trans l9
            refine ⟨_, rfl, ?_⟩
            refine gN ?_
            have lkd : (kd ks val).length = ks.length := List.length_map _
            obtain ⟨m', s', D9⟩ := D4.step (ks' := rs1) (val' := val') hi (by omega) q1 n1 v9 fun ls' h' => by
              rw [b9 ls' h']
              constructor
              · rintro ⟨k, ls, _, h2, h3, h4⟩
                exact ⟨ls, List.mem_of_getElem? h2, h3, h4⟩
              · rintro ⟨ls, h2, h3, h4⟩
                obtain ⟨k, hk, e⟩ := List.mem_iff_getElem.mp h2
                exact ⟨k, ls, by rw [lkd]; exact hk, by rw [List.getElem?_eq_getElem hk, e], h3, h4⟩
            exact ⟨la, rs1, val', m', s', _, _, _, _, _, rfl, ek, nl0, lk, f1, D9⟩
      · rintro σ H4 ⟨kn, ks, val, m, s, o6, o7, o8, o9, o10, rfl, e4, nk4, k4, f4, D4⟩
        rw [show f + (l - f) = l by omega] at D4
        refine ⟨_, rfl, .inr (.inr (.inl ⟨rfl, .inr ⟨_, k4⟩⟩)), kn, _, rfl, rfl, k4, fun p np => ?_⟩
        delta tNil
        dsimp only
        exact D4.min k4 np (q m s _ D4.cnt (e4.trans (same_new np)))
end
end K40
set_option Elab.async false
set_option linter.all false
set_option maxRecDepth 100001
set_option maxHeartbeats 3999999
/-! set(xs) of a list of ints -/
namespace L2
open PySem.Spec PySem PyProof.Rows
/-- a set without items -/
abbrev eSet (w : World) : Obj := { cls := .type "set", dict := none, data := .set #[] 0 (.fresh 0 0 (!w.params.followText "set-order")) }
abbrev lIt (l : Addr) : Obj := { cls := .type "list_iterator", data := .fields #[.ref l, .int 0 0] }
section
variable {P : Program} {w : World} {A : Around} {E : Value → Shared → Prop} {s : Shared}
theorem set_of_list {l : Addr} {xs : Array Value} (ns : List Int) {Q : Value → Shared → Prop} (hA : A.handled = none) (hx : s.heap.IsList l xs) (hn : IntsAre xs.toList ns) (few : ns.length + 1 < scanBound)
    (k : ∀ (h2 : Heap) (tk c : Nat), SetR w h2 s.heap.objs.size (fun j => decide (j ∈ ns)) c → c ≤ ns.length → (∀ b o, s.heap.get? b = some o → h2.get? b = some o) → Q (.ref s.heap.objs.size) { s with heap := h2, toks := tk }) :
    wpAny (model P w) A (call (.type "set") [.ref l]) Q E s := by
  have sz : xs.size = ns.length := (Array.length_toList (xs := xs)).symm.trans (IntsAre.length hn)
  obtain ⟨c0, tl0, m0⟩ := F.called_set.mro
  have m1 := F.called_set.made
  have m2 := F.called_set.sub
  refine wpAny_call (codeAny_of_tree ?_)
  show wpAny _ _ (callAny (.type "set") _) _ _ _
  refine wpAny_pure ⟨Code.quiet_builtin _ (by decide +kernel),
    codeAny_builtin F.entry_type_call ?_⟩
  rw [Around.under_plain (weight_type_call_type "set" [.ref l] [])
    rfl]
  have m3 := F.called_set.notType
  have m4 := F.called_set.canCreate
  have m5 := F.typeCall_set_1 (.ref l)
  repeat (any_goals (first | assumption | wp_step))
  refine codeAny_mono (code_set_led1 (.ref l) (E := E) (Q₁ := fun v z => v = .ref s.heap.objs.size ∧ z = { s with heap := s.heap.push (eSet w) }) ⟨rfl, rfl⟩) fun r z hz => ?_
  cases r with
  | error e => exact hz
  | ok fl =>
    cases fl with
    | ret v =>
      obtain ⟨rfl, rfl⟩ := hz
      have at0 : (s.heap.push (eSet w)).get? s.heap.objs.size = some (eSet w) := Heap.get?_push_size _ rfl
      have ty0 : Shared.TypeIs { s with heap := s.heap.push (eSet w) } (.ref s.heap.objs.size) "set" := ⟨_, at0, rfl⟩
      have m6 := F.called_set.init.lookup
      have m7 := F.called_set.init.bind (.ref s.heap.objs.size)
      repeat (any_goals (first | assumption | wp_step))
      refine codeAny_mono (codeAny_call_builtin (R := wants (fun u z => u = .none ∧ ∃ h2 tk c, z = { s with heap := h2, toks := tk } ∧ SetR w h2 s.heap.objs.size (fun j => decide (j ∈ ns)) c ∧ c ≤ ns.length ∧
        ∀ b o, s.heap.get? b = some o → h2.get? b = some o) E) F.called_set.init.plain F.entry_set_init (check_set_init_1 ty0 ?_)) fun u z hz => ?_
      · obtain ⟨⟨ocl, odt, oda, osl⟩, ho, hcl, n0, hda⟩ := hx
        simp only at hcl hda
        subst hcl hda
        have ho1 : (s.heap.push (eSet w)).get? l = some { cls := .type "list", dict := odt, data := .seq xs n0, slots := osl } := Heap.get?_push_of_some _ ho
        have m8 := F.sub_list_set
        have m9 := F.sub_list_frozenset
        have m10 : (Value.type "list" == Value.type "dict") = false := by decide
        have hx1 : (s.heap.push (eSet w)).IsList l xs := ⟨_, ho1, rfl, n0, rfl⟩
        unfold Builtin.«set.__init__» noKeywords
        unfold Builtin.Frozenset.updateFrom
        generalize hIt : pyIter = It
        wp_walk
        subst hIt
        refine wpAny_pyIter_list hx1 (wpAny_bind (wpAny_runValue ?_))
        have lt0 : l < s.heap.objs.size := Heap.lt_size ho
        have sz1 : (s.heap.push (eSet w)).objs.size = s.heap.objs.size + 1 := Heap.size_push ..
        have ne1 : l ≠ (s.heap.push (eSet w)).objs.size := by
          rw [sz1]
          exact Nat.ne_of_lt (Nat.lt_succ_of_lt lt0)
        have off1 : s.heap.objs.size ∉ [(s.heap.push (eSet w)).objs.size, l] := fun hm => by
          rcases List.mem_cons.mp hm with e | hm
          · rw [sz1] at e
            exact Nat.ne_of_lt (Nat.lt_succ_self _) e
          · exact Nat.ne_of_gt lt0 (List.mem_singleton.mp hm)
        have val : ∀ (i : Nat) (v : Value), xs[i]? = some v → ∃ k t, ns[i]? = some k ∧ v = .int k t := fun i v hv => by
          have hi : i < ns.length := by
            have := (Array.getElem?_eq_some_iff.mp hv).1
            omega
          obtain ⟨t, e⟩ := IntsAre.int_at hn i v (by rw [Array.getElem?_toList]; exact hv)
          exact ⟨ns[i], t, List.getElem?_eq_getElem hi, by rw [e, List.getD_eq_getElem?_getD, List.getElem?_eq_getElem hi]; rfl⟩
        refine set_update_ints ((Walks.list (show A.in1.in1.in1.handled = none by simp [hA]) _ l ne1 xs).toS) s.heap.objs.size off1 ns sz few val (xs.size - 0) 0 _ (by omega) (Nat.zero_le _) ⟨⟨_, Heap.get?_push_size _ rfl, rfl, rfl⟩, hx1.push _⟩ ⟨0, Nat.le_refl 0, setR_new_at (show ((s.heap.push (eSet w)).push (lIt l)).get? s.heap.objs.size = some (eSet w) from Heap.get?_push_of_some _ at0)⟩ ?_
        intro z c hm hc hS
        obtain ⟨h2, g2, d2, tk, os2⟩ := z
        cases (show g2 = s.gens from hm.gens)
        cases (show d2 = s.drawn from hm.drawn)
        cases (show os2 = s.os from hm.os)
        show wpAny _ _ _ _ _ _
        refine wpAny_pure ?_
        show wpAny _ _ (ret Value.none) _ _ _
        refine wpAny_pure ⟨rfl, h2, tk, c, rfl, hS, by omega, fun b o e => hm.heap b o (fun hb => ?_) (Heap.get?_push_of_some _ (Heap.get?_push_of_some _ e))⟩
        have := Heap.lt_size e
        rcases List.mem_cons.mp hb with e1 | hb
        · exact Nat.ne_of_lt this e1
        · have e2 := List.mem_singleton.mp hb
          rw [sz1] at e2
          exact Nat.ne_of_lt (Nat.lt_succ_of_lt this) e2
      · cases u with
        | error e => exact hz
        | ok fl2 =>
          cases fl2 with
          | ret u =>
            obtain ⟨rfl, h2, tk, c, rfl, hS, hc, hk⟩ := hz
            repeat (any_goals (first | assumption | wp_step))
            exact k _ _ _ hS hc hk
          | _ => exact hz.elim
    | _ => exact hz.elim
end
section
variable {X : Cx}
/-- set(xs), fewer than 64 items -/
def rSetLI (K : PySem.W.Frag) (w : World) : List V → Hp → VK → Prop := fun vs H Q => ∃ (a : Addr) (ns : List Int), vs = [.ref a] ∧ SqL K H a (ns.map V.int) ∧ ns.length < 64 ∧ ∀ p n, H p = none → n ≤ ns.length → Q (.ref p) (upd H p (SetO w p (fun j => decide (j ∈ ns)) n))
theorem cr_setLI (hc : X.calm = true) : CallR X (.type "set") (rSetLI X.K X.w) := by
  intro pins s σ H vs us Q I r h
  obtain ⟨a, ns, rfl, hs, h64, q⟩ := h
  obtain ⟨its, rv, hl, _⟩ := I.list hs
  rw [Vals.ref1 r]
  refine set_of_list ns (I.ok.hd hc) hl.isList (by simpa using rv.ints) (Nat.lt_trans (Nat.succ_lt_succ h64) (by decide)) fun h2 tk c hS hc2 hk => ?_
  exact ⟨.ref s.heap.objs.size, upd H s.heap.objs.size (SetO X.w s.heap.objs.size (fun j => decide (j ∈ ns)) c), I.laid (t' := tk) hk (Nat.le_refl _) (setO_new hS), rfl, q _ c (I.hok.fresh (Nat.le_refl _)) hc2⟩
end
end L2
set_option Elab.async false
set_option linter.all false
set_option maxRecDepth 100001
set_option maxHeartbeats 3999999
namespace K40
open PySem L2
open Huff (hf dot Best)
theorem Chn.pw : ∀ {sgs : List Sg} {a e : Nat}, (∀ g ∈ sgs, g.a < g.e) → Chn a sgs e → sgs.Pairwise fun g h => g.e ≤ h.a
  | [], _, _, _, _ => .nil
  | g :: r, a, e, k, ⟨h1, h2⟩ => by
    have k2 : ∀ x ∈ r, x.a < x.e := fun x hx => k x (List.mem_cons_of_mem _ hx)
    exact .cons (fun x hx => (Chn.ge k2 h2).1 x hx) (Chn.pw k2 h2)
theorem Chn.same {sgs : List Sg} {a e i : Nat} (k : ∀ g ∈ sgs, g.a < g.e) (c : Chn a sgs e) {g h : Sg} (hg : g ∈ sgs) (hh : h ∈ sgs) (g1 : g.a ≤ i) (g2 : i < g.e) (h1 : h.a ≤ i) (h2 : i < h.e) : g = h := by
  obtain ⟨x, hx, rfl⟩ := List.mem_iff_getElem.mp hg
  obtain ⟨y, hy, rfl⟩ := List.mem_iff_getElem.mp hh
  have p := List.pairwise_iff_getElem.mp (c.pw k)
  rcases Nat.lt_trichotomy x y with z | z | z
  · have := p x y hx hy z
    omega
  · subst z
    rfl
  · have := p y x hy hx z
    omega
/-! equal tuples among tuples of numbers -/
def dL (ls : List Nat) : PyData := .tuple ((nV ls).map dOf)
theorem flat_nV (ls : List Nat) : ∀ v ∈ nV ls, Flat v := fun v hv => by
  obtain ⟨c, _, rfl⟩ := List.mem_map.mp hv
  exact True.intro
theorem dp_L {K : PySem.W.Frag} {H : Hp} {t : Addr} {ls : List Nat} (h : H t = some (.tup (nV ls))) : L2.Dp K H (.ref t) (dL ls) := .tup (SqT.of h) (dpAll_flat (flat_nV ls))
theorem sh_L (ls : List Nat) : SeqAt.shaped (dL ls) = true := shT_flat (flat_nV ls)
theorem dpAll_L {K : PySem.W.Frag} {H : Hp} : ∀ {as : List Addr} {rs : List (List Nat)}, Rws H as rs → DpAll K H (as.map V.ref) (rs.map dL)
  | [], _, h => by cases h; exact .nil
  | _ :: _, _, h => by
    cases h with
    | cons h1 h2 => exact .cons (dp_L h1) (dpAll_L h2)
theorem lay_Ls : ∀ rs : List (List Nat), PyData.canLayAll0 (rs.map dL) = true
  | [] => by simp [PyData.canLayAll0]
  | l :: rs => by
    rw [List.map_cons, PyData.canLayAll0, lay_Ls rs, Bool.and_true]
    exact (Bool.and_eq_true_iff.mp (sh_L l)).1
theorem depth_Ls : ∀ rs : List (List Nat), PyData.depthAll (rs.map dL) ≤ 2
  | [] => by simp [PyData.depthAll]
  | l :: rs => by
    have h := depth_flat (nV l)
    have ih := depth_Ls rs
    have e : PyData.depth (dL l) = PyData.depthAll ((nV l).map dOf) + 1 := by unfold dL; simp only [PyData.depth]
    rw [List.map_cons]
    simp only [PyData.depthAll]
    omega
theorem sh_Ls (rs : List (List Nat)) : SeqAt.shaped (.list (rs.map dL)) = true := by
  show (PyData.canLay0 (.list (rs.map dL)) && decide (PyData.depth (.list (rs.map dL)) ≤ 64)) = true
  rw [Bool.and_eq_true]
  have := depth_Ls rs
  refine ⟨by simp only [PyData.canLay0]; exact lay_Ls rs, decide_eq_true ?_⟩
  simp only [PyData.depth]
  omega
theorem any_L {ls : List Nat} {rs : List (List Nat)} (h : ls ∈ rs) : (rs.map dL).any (fun z => PyData.eqv z (dL ls)) = true := by
  rw [List.any_eq_true]
  exact ⟨dL ls, List.mem_map_of_mem h, SeqAt.eqv_refl _ (Bool.and_eq_true_iff.mp (sh_L ls)).1⟩
/-- a rising row of numbers is what sorted says of its set -/
theorem rise_uniq : ∀ {a b : List Int}, a.Pairwise (· < ·) → b.Pairwise (· < ·) → (∀ k, k ∈ a ↔ k ∈ b) → a = b
  | [], [], _, _, _ => rfl
  | [], y :: b, _, _, h => by have := (h y).mpr List.mem_cons_self; cases this
  | x :: a, [], _, _, h => by have := (h x).mp List.mem_cons_self; cases this
  | x :: a, y :: b, h1, h2, h => by
    obtain ⟨p1, p2⟩ := List.pairwise_cons.mp h1
    obtain ⟨q1, q2⟩ := List.pairwise_cons.mp h2
    have e : x = y := by
      rcases List.mem_cons.mp ((h x).mp List.mem_cons_self) with z | z
      · exact z
      · rcases List.mem_cons.mp ((h y).mpr List.mem_cons_self) with z2 | z2
        · exact z2.symm
        · have := q1 x z
          have := p1 y z2
          omega
    subst e
    rw [rise_uniq p2 q2 fun k => ?_]
    constructor
    · intro hk
      have := p1 k hk
      exact ((List.mem_cons.mp ((h k).mp (List.mem_cons_of_mem _ hk))).resolve_left (by omega))
    · intro hk
      have := q1 k hk
      exact ((List.mem_cons.mp ((h k).mpr (List.mem_cons_of_mem _ hk))).resolve_left (by omega))
theorem kp_ext {H H' : Hp} (e : LamX.ExtN H H') : Kp [] H H' := fun b o _ n z => e b o z n
theorem tt_ext {H H' : Hp} (e : LamX.ExtN H H') : TT H H' := fun _ _ z => e _ _ z (fun _ y => nomatch y)
theorem IsPl.ext {C p : Addr} {H H' : Hp} {prs : List Pr} {cs : List (Int × Addr)} {ss : List (Int × Int)} (h : IsPl C H p prs cs ss) (e : LamX.ExtN H H') : IsPl C H' p prs cs ss :=
  let ⟨dx, hv, cv, sv, vs, us, ts, h0, h1, h2, h3, h4, h5, h6⟩ := h
  ⟨dx, hv, cv, sv, vs, us, ts, e _ _ h0 (fun _ y => nomatch y), e _ _ h1 (fun _ y => nomatch y), Paired.mapP h2 fun _ _ h => h.tt (tt_ext e), e _ _ h3 (fun _ y => nomatch y), Paired.mapP h4 fun _ _ h => h.kp (kp_ext e) (fun _ h => nomatch h), e _ _ h5 (fun _ y => nomatch y), Paired.mapP h6 fun _ _ h => h.kp (kp_ext e) (fun _ h => nomatch h)⟩
theorem TsL.ext {H H' : Hp} {tp : Addr} {tss : List (List Nat)} (h : TsL H tp tss) (e : LamX.ExtN H H') : TsL H' tp tss :=
  let ⟨ts, h1, h2⟩ := h
  ⟨ts, e _ _ h1 (fun _ y => nomatch y), Paired.mapP h2 fun _ _ h => e _ _ h (fun _ y => nomatch y)⟩
theorem RtL.ext {H H' : Hp} {tp : Addr} {tss : List (List Nat)} (h : RtL H tp tss) (e : LamX.ExtN H H') : RtL H' tp tss :=
  let ⟨ts, h1, h2⟩ := h
  ⟨ts, e _ _ h1 (fun _ y => nomatch y), Paired.mapP h2 fun _ _ ⟨as, rs, a1, a2, a3⟩ => ⟨as, rs, e _ _ a1 (fun _ y => nomatch y), Rws.same a2 fun _ _ z => e _ _ z (fun _ y => nomatch y), a3⟩⟩
abbrev sSrv : Stmt := topS 65
abbrev NSrv : List Str := ["_law_plan", "_law_pairs", "_law_tallies", "_law_rights", "_law_starts", "_law_pair", "_law_lengths", "_law_at"]
def spSrv (C CP : Addr) (Tb : List (Addr × Str)) : Sp := fun vs H Q _ => ∃ (p pp tp rp : Addr) (vs' : List V) (prs : List Pr) (tss : List (List Nat)) (sgs : List Sg), vs = [.ref p, .ref pp, .ref tp, .ref rp] ∧ IsPl CP H p prs (codsOf sgs) (stsOf prs.length sgs) ∧ Cds C H sgs ∧ (∀ g ∈ sgs, SgOk prs tss g) ∧ Chn 0 sgs prs.length ∧
  H pp = some (.lst vs') ∧ Paired (PrT H) vs' prs ∧ TsL H tp tss ∧ RtL H rp tss ∧ Hist prs tss ∧ LamX.Tabs Tb H ∧ ∀ H', LamX.ExtN H H' → LamX.Tabs Tb H' → Q (.bl true) H'
section
variable {P : Program} {w : World} {K : PySem.W.Frag} {mg : Str → Option Value} {base : Heap}
theorem scSrv : FnScope NSrv ["_law_plan", "_law_pairs", "_law_tallies", "_law_rights"] (defScope sSrv) := ⟨rfl, rfl, rfl, by decide +kernel, rfl, by decide +kernel, by decide +kernel⟩
theorem ok_srv {f C CP : Addr} {fd : FuncData} {Tb : List (Addr × Str)} (F : Fun K "_law_serves" "_law_serves" sSrv f fd) (B : Bi mg) (ms : mg "sorted" = none) (mset : mg "set" = none) (T : TxP K CP) (TC : TxC K C) (cBe : Cal CX0 P w K mg base 1 "_law_behind" spBeh) (cCa : Cal CX0 P w K mg base 11 "code_at" (spCa2 C CP Tb)) : FnOk P w K mg base CX0 12 f fd ["_law_plan", "_law_pairs", "_law_tallies", "_law_rights"] (spSrv C CP Tb) := by
  refine F.ok scSrv (fun vs H Q E h => ?_) (fun cdv A outer s H vs Q E hr h => ?_)
  · obtain ⟨p, pp, tp, rp, vs', prs, tss, sgs, rfl, _⟩ := h
    rfl
  · obtain ⟨p, pp, tp, rp, ps, prs, tss, sgs, rfl, pl, cd, ok, ch, hpp, hpv, ht, hrt, hi, tabs, q⟩ := h
    refine ⟨_, pss_cons (ps_setLc (i := 4) (own := [("_law_pair", 5)]) rfl scSrv.nd rfl rfl (sw_true rfl rfl rfl (by decide +kernel)) (pi_sqA (pe_fld (pv 0) rfl)) (blkOk_by (N := NSrv) (sc := defScope sSrv) (by decide +kernel)) (fun _ _ _ _ _ => (pg_name (i := 5) scSrv.nd rfl (Or.inl rfl))) (fun _ _ _ _ _ => pts_nil) (fun _ _ _ _ _ => (pe_ix (ix_tupK K rfl) (pv 5) pe_int (fun _ _ => rfl))))
      (pss_cons (ps_set (i := 6) scSrv.nd rfl (Or.inl rfl) pe_non)
      (pss_cons (ps_for PassesOwn.never rfl (pi_range1 rfl B.range (pa_cons (pe_len B.len (pa_cons (pv 1) pa_nil)) pa_nil)) (pg_name (i := 7) scSrv.nd rfl (Or.inl rfl))
        (pss_cons (ps_if (pt_cmpR op_in_seq (pv 7) (pv 4) rfl) (pss_one (ps_set (i := 6) scSrv.nd rfl (Or.inl rfl) (pe_fld (pe_ix ix_tup (pe_ix ix_tup (pe_fld (pv 0) rfl) (pe_bm PySem.F.plainAttrs_list PySem.F.slot_list_index PySem.F.type_list_index mt_index (pv 4) (pa_cons (pv 7) pa_nil)) (fun _ _ => rfl)) pe_int (fun _ _ => rfl)) rfl))) (pss_one (ps_set (i := 6) scSrv.nd rfl (Or.inl rfl) (pe_c cBe hr pass0 (pa_cons (pv 6) (pa_cons (pe_ix ix_list (pv 1) (pv 7) (fun _ _ => rfl)) (pa_cons (pe_ix ix_list (pv 2) (pe_op op_sub (pv 7) pe_int) (fun _ _ => rfl)) pa_nil)))))))
        (pss_one (ps_if (PW.pt (pw_or (pt_cmpR (op_notInD (hu65 hr)) (pv 6) (pe_ix ix_list (pv 3) (pv 7) (fun _ _ => rfl)) rfl) (pw_or1 (pt_cmpR (op_neSmD (hu64 hr)) (pe_fld (pe_c cCa hr pass0 (pa_cons (pv 0) (pa_cons (pv 7) pa_nil))) rfl) (pv 6) (nomark _))))) (pss_one (ps_ret pe_bl)) pss_nil))))
      (pss_one (ps_ret (pe_and (pe_cmpR (op_eqSmD (hu64 hr)) (pv 4) (pe_callB (cr_sortedSet rfl) rfl ms (by decide +kernel) (pa_cons (pe_callTy (cr_setLI rfl) rfl mset (by decide +kernel) (pa_cons (pv 4) pa_nil)) pa_nil)) (nomark _)) (pe_one (pe_cmpR op_eq (pe_ix ix_list (pv 4) pe_int (fun _ _ => rfl)) pe_int (nomark _)))))))), ?_⟩
    obtain ⟨dx, hv, cv, sv, vs, us, ts, h0, h1, h2, h3, h4, h5, h6⟩ := id pl
    have lu : us.length = sgs.length := by rw [Paired.length h4]; exact List.length_map _
    have lo : ∀ g ∈ sgs, g.a < g.e := fun g hg => (ok g hg).lo
    have few := ch.few lo
    have top := hi.top
    have one := hi.one
    have lps : ps.length = prs.length := Paired.length hpv
    have cvat : ∀ j (hj : j < sgs.length), ∃ (x : Addr), us[j]? = some (.ref x) ∧ H x = some (.tup [.int ((sgs[j].a : Nat) : Int), .ref sgs[j].q]) := fun j hj => by
      obtain ⟨d, hd, x, ex, hx⟩ := paired_get h4 (List.getElem?_eq_getElem (show j < us.length by omega))
      have : d = (((sgs[j].a : Nat) : Int), sgs[j].q) := by
        unfold codsOf at hd
        rw [List.getElem?_map, List.getElem?_eq_getElem hj] at hd
        exact (Option.some.inj hd).symm
      subst this
      exact ⟨x, by rw [List.getElem?_eq_getElem (show j < us.length by omega), ex], hx⟩
    refine ⟨_, rfl, p, CP, dx, _, _, rfl, h0, T.cl, T.c, pl_codes _ _ _, cv, us, rfl, .inr (SqT.of h3), fun J G wk hG D nD => lcM wk (fun i => .int (((sgs.map Sg.a).getD i 0 : Nat) : Int)) (by omega) nD (fun H' e => hG H' fun o z => e _ _ z) ?_ ?_⟩
    · rintro j x H2 H3 N hj e2 ⟨rfl, hx⟩ fin
      obtain ⟨y, j2, j3⟩ := cvat j (by omega)
      rw [j2] at hx
      cases hx
      have f := fin _ (Same.refl _)
      rw [getD_at (show j < (sgs.map Sg.a).length by rw [List.length_map]; omega), List.getElem_map] at f
      exact ⟨rfl, _, rfl, y, _, _, _, rfl, rfl, SqT.of (e2 _ _ j3), atI_nat (j := 0) rfl, f⟩
    · intro H1 e1 hD
      have eas : (List.range us.length).map (fun i => V.int (((sgs.map Sg.a).getD i 0 : Nat) : Int)) = nV (sgs.map Sg.a) := by
        unfold nV
        refine List.ext_getElem (by simp [lu]) fun i g1 g2 => ?_
        have gi : i < sgs.length := by simpa using g2
        rw [List.getElem_map, List.getElem_map, List.getElem_range, getD_at (by rw [List.length_map]; exact gi)]
      rw [eas] at hD
      have la : (sgs.map Sg.a).length = sgs.length := List.length_map _
      refine gN ?_
      refine gN ?_
      dsimp only
      refine ⟨_, rfl, pp, _, rfl, .inl (SqL.of (e1 _ _ hpp)), ?_⟩
      rw [lps]
      refine ⟨_, rfl, by omega, by omega, ?_⟩
      rw [Int.toNat_natCast]
      refine for_range (D := { nx := _, rt := Q, bk := fun _ _ => False, ct := fun _ _ => False }) (fun i σ H' => ∃ (o6 o7 : Option V), σ = [some (.ref p), some (.ref pp), some (.ref tp), some (.ref rp), some (.ref D), none, o6, o7] ∧ LamX.ExtN H1 H' ∧ LamX.Tabs Tb H' ∧
        (i = 0 ∨ ∃ (g : Sg) (lp : Addr), g ∈ sgs ∧ o6 = some (.ref lp) ∧ g.a ≤ i - 1 ∧ i - 1 < g.e ∧ H' lp = some (.tup (nV (grown prs tss g.a g.ls (i - 1 - g.a)))))) ⟨some .non, none, rfl, LamX.ExtN.refl _, tabs.ext e1, .inl rfl⟩ ?_ ?_
      · rintro t σ H2 lt2 ⟨o6, o7, rfl, e2, tab2, prev⟩
        rw [Int.zero_add]
        refine gN ?_
        dsimp only
        obtain ⟨k, g, g1, g2, g3, g4⟩ := Chn.find lo ch (Nat.zero_le t) lt2
        have hg : g ∈ sgs := List.mem_of_getElem? g1
        obtain ⟨lk, ek⟩ := List.getElem?_eq_some_iff.mp g1
        have og := ok g hg
        have ex2 : LamX.ExtN H H2 := (LamX.ExtN.of e1).trans e2
        have D2 := e2 _ _ hD (fun _ y => nomatch y)
        refine cutSeq (R := fun σ' H' => ∃ (lp : Addr), σ' = [some (.ref p), some (.ref pp), some (.ref tp), some (.ref rp), some (.ref D), none, some (.ref lp), some (.int ((t : Nat) : Int))] ∧ LamX.ExtN H1 H' ∧ LamX.Tabs Tb H' ∧ H' lp = some (.tup (nV (grown prs tss g.a g.ls (t - g.a))))) (fun nx hnx => ?_) ?_
        · have inv : inV (.int ((t : Nat) : Int)) (nV (sgs.map Sg.a)) = decide (t = g.a) := by
            unfold inV nV
            by_cases c : t = g.a
            · rw [decide_eq_true c, List.any_eq_true]
              refine ⟨.int ((g.a : Nat) : Int), List.mem_map.mpr ⟨g.a, List.mem_map_of_mem hg, rfl⟩, ?_⟩
              show (((g.a : Nat) : Int) == ((t : Nat) : Int)) = true
              rw [c]
              exact beq_self_eq_true _
            · rw [decide_eq_false c, List.any_eq_false]
              intro y hy
              obtain ⟨x, hx, rfl⟩ := List.mem_map.mp hy
              obtain ⟨h, hh, rfl⟩ := List.mem_map.mp hx
              show ¬ (((h.a : Nat) : Int) == ((t : Nat) : Int)) = true
              intro z
              have z : ((h.a : Nat) : Int) = ((t : Nat) : Int) := by simpa using z
              have z : h.a = t := by omega
              have := Chn.same lo ch hg hh g2 g3 (by omega) (by have := lo h hh; omega)
              subst this
              exact c z.symm
          refine ⟨_, rfl, _, rfl, D, _, rfl, .inl (SqL.of D2), rfl, ?_, ?_⟩
          · rw [List.all_eq_true]
            intro v hv
            obtain ⟨c, _, rfl⟩ := List.mem_map.mp hv
            rfl
          rw [show (if false = true then !inV (.int ((t : Nat) : Int)) (nV (sgs.map Sg.a)) else inV (.int ((t : Nat) : Int)) (nV (sgs.map Sg.a))) = decide (t = g.a) by rw [if_neg (by decide)]; exact inv]
          by_cases ct : t = g.a
          · rw [decide_eq_true ct]
            refine ⟨_, rfl, iteT ?_⟩
            obtain ⟨x, j1, j2⟩ := cvat k lk
            rw [ek] at j2
            obtain ⟨L, dx', lt, wt, tr, c1, c2, c3⟩ := cd g hg
            have gt : ∀ {b : Addr} {xs : List V}, H b = some (.tup xs) → H2 b = some (.tup xs) := fun z => ex2 _ _ z (fun _ y => nomatch y)
            refine ⟨_, rfl, p, CP, dx, _, _, rfl, ex2 _ _ h0 (fun _ y => nomatch y), T.cl, T.c, pl_codes _ _ _, _, rfl, .inl ⟨rfl, _, SqL.of D2⟩, _, rfl, ?_⟩
            have lka : k < (sgs.map Sg.a).length := by rw [la]; exact lk
            refine ⟨D, nV (sgs.map Sg.a), .int ((t : Nat) : Int), k, .int ((t : Nat) : Int), rfl, rfl, SqL.of D2, rfl, ?_, ?_, ?_, ?_, ?_⟩
            · rw [List.all_eq_true]
              intro v hv
              obtain ⟨c, _, rfl⟩ := List.mem_map.mp hv
              rfl
            · rw [nV_at lka, lAt_get lka, List.getElem_map, ek, ct]
            · show (((t : Nat) : Int) == ((t : Nat) : Int)) = true
              exact beq_self_eq_true _
            · intro m z hm hz
              obtain ⟨lm, rfl⟩ := nV_get hz
              rw [lAt_get lm, List.getElem_map]
              rw [la] at lm
              have p9 := List.pairwise_iff_getElem.mp (ch.pw lo) m k lm lk hm
              rw [ek] at p9
              have := lo _ (List.getElem_mem lm)
              show (((sgs[m].a : Nat) : Int) == ((t : Nat) : Int)) = false
              rw [beq_eq_false_iff_ne]
              omega
            refine ⟨cv, us, _, .ref x, rfl, rfl, SqT.of (gt h3), atI_nat j1, x, _, _, _, rfl, rfl, SqT.of (gt j2), atI_nat (j := 1) rfl, g.q, C, dx', _, _, rfl, ex2 _ _ c1 (fun _ y => nomatch y), TC.cl, TC.l, co_lengths _ _ _ _ _, ?_⟩
            refine hnx _ _ ⟨lt, rfl, e2, tab2, ?_⟩
            rw [show t - g.a = 0 by omega]
            exact gt c2
          · rw [decide_eq_false ct]
            refine ⟨_, rfl, iteF ?_⟩
            rcases prev with z | ⟨g0, lp, hg0, rfl, z1, z2, z3⟩
            · omega
            have eg : g0 = g := Chn.same (i := t - 1) lo ch hg0 hg z1 z2 (by omega) (by omega)
            subst eg
            obtain ⟨cts, ht1, ht2⟩ := id ht
            have lcts : cts.length = prs.length := by rw [Paired.length ht2, hi.len]
            obtain ⟨d, hd, hcd⟩ := paired_get ht2 (List.getElem?_eq_getElem (show t - 1 < cts.length by omega))
            have ed : d = Ta tss (t - 1) := by
              unfold Ta
              rw [List.getD_eq_getElem?_getD, hd]
              rfl
            subst ed
            have hv1 : ps[t]? = some (ps[t]'(by omega)) := List.getElem?_eq_getElem (by omega)
            have pv1 : PrT H (ps[t]'(by omega)) (Pa prs t) := by
              obtain ⟨d, hd, z⟩ := paired_get hpv hv1
              unfold Pa
              rw [List.getD_eq_getElem?_getD, hd]
              exact z
            obtain ⟨v, ev⟩ : ∃ v, v = ps[t]'(by omega) := ⟨_, rfl⟩
            rw [← ev] at hv1 pv1
            obtain ⟨fit, _⟩ := hi.nx (t - 1) (by omega)
            rw [show t - 1 + 1 = t by omega] at fit
            have sz := hi.sz (t - 1) (by omega)
            have gl := grown_len hi og.len (t - 1 - g0.a) (by omega)
            rw [show g0.a + (t - 1 - g0.a) = t - 1 by omega] at gl
            have gl2 : ∀ {b : Addr} {xs : List V}, H b = some (.lst xs) → H2 b = some (.lst xs) := fun z => ex2 _ _ z (fun _ y => nomatch y)
            refine ⟨_, rfl, _, rfl, _, rfl, pp, _, _, v, rfl, rfl, SqL.of (gl2 hpp), atI_nat hv1, _, rfl, _, rfl, _, _, rfl, rfl, tp, _, _, .ref (cts[t - 1]'(by omega)), rfl, rfl, SqL.of (gl2 ht1), by rw [show (((t : Nat) : Int) - 1) = ((t - 1 : Nat) : Int) by omega]; exact atI_nat (by rw [List.getElem?_map, List.getElem?_eq_getElem (show t - 1 < cts.length by omega)]; rfl), ?_⟩
            refine ⟨lp, _, v, Pa prs t, grown prs tss g0.a g0.ls (t - 1 - g0.a), Ta tss (t - 1), rfl, z3, pv1.tt (tt_ext ex2), gl2 hcd, by omega, gl, by omega, fit, fun t9 H9 e9 h9 => ?_⟩
            refine hnx _ _ ⟨t9, rfl, e2.trans (LamX.ExtN.of e9), tab2.ext e9, ?_⟩
            rw [h9, show t - g0.a = (t - 1 - g0.a) + 1 by omega]
            show _ = some (HO.tup (nV (stepL (Ta tss (g0.a + (t - 1 - g0.a))) (Pa prs (g0.a + (t - 1 - g0.a) + 1)) _)))
            rw [show g0.a + (t - 1 - g0.a) = t - 1 by omega, show t - 1 + 1 = t by omega]
        · rintro σ' H3 ⟨lp, rfl, e3, tab3, hlp⟩
          have ex3 : LamX.ExtN H H3 := (LamX.ExtN.of e1).trans e3
          have gl3 : ∀ {b : Addr} {xs : List V}, H b = some (.lst xs) → H3 b = some (.lst xs) := fun z => ex3 _ _ z (fun _ y => nomatch y)
          obtain ⟨rds, hr1, hr2⟩ := hrt.ext ex3
          have lr : rds.length = prs.length := by rw [Paired.length hr2, hi.len]
          obtain ⟨d, hd, as, rs, r1, r2, r3, r4, r5⟩ := paired_get hr2 (List.getElem?_eq_getElem (show t < rds.length by omega))
          have ed : d = Ta tss t := by
            unfold Ta
            rw [List.getD_eq_getElem?_getD, hd]
            rfl
          subst ed
          have mem : grown prs tss g.a g.ls (t - g.a) ∈ rs := by
            have e : g.a + (t - g.a) = t := by omega
            have l := grown_len hi og.len (t - g.a) (by omega)
            have sv := og.srv (t - g.a) (by omega)
            rw [e] at l sv
            exact (r4 _).mpr ⟨l, grown_full hi og.len og.full _ (by omega), sv⟩
          refine ⟨_, rfl, _, rfl, _, rfl, rp, _, _, .ref (rds[t]'(by omega)), rfl, rfl, SqL.of hr1, atI_nat (by rw [List.getElem?_map, List.getElem?_eq_getElem (show t < rds.length by omega)]; rfl), ?_⟩
          refine ⟨dL (grown prs tss g.a g.ls (t - g.a)), rs.map dL, dp_L hlp, .lst (SqL.of r1) (dpAll_L r2), sh_L _, sh_Ls _, ?_⟩
          rw [any_L mem]
          refine ⟨_, rfl, iteF ?_⟩
          refine ⟨_, rfl, _, rfl, p, prs, tss, sgs, t, rfl, pl.ext ex3, cd.kp (kp_ext ex3) (fun _ h => nomatch h), ok, ch, hi, lt2, tab3, fun g' hg' l1 l2 q9 L ws9 H4 co e4 tab4 => ?_⟩
          have eg : g' = g := Chn.same lo ch hg' hg l1 l2 g2 g3
          subst eg
          obtain ⟨dx', lt', wt, tr, c1, c2, c3⟩ := co
          refine ⟨q9, C, dx', _, _, rfl, c1, TC.cl, TC.l, co_lengths _ _ _ _ _, _, rfl, dL (grown prs tss g'.a g'.ls (t - g'.a)), dp_L c2, dp_L (e4 _ _ hlp (fun _ y => nomatch y)), sh_L _, _, rfl, iteF ?_⟩
          exact ⟨_, _, rfl, e3.trans e4, tab4, .inr ⟨g', lp, hg, rfl, by omega, by omega, by rw [Nat.add_sub_cancel]; exact e4 _ _ hlp (fun _ y => nomatch y)⟩⟩
      · rintro σ H2 ⟨o6, o7, rfl, e2, tab2, prev⟩
        have ex2 : LamX.ExtN H H2 := (LamX.ExtN.of e1).trans e2
        have D2 := e2 _ _ hD (fun _ y => nomatch y)
        have eI : nV (sgs.map Sg.a) = ((sgs.map Sg.a).map fun n : Nat => (n : Int)).map V.int := nV_I _
        have lI : ((sgs.map Sg.a).map fun n : Nat => (n : Int)).length = sgs.length := by rw [List.length_map, la]
        refine ⟨_, rfl, _, rfl, D, (sgs.map Sg.a).map fun n : Nat => (n : Int), rfl, SqL.of (by rw [← eI]; exact D2), by rw [lI]; omega, fun sp n nsp ln => ?_⟩
        have e3 := same_new (o := SetO w sp (fun j => decide (j ∈ (sgs.map Sg.a).map fun n : Nat => (n : Int))) n) nsp
        refine ⟨sp, _, n, rfl, upd_same, by omega, fun ns q9 up mem _ nq => ?_⟩
        have rise : ((sgs.map Sg.a).map fun n : Nat => (n : Int)).Pairwise (· < ·) := by
          refine List.pairwise_map.mpr (List.pairwise_map.mpr (List.Pairwise.imp_of_mem (fun {g h} hg _ z => ?_) (ch.pw lo)))
          have := lo g hg
          omega
        have ens : ns = (sgs.map Sg.a).map fun n : Nat => (n : Int) := rise_uniq up rise fun k => by
          rw [mem k, decide_eq_true_iff]
        rw [ens, ← eI]
        have e4 := e3.trans (same_new (o := .lst (nV (sgs.map Sg.a))) nq)
        have q4 : upd (upd H2 sp (SetO w sp (fun j => decide (j ∈ (sgs.map Sg.a).map fun n : Nat => (n : Int))) n)) q9 (.lst (nV (sgs.map Sg.a))) q9 = some (.lst (nV (sgs.map Sg.a))) := upd_same
        have D4 := e4 _ _ D2
        have sh : SeqAt.shaped (.list ((nV (sgs.map Sg.a)).map dOf)) = true := shL_num (nV_num _)
        refine ⟨.list ((nV (sgs.map Sg.a)).map dOf), .lst (SqL.of D4) (dpAll_num (nV_num _)), .lst (SqL.of q4) (dpAll_num (nV_num _)), sh, _, rfl, ?_⟩
        have l0 : 0 < sgs.length := by
          cases sgs with
          | nil => have : 0 = prs.length := ch; omega
          | cons _ _ => simp
        have a0 : (nV (sgs.map Sg.a))[0]? = some (.int 0) := by
          have := nV_at (ls := sgs.map Sg.a) (i := 0) (by rw [la]; exact l0)
          rw [this]
          cases sgs with
          | nil => simp at l0
          | cons g r =>
            have : g.a = 0 := ch.1
            show some (V.int ((g.a : Nat) : Int)) = _
            rw [this]
            rfl
        refine ⟨_, rfl, D, _, _, .int 0, rfl, rfl, SqL.of D4, atI_nat (j := 0) a0, rfl, ?_⟩
        exact q _ (ex2.trans (LamX.ExtN.of e4)) (tab2.ext e4)
end
end K40
set_option Elab.async false
set_option linter.all false
set_option maxRecDepth 100001
set_option maxHeartbeats 3999999
/-! a < b < c < d as a test -/
namespace L2
open PySem.Spec PySem PyProof.Rows
/-- a op1 b op2 c op3 d -/
def tChain3 (r1 r2 r3 : R2) (ta tb tc td : TE) : TE := fun σ H Q => ta σ H fun x G1 => tb σ G1 fun y G2 => r1 x y G2 fun z G3 => ∃ k, z = .bl k ∧
  if k = true then (tc σ G3 fun v G4 => r2 y v G4 fun z G5 => ∃ k, z = .bl k ∧ if k = true then td σ G5 fun u G6 => r3 v u G6 Q else Q (.bl false) G5) else Q (.bl false) G3
section
variable {X : Cx} {a b c d : Expr} {ta tb tc td : TE} {pos : Pos}
theorem pt_chain3 {o1 o2 o3 : CmpOp} {r1 r2 r3 : R2} (h1 : OpR X (compareOp o1) r1) (h2 : OpR X (compareOp o2) r2) (h3 : OpR X (compareOp o3) r3) (ha : PE X a ta) (hb : PE X b tb) (hc : PE X c tc) (hd : PE X d td)
    (hm : lastMarks [o1, o2, o3] [b, c, d] = false := by with_unfolding_all rfl) : PT X (.Compare a [o1, o2, o3] [b, c, d] pos) (tTest (tChain3 r1 r2 r3 ta tb tc td)) := by
  refine ⟨fun pins s σ H Q I h => isTrue_chain (thn (ha.run pins s σ H _ I h) fun va s1 ⟨x, H1, I1, e1, q1⟩ => test_link (thn (hb.run pins s1 σ H1 _ I1 q1) fun vb s2 ⟨y, H2, I2, e2, q2⟩ =>
    thn (h1 pins s2 σ H2 x y va vb _ I2 e1 e2 q2) fun vk s3 ⟨z, H3, I3, e3, k, ek, q3⟩ => ?_)) hm⟩
  subst ek
  cases e3
  refine wpAny_truthy_bool ?_
  cases k with
  | false =>
    obtain ⟨k2, ek2, q4⟩ := q3
    cases ek2
    exact ite_ff ⟨H3, I3, q4⟩
  | true =>
    refine ite_tt (test_link (thn (hc.run pins s3 σ H3 _ I3 q3) fun vc s4 ⟨v, H4, I4, e4, q4⟩ => thn (h2 pins s4 σ H4 y v vb vc _ I4 e2 e4 q4) fun vk s5 ⟨z, H5, I5, e5, k, ek, q5⟩ => ?_))
    subst ek
    cases e5
    refine wpAny_truthy_bool ?_
    cases k with
    | false =>
      obtain ⟨k2, ek2, q6⟩ := q5
      cases ek2
      exact ite_ff ⟨H5, I5, q6⟩
    | true =>
      refine ite_tt (test_last (thn (hd.run pins s5 σ H5 _ I5 q5) fun vd s6 ⟨u, H6, I6, e6, q6⟩ => thn (h3 pins s6 σ H6 v u vc vd _ I6 e4 e6 q6) fun vk s7 ⟨z, H7, I7, e7, k, ek, q7⟩ => ?_))
      subst ek
      cases e7
      exact wpAny_truthy_bool ⟨H7, I7, q7⟩
end
end L2
set_option Elab.async false
set_option linter.all false
set_option maxRecDepth 100001
set_option maxHeartbeats 3999999
namespace K40
open PySem L2
open Huff (hf dot Best)
/-! ### a plan that was made is a plan -/
theorem nV_inj : ∀ {a b : List Nat}, nV a = nV b → a = b
  | [], [], _ => rfl
  | [], _ :: _, h => nomatch h
  | _ :: _, [], h => nomatch h
  | x :: a, y :: b, h => by
    have h : V.int ((x : Nat) : Int) :: nV a = V.int ((y : Nat) : Int) :: nV b := h
    injection h with h1 h2
    injection h1 with h1
    rw [nV_inj h2, show x = y by omega]
theorem IsCo.uniq {C q : Addr} {H : Hp} {L L2 : Nat} {ls ls2 : List Nat} {ws ws2 : List W} (a : IsCo C H q L ls ws) (b : IsCo C H q L2 ls2 ws2) : ls = ls2 := by
  obtain ⟨dx, lt, wt, tr, a1, a2, _⟩ := a
  obtain ⟨dx2, lt2, wt2, tr2, b1, b2, _⟩ := b
  rw [a1] at b1
  injection b1 with b1
  injection b1 with _ _ b1
  have e := co_lengths L ls.length lt wt tr
  rw [b1, co_lengths] at e
  injection e with e
  injection e with e
  subst e
  rw [a2] at b2
  injection b2 with b2
  injection b2 with b2
  exact nV_inj b2
open Classical in
/-- the lengths of the code at q -/
noncomputable def lsAt (C : Addr) (H : Hp) (q : Addr) : List Nat := if h : ∃ L ls ws, IsCo C H q L ls ws then h.choose_spec.choose else []
theorem lsAt_of {C q : Addr} {H : Hp} {L : Nat} {ls : List Nat} {ws : List W} (a : IsCo C H q L ls ws) : lsAt C H q = ls := by
  have h : ∃ L ls ws, IsCo C H q L ls ws := ⟨L, ls, ws, a⟩
  unfold lsAt
  rw [dif_pos h]
  exact (h.choose_spec.choose_spec.choose_spec).uniq a
section
variable {prs : List Pr} {tss : List (List Nat)} {sgs : List Sg}
theorem Chn.next : ∀ {sgs : List Sg} {a e : Nat}, Chn a sgs e → ∀ (i : Nat) (g : Sg), sgs[i]? = some g → (∀ h, sgs[i + 1]? = some h → h.a = g.e) ∧ (sgs[i + 1]? = none → g.e = e)
  | [], _, _, _, i, g, h => by simp at h
  | [x], a, e, ⟨h1, h2⟩, i, g, h => by
    cases i with
    | zero =>
      have : x = g := Option.some.inj h
      subst this
      exact ⟨fun h z => by simp at z, fun _ => h2⟩
    | succ i => simp at h
  | x :: y :: r, a, e, ⟨h1, h2⟩, i, g, h => by
    cases i with
    | zero =>
      have : x = g := Option.some.inj h
      subst this
      refine ⟨fun h z => ?_, fun z => by simp at z⟩
      have : y = h := Option.some.inj z
      subst this
      exact h2.1
    | succ i => exact Chn.next h2 i g h
theorem cods_at {i : Nat} {x : Int × Addr} (h : (codsOf sgs)[i]? = some x) : ∃ g, sgs[i]? = some g ∧ x = (((g.a : Nat) : Int), g.q) := by
  unfold codsOf at h
  rw [List.getElem?_map] at h
  cases z : sgs[i]? with
  | none => rw [z] at h; cases h
  | some g =>
    rw [z] at h
    exact ⟨g, rfl, (Option.some.inj h).symm⟩
theorem made_codes {C : Addr} {H : Hp} (hi : Hist prs tss) (cd : Cds C H sgs) (ok : ∀ g ∈ sgs, SgOk prs tss g) (ch : Chn 0 sgs prs.length) : AreC prs tss (lsAt C H) (codsOf sgs) := by
  have lo : ∀ g ∈ sgs, g.a < g.e := fun g hg => (ok g hg).lo
  have lsq : ∀ g ∈ sgs, lsAt C H g.q = g.ls := fun g hg => let ⟨L, c⟩ := cd g hg; lsAt_of c
  refine ⟨?_, fun i x hx => ?_, fun x hx => ?_, fun i x hx => ?_⟩
  · intro z
    have one := hi.one
    cases sgs with
    | nil => have : 0 = prs.length := ch; omega
    | cons _ _ => cases z
  · obtain ⟨g, hg, rfl⟩ := cods_at hx
    have og := ok g (List.mem_of_getElem? hg)
    have l1 := og.lo
    have l2 := og.hi
    refine ⟨?_, by show ((g.a : Nat) : Int) ≤ _; omega, ?_⟩
    · cases i with
      | zero => show (0 : Int) ≤ ((g.a : Nat) : Int); omega
      | succ i =>
        show (match (codsOf sgs)[i]? with | some y => y.1 + 1 | none => 0) ≤ ((g.a : Nat) : Int)
        cases z : (codsOf sgs)[i]? with
        | none => show (0 : Int) ≤ _; omega
        | some y =>
          obtain ⟨g0, hg0, rfl⟩ := cods_at z
          have e := (ch.next i g0 hg0).1 g hg
          have := lo g0 (List.mem_of_getElem? hg0)
          show ((g0.a : Nat) : Int) + 1 ≤ ((g.a : Nat) : Int)
          omega
    · show (lsAt C H g.q).length = (Ta tss ((g.a : Nat) : Int).toNat).length
      rw [lsq g (List.mem_of_getElem? hg), Int.toNat_natCast]
      exact og.len
  · obtain ⟨g, hg, rfl⟩ := cods_at hx
    cases sgs with
    | nil => simp at hg
    | cons g1 r =>
      have : g1 = g := Option.some.inj hg
      subst this
      show ((g1.a : Nat) : Int) = 0
      rw [ch.1]
      rfl
  · obtain ⟨g, hg, rfl⟩ := cods_at hx
    have og := ok g (List.mem_of_getElem? hg)
    have en : endAt prs.length (codsOf sgs) i = g.e := by
      unfold endAt
      cases z : (codsOf sgs)[i + 1]? with
      | none =>
        have : sgs[i + 1]? = none := by
          unfold codsOf at z
          rw [List.getElem?_map] at z
          cases z2 : sgs[i + 1]? with
          | none => rfl
          | some _ => rw [z2] at z; cases z
        exact ((ch.next i g hg).2 this).symm
      | some y =>
        obtain ⟨g2, hg2, rfl⟩ := cods_at z
        exact (ch.next i g hg).1 g2 hg2
    rw [en]
    show Srv prs tss ((g.a : Nat) : Int).toNat g.e (lsAt C H g.q)
    rw [lsq g (List.mem_of_getElem? hg), Int.toNat_natCast]
    exact og.srv
/-- all codes but the last one are told apart by a stop -/
theorem sts_len {n : Nat} : ∀ {sgs : List Sg} {a : Nat}, (∀ g ∈ sgs, g.a < g.e) → Chn a sgs n → sgs ≠ [] → (stsOf n sgs).length + 1 = sgs.length
  | [g], a, _, ⟨_, h2⟩, _ => by
    have h2 : g.e = n := h2
    unfold stsOf
    rw [List.filter_cons_of_neg (by simp [h2])]
    rfl
  | g :: g2 :: r, a, k, ⟨h1, h2⟩, _ => by
    have k2 : ∀ x ∈ g2 :: r, x.a < x.e := fun x hx => k x (List.mem_cons_of_mem _ hx)
    have ih := sts_len k2 h2 (by simp)
    have l := k2 g2 List.mem_cons_self
    have ge := (Chn.ge k2 h2).2
    have e2 := h2.1
    have ge2 := (Chn.ge (fun x hx => k2 x (List.mem_cons_of_mem _ hx)) h2.2).2
    unfold stsOf at ih ⊢
    rw [List.filter_cons_of_pos (by exact decide_eq_true (show g.e < n by omega))]
    simp only [List.map_cons, List.length_cons] at ih ⊢
    omega
theorem sts_at {n : Nat} {i : Nat} {x : Int × Int} (h : (stsOf n sgs)[i]? = some x) : ∃ g, (sgs.filter fun g => g.e < n)[i]? = some g ∧ g ∈ sgs ∧ g.e < n ∧ x = (((g.a : Nat) : Int), ((g.e : Nat) : Int)) := by
  unfold stsOf at h
  rw [List.getElem?_map] at h
  cases z : (sgs.filter fun g => g.e < n)[i]? with
  | none => rw [z] at h; cases h
  | some g =>
    rw [z] at h
    have m := List.mem_filter.mp (List.mem_of_getElem? z)
    exact ⟨g, rfl, m.1, of_decide_eq_true m.2, (Option.some.inj h).symm⟩
theorem made_stops (hi : Hist prs tss) (ok : ∀ g ∈ sgs, SgOk prs tss g) (ch : Chn 0 sgs prs.length) : AreS prs tss (codsOf sgs).length (stsOf prs.length sgs) := by
  have lo : ∀ g ∈ sgs, g.a < g.e := fun g hg => (ok g hg).lo
  have ne : sgs ≠ [] := fun z => by
    have one := hi.one
    subst z
    have : 0 = prs.length := ch
    omega
  have len := sts_len lo ch ne
  have lc : (codsOf sgs).length = sgs.length := List.length_map _
  refine ⟨by rw [lc]; omega, fun i x hx => ?_, fun i x hx => ?_⟩
  · obtain ⟨g, hg, mg, ge, rfl⟩ := sts_at hx
    have l1 := lo g mg
    refine ⟨⟨?_, by show ((g.a : Nat) : Int) ≤ _; omega⟩, by show ((g.a : Nat) : Int) ≤ ((g.e : Nat) : Int); omega, by show ((g.e : Nat) : Int) ≤ _; omega⟩
    cases i with
    | zero => show (0 : Int) ≤ ((g.a : Nat) : Int); omega
    | succ i =>
      show (match (stsOf prs.length sgs)[i]? with | some y => y.2 | none => 0) ≤ ((g.a : Nat) : Int)
      cases z : (stsOf prs.length sgs)[i]? with
      | none => show (0 : Int) ≤ _; omega
      | some y =>
        obtain ⟨g0, hg0, mg0, ge0, rfl⟩ := sts_at z
        have p := (ch.pw lo).filter fun g => decide (g.e < prs.length)
        obtain ⟨l1, e1⟩ := List.getElem?_eq_some_iff.mp hg0
        obtain ⟨l2, e2⟩ := List.getElem?_eq_some_iff.mp hg
        have := List.pairwise_iff_getElem.mp p i (i + 1) l1 l2 (Nat.lt_succ_self _)
        rw [e1, e2] at this
        show ((g0.e : Nat) : Int) ≤ ((g.a : Nat) : Int)
        omega
  · obtain ⟨g, hg, mg, ge, rfl⟩ := sts_at hx
    exact (ok g mg).no ge
end
/-! the history, as data -/
def dPd : Pr → PyData
  | .ta cs => .tuple [.str "tally", dL cs]
  | .pt r => .tuple [.str "put", .int ((r : Nat) : Int)]
theorem dp_P {K : PySem.W.Frag} {H : Hp} {v : V} {pr : Pr} (h : PrT H v pr) : L2.Dp K H v (dPd pr) := by
  obtain ⟨a, rfl, h⟩ := h
  cases pr with
  | ta cs =>
    obtain ⟨t, h1, h2⟩ := h
    exact .tup (SqT.of h1) (.cons (.str _) (.cons (dp_L h2) .nil))
  | pt r => exact .tup (SqT.of h) (.cons (.str _) (.cons (.int _) .nil))
theorem dpAll_P {K : PySem.W.Frag} {H : Hp} : ∀ {vs : List V} {prs : List Pr}, Paired (PrT H) vs prs → DpAll K H vs (prs.map dPd)
  | _, _, .nil => .nil
  | _, _, .cons h t => .cons (dp_P h) (dpAll_P t)
theorem lay_P (pr : Pr) : PyData.canLay0 (dPd pr) = true ∧ PyData.depth (dPd pr) ≤ 3 := by
  cases pr with
  | ta cs =>
    have h1 := (Bool.and_eq_true_iff.mp (sh_L cs)).1
    have h2 := depth_flat (nV cs)
    have e : PyData.depth (dL cs) = PyData.depthAll ((nV cs).map dOf) + 1 := by unfold dL; simp only [PyData.depth]
    refine ⟨?_, ?_⟩
    · simp only [dPd, PyData.canLay0, PyData.canLayAll0, h1, Bool.and_true]
      decide +kernel
    · simp only [dPd, PyData.depth, PyData.depthAll]
      omega
  | pt r =>
    refine ⟨?_, ?_⟩
    · simp only [dPd, PyData.canLay0, PyData.canLayAll0, Bool.and_true]
      decide +kernel
    · simp only [dPd, PyData.depth, PyData.depthAll]
      omega
theorem sh_Ps (prs : List Pr) : SeqAt.shaped (.tuple (prs.map dPd)) = true := by
  have h1 : ∀ prs : List Pr, PyData.canLayAll0 (prs.map dPd) = true ∧ PyData.depthAll (prs.map dPd) ≤ 3 := by
    intro prs
    induction prs with
    | nil => exact ⟨by simp [PyData.canLayAll0], by simp [PyData.depthAll]⟩
    | cons p r ih =>
      obtain ⟨a, b⟩ := lay_P p
      refine ⟨by rw [List.map_cons, PyData.canLayAll0, a, ih.1]; rfl, ?_⟩
      rw [List.map_cons]
      simp only [PyData.depthAll]
      have := ih.2
      omega
  obtain ⟨a, b⟩ := h1 prs
  show (PyData.canLay0 (.tuple (prs.map dPd)) && decide (PyData.depth (.tuple (prs.map dPd)) ≤ 64)) = true
  rw [Bool.and_eq_true]
  refine ⟨by simp only [PyData.canLay0]; exact a, decide_eq_true ?_⟩
  simp only [PyData.depth]
  omega
/-- a comprehension whose items are new things -/
theorem lcO {J : It} {n : Nat} {G : Hp → Prop} {Y : Nat → Hp → V → Hp → Prop} (wk : Walk J n G Y) {g : TG} {te : TE} {vs : List Nat} {σ : St} {H1 : Hp} {D : Addr} {Qd : Hp → Prop} (R : Nat → V → Hp → Prop) (st : ∀ i v H H' xs, H D = some (.lst xs) → (∀ b o, b ≠ D → H b = some o → H' b = some o) → R i v H → R i v H') (hb : n ≤ 10000) (nD : H1 D = none) (hG : ∀ H', Same H1 H' → G H')
    (hs : ∀ (i : Nat) (x : V) (H2 H3 : Hp) (N : VK), i < n → Same H1 H2 → (∃ xs, H2 D = some (.lst xs)) → Y i H2 x H3 → (∀ v H4, Same H2 H4 → R i v H4 → N v H4) → g x (wipe σ vs) H3 fun σ2 H4 => wipe σ2 vs = wipe σ vs ∧ te σ2 H4 N)
    (hd : ∀ acc H', Same H1 H' → acc.length = n → (∀ i v, acc[i]? = some v → R i v H') → H' D = some (.lst acc) → Qd H') :
    ∃ W : Nat → Nat → Hp → Prop, (∃ m, W 0 m (upd H1 D (.lst []))) ∧ ∀ i m H, W i m H →
      (J.stop i H ∧ Qd H) ∨ (J.go i H ∧ ∃ Nx : Hp → Prop, (∀ H', Nx H' → ∃ m', m' < m ∧ W (i + 1) m' H') ∧ ∀ x H', J.yld i H x H' → g x (wipe σ vs) H' fun σ2 H2 => wipe σ2 vs = wipe σ vs ∧ tYes σ2 H2 fun b H3 =>
        if b = true then te σ2 H3 fun y H4 => ∃ acc, H4 D = some (.lst acc) ∧ acc.length < sizeLine ∧ Nx (upd H4 D (.lst (acc ++ [y]))) else Nx H3) := by
  refine lc_it wk (fun i H' => Same H1 H' ∧ ∃ acc, H' D = some (.lst acc) ∧ acc.length = i ∧ ∀ j v, acc[j]? = some v → R j v H') ⟨same_new nD, [], upd_same, rfl, fun j v e => by simp at e⟩ (fun i H' _ z => hG H' z.1) ?_ (fun H' ⟨e, acc, h1, h2, h3⟩ => hd acc H' e h2 h3 h1)
  rintro i x H H' hi ⟨e1, acc, hD, la, ra⟩ y
  refine hs i x H H' _ hi e1 ⟨acc, hD⟩ y fun v H4 e4 r => ⟨acc, e4 _ _ hD, by rw [la]; exact small10 (by omega), fun b o z => ?_, acc ++ [v], upd_same, by rw [List.length_append, la]; rfl, fun j u ju => ?_⟩
  · rw [upd_ne (ne_of_none z nD)]
    exact e4 _ _ (e1 _ _ z)
  · have k4 : ∀ b o, b ≠ D → H4 b = some o → upd H4 D (.lst (acc ++ [v])) b = some o := fun b o n z => (upd_ne n).trans z
    by_cases c : j < acc.length
    · rw [List.getElem?_append_left c] at ju
      exact st j u _ _ acc (e4 _ _ hD) k4 (st j u H H4 acc hD (fun b o _ z => e4 b o z) (ra j u ju))
    · have : j = acc.length := by
        have := (List.getElem?_eq_some_iff.mp ju).1
        rw [List.length_append] at this
        have : j < acc.length + 1 := this
        omega
      subst this
      rw [List.getElem?_append_right (Nat.le_refl _), Nat.sub_self] at ju
      have : v = u := Option.some.inj ju
      subst this
      rw [la]
      exact st i v _ _ acc (e4 _ _ hD) k4 r
end K40
set_option Elab.async false
set_option linter.all false
set_option maxRecDepth 100001
set_option maxHeartbeats 3999999
namespace K40
open PySem L2
open Huff (hf dot Best)
abbrev sLaw : Stmt := topS 66
abbrev NLaw : List Str := ["_law_script", "_law_pen", "_law_tables", "_law_many", "_law_turn", "_law_pairs", "_law_tallies", "_law_plan", "_law_rights", "_law_counts", "_law_before", "_law_start", "_law_end"]
def spLaw (K : PySem.W.Frag) (Tb : List (Addr × Str)) : Sp := fun vs H Q _ => ∃ (a : Addr) (is : List Int), vs = [.ref a] ∧ SqL K H a (is.map V.int) ∧ LamX.Tabs Tb H ∧ ∀ H', Q (.bl true) H'
theorem Tabl.but {H H' : Hp} {tb pn cl : Addr} {b : Nat} {D : Nat → Addr} {bs : Nat → List Addr} {rows : Nat → List (List Nat)} (h : Tabl H tb D bs rows) (pen : Pen H pn cl b) (n : tb ≠ pn) (e : But pn H H') : Tabl H' tb D bs rows :=
  h.kp (fun _ z => e _ _ n z) (fun _ _ z => e _ _ (pen.ne z fun _ y => nomatch y) z) fun _ _ z => e _ _ (pen.ne z fun _ y => nomatch y) z
theorem Tabl.ext {H H' : Hp} {tb : Addr} {D : Nat → Addr} {bs : Nat → List Addr} {rows : Nat → List (List Nat)} (h : Tabl H tb D bs rows) (e : LamX.ExtN H H') : Tabl H' tb D bs rows :=
  h.kp (fun _ z => e _ _ z (fun _ y => nomatch y)) (fun _ _ z => e _ _ z (fun _ y => nomatch y)) fun _ _ z => e _ _ z (fun _ y => nomatch y)
theorem rws_keep {H H' : Hp} {D : Addr} {xs : List V} (hD : H D = some (.lst xs)) (k : ∀ b o, b ≠ D → H b = some o → H' b = some o) {as : List Addr} {rs : List (List Nat)} (h : Rws H as rs) : Rws H' as rs :=
  Rws.same h fun _ _ z => k _ _ (ne_of z hD fun y => nomatch y) z
theorem seqAsg {v : V} {i : Nat} {B : TS} {D : Ends} {σ : St} {H : Hp} (h : B D (σ.set i (some v)) H) : tSeq (tAsg (tC v) (gName i)) B D σ H := h
theorem nextOf {D : Ends} {σ : St} {H : Hp} (h : D.nx σ H) : tNext D σ H := h
theorem rtl_of {H : Hp} {D : Addr} : ∀ {acc : List V} {tss : List (List Nat)}, acc.length = tss.length → (∀ (i : Nat) (v : V), acc[i]? = some v → ∃ (Dd : Addr) (as : List Addr) (rs : List (List Nat)), v = .ref Dd ∧ Dd ≠ D ∧ H Dd = some (.lst (as.map V.ref)) ∧ Rws H as rs ∧ rs.Nodup ∧ (∀ ls, ls ∈ rs ↔ ls.length = (Ta tss i).length ∧ Huff.Full ls ∧ dot ls (Ta tss i) = hf (Ta tss i)) ∧ rs.length ≤ 9000) →
    ∃ rds : List Addr, acc = rds.map V.ref ∧ Paired (fun d cs => ∃ (as : List Addr) (rs : List (List Nat)), H d = some (.lst (as.map V.ref)) ∧ Rws H as rs ∧ rs.Nodup ∧ (∀ ls, ls ∈ rs ↔ ls.length = cs.length ∧ Huff.Full ls ∧ dot ls cs = hf cs) ∧ rs.length ≤ 9000) rds tss
  | [], [], _, _ => ⟨[], rfl, .nil⟩
  | v :: acc, cs :: tss, e, r => by
    obtain ⟨rds, e1, e2⟩ := rtl_of (acc := acc) (tss := tss) (by simpa using e) fun i v hv => r (i + 1) v hv
    obtain ⟨Dd, as, rs, rfl, _, h⟩ := r 0 v rfl
    exact ⟨Dd :: rds, by rw [e1]; rfl, .cons ⟨as, rs, h⟩ e2⟩
  | [], _ :: _, e, _ => by simp at e
  | _ :: _, [], e, _ => by simp at e
section
variable {P : Program} {w : World} {K : PySem.W.Frag} {mg : Str → Option Value} {base : Heap}
theorem scLaw : FnScope NLaw ["_law_script"] (defScope sLaw) := ⟨rfl, rfl, rfl, by decide +kernel, rfl, by decide +kernel, by decide +kernel⟩
structure LwC (P : Program) (w : World) (K : PySem.W.Frag) (mg : Str → Option Value) (base : Heap) (f C CP : Addr) (fd : FuncData) (Tb : List (Addr × Str)) : Prop where
  F : Fun K "law" "law" sLaw f fd
  B : Bi mg
  T : TxP K CP
  cPn : Cal CX0 P w K mg base 1 "_law_pen_of" (spPen K)
  cAL : Cal CX0 P w K mg base 2 "_law_all_lengths" spAL
  cHis : Cal CX0 P w K mg base 3 "_law_history" (spHis Tb)
  cPC : Cal CX0 P w K mg base 11 "plan_codes" (spPn C CP Tb)
  cRo : Cal CX0 P w K mg base 2 "_law_right_ones" spRo
  cFew : Cal CX0 P w K mg base 2 "_law_fewest" spFew
  cSrv : Cal CX0 P w K mg base 12 "_law_serves" (spSrv C CP Tb)
  cIP : Cal CX0 P w K mg base 8 "is_plan" (spIP C CP)
theorem ok_law {f C CP : Addr} {fd : FuncData} {Tb : List (Addr × Str)} (R : LwC P w K mg base f C CP fd Tb) : FnOk P w K mg base CX0 13 f fd ["_law_script"] (spLaw K Tb) := by
  refine R.F.ok scLaw (fun vs H Q E h => ?_) (fun cdv A outer s H vs Q E hr h => ?_)
  · obtain ⟨a, is, rfl, _⟩ := h
    rfl
  · obtain ⟨a, is, rfl, hs, tabs, qq⟩ := h
    obtain ⟨F, B, T, cPn, cAL, cHis, cPC, cRo, cFew, cSrv, cIP⟩ := id R
    refine ⟨_, pss_cons (ps_set (i := 1) scLaw.nd rfl (Or.inl rfl) (pe_c cPn hr pass0 (pa_cons (pv 0) pa_nil)))
      (pss_cons (ps_set (i := 2) scLaw.nd rfl (Or.inr rfl) (pe_callTy (call_dictP rfl) rfl B.dict (by decide +kernel) (pa_cons (pe_lc (own := [("_law_many", 3)]) rfl scLaw.nd (pi_sqA (pe_lst (pa_cons pe_int (pa_cons pe_int (pa_cons pe_int (pa_cons pe_int pa_nil)))))) (blkOk_by (N := NLaw) (sc := defScope sLaw) (by decide +kernel)) (fun _ _ _ _ _ => (pg_name (i := 3) scLaw.nd rfl (Or.inl rfl))) (fun _ _ _ _ _ => pts_nil) (fun _ _ _ _ _ => (pe_tup (pa_cons (pv 3) (pa_cons (pe_c cAL hr pass0 (pa_cons (pv 3) pa_nil)) pa_nil))))) pa_nil)))
      (pss_cons (ps_for PassesOwn.never rfl (pi_range1 rfl B.range (pa_cons pe_int pa_nil)) (pg_name (i := 4) scLaw.nd rfl (Or.inl rfl))
        (pss_cons (ps_asg (pe_c cHis hr pass0 (pa_cons (pv 1) (pa_cons pe_int pa_nil))) (pg_tup rfl (pgs_cons (pg_name (i := 5) scLaw.nd rfl (Or.inl rfl)) (pgs_cons (pg_name (i := 6) scLaw.nd rfl (Or.inl rfl)) pgs_nil))))
        (pss_cons (ps_par (i := 7) (j := 8) rfl scLaw.nd rfl rfl (by decide) rfl rfl (pa_cons (pe_c cPC hr pass0 (pa_cons (pv 5) pa_nil)) (pa_cons (pe_lc (own := [("_law_counts", 9)]) rfl scLaw.nd (pi_sqA (pv 6)) (blkOk_by (N := NLaw) (sc := defScope sLaw) (by decide +kernel)) (fun _ _ _ _ _ => (pg_name (i := 9) scLaw.nd rfl (Or.inl rfl))) (fun _ _ _ _ _ => pts_nil) (fun _ _ _ _ _ => (pe_c cRo hr pass0 (pa_cons (pv 2) (pa_cons (pv 9) pa_nil))))) pa_nil)) rfl)
        (pss_cons (ps_if (PW.pt (pw_or (pt_cmpR (op_neSmD (hu64 hr)) (pe_fld (pv 7) rfl) (pe_tupleOf rfl B.tuple (pv 5)) (nomark _)) (pw_or1 (pt_cmpR op_ne (pe_len B.len (pa_cons (pe_fld (pv 7) rfl) pa_nil)) (pe_c cFew hr pass0 (pa_cons (pv 5) (pa_cons (pv 6) (pa_cons (pv 8) (pa_cons pe_int (pa_cons (pe_op op_sub (pe_len B.len (pa_cons (pv 5) pa_nil)) pe_int) pa_nil)))))) (nomark _))))) (pss_one (ps_ret pe_bl)) pss_nil)
        (pss_cons (ps_if (PW.pt (pw_or (pt_not (pt_val (pe_c cSrv hr pass0 (pa_cons (pv 7) (pa_cons (pv 5) (pa_cons (pv 6) (pa_cons (pv 8) pa_nil))))))) (pw_or1 (pt_cmpR op_ne (pe_len B.len (pa_cons (pe_fld (pv 7) rfl) pa_nil)) (pe_op op_sub (pe_len B.len (pa_cons (pe_fld (pv 7) rfl) pa_nil)) pe_int) (nomark _))))) (pss_one (ps_ret pe_bl)) pss_nil)
        (pss_cons (ps_set (i := 10) scLaw.nd rfl (Or.inl rfl) pe_int)
        (pss_cons (ps_for PassesOwn.never rfl (pi_sqA (pe_fld (pv 7) rfl)) (pg_tup rfl (pgs_cons (pg_name (i := 11) scLaw.nd rfl (Or.inl rfl)) (pgs_cons (pg_name (i := 12) scLaw.nd rfl (Or.inl rfl)) pgs_nil)))
          (pss_cons (ps_if (PW.pt (pw_or (pt_not (pt_chain3 op_le op_lt op_lt (pv 10) (pv 11) (pv 12) (pe_len B.len (pa_cons (pv 5) pa_nil)))) (pw_or1 (pt_cmpR op_lt (pe_c cFew hr pass0 (pa_cons (pv 5) (pa_cons (pv 6) (pa_cons (pv 8) (pa_cons (pv 11) (pa_cons (pv 12) pa_nil)))))) pe_int (nomark _))))) (pss_one (ps_ret pe_bl)) pss_nil)
          (pss_one (ps_set (i := 10) scLaw.nd rfl (Or.inl rfl) (pv 12)))))
        (pss_one (ps_if (pt_cmpR op_notBl (pe_c cIP hr pass0 (pa_cons (pv 7) pa_nil)) pe_bl (nomark _)) (pss_one (ps_ret pe_bl)) pss_nil)))))))))
      (pss_one (ps_ret pe_bl)))), ?_⟩
    refine ⟨_, rfl, a, is, rfl, hs, fun pn cl H1 _ _ e1 pen1 => ?_⟩
    refine gN ?_
    have pt1 : PT Tb H1 pn cl 0 := ⟨pen1, tabs.ext e1⟩
    refine ⟨by show 4 ≤ sizeLine; decide, fun l4 nl4 => ?_⟩
    have pt2 := pt1.same (same_new (o := .lst [.int 2, .int 3, .int 4, .int 5]) nl4)
    have g4 : upd H1 l4 (.lst [.int 2, .int 3, .int 4, .int 5]) l4 = some (.lst [.int 2, .int 3, .int 4, .int 5]) := upd_same
    generalize upd H1 l4 (.lst [.int 2, .int 3, .int 4, .int 5]) = H2 at pt2 g4 ⊢
    refine ⟨l4, _, rfl, .inl (SqL.of g4), fun J G wk hG D nD => lcO wk (fun i v H' => ∃ (p Dd : Addr) (bs : List Addr) (rows : List (List Nat)), v = .ref p ∧ H' p = some (.tup [.int ((i + 2 : Nat) : Int), .ref Dd]) ∧ Dd ≠ D ∧ H' Dd = some (.lst (bs.map V.ref)) ∧ Rws H' bs rows ∧ rows.Nodup ∧ ∀ ls, ls ∈ rows ↔ AllL.Fu (i + 2) ls)
      (fun i v Ha Hb xs hD k ⟨p, Dd, bs, rows, h1, h2, h3, h4, h5, h6⟩ => ⟨p, Dd, bs, rows, h1, k _ _ (ne_of h2 hD fun y => nomatch y) h2, h3, k _ _ h3 h4, rws_keep hD k h5, h6⟩) (by show 4 ≤ 10000; decide) nD (fun H' e => hG H' fun o z => e _ _ z) ?_ ?_⟩
    · rintro i x H3 H4 N hi e3 ⟨xs, hD⟩ ⟨rfl, hx⟩ fin
      have hi4 : i < 4 := hi
      have ex : x = .int ((i + 2 : Nat) : Int) := by
        have : i = 0 ∨ i = 1 ∨ i = 2 ∨ i = 3 := by omega
        rcases this with rfl | rfl | rfl | rfl <;> exact (Option.some.inj hx).symm
      subst ex
      refine ⟨rfl, _, rfl, _, rfl, i + 2, rfl, by omega, by omega, fun Dd bs rows H5 e5 nDd hDd rw5 nd sd al => ?_⟩
      refine ⟨by show 2 ≤ sizeLine; decide, fun p np => ?_⟩
      have e6 := same_new (o := .tup [.int ((i + 2 : Nat) : Int), .ref Dd]) np
      exact fin _ _ (e5.trans e6) ⟨p, Dd, bs, rows, rfl, upd_same, fun z => (by rw [z, hD] at nDd; cases nDd), e6 _ _ hDd, Rws.same rw5 fun _ _ z => e6 _ _ z, nd, fun ls => ⟨sd ls, al ls⟩⟩
    · intro acc H3 e3 lacc racc hD
      have lacc : acc.length = 4 := lacc
      obtain ⟨p0, D0, bs0, rw0, a0, b0, c0, d0, w0, n0, u0⟩ := racc 0 _ (List.getElem?_eq_getElem (by omega))
      obtain ⟨p1, D1, bs1, rw1, a1, b1, c1, d1, w1, n1, u1⟩ := racc 1 _ (List.getElem?_eq_getElem (by omega))
      obtain ⟨p2, D2, bs2, rw2, a2, b2, c2, d2, w2, n2, u2⟩ := racc 2 _ (List.getElem?_eq_getElem (by omega))
      obtain ⟨p3, D3, bs3, rw3, a3, b3, c3, d3, w3, n3, u3⟩ := racc 3 _ (List.getElem?_eq_getElem (by omega))
      have eacc : acc = [p0, p1, p2, p3].map V.ref := by
        have q0 : acc[0]? = some (.ref p0) := by rw [List.getElem?_eq_getElem (by omega), a0]
        have q1 : acc[1]? = some (.ref p1) := by rw [List.getElem?_eq_getElem (by omega), a1]
        have q2 : acc[2]? = some (.ref p2) := by rw [List.getElem?_eq_getElem (by omega), a2]
        have q3 : acc[3]? = some (.ref p3) := by rw [List.getElem?_eq_getElem (by omega), a3]
        clear a0 a1 a2 a3 racc hD
        match acc, lacc, q0, q1, q2, q3 with
        | [x0, x1, x2, x3], _, q0, q1, q2, q3 =>
          cases q0
          cases q1
          cases q2
          cases q3
          rfl
      rw [eacc] at hD
      refine ⟨D, [p0, p1, p2, p3], [(.inl 2, .ref D0), (.inl 3, .ref D1), (.inl 4, .ref D2), (.inl 5, .ref D3)], rfl, SqL.of hD, .cons (SqT.of b0) (.cons (SqT.of b1) (.cons (SqT.of b2) (.cons (SqT.of b3) .nil))), fun tb ntb => ?_⟩
      have em : mergeK ([] : List (Key × V)) [(.inl 2, .ref D0), (.inl 3, .ref D1), (.inl 4, .ref D2), (.inl 5, .ref D3)] = [(.inl 2, .ref D0), (.inl 3, .ref D1), (.inl 4, .ref D2), (.inl 5, .ref D3)] := by rfl
      rw [em]
      have e4 := same_new (o := .dK [(.inl 2, .ref D0), (.inl 3, .ref D1), (.inl 4, .ref D2), (.inl 5, .ref D3)]) ntb
      have pt4 := (pt2.same e3).same e4
      have ntp : tb ≠ pn := fun z => (pt2.same e3).pen.some_ (by rw [← z]; exact ntb)
      have T4 : Tabl (upd H3 tb (.dK [(.inl 2, .ref D0), (.inl 3, .ref D1), (.inl 4, .ref D2), (.inl 5, .ref D3)])) tb (fun m => if m = 2 then D0 else if m = 3 then D1 else if m = 4 then D2 else D3) (fun m => if m = 2 then bs0 else if m = 3 then bs1 else if m = 4 then bs2 else bs3) (fun m => if m = 2 then rw0 else if m = 3 then rw1 else if m = 4 then rw2 else rw3) := by
        have cs : ∀ m, 2 ≤ m → m ≤ 5 → m = 2 ∨ m = 3 ∨ m = 4 ∨ m = 5 := fun m _ _ => by omega
        refine ⟨upd_same, fun m h1 h2 => ?_, fun m h1 h2 => ?_, fun m h1 h2 => ?_, fun m h1 h2 => ?_⟩
        · rcases cs m h1 h2 with rfl | rfl | rfl | rfl
          · exact e4 _ _ d0
          · exact e4 _ _ d1
          · exact e4 _ _ d2
          · exact e4 _ _ d3
        · rcases cs m h1 h2 with rfl | rfl | rfl | rfl
          · exact Rws.same w0 fun _ _ z => e4 _ _ z
          · exact Rws.same w1 fun _ _ z => e4 _ _ z
          · exact Rws.same w2 fun _ _ z => e4 _ _ z
          · exact Rws.same w3 fun _ _ z => e4 _ _ z
        · rcases cs m h1 h2 with rfl | rfl | rfl | rfl
          · exact n0
          · exact n1
          · exact n2
          · exact n3
        · rcases cs m h1 h2 with rfl | rfl | rfl | rfl
          · exact u0
          · exact u1
          · exact u2
          · exact u3
      generalize (fun m : Nat => if m = 2 then D0 else if m = 3 then D1 else if m = 4 then D2 else D3) = Dt at T4
      generalize (fun m : Nat => if m = 2 then bs0 else if m = 3 then bs1 else if m = 4 then bs2 else bs3) = bs at T4
      generalize (fun m : Nat => if m = 2 then rw0 else if m = 3 then rw1 else if m = 4 then rw2 else rw3) = rows at T4
      generalize upd H3 tb (.dK [(.inl 2, .ref D0), (.inl 3, .ref D1), (.inl 4, .ref D2), (.inl 5, .ref D3)]) = H4 at pt4 T4 ⊢
      clear em e4 ntb hD eacc racc lacc a0 b0 c0 d0 w0 n0 u0 a1 b1 c1 d1 w1 n1 u1 a2 b2 c2 d2 w2 n2 u2 a3 b3 c3 d3 w3 n3 u3
      refine gN ?_
      dsimp only
      refine ⟨4, rfl, by decide, by decide, for_range (D := { nx := _, rt := Q, bk := fun _ _ => False, ct := fun _ _ => False }) (n := 4) (fun i σ H' => ∃ (o4 o5 o6 o7 o8 o9 o10 o11 o12 : Option V), σ = [some (.ref a), some (.ref pn), some (.ref tb), none, o4, o5, o6, o7, o8, o9, o10, o11, o12] ∧ PT Tb H' pn cl (i * 1000) ∧ Tabl H' tb Dt bs rows) ⟨_, _, _, _, _, _, _, _, _, rfl, pt4.pen.mono (Nat.zero_le _) |> fun z => ⟨z, pt4.tabs⟩, T4⟩ ?_ ?_⟩
      · clear pt4 T4
        rintro i σ H5 hi ⟨o4, o5, o6, o7, o8, o9, o10, o11, o12, rfl, pt5, T5⟩
        refine gN ?_
        dsimp only
        refine ⟨_, rfl, pn, cl, 7, i * 1000, rfl, pt5, by omega, by omega, by omega, fun t pp tp vs prs tss H6 b6 pt6 h6 hpp6 pv6 ts6 hk lp => ?_⟩
        have T6 := T5.but pt5.pen ntp b6
        refine ⟨t, _, rfl, SqT.of h6, rfl, _, _, rfl, _, _, rfl, rfl, ?_⟩
        have hi := hk.h
        have one := hi.one
        have lvs : vs.length = prs.length := Paired.length pv6
        refine ⟨_, rfl, pp, prs, tss, rfl, ⟨vs, .inl hpp6, Paired.mapP pv6 fun _ _ h => h.v⟩, hi, pt6.tabs, fun p sgs H7 pl7 cd7 ok ch e7 tab7 => ?_⟩
        have lo : ∀ g ∈ sgs, g.a < g.e := fun g hg => (ok g hg).lo
        have few := ch.few lo
        have top := hi.top
        have hpp7 := e7 _ _ hpp6 (fun _ y => nomatch y)
        have pv7 := Paired.mapP pv6 fun _ _ h => h.tt (tt_ext e7)
        have ts7 := ts6.ext e7
        have T7 := T6.ext e7
        have pt7 := pt6.ext e7 tab7
        obtain ⟨cts, ct1, ct2⟩ := id ts7
        have lct : cts.length = prs.length := by rw [Paired.length ct2, hi.len]
        clear pt5 T5 b6 h6 hpp6 pv6 ts6 T6 e7
        refine ⟨_, rfl, tp, _, rfl, .inl (SqL.of ct1), fun J G wk hG D nD => lcO wk (fun j v H' => ∃ (Dd : Addr) (as : List Addr) (rs : List (List Nat)), v = .ref Dd ∧ Dd ≠ D ∧ H' Dd = some (.lst (as.map V.ref)) ∧ Rws H' as rs ∧ rs.Nodup ∧ (∀ ls, ls ∈ rs ↔ ls.length = (Ta tss j).length ∧ Huff.Full ls ∧ dot ls (Ta tss j) = hf (Ta tss j)) ∧ rs.length ≤ 9000)
          (fun j v Ha Hb xs hD k ⟨Dd, as, rs, h1, h2, h3, h4, h5⟩ => ⟨Dd, as, rs, h1, h2, k _ _ h2 h3, rws_keep hD k h4, h5⟩) (by rw [List.length_map]; omega) nD (fun H' e => hG H' fun o z => e _ _ z) ?_ ?_⟩
        · rintro j x H8 H9 N hj e8 ⟨xs, hD⟩ ⟨rfl, hx⟩ fin
          rw [List.length_map] at hj
          obtain ⟨d, hd, hcd⟩ := paired_get ct2 (List.getElem?_eq_getElem hj)
          have ed : d = Ta tss j := by
            unfold Ta
            rw [List.getD_eq_getElem?_getD, hd]
            rfl
          subst ed
          rw [List.getElem?_map, List.getElem?_eq_getElem hj] at hx
          cases hx
          have sz := hi.sz j (by omega)
          have k5 := hk.k j (by omega)
          refine ⟨rfl, _, rfl, _, rfl, tb, cts[j], Dt, bs, rows, Ta tss j, rfl, T7.same e8, e8 _ _ hcd, sz.1, k5, fun Dd as rs H10 e10 nDd hDd rw10 nd iff => ?_⟩
          refine fin _ _ e10 ⟨Dd, as, rs, rfl, fun z => (by rw [z, hD] at nDd; cases nDd), hDd, rw10, nd, iff, ?_⟩
          have := AllL.fu_few (s := (Ta tss j).length) (by omega) nd fun ls hl => by
            obtain ⟨a1, a2, _⟩ := (iff ls).mp hl
            exact full_fu a1 sz.1 (by omega) a2
          omega
        · intro acc H8 e8 lacc racc hD
          rw [List.length_map] at lacc
          have hrt : RtL H8 D tss := by
            obtain ⟨rds, e1, e2⟩ := rtl_of (tss := tss) (by have := hi.len; omega) racc
            exact ⟨rds, by rw [← e1]; exact hD, e2⟩
          refine ⟨_, _, rfl, ?_⟩
          dsimp only
          have hpp8 := e8 _ _ hpp7
          have pv8 := Paired.mapP pv7 fun _ _ h => h.tt (TT.same e8)
          have ts8 := ts7.ext (LamX.ExtN.of e8)
          have T8 := T7.same e8
          have pt8 := pt7.same e8
          have pl8 := pl7.same e8
          have cd8 : Cds C H8 sgs := cd7.kp (L := []) (Kp.of e8) (fun _ h => nomatch h)
          clear hpp7 pv7 ts7 T7 pt7 pl7 cd7 ct1 ct2 e8 racc hD
          obtain ⟨dx, hv, cv, sv, hvs, us, sts, g0, g1, g2, g3, g4', g5, g6⟩ := id pl8
          have lu : us.length = sgs.length := by rw [Paired.length g4']; exact List.length_map _
          refine ⟨_, rfl, p, CP, dx, _, _, rfl, g0, T.cl, T.h, pl_history _ _ _, _, rfl, LT.tup (.inl hpp8) fun t2 H9 e9 ht2 => ?_⟩
          refine ⟨.tuple (prs.map dPd), .tup (SqT.of (e9 _ _ g1)) (dpAll_P (Paired.mapP g2 fun _ _ h => h.tt (TT.same e9))), .tup (SqT.of ht2) (dpAll_P (Paired.mapP pv8 fun _ _ h => h.tt (TT.same e9))), sh_Ps _, _, rfl, iteF ?_⟩
          refine ⟨_, rfl, p, CP, dx, _, _, rfl, e9 _ _ g0, T.cl, T.c, pl_codes _ _ _, cv, us, rfl, .inr (SqT.of (e9 _ _ g3)), ?_⟩
          refine ⟨_, rfl, _, rfl, _, rfl, _, rfl, pp, _, rfl, .inl (SqL.of (e9 _ _ hpp8)), _, _, rfl, rfl, ?_⟩
          refine ⟨pp, tp, D, vs, prs, tss, 0, prs.length - 1, ?_, e9 _ _ hpp8, Paired.mapP pv8 fun _ _ h => h.tt (TT.same e9), ts8.ext (LamX.ExtN.of e9), hrt.ext (LamX.ExtN.of e9), hi, Nat.zero_le _, by omega, fun m s' H10 cnt e10 => ⟨rfl, ?_⟩⟩
          · exact congrArg (fun z => [V.ref pp, V.ref tp, V.ref D, V.int 0, V.int z]) (show ((vs.length : Nat) : Int) - 1 = ((prs.length - 1 : Nat) : Int) by omega)
          have ne : sgs ≠ [] := fun z => by
            rw [z] at ch
            exact absurd (show (0 : Nat) = prs.length from ch) (by omega)
          obtain ⟨s2, c2⟩ := Cnt.plan (f := 0) (m := 1) ok ch ne .one
          have em := (cnt.uniq c2).1
          have lsg : sgs.length = m := by omega
          refine ⟨_, rfl, ?_⟩
          dsimp only
          rw [show V.int ((us.length : Nat) : Int) = V.int ((m : Nat) : Int) from congrArg V.int (by omega), decide_eq_true rfl]
          refine iteF ?_
          refine gN ?_
          have f10 := e9.trans e10
          have lst := sts_len lo ch ne
          have lts : sts.length = (stsOf prs.length sgs).length := Paired.length g6
          refine ⟨_, rfl, _, rfl, _, rfl, _, rfl, p, pp, tp, D, vs, prs, tss, sgs, rfl, pl8.same f10, cd8.kp (L := []) (Kp.of f10) (fun _ h => nomatch h), ok, ch, f10 _ _ hpp8, Paired.mapP pv8 fun _ _ h => h.tt (TT.same f10), ts8.ext (LamX.ExtN.of f10), hrt.ext (LamX.ExtN.of f10), hi, (pt8.same f10).tabs, fun H11 e11 tab11 => ?_⟩
          refine ⟨_, rfl, iteF ?_⟩
          have f11 := (LamX.ExtN.of f10).trans e11
          have h0 := f11 _ _ g0 (fun _ y => nomatch y)
          have h3 := f11 _ _ g3 (fun _ y => nomatch y)
          have h5 := f11 _ _ g5 (fun _ y => nomatch y)
          refine ⟨_, rfl, p, CP, dx, _, _, rfl, h0, T.cl, T.s, pl_stops _ _ _, sv, sts, rfl, .inr (SqT.of h5), ?_⟩
          refine ⟨_, rfl, p, CP, dx, _, _, rfl, h0, T.cl, T.c, pl_codes _ _ _, cv, us, rfl, .inr (SqT.of h3), _, _, rfl, rfl, ?_⟩
          refine ⟨rfl, _, rfl, ?_⟩
          dsimp only
          rw [show V.int ((sts.length : Nat) : Int) = V.int (((us.length : Nat) : Int) - 1) from congrArg V.int (by omega), decide_eq_true rfl]
          refine iteF ?_
          refine nextOf (D := { nx := _, rt := _, bk := _, ct := _ }) ?_
          refine seqAsg ?_
          have pl11 := pl8.ext f11
          have cd11 : Cds C H11 sgs := cd8.kp (L := []) (Kp.ext f11) (fun _ h => nomatch h)
          have hpp11 := f11 _ _ hpp8 (fun _ y => nomatch y)
          have pv11 := Paired.mapP pv8 fun _ _ h => h.tt (tt_ext f11)
          have ts11 := ts8.ext f11
          have rt11 := hrt.ext f11
          have T11 := T8.ext f11
          have pt11 := pt8.ext f11 tab11
          have st11 := Paired.mapP g6 fun _ _ h => h.kp (L := []) (Kp.ext f11) (fun _ h => nomatch h)
          have ms := made_stops hi ok ch
          clear h3 hpp8 pv8 ts8 hrt T8 pt8 pl8 cd8 g0 g1 g2 g3 g5 g6 f10 f11 e9 e10 e11 tab7 tab11 ht2 cnt
          refine ⟨_, rfl, p, CP, dx, _, _, rfl, h0, T.cl, T.s, pl_stops _ _ _, sv, sts, rfl, .inr (SqT.of h5), fun J2 G2 wk2 hG2 => for_it wk2 (fun j σ H' => ∃ (o11 o12 : Option V), σ = [some (.ref a), some (.ref pn), some (.ref tb), none, some (.int (0 + ((i : Nat) : Int))), some (.ref pp), some (.ref tp), some (.ref p), some (.ref D), o9, some (.int (loS (stsOf prs.length sgs) j)), o11, o12] ∧ Same H11 H') ⟨_, _, rfl, Same.refl _⟩ (fun i σ H' _ ⟨_, _, _, e⟩ => hG2 H' fun o z => e _ _ z) ?_ ?_⟩
          · rintro j x σ H12 H13 hj ⟨o11, o12, rfl, e12⟩ ⟨rfl, hx⟩
            obtain ⟨d, hd, a2, rfl, ha2⟩ := paired_get st11 hx
            have ha2 := e12 _ _ ha2
            have okd := ms.ok j d hd
            have nod := ms.no j d hd
            obtain ⟨⟨z1, z2⟩, z3, z4⟩ := okd
            obtain ⟨g, _, gm, ge, rfl⟩ := sts_at hd
            have lg := lo g gm
            refine ⟨a2, _, rfl, SqT.of ha2, rfl, _, _, rfl, _, _, rfl, rfl, ?_⟩
            refine ⟨_, rfl, _, rfl, _, _, rfl, rfl, _, rfl, ?_⟩
            rw [decide_eq_true z1]
            refine iteT ⟨_, rfl, _, _, rfl, rfl, _, rfl, ?_⟩
            rw [decide_eq_true (show ((g.a : Nat) : Int) < ((g.e : Nat) : Int) by omega)]
            refine iteT ?_
            refine ⟨_, rfl, pp, _, rfl, .inl (SqL.of (e12 _ _ hpp11)), _, _, rfl, rfl, _, rfl, ?_⟩
            rw [decide_eq_true (show ((g.e : Nat) : Int) < ((vs.length : Nat) : Int) by omega)]
            refine iteF ?_
            refine ⟨_, rfl, _, rfl, _, rfl, _, rfl, _, rfl, ?_⟩
            refine ⟨pp, tp, D, vs, prs, tss, g.a, g.e, rfl, e12 _ _ hpp11, Paired.mapP pv11 fun _ _ h => h.tt (TT.same e12), ts11.ext (LamX.ExtN.of e12), rt11.ext (LamX.ExtN.of e12), hi, by omega, by omega, fun m2 s2 H14 cnt2 e14 => ?_⟩
            have m2t := cnt2.two hi (by omega) nod
            refine ⟨_, _, rfl, rfl, _, rfl, ?_⟩
            rw [decide_eq_false (show ¬ ((m2 : Nat) : Int) < (2 : Int) by omega)]
            refine iteF ?_
            have elo : loS (stsOf prs.length sgs) (j + 1) = ((g.e : Nat) : Int) := by
              show (match (stsOf prs.length sgs)[j]? with | some y => y.2 | none => 0) = _
              rw [hd]
            exact ⟨_, rfl, _, _, by rw [elo]; rfl, e12.trans e14⟩
          · rintro σ H12 ⟨o11, o12, rfl, e12⟩
            have ex := LamX.ExtN.of e12
            refine ⟨_, rfl, p, prs, tss, codsOf sgs, stsOf prs.length sgs, lsAt C H12, rfl, pl11.ext ex, hi, ?_, ?_, fun H13 e13 => ?_⟩
            · show (List.map _ sgs).length ≤ 1000
              rw [List.length_map]
              omega
            · rintro x hx
              obtain ⟨g, gm, rfl⟩ := List.mem_map.mp hx
              obtain ⟨L, co⟩ := (cd11.kp (L := []) (Kp.ext ex) (fun _ h => nomatch h)) g gm
              have ls := lsAt_of co
              have og := ok g gm
              refine ⟨L, g.ws, by rw [ls]; exact co, ?_⟩
              rw [ls]
              intro l hl
              have := full_deep g.ls.length rfl (fun l hl => og.cw.hi l (by rw [og.wl]; exact hl)) (by rw [← og.wl]; exact og.cw.kl) l hl
              have := og.len
              have := (hi.sz g.a (by have := og.lo; have := og.hi; omega)).2
              omega
            · have mc := made_codes (C := C) (H := H12) hi (cd11.kp (L := []) (Kp.ext ex) (fun _ h => nomatch h)) ok ch
              refine ⟨_, _, rfl, rfl, _, rfl, ?_⟩
              rw [show plB prs tss (lsAt C H12) (codsOf sgs) (stsOf prs.length sgs) = true by
                unfold plB
                rw [areB_t mc, areSB_t ms]
                rfl]
              refine iteF ?_
              exact ⟨_, _, _, _, _, _, _, _, _, rfl, (Nat.succ_mul i 1000) ▸ (pt11.same (e12.trans e13)), T11.same (e12.trans e13)⟩
      · rintro σ H5 ⟨o4, o5, o6, o7, o8, o9, o10, o11, o12, rfl, pt5, T5⟩
        exact qq H5
end
end K40
set_option Elab.async false
set_option linter.all false
set_option maxRecDepth 100001
set_option maxHeartbeats 3999999
namespace K40
open PySem L2
/-! ### what the top leaves -/
/-- an own exception class as the rules want it -/
def oexB (K : PySem.W.Frag) (C : Addr) : Bool := (match K.lookup C with
  | some ⟨.type "type", _, .cls cd, sl⟩ => (match sl.toList, cd.mro with
    | [_, _, _, _, some (.builtin nw), _], .ref D :: bm => decide (D = C) && (decide (nw = "ValueError.__new__") && (!cd.hasDel && (cd.hasDict && PySem.HandSPX.refsVE bm)))
    | _, _ => false)
  | _ => false) && (He.eqO (PySem.W.findIn K (.ref C) "__setattr__") (some (some (.builtin "object.__setattr__"))) && (decide (PySem.W.subIn K (.ref C) (.type "BaseException") = some true) && (decide (PySem.W.typeIn K (.ref C) = some (.type "type")) && PySem.W.keepIn K (.ref C))))
theorem oexB_ok {K : PySem.W.Frag} {C : Addr} (h : oexB K C = true) : OexC K C := by
  obtain ⟨h1, h⟩ := He.ba h
  obtain ⟨h2, h⟩ := He.ba h
  obtain ⟨h3, h⟩ := He.ba h
  obtain ⟨h4, h5⟩ := He.ba h
  refine ⟨?_, He.eqO_ok h2, of_decide_eq_true h3, of_decide_eq_true h4, h5⟩
  split at h1
  · rename_i dd cd sl ho
    split at h1
    · rename_i x0 x1 x2 x3 nw x5 D bm hs hm
      obtain ⟨g1, g⟩ := He.ba h1
      obtain ⟨g2, g⟩ := He.ba g
      obtain ⟨g3, g⟩ := He.ba g
      obtain ⟨g4, g5⟩ := He.ba g
      have e1 := of_decide_eq_true g1
      have e2 := of_decide_eq_true g2
      subst e1 e2
      obtain ⟨nm, bs, mro, ns, qn, hd, sn, sub, ab, col, del⟩ := cd
      dsimp only at hm g3 g4
      subst hm g4
      have e3 : del = false := by
        cases del with
        | false => rfl
        | true => cases g3
      subst e3
      have hsl : sl = #[x0, x1, x2, x3, some (.builtin "ValueError.__new__"), x5] := by
        obtain ⟨l⟩ := sl
        have h' : l = _ := hs
        rw [h']
      subst hsl
      exact ⟨nm, qn, ns, bs, bm, sn, sub, ab, col, dd, x0, x1, x2, x3, x5, ho, g5⟩
    · cases h1
  · cases h1
def fa0 : List He.Fa := [.glo "is_whole", .glo "is_between", .glo "is_from", .glo "is_list", .glo "is_tuple_of", .glo "copied", .glo "frozen", .glo "first_one", .glo "check_counts", .glo "check_words", .glo "first_wrong_bit", .glo "canonical_words", .glo "least_code", .glo "cost_of", .glo "least_of", .glo "joined_counts", .glo "parted_sign", .glo "parted", .glo "code_of", .glo "plan_codes", .glo "tallies_of", .glo "tally_behind", .glo "are_counts", .glo "farthest", .glo "code_at", .glo "is_plan", .glo "are_codes", .glo "stays_least", .glo "are_stops", .glo "_law_pen_of"]
def fa1 : List He.Fa := [.glo "_law_draw", .glo "_law_pick", .glo "_law_cost", .glo "_law_least", .glo "_law_all_lengths", .glo "_law_history", .glo "_law_behind", .glo "_law_right_ones", .glo "_law_fewest", .glo "_law_serves", .glo "law", .glo "TooMany", .glo "BadBits", .glo "BadTally", .glo "BadLength", .glo "NotFull", .glo "Begins", .glo "Tree", .glo "Code", .glo "Groups", .glo "CodePlan", .free "isinstance", .free "int", .free "bool", .free "tuple", .free "list", .free "dict", .free "len", .free "enumerate", .free "range"]
def fa2 : List He.Fa := [.free "abs", .free "max", .free "min", .free "str", .free "all", .free "any", .free "sum", .free "zip", .free "sorted", .int "MOST_SIGNS" 2000, .int "MOST_LENGTH" 1999, .int "MOST_PAIRS" 400, .cls "Tree", .mkr "Tree", .cls "Code", .mkr "Code", .cls "Groups", .mkr "Groups", .cls "CodePlan", .mkr "CodePlan", .noat "TooMany" "what", .noat "TooMany" "many", .noat "TooMany" "most", .noat "BadBits" "index", .noat "BadTally" "index", .noat "BadLength" "index", .noat "Begins" "index", .noat "Begins" "other", .noat "Tree" "names", .noat "Tree" "zeros"]
def fa3 : List He.Fa := [.noat "Tree" "ones", .noat "Tree" "numbers", .noat "Code" "longest", .noat "Code" "lengths", .noat "Code" "words", .noat "Code" "size", .noat "Code" "tree", .noat "Groups" "groups", .noat "Groups" "depths", .noat "Groups" "sums", .noat "Groups" "least", .noat "CodePlan" "history", .noat "CodePlan" "codes", .noat "CodePlan" "stops", .meth "TooMany" "__init__", .meth "BadBits" "__init__", .meth "BadTally" "__init__", .meth "BadLength" "__init__", .meth "NotFull" "__init__", .meth "Begins" "__init__", .meth "Tree" "__init__", .meth "Code" "__init__", .meth "Groups" "__init__", .meth "Groups" "put", .meth "Groups" "takes", .meth "CodePlan" "__init__", .free "set", .glo "VaultError", .exm "TooMany" "VaultError" true, .exm "BadTally" "VaultError" true]
def faA : List He.Fa := fa0 ++ fa1 ++ fa2 ++ fa3
def dd0 : He.DefD := ⟨("is_whole", none), "is_whole", "is_whole", defArgs sWhole, defBody sWhole, defScope sWhole, [], []⟩
def dd1 : He.DefD := ⟨("is_between", none), "is_between", "is_between", defArgs sBetween, defBody sBetween, defScope sBetween, [], []⟩
def dd2 : He.DefD := ⟨("is_from", none), "is_from", "is_from", defArgs sFrom, defBody sFrom, defScope sFrom, [], []⟩
def dd3 : He.DefD := ⟨("is_list", none), "is_list", "is_list", defArgs sIsL, defBody sIsL, defScope sIsL, [], []⟩
def dd4 : He.DefD := ⟨("is_tuple_of", none), "is_tuple_of", "is_tuple_of", defArgs sTupOf, defBody sTupOf, defScope sTupOf, [], []⟩
def dd5 : He.DefD := ⟨("copied", none), "copied", "copied", defArgs sCopied, defBody sCopied, defScope sCopied, [], []⟩
def dd6 : He.DefD := ⟨("frozen", none), "frozen", "frozen", defArgs sFrz, defBody sFrz, defScope sFrz, [], []⟩
def dd7 : He.DefD := ⟨("first_one", none), "first_one", "first_one", defArgs sFo, defBody sFo, defScope sFo, [], []⟩
def dd8 : He.DefD := ⟨("check_counts", none), "check_counts", "check_counts", defArgs sChC, defBody sChC, defScope sChC, [], []⟩
def dd9 : He.DefD := ⟨("check_words", none), "check_words", "check_words", defArgs sChW, defBody sChW, defScope sChW, [], []⟩
def dd10 : He.DefD := ⟨("first_wrong_bit", none), "first_wrong_bit", "first_wrong_bit", defArgs sFwb, defBody sFwb, defScope sFwb, [], []⟩
def dd11 : He.DefD := ⟨("canonical_words", none), "canonical_words", "canonical_words", defArgs sCan, defBody sCan, defScope sCan, [], []⟩
def dd12 : He.DefD := ⟨("least_code", none), "least_code", "least_code", defArgs sLC, defBody sLC, defScope sLC, [], []⟩
def dd13 : He.DefD := ⟨("cost_of", none), "cost_of", "cost_of", defArgs sCostOf, defBody sCostOf, defScope sCostOf, [], []⟩
def dd14 : He.DefD := ⟨("least_of", none), "least_of", "least_of", defArgs sLO, defBody sLO, defScope sLO, [], []⟩
def dd15 : He.DefD := ⟨("joined_counts", none), "joined_counts", "joined_counts", defArgs sJC, defBody sJC, defScope sJC, [], []⟩
def dd16 : He.DefD := ⟨("parted_sign", none), "parted_sign", "parted_sign", defArgs sPS, defBody sPS, defScope sPS, [], []⟩
def dd17 : He.DefD := ⟨("parted", none), "parted", "parted", defArgs sPt, defBody sPt, defScope sPt, [], []⟩
def dd18 : He.DefD := ⟨("code_of", none), "code_of", "code_of", defArgs sCf, defBody sCf, defScope sCf, [], []⟩
def dd19 : He.DefD := ⟨("plan_codes", none), "plan_codes", "plan_codes", defArgs sPn, defBody sPn, defScope sPn, [], []⟩
def dd20 : He.DefD := ⟨("tallies_of", none), "tallies_of", "tallies_of", defArgs sTO, defBody sTO, defScope sTO, [], []⟩
def dd21 : He.DefD := ⟨("tally_behind", none), "tally_behind", "tally_behind", defArgs sTB, defBody sTB, defScope sTB, [], []⟩
def dd22 : He.DefD := ⟨("are_counts", none), "are_counts", "are_counts", defArgs sACo, defBody sACo, defScope sACo, [], []⟩
def dd23 : He.DefD := ⟨("farthest", none), "farthest", "farthest", defArgs sFar, defBody sFar, defScope sFar, [], []⟩
def dd24 : He.DefD := ⟨("code_at", none), "code_at", "code_at", defArgs sCa2, defBody sCa2, defScope sCa2, [], []⟩
def dd25 : He.DefD := ⟨("is_plan", none), "is_plan", "is_plan", defArgs sIP, defBody sIP, defScope sIP, [], []⟩
def dd26 : He.DefD := ⟨("are_codes", none), "are_codes", "are_codes", defArgs sAC, defBody sAC, defScope sAC, [], []⟩
def dd27 : He.DefD := ⟨("stays_least", none), "stays_least", "stays_least", defArgs sSL, defBody sSL, defScope sSL, [], []⟩
def dd28 : He.DefD := ⟨("are_stops", none), "are_stops", "are_stops", defArgs sAS, defBody sAS, defScope sAS, [], []⟩
def dd29 : He.DefD := ⟨("_law_pen_of", none), "_law_pen_of", "_law_pen_of", defArgs sPen, defBody sPen, defScope sPen, [], []⟩
def dd30 : He.DefD := ⟨("_law_draw", none), "_law_draw", "_law_draw", defArgs sDraw, defBody sDraw, defScope sDraw, [], []⟩
def dd31 : He.DefD := ⟨("_law_pick", none), "_law_pick", "_law_pick", defArgs sPick, defBody sPick, defScope sPick, [], []⟩
def dd32 : He.DefD := ⟨("_law_cost", none), "_law_cost", "_law_cost", defArgs sLCost, defBody sLCost, defScope sLCost, [], []⟩
def dd33 : He.DefD := ⟨("_law_least", none), "_law_least", "_law_least", defArgs sLLeast, defBody sLLeast, defScope sLLeast, [], []⟩
def dd34 : He.DefD := ⟨("_law_all_lengths", none), "_law_all_lengths", "_law_all_lengths", defArgs sAL, defBody sAL, defScope sAL, [], []⟩
def dd35 : He.DefD := ⟨("_law_history", none), "_law_history", "_law_history", defArgs sHis, defBody sHis, defScope sHis, [], []⟩
def dd36 : He.DefD := ⟨("_law_behind", none), "_law_behind", "_law_behind", defArgs sBeh, defBody sBeh, defScope sBeh, [], []⟩
def dd37 : He.DefD := ⟨("_law_right_ones", none), "_law_right_ones", "_law_right_ones", defArgs sRo, defBody sRo, defScope sRo, [], []⟩
def dd38 : He.DefD := ⟨("_law_fewest", none), "_law_fewest", "_law_fewest", defArgs sFew, defBody sFew, defScope sFew, [], []⟩
def dd39 : He.DefD := ⟨("_law_serves", none), "_law_serves", "_law_serves", defArgs sSrv, defBody sSrv, defScope sSrv, [], []⟩
def dd40 : He.DefD := ⟨("law", none), "law", "law", defArgs sLaw, defBody sLaw, defScope sLaw, [], []⟩
def dd41 : He.DefD := ⟨("TooMany", some "__init__"), "__init__", "TooMany.__init__", defArgs sTMany, defBody sTMany, defScope sTMany, [], []⟩
def dd42 : He.DefD := ⟨("BadBits", some "__init__"), "__init__", "BadBits.__init__", defArgs sBBits, defBody sBBits, defScope sBBits, [], []⟩
def dd43 : He.DefD := ⟨("BadTally", some "__init__"), "__init__", "BadTally.__init__", defArgs sBTally, defBody sBTally, defScope sBTally, [], []⟩
def dd44 : He.DefD := ⟨("BadLength", some "__init__"), "__init__", "BadLength.__init__", defArgs sBLen, defBody sBLen, defScope sBLen, [], []⟩
def dd45 : He.DefD := ⟨("NotFull", some "__init__"), "__init__", "NotFull.__init__", defArgs sNFull, defBody sNFull, defScope sNFull, [], []⟩
def dd46 : He.DefD := ⟨("Begins", some "__init__"), "__init__", "Begins.__init__", defArgs sBegins, defBody sBegins, defScope sBegins, [], []⟩
def dd47 : He.DefD := ⟨("Tree", some "__init__"), "__init__", "Tree.__init__", defArgs sTrI, defBody sTrI, defScope sTrI, [], []⟩
def dd48 : He.DefD := ⟨("Code", some "__init__"), "__init__", "Code.__init__", defArgs sCoI, defBody sCoI, defScope sCoI, [.non], []⟩
def dd49 : He.DefD := ⟨("Groups", some "__init__"), "__init__", "Groups.__init__", defArgs sGrI, defBody sGrI, defScope sGrI, [], []⟩
def dd50 : He.DefD := ⟨("Groups", some "put"), "put", "Groups.put", defArgs sGrP, defBody sGrP, defScope sGrP, [], []⟩
def dd51 : He.DefD := ⟨("Groups", some "takes"), "takes", "Groups.takes", defArgs sGrT, defBody sGrT, defScope sGrT, [], []⟩
def dd52 : He.DefD := ⟨("CodePlan", some "__init__"), "__init__", "CodePlan.__init__", defArgs sPlI, defBody sPlI, defScope sPlI, [], []⟩
def fnA : List He.DefD := [dd0, dd1, dd2, dd3, dd4, dd5, dd6, dd7, dd8, dd9, dd10, dd11, dd12, dd13, dd14, dd15, dd16, dd17, dd18, dd19, dd20, dd21, dd22, dd23, dd24, dd25, dd26, dd27, dd28, dd29, dd30, dd31, dd32, dd33, dd34, dd35, dd36, dd37, dd38, dd39, dd40, dd41, dd42, dd43, dd44, dd45, dd46, dd47, dd48, dd49, dd50, dd51, dd52]
abbrev treD : Str × Option Str := ("Tree", some "__init__")
abbrev canD : Str × Option Str := ("canonical_words", none)
/-- what else is asked of K, and of the tables ts -/
def exA (K : PySem.W.Frag) (ts : List Addr) : Bool := ((oexB K (He.ga K "TooMany") && xfB K (He.ga K "TooMany")) && ((oexB K (He.ga K "BadBits") && xfB K (He.ga K "BadBits")) && ((oexB K (He.ga K "BadTally") && xfB K (He.ga K "BadTally")) && ((oexB K (He.ga K "BadLength") && xfB K (He.ga K "BadLength")) && ((oexB K (He.ga K "NotFull") && xfB K (He.ga K "NotFull")) && ((oexB K (He.ga K "Begins") && xfB K (He.ga K "Begins")) && (He.eqO (PySem.W.specialIn K (.builtin "object.__class__") "__get__") (some (some (.builtin "getset_descriptor.__get__"))) && (decide (PySem.W.takesIn K (.builtin "object.__class__") = some true) && (decide (PySem.W.kitOne K (.type "tuple") (.ref (He.ga K "Code")) = some false) && (He.eqO (PySem.W.findIn K (.ref (He.ga K "Code")) "__class__") (some (some (.builtin "object.__class__"))) && (decide (PySem.W.mroIn K (He.ga K "Code") (.type "object") = some true) && (decide (PySem.W.kitOne K (.ref (He.ga K "Code")) (.type "int") = some false) && (decide (PySem.W.kitOne K (.ref (He.ga K "Code")) (.type "bool") = some false) && (decide (PySem.W.kitOne K (.ref (He.ga K "Code")) (.type "tuple") = some false) && (decide (PySem.W.kitOne K (.ref (He.ga K "Code")) (.type "list") = some false) && (decide (PySem.W.kitOne K (.ref (He.ga K "Code")) (.type "dict") = some false) && (decide ((He.cT K treD).2 ∈ ts) && (decide ((He.cT K canD).2 ∈ ts) && (decide ((He.cT K treD).2 ≠ (He.cT K canD).2) && (PySem.W.codeHdIn K (He.cT K treD).1 (He.cT K treD).2 && (PySem.W.codeHdIn K (He.cT K canD).1 (He.cT K canD).2 && ((K.lookup (He.cT K treD).2).isNone && (K.lookup (He.cT K canD).2).isNone))))))))))))))))))))))
theorem fun_ofD {K : PySem.W.Frag} {x qual : Str} {st : Stmt} {f : Addr} {fd : FuncData} (F : FunD K x qual (defArgs st) (defBody st) (defScope st) [] [] f fd) : Fun K x qual st f fd := by
  obtain ⟨oc, od, dV, kV, doc, pm, an, cdv, ct, osl, e, lk, hcd, dv, _⟩ := F.ex
  rcases dv with ⟨_, rfl⟩ | ⟨h, _⟩
  · exact ⟨⟨oc, od, kV, doc, pm, an, cdv, ct, osl, e, lk, hcd⟩, F.kp⟩
  · exact absurd rfl h
theorem funW_ofD {K : PySem.W.Frag} {x qual : Str} {st : Stmt} {f : Addr} {fd : FuncData} {dvs : List V} (F : FunD K x qual (defArgs st) (defBody st) (defScope st) dvs [] f fd) : FunW K x qual st f fd := by
  obtain ⟨oc, od, dV, kV, doc, pm, an, cdv, ct, osl, e, lk, hcd, _, _⟩ := F.ex
  exact ⟨⟨oc, od, dV, kV, doc, pm, an, cdv, ct, osl, e, lk, hcd⟩⟩
theorem funL_of {K : PySem.W.Frag} {base : Heap} {mg : Str → Option Value} {x q : Str} {kq : Str × Option Str} {st : Stmt} {fd : FuncData} (F : Fun K x q st (He.fAd K kq) fd) (T : LamX.TabB base mg (He.cT K kq).1 (He.cT K kq).2) :
    FunL K base mg x q st (He.fAd K kq) (He.cT K kq).1 (He.cT K kq).2 fd := by
  obtain ⟨oc, od, kV, doc, pm, an, cdv, ct, osl, e, lk, hcd⟩ := F.ex
  obtain ⟨c, rfl⟩ := He.codeIn_ref hcd
  have e2 : (He.cT K kq).1 = c := by
    refine He.codeOf_eq lk ?_
    rw [e] <;> rfl
  exact ⟨⟨oc, od, kV, doc, pm, an, ct, osl, by rw [e2]; exact e, lk, by rw [e2]; exact hcd⟩, T⟩
theorem isNone_of {α : Type} {o : Option α} (h : o.isNone = true) : o = none := by
  cases o with
  | none => rfl
  | some _ => cases h
abbrev TbK (K : PySem.W.Frag) : List (Addr × Str) := [((He.cT K treD).2, (("Tree.__init__.<locals>.<lambda>" : String) : Str)), ((He.cT K canD).2, (("canonical_words.<locals>.<lambda>" : String) : Str))]
/-- the law's promise, of what the top leaves -/
theorem at_law {l : PySem.W.OpenLaw} {w : World} {K : PySem.W.Frag} {h : Heap} {mg : Str → Option Value} {fl : Addr} {ts : List Addr} (KX : K.In h) (G : h.Ns mainGlobals mg) (hfl : mg ("law" : Str) = some (.ref fl)) (c : He.SaysD faA fnA K) (ex : exA K ts = true) (hT : ∀ P ∈ ts, h.get? P = some { cls := .none, data := .fields #[] }) :
    LamX.LawAtS l w K CX0 13 63 "_law_script" mg fl h := by
  obtain ⟨x0, ex⟩ := He.ba ex
  obtain ⟨x1, ex⟩ := He.ba ex
  obtain ⟨x2, ex⟩ := He.ba ex
  obtain ⟨x3, ex⟩ := He.ba ex
  obtain ⟨x4, ex⟩ := He.ba ex
  obtain ⟨x5, ex⟩ := He.ba ex
  obtain ⟨x6, ex⟩ := He.ba ex
  obtain ⟨x7, ex⟩ := He.ba ex
  obtain ⟨x8, ex⟩ := He.ba ex
  obtain ⟨x9, ex⟩ := He.ba ex
  obtain ⟨x10, ex⟩ := He.ba ex
  obtain ⟨x11, ex⟩ := He.ba ex
  obtain ⟨x12, ex⟩ := He.ba ex
  obtain ⟨x13, ex⟩ := He.ba ex
  obtain ⟨x14, ex⟩ := He.ba ex
  obtain ⟨x15, ex⟩ := He.ba ex
  obtain ⟨x16, ex⟩ := He.ba ex
  obtain ⟨x17, ex⟩ := He.ba ex
  obtain ⟨x18, ex⟩ := He.ba ex
  obtain ⟨x19, ex⟩ := He.ba ex
  obtain ⟨x20, ex⟩ := He.ba ex
  obtain ⟨x21, ex⟩ := He.ba ex
  have x22 := ex
  obtain ⟨o0, f0⟩ := He.ba x0
  obtain ⟨o1, f1⟩ := He.ba x1
  obtain ⟨o2, f2⟩ := He.ba x2
  obtain ⟨o3, f3⟩ := He.ba x3
  obtain ⟨o4, f4⟩ := He.ba x4
  obtain ⟨o5, f5⟩ := He.ba x5
  have B : Bi mg := ⟨He.free_ok KX G (c.fact 51 (f := .free "isinstance") rfl), He.free_ok KX G (c.fact 52 (f := .free "int") rfl), He.free_ok KX G (c.fact 53 (f := .free "bool") rfl), He.free_ok KX G (c.fact 54 (f := .free "tuple") rfl), He.free_ok KX G (c.fact 55 (f := .free "list") rfl), He.free_ok KX G (c.fact 56 (f := .free "dict") rfl), He.free_ok KX G (c.fact 57 (f := .free "len") rfl), He.free_ok KX G (c.fact 58 (f := .free "enumerate") rfl), He.free_ok KX G (c.fact 59 (f := .free "range") rfl), He.free_ok KX G (c.fact 60 (f := .free "abs") rfl), He.free_ok KX G (c.fact 61 (f := .free "max") rfl), He.free_ok KX G (c.fact 62 (f := .free "min") rfl)⟩
  have Bz : Bs mg := ⟨He.free_ok KX G (c.fact 63 (f := .free "str") rfl), He.free_ok KX G (c.fact 64 (f := .free "all") rfl), He.free_ok KX G (c.fact 65 (f := .free "any") rfl), He.free_ok KX G (c.fact 66 (f := .free "sum") rfl), He.free_ok KX G (c.fact 67 (f := .free "zip") rfl), He.free_ok KX G (c.fact 68 (f := .free "sorted") rfl)⟩
  obtain ⟨u0, g0⟩ := He.int_ok KX G (c.fact 69 (f := .int "MOST_SIGNS" 2000) rfl)
  obtain ⟨u1, g1⟩ := He.int_ok KX G (c.fact 70 (f := .int "MOST_LENGTH" 1999) rfl)
  obtain ⟨u2, g2⟩ := He.int_ok KX G (c.fact 71 (f := .int "MOST_PAIRS" 400) rfl)
  obtain ⟨d0, D0⟩ := c.def_ 0 (d := dd0) rfl
  have F0 : Fun K "is_whole" "is_whole" sWhole (He.ga K "is_whole") d0 := fun_ofD D0
  have b0 : Binds K d0 ["value"] [] := F0.binds fun _ _ _ _ _ _ us hl => match us, hl with | [_], _ => rfl
  obtain ⟨d1, D1⟩ := c.def_ 1 (d := dd1) rfl
  have F1 : Fun K "is_between" "is_between" sBetween (He.ga K "is_between") d1 := fun_ofD D1
  have b1 : Binds K d1 ["value", "low", "high"] [] := F1.binds fun _ _ _ _ _ _ us hl => match us, hl with | [_, _, _], _ => rfl
  obtain ⟨d2, D2⟩ := c.def_ 2 (d := dd2) rfl
  have F2 : Fun K "is_from" "is_from" sFrom (He.ga K "is_from") d2 := fun_ofD D2
  have b2 : Binds K d2 ["value", "low"] [] := F2.binds fun _ _ _ _ _ _ us hl => match us, hl with | [_, _], _ => rfl
  obtain ⟨d3, D3⟩ := c.def_ 3 (d := dd3) rfl
  have F3 : Fun K "is_list" "is_list" sIsL (He.ga K "is_list") d3 := fun_ofD D3
  have b3 : Binds K d3 ["value"] [] := F3.binds fun _ _ _ _ _ _ us hl => match us, hl with | [_], _ => rfl
  obtain ⟨d4, D4⟩ := c.def_ 4 (d := dd4) rfl
  have F4 : Fun K "is_tuple_of" "is_tuple_of" sTupOf (He.ga K "is_tuple_of") d4 := fun_ofD D4
  have b4 : Binds K d4 ["value", "size"] [] := F4.binds fun _ _ _ _ _ _ us hl => match us, hl with | [_, _], _ => rfl
  obtain ⟨d5, D5⟩ := c.def_ 5 (d := dd5) rfl
  have F5 : Fun K "copied" "copied" sCopied (He.ga K "copied") d5 := fun_ofD D5
  have b5 : Binds K d5 ["value"] [] := F5.binds fun _ _ _ _ _ _ us hl => match us, hl with | [_], _ => rfl
  obtain ⟨d6, D6⟩ := c.def_ 6 (d := dd6) rfl
  have F6 : Fun K "frozen" "frozen" sFrz (He.ga K "frozen") d6 := fun_ofD D6
  have b6 : Binds K d6 ["value"] [] := F6.binds fun _ _ _ _ _ _ us hl => match us, hl with | [_], _ => rfl
  obtain ⟨d7, D7⟩ := c.def_ 7 (d := dd7) rfl
  have F7 : Fun K "first_one" "first_one" sFo (He.ga K "first_one") d7 := fun_ofD D7
  have b7 : Binds K d7 ["words", "order", "depth", "first", "behind"] [] := F7.binds fun _ _ _ _ _ _ us hl => match us, hl with | [_, _, _, _, _], _ => rfl
  obtain ⟨d8, D8⟩ := c.def_ 8 (d := dd8) rfl
  have F8 : Fun K "check_counts" "check_counts" sChC (He.ga K "check_counts") d8 := fun_ofD D8
  have b8 : Binds K d8 ["counts"] [] := F8.binds fun _ _ _ _ _ _ us hl => match us, hl with | [_], _ => rfl
  obtain ⟨d9, D9⟩ := c.def_ 9 (d := dd9) rfl
  have F9 : Fun K "check_words" "check_words" sChW (He.ga K "check_words") d9 := fun_ofD D9
  have b9 : Binds K d9 ["lengths", "words"] [] := F9.binds fun _ _ _ _ _ _ us hl => match us, hl with | [_, _], _ => rfl
  obtain ⟨d10, D10⟩ := c.def_ 10 (d := dd10) rfl
  have F10 : Fun K "first_wrong_bit" "first_wrong_bit" sFwb (He.ga K "first_wrong_bit") d10 := fun_ofD D10
  have b10 : Binds K d10 ["value"] [] := F10.binds fun _ _ _ _ _ _ us hl => match us, hl with | [_], _ => rfl
  obtain ⟨d11, D11⟩ := c.def_ 11 (d := dd11) rfl
  have F11 : Fun K "canonical_words" "canonical_words" sCan (He.ga K "canonical_words") d11 := fun_ofD D11
  have b11 : Binds K d11 ["lengths"] [] := F11.binds fun _ _ _ _ _ _ us hl => match us, hl with | [_], _ => rfl
  obtain ⟨d12, D12⟩ := c.def_ 12 (d := dd12) rfl
  have F12 : Fun K "least_code" "least_code" sLC (He.ga K "least_code") d12 := fun_ofD D12
  have b12 : Binds K d12 ["counts"] [] := F12.binds fun _ _ _ _ _ _ us hl => match us, hl with | [_], _ => rfl
  obtain ⟨d13, D13⟩ := c.def_ 13 (d := dd13) rfl
  have F13 : Fun K "cost_of" "cost_of" sCostOf (He.ga K "cost_of") d13 := fun_ofD D13
  have b13 : Binds K d13 ["lengths", "counts"] [] := F13.binds fun _ _ _ _ _ _ us hl => match us, hl with | [_, _], _ => rfl
  obtain ⟨d14, D14⟩ := c.def_ 14 (d := dd14) rfl
  have F14 : Fun K "least_of" "least_of" sLO (He.ga K "least_of") d14 := fun_ofD D14
  have b14 : Binds K d14 ["counts"] [] := F14.binds fun _ _ _ _ _ _ us hl => match us, hl with | [_], _ => rfl
  obtain ⟨d15, D15⟩ := c.def_ 15 (d := dd15) rfl
  have F15 : Fun K "joined_counts" "joined_counts" sJC (He.ga K "joined_counts") d15 := fun_ofD D15
  have b15 : Binds K d15 ["counts"] [] := F15.binds fun _ _ _ _ _ _ us hl => match us, hl with | [_], _ => rfl
  obtain ⟨d16, D16⟩ := c.def_ 16 (d := dd16) rfl
  have F16 : Fun K "parted_sign" "parted_sign" sPS (He.ga K "parted_sign") d16 := fun_ofD D16
  have b16 : Binds K d16 ["counts"] [] := F16.binds fun _ _ _ _ _ _ us hl => match us, hl with | [_], _ => rfl
  obtain ⟨d17, D17⟩ := c.def_ 17 (d := dd17) rfl
  have F17 : Fun K "parted" "parted" sPt (He.ga K "parted") d17 := fun_ofD D17
  have b17 : Binds K d17 ["words", "sign", "rank"] [] := F17.binds fun _ _ _ _ _ _ us hl => match us, hl with | [_, _, _], _ => rfl
  obtain ⟨d18, D18⟩ := c.def_ 18 (d := dd18) rfl
  have F18 : Fun K "code_of" "code_of" sCf (He.ga K "code_of") d18 := fun_ofD D18
  have b18 : Binds K d18 ["words"] [] := F18.binds fun _ _ _ _ _ _ us hl => match us, hl with | [_], _ => rfl
  obtain ⟨d19, D19⟩ := c.def_ 19 (d := dd19) rfl
  have F19 : Fun K "plan_codes" "plan_codes" sPn (He.ga K "plan_codes") d19 := fun_ofD D19
  have b19 : Binds K d19 ["history"] [] := F19.binds fun _ _ _ _ _ _ us hl => match us, hl with | [_], _ => rfl
  obtain ⟨d20, D20⟩ := c.def_ 20 (d := dd20) rfl
  have F20 : Fun K "tallies_of" "tallies_of" sTO (He.ga K "tallies_of") d20 := fun_ofD D20
  have b20 : Binds K d20 ["history"] [] := F20.binds fun _ _ _ _ _ _ us hl => match us, hl with | [_], _ => rfl
  obtain ⟨d21, D21⟩ := c.def_ 21 (d := dd21) rfl
  have F21 : Fun K "tally_behind" "tally_behind" sTB (He.ga K "tally_behind") d21 := fun_ofD D21
  have b21 : Binds K d21 ["pair", "tallies"] [] := F21.binds fun _ _ _ _ _ _ us hl => match us, hl with | [_, _], _ => rfl
  obtain ⟨d22, D22⟩ := c.def_ 22 (d := dd22) rfl
  have F22 : Fun K "are_counts" "are_counts" sACo (He.ga K "are_counts") d22 := fun_ofD D22
  have b22 : Binds K d22 ["value"] [] := F22.binds fun _ _ _ _ _ _ us hl => match us, hl with | [_], _ => rfl
  obtain ⟨d23, D23⟩ := c.def_ 23 (d := dd23) rfl
  have F23 : Fun K "farthest" "farthest" sFar (He.ga K "farthest") d23 := fun_ofD D23
  have b23 : Binds K d23 ["history", "tallies", "start", "most"] [] := F23.binds fun _ _ _ _ _ _ us hl => match us, hl with | [_, _, _, _], _ => rfl
  obtain ⟨d24, D24⟩ := c.def_ 24 (d := dd24) rfl
  have F24 : Fun K "code_at" "code_at" sCa2 (He.ga K "code_at") d24 := fun_ofD D24
  have b24 : Binds K d24 ["plan", "index"] [] := F24.binds fun _ _ _ _ _ _ us hl => match us, hl with | [_, _], _ => rfl
  obtain ⟨d25, D25⟩ := c.def_ 25 (d := dd25) rfl
  have F25 : Fun K "is_plan" "is_plan" sIP (He.ga K "is_plan") d25 := fun_ofD D25
  have b25 : Binds K d25 ["plan"] [] := F25.binds fun _ _ _ _ _ _ us hl => match us, hl with | [_], _ => rfl
  obtain ⟨d26, D26⟩ := c.def_ 26 (d := dd26) rfl
  have F26 : Fun K "are_codes" "are_codes" sAC (He.ga K "are_codes") d26 := fun_ofD D26
  have b26 : Binds K d26 ["plan", "tallies"] [] := F26.binds fun _ _ _ _ _ _ us hl => match us, hl with | [_, _], _ => rfl
  obtain ⟨d27, D27⟩ := c.def_ 27 (d := dd27) rfl
  have F27 : Fun K "stays_least" "stays_least" sSL (He.ga K "stays_least") d27 := fun_ofD D27
  have b27 : Binds K d27 ["plan", "tallies", "pair", "end"] [] := F27.binds fun _ _ _ _ _ _ us hl => match us, hl with | [_, _, _, _], _ => rfl
  obtain ⟨d28, D28⟩ := c.def_ 28 (d := dd28) rfl
  have F28 : Fun K "are_stops" "are_stops" sAS (He.ga K "are_stops") d28 := fun_ofD D28
  have b28 : Binds K d28 ["plan", "tallies"] [] := F28.binds fun _ _ _ _ _ _ us hl => match us, hl with | [_, _], _ => rfl
  obtain ⟨d29, D29⟩ := c.def_ 29 (d := dd29) rfl
  have F29 : Fun K "_law_pen_of" "_law_pen_of" sPen (He.ga K "_law_pen_of") d29 := fun_ofD D29
  have b29 : Binds K d29 ["_law_script"] [] := F29.binds fun _ _ _ _ _ _ us hl => match us, hl with | [_], _ => rfl
  obtain ⟨d30, D30⟩ := c.def_ 30 (d := dd30) rfl
  have F30 : Fun K "_law_draw" "_law_draw" sDraw (He.ga K "_law_draw") d30 := fun_ofD D30
  have b30 : Binds K d30 ["_law_pen", "_law_many"] [] := F30.binds fun _ _ _ _ _ _ us hl => match us, hl with | [_, _], _ => rfl
  obtain ⟨d31, D31⟩ := c.def_ 31 (d := dd31) rfl
  have F31 : Fun K "_law_pick" "_law_pick" sPick (He.ga K "_law_pick") d31 := fun_ofD D31
  have b31 : Binds K d31 ["_law_pen", "_law_items"] [] := F31.binds fun _ _ _ _ _ _ us hl => match us, hl with | [_, _], _ => rfl
  obtain ⟨d32, D32⟩ := c.def_ 32 (d := dd32) rfl
  have F32 : Fun K "_law_cost" "_law_cost" sLCost (He.ga K "_law_cost") d32 := fun_ofD D32
  have b32 : Binds K d32 ["_law_lengths", "_law_counts"] [] := F32.binds fun _ _ _ _ _ _ us hl => match us, hl with | [_, _], _ => rfl
  obtain ⟨d33, D33⟩ := c.def_ 33 (d := dd33) rfl
  have F33 : Fun K "_law_least" "_law_least" sLLeast (He.ga K "_law_least") d33 := fun_ofD D33
  have b33 : Binds K d33 ["_law_counts"] [] := F33.binds fun _ _ _ _ _ _ us hl => match us, hl with | [_], _ => rfl
  obtain ⟨d34, D34⟩ := c.def_ 34 (d := dd34) rfl
  have F34 : Fun K "_law_all_lengths" "_law_all_lengths" sAL (He.ga K "_law_all_lengths") d34 := fun_ofD D34
  have b34 : Binds K d34 ["_law_many"] [] := F34.binds fun _ _ _ _ _ _ us hl => match us, hl with | [_], _ => rfl
  obtain ⟨d35, D35⟩ := c.def_ 35 (d := dd35) rfl
  have F35 : Fun K "_law_history" "_law_history" sHis (He.ga K "_law_history") d35 := fun_ofD D35
  have b35 : Binds K d35 ["_law_pen", "_law_most"] [] := F35.binds fun _ _ _ _ _ _ us hl => match us, hl with | [_, _], _ => rfl
  obtain ⟨d36, D36⟩ := c.def_ 36 (d := dd36) rfl
  have F36 : Fun K "_law_behind" "_law_behind" sBeh (He.ga K "_law_behind") d36 := fun_ofD D36
  have b36 : Binds K d36 ["_law_lengths", "_law_pair", "_law_counts"] [] := F36.binds fun _ _ _ _ _ _ us hl => match us, hl with | [_, _, _], _ => rfl
  obtain ⟨d37, D37⟩ := c.def_ 37 (d := dd37) rfl
  have F37 : Fun K "_law_right_ones" "_law_right_ones" sRo (He.ga K "_law_right_ones") d37 := fun_ofD D37
  have b37 : Binds K d37 ["_law_tables", "_law_counts"] [] := F37.binds fun _ _ _ _ _ _ us hl => match us, hl with | [_, _], _ => rfl
  obtain ⟨d38, D38⟩ := c.def_ 38 (d := dd38) rfl
  have F38 : Fun K "_law_fewest" "_law_fewest" sFew (He.ga K "_law_fewest") d38 := fun_ofD D38
  have b38 : Binds K d38 ["_law_pairs", "_law_tallies", "_law_rights", "_law_first", "_law_last"] [] := F38.binds fun _ _ _ _ _ _ us hl => match us, hl with | [_, _, _, _, _], _ => rfl
  obtain ⟨d39, D39⟩ := c.def_ 39 (d := dd39) rfl
  have F39 : Fun K "_law_serves" "_law_serves" sSrv (He.ga K "_law_serves") d39 := fun_ofD D39
  have b39 : Binds K d39 ["_law_plan", "_law_pairs", "_law_tallies", "_law_rights"] [] := F39.binds fun _ _ _ _ _ _ us hl => match us, hl with | [_, _, _, _], _ => rfl
  obtain ⟨d40, D40⟩ := c.def_ 40 (d := dd40) rfl
  have F40 : Fun K "law" "law" sLaw (He.ga K "law") d40 := fun_ofD D40
  have b40 : Binds K d40 ["_law_script"] [] := F40.binds fun _ _ _ _ _ _ us hl => match us, hl with | [_], _ => rfl
  obtain ⟨d41, D41⟩ := c.def_ 41 (d := dd41) rfl
  have F41 : Fun K "__init__" "TooMany.__init__" sTMany (He.ma K (He.ga K "TooMany") "__init__") d41 := fun_ofD D41
  have b41 : Binds K d41 ["self", "what", "many", "most"] [] := F41.binds fun _ _ _ _ _ _ us hl => match us, hl with | [_, _, _, _], _ => rfl
  have m41 : Meth K (He.ga K "TooMany") "__init__" (He.ma K (He.ga K "TooMany") "__init__") := He.meth_ok (c.fact 104 (f := .meth "TooMany" "__init__") rfl)
  obtain ⟨d42, D42⟩ := c.def_ 42 (d := dd42) rfl
  have F42 : Fun K "__init__" "BadBits.__init__" sBBits (He.ma K (He.ga K "BadBits") "__init__") d42 := fun_ofD D42
  have b42 : Binds K d42 ["self", "index"] [] := F42.binds fun _ _ _ _ _ _ us hl => match us, hl with | [_, _], _ => rfl
  have m42 : Meth K (He.ga K "BadBits") "__init__" (He.ma K (He.ga K "BadBits") "__init__") := He.meth_ok (c.fact 105 (f := .meth "BadBits" "__init__") rfl)
  obtain ⟨d43, D43⟩ := c.def_ 43 (d := dd43) rfl
  have F43 : Fun K "__init__" "BadTally.__init__" sBTally (He.ma K (He.ga K "BadTally") "__init__") d43 := fun_ofD D43
  have b43 : Binds K d43 ["self", "index"] [] := F43.binds fun _ _ _ _ _ _ us hl => match us, hl with | [_, _], _ => rfl
  have m43 : Meth K (He.ga K "BadTally") "__init__" (He.ma K (He.ga K "BadTally") "__init__") := He.meth_ok (c.fact 106 (f := .meth "BadTally" "__init__") rfl)
  obtain ⟨d44, D44⟩ := c.def_ 44 (d := dd44) rfl
  have F44 : Fun K "__init__" "BadLength.__init__" sBLen (He.ma K (He.ga K "BadLength") "__init__") d44 := fun_ofD D44
  have b44 : Binds K d44 ["self", "index"] [] := F44.binds fun _ _ _ _ _ _ us hl => match us, hl with | [_, _], _ => rfl
  have m44 : Meth K (He.ga K "BadLength") "__init__" (He.ma K (He.ga K "BadLength") "__init__") := He.meth_ok (c.fact 107 (f := .meth "BadLength" "__init__") rfl)
  obtain ⟨d45, D45⟩ := c.def_ 45 (d := dd45) rfl
  have F45 : Fun K "__init__" "NotFull.__init__" sNFull (He.ma K (He.ga K "NotFull") "__init__") d45 := fun_ofD D45
  have b45 : Binds K d45 ["self"] [] := F45.binds fun _ _ _ _ _ _ us hl => match us, hl with | [_], _ => rfl
  have m45 : Meth K (He.ga K "NotFull") "__init__" (He.ma K (He.ga K "NotFull") "__init__") := He.meth_ok (c.fact 108 (f := .meth "NotFull" "__init__") rfl)
  obtain ⟨d46, D46⟩ := c.def_ 46 (d := dd46) rfl
  have F46 : Fun K "__init__" "Begins.__init__" sBegins (He.ma K (He.ga K "Begins") "__init__") d46 := fun_ofD D46
  have b46 : Binds K d46 ["self", "index", "other"] [] := F46.binds fun _ _ _ _ _ _ us hl => match us, hl with | [_, _, _], _ => rfl
  have m46 : Meth K (He.ga K "Begins") "__init__" (He.ma K (He.ga K "Begins") "__init__") := He.meth_ok (c.fact 109 (f := .meth "Begins" "__init__") rfl)
  obtain ⟨d47, D47⟩ := c.def_ 47 (d := dd47) rfl
  have F47 : Fun K "__init__" "Tree.__init__" sTrI (He.ma K (He.ga K "Tree") "__init__") d47 := fun_ofD D47
  have b47 : Binds K d47 ["self", "words"] [] := F47.binds fun _ _ _ _ _ _ us hl => match us, hl with | [_, _], _ => rfl
  have m47 : Meth K (He.ga K "Tree") "__init__" (He.ma K (He.ga K "Tree") "__init__") := He.meth_ok (c.fact 110 (f := .meth "Tree" "__init__") rfl)
  obtain ⟨d48, D48⟩ := c.def_ 48 (d := dd48) rfl
  have F48 : FunW K "__init__" "Code.__init__" sCoI (He.ma K (He.ga K "Code") "__init__") d48 := funW_ofD D48
  have b48 : Binds K d48 ["self", "lengths", "words"] [] := by
    obtain ⟨ds, vd, bd⟩ := FunD.binds1 (ps := ["self", "lengths", "words"]) D48 3 1 (by show [V.non] ≠ []; simp) rfl fun T kV doc pm an cdv ct us its hu hi => match us, hu, its, hi with | [_, _, _], _, [_], _ => ⟨_, rfl, rfl⟩
    have vd : Vals [] ds := vd
    cases vd
    exact bd
  have bn48 : Binds K d48 ["self", "lengths", "words"] [.none] := by
    obtain ⟨ds, vd, bd⟩ := FunD.binds1 (ps := ["self", "lengths", "words"]) D48 2 0 (by show [V.non] ≠ []; simp) rfl fun T kV doc pm an cdv ct us its hu hi => match us, hu, its, hi with | [_, _], _, [_], _ => ⟨_, rfl, rfl⟩
    have vd : Vals [.non] ds := vd
    obtain ⟨u, rfl, ru⟩ := vals1 vd
    cases ru
    exact bd
  have m48 : Meth K (He.ga K "Code") "__init__" (He.ma K (He.ga K "Code") "__init__") := He.meth_ok (c.fact 111 (f := .meth "Code" "__init__") rfl)
  obtain ⟨d49, D49⟩ := c.def_ 49 (d := dd49) rfl
  have F49 : Fun K "__init__" "Groups.__init__" sGrI (He.ma K (He.ga K "Groups") "__init__") d49 := fun_ofD D49
  have b49 : Binds K d49 ["self", "counts"] [] := F49.binds fun _ _ _ _ _ _ us hl => match us, hl with | [_, _], _ => rfl
  have m49 : Meth K (He.ga K "Groups") "__init__" (He.ma K (He.ga K "Groups") "__init__") := He.meth_ok (c.fact 112 (f := .meth "Groups" "__init__") rfl)
  obtain ⟨d50, D50⟩ := c.def_ 50 (d := dd50) rfl
  have F50 : Fun K "put" "Groups.put" sGrP (He.ma K (He.ga K "Groups") "put") d50 := fun_ofD D50
  have b50 : Binds K d50 ["self", "counts", "rank"] [] := F50.binds fun _ _ _ _ _ _ us hl => match us, hl with | [_, _, _], _ => rfl
  have m50 : Meth K (He.ga K "Groups") "put" (He.ma K (He.ga K "Groups") "put") := He.meth_ok (c.fact 113 (f := .meth "Groups" "put") rfl)
  obtain ⟨d51, D51⟩ := c.def_ 51 (d := dd51) rfl
  have F51 : Fun K "takes" "Groups.takes" sGrT (He.ma K (He.ga K "Groups") "takes") d51 := fun_ofD D51
  have b51 : Binds K d51 ["self", "counts"] [] := F51.binds fun _ _ _ _ _ _ us hl => match us, hl with | [_, _], _ => rfl
  have m51 : Meth K (He.ga K "Groups") "takes" (He.ma K (He.ga K "Groups") "takes") := He.meth_ok (c.fact 114 (f := .meth "Groups" "takes") rfl)
  obtain ⟨d52, D52⟩ := c.def_ 52 (d := dd52) rfl
  have F52 : Fun K "__init__" "CodePlan.__init__" sPlI (He.ma K (He.ga K "CodePlan") "__init__") d52 := fun_ofD D52
  have b52 : Binds K d52 ["self", "history", "codes", "stops"] [] := F52.binds fun _ _ _ _ _ _ us hl => match us, hl with | [_, _, _, _], _ => rfl
  have m52 : Meth K (He.ga K "CodePlan") "__init__" (He.ma K (He.ga K "CodePlan") "__init__") := He.meth_ok (c.fact 115 (f := .meth "CodePlan" "__init__") rfl)
  have q_TooMany_what : PySem.W.findIn K (.ref (He.ga K "TooMany")) "what" = some none := He.noat_ok (c.fact 80 (f := .noat "TooMany" "what") rfl)
  have q_TooMany_many : PySem.W.findIn K (.ref (He.ga K "TooMany")) "many" = some none := He.noat_ok (c.fact 81 (f := .noat "TooMany" "many") rfl)
  have q_TooMany_most : PySem.W.findIn K (.ref (He.ga K "TooMany")) "most" = some none := He.noat_ok (c.fact 82 (f := .noat "TooMany" "most") rfl)
  have q_BadBits_index : PySem.W.findIn K (.ref (He.ga K "BadBits")) "index" = some none := He.noat_ok (c.fact 83 (f := .noat "BadBits" "index") rfl)
  have q_BadTally_index : PySem.W.findIn K (.ref (He.ga K "BadTally")) "index" = some none := He.noat_ok (c.fact 84 (f := .noat "BadTally" "index") rfl)
  have q_BadLength_index : PySem.W.findIn K (.ref (He.ga K "BadLength")) "index" = some none := He.noat_ok (c.fact 85 (f := .noat "BadLength" "index") rfl)
  have q_Begins_index : PySem.W.findIn K (.ref (He.ga K "Begins")) "index" = some none := He.noat_ok (c.fact 86 (f := .noat "Begins" "index") rfl)
  have q_Begins_other : PySem.W.findIn K (.ref (He.ga K "Begins")) "other" = some none := He.noat_ok (c.fact 87 (f := .noat "Begins" "other") rfl)
  have q_Tree_names : PySem.W.findIn K (.ref (He.ga K "Tree")) "names" = some none := He.noat_ok (c.fact 88 (f := .noat "Tree" "names") rfl)
  have q_Tree_zeros : PySem.W.findIn K (.ref (He.ga K "Tree")) "zeros" = some none := He.noat_ok (c.fact 89 (f := .noat "Tree" "zeros") rfl)
  have q_Tree_ones : PySem.W.findIn K (.ref (He.ga K "Tree")) "ones" = some none := He.noat_ok (c.fact 90 (f := .noat "Tree" "ones") rfl)
  have q_Tree_numbers : PySem.W.findIn K (.ref (He.ga K "Tree")) "numbers" = some none := He.noat_ok (c.fact 91 (f := .noat "Tree" "numbers") rfl)
  have q_Code_longest : PySem.W.findIn K (.ref (He.ga K "Code")) "longest" = some none := He.noat_ok (c.fact 92 (f := .noat "Code" "longest") rfl)
  have q_Code_lengths : PySem.W.findIn K (.ref (He.ga K "Code")) "lengths" = some none := He.noat_ok (c.fact 93 (f := .noat "Code" "lengths") rfl)
  have q_Code_words : PySem.W.findIn K (.ref (He.ga K "Code")) "words" = some none := He.noat_ok (c.fact 94 (f := .noat "Code" "words") rfl)
  have q_Code_size : PySem.W.findIn K (.ref (He.ga K "Code")) "size" = some none := He.noat_ok (c.fact 95 (f := .noat "Code" "size") rfl)
  have q_Code_tree : PySem.W.findIn K (.ref (He.ga K "Code")) "tree" = some none := He.noat_ok (c.fact 96 (f := .noat "Code" "tree") rfl)
  have q_Groups_groups : PySem.W.findIn K (.ref (He.ga K "Groups")) "groups" = some none := He.noat_ok (c.fact 97 (f := .noat "Groups" "groups") rfl)
  have q_Groups_depths : PySem.W.findIn K (.ref (He.ga K "Groups")) "depths" = some none := He.noat_ok (c.fact 98 (f := .noat "Groups" "depths") rfl)
  have q_Groups_sums : PySem.W.findIn K (.ref (He.ga K "Groups")) "sums" = some none := He.noat_ok (c.fact 99 (f := .noat "Groups" "sums") rfl)
  have q_Groups_least : PySem.W.findIn K (.ref (He.ga K "Groups")) "least" = some none := He.noat_ok (c.fact 100 (f := .noat "Groups" "least") rfl)
  have q_CodePlan_history : PySem.W.findIn K (.ref (He.ga K "CodePlan")) "history" = some none := He.noat_ok (c.fact 101 (f := .noat "CodePlan" "history") rfl)
  have q_CodePlan_codes : PySem.W.findIn K (.ref (He.ga K "CodePlan")) "codes" = some none := He.noat_ok (c.fact 102 (f := .noat "CodePlan" "codes") rfl)
  have q_CodePlan_stops : PySem.W.findIn K (.ref (He.ga K "CodePlan")) "stops" = some none := He.noat_ok (c.fact 103 (f := .noat "CodePlan" "stops") rfl)
  have MK_Tree : Mk K (He.ga K "Tree") (He.ma K (He.ga K "Tree") "__init__") := He.mkr_ok (c.fact 73 (f := .mkr "Tree") rfl)
  have MK_Code : Mk K (He.ga K "Code") (He.ma K (He.ga K "Code") "__init__") := He.mkr_ok (c.fact 75 (f := .mkr "Code") rfl)
  have MK_Groups : Mk K (He.ga K "Groups") (He.ma K (He.ga K "Groups") "__init__") := He.mkr_ok (c.fact 77 (f := .mkr "Groups") rfl)
  have MK_CodePlan : Mk K (He.ga K "CodePlan") (He.ma K (He.ga K "CodePlan") "__init__") := He.mkr_ok (c.fact 79 (f := .mkr "CodePlan") rfl)
  have MM : Cm mg := ⟨⟨_, g0, ⟨_, rfl⟩⟩, ⟨_, g1, ⟨_, rfl⟩⟩, He.free_ok KX G (c.fact 61 (f := .free "max") rfl)⟩
  have MP : ∃ u, mg "MOST_PAIRS" = some u ∧ RelV (.int 400) u := ⟨_, g2, ⟨_, rfl⟩⟩
  have TX : TxC K (He.ga K "Code") := ⟨He.cls_ok (c.fact 74 (f := .cls "Code") rfl), q_Code_longest, q_Code_lengths, q_Code_words, q_Code_size, q_Code_tree⟩
  have TR : TxR K (He.ga K "Tree") := ⟨He.cls_ok (c.fact 72 (f := .cls "Tree") rfl), q_Tree_names, q_Tree_zeros, q_Tree_ones, q_Tree_numbers⟩
  have TG : TxG K (He.ga K "Groups") := ⟨He.cls_ok (c.fact 76 (f := .cls "Groups") rfl), q_Groups_groups, q_Groups_depths, q_Groups_sums, q_Groups_least⟩
  have TP : TxP K (He.ga K "CodePlan") := ⟨He.cls_ok (c.fact 78 (f := .cls "CodePlan") rfl), q_CodePlan_history, q_CodePlan_codes, q_CodePlan_stops⟩
  have U : ObK K := ⟨He.eqO_ok x6, of_decide_eq_true x7⟩
  have TE : TxE K (He.ga K "Code") := ⟨He.eqO_ok x9, U.gg, U.tk, of_decide_eq_true x10, of_decide_eq_true x8⟩
  have OC : ObC K (He.ga K "Code") := ⟨He.cls_ok (c.fact 74 (f := .cls "Code") rfl), He.eqO_ok x9, of_decide_eq_true x10, of_decide_eq_true x11, of_decide_eq_true x12, of_decide_eq_true x13, of_decide_eq_true x14, of_decide_eq_true x15⟩
  have VC : CvC K mg (He.ga K "VaultError") (He.ga K "TooMany") (He.ga K "BadTally") := ⟨(He.glo_ok KX G (c.fact 117 (f := .glo "VaultError") rfl)), He.exm_ok (c.fact 118 (f := .exm "TooMany" "VaultError" true) rfl), He.exm_ok (c.fact 119 (f := .exm "BadTally" "VaultError" true) rfl)⟩
  have el : fl = He.ga K "law" := by
    have e := hfl.symm.trans (He.glo_ok KX G (c.fact 40 (f := .glo "law") rfl))
    cases e
    rfl
  subst el
  have n01 : (He.cT K treD).2 ≠ (He.cT K canD).2 := of_decide_eq_true x18
  refine ⟨d40, [He.cT K treD, He.cT K canD], spLaw K (TbK K), ?_, ?_, ?_, ?_, ?_, ?_⟩
  · intro p hp
    simp only [List.mem_cons, List.not_mem_nil, or_false] at hp
    rcases hp with rfl | rfl
    · exact hT _ (of_decide_eq_true x16)
    · exact hT _ (of_decide_eq_true x17)
  · intro p hp
    simp only [List.mem_cons, List.not_mem_nil, or_false] at hp
    rcases hp with rfl | rfl
    · exact isNone_of x21
    · exact isNone_of x22
  · intro p hp
    simp only [List.mem_cons, List.not_mem_nil, or_false] at hp
    rcases hp with rfl | rfl
    · exact PySem.W.codeHd_of_K KX x19
    · exact PySem.W.codeHd_of_K KX x20
  · exact fun s u => FunD.bindsA (ps := ["_law_script"]) D40 (fun _ _ _ _ _ _ us hl => match us, hl with | [_], _ => rfl) s [u] rfl
  · intro H a ns hl hb hH hS
    refine ⟨a, ns, rfl, hS, fun p hp => ?_, fun _ => rfl⟩
    simp only [List.mem_cons, List.not_mem_nil, or_false] at hp
    rcases hp with rfl | rfl
    · exact LamX.TabS.nil (hH (He.cT K treD) List.mem_cons_self)
    · exact LamX.TabS.nil (hH (He.cT K canD) (List.mem_cons_of_mem _ List.mem_cons_self))
  · intro base KB GB TB
    have hu0 : ∀ p ∈ TbK K, p.1 = (He.cT K treD).2 → p.2 = (("Tree.__init__.<locals>.<lambda>" : String) : Str) := fun p hp e => by
      simp only [List.mem_cons, List.not_mem_nil, or_false] at hp
      rcases hp with rfl | rfl
      · exact rfl
      · exact absurd e.symm n01
    have LF0 : FunL K base mg "__init__" "Tree.__init__" sTrI (He.ma K (He.ga K "Tree") "__init__") (He.cT K treD).1 (He.cT K treD).2 d47 := funL_of (kq := treD) F47 (TB _ List.mem_cons_self)
    have hu1 : ∀ p ∈ TbK K, p.1 = (He.cT K canD).2 → p.2 = (("canonical_words.<locals>.<lambda>" : String) : Str) := fun p hp e => by
      simp only [List.mem_cons, List.not_mem_nil, or_false] at hp
      rcases hp with rfl | rfl
      · exact absurd e n01
      · exact rfl
    have LF1 : FunL K base mg "canonical_words" "canonical_words" sCan (He.ga K "canonical_words") (He.cT K canD).1 (He.cT K canD).2 d11 := funL_of (kq := canD) F11 (TB _ (List.mem_cons_of_mem _ List.mem_cons_self))
    have cWh : Cal CX0 l.prog w K mg base 1 "is_whole" spWhole := ⟨_, d0, _, ok_whole F0 B, (He.glo_ok KX G (c.fact 0 (f := .glo "is_whole") rfl)), F0.kp, b0⟩
    have cB : Cal CX0 l.prog w K mg base 2 "is_between" spBetween := ⟨_, d1, _, ok_between F1 cWh, (He.glo_ok KX G (c.fact 1 (f := .glo "is_between") rfl)), F1.kp, b1⟩
    have cFr : Cal CX0 l.prog w K mg base 2 "is_from" spFrom := ⟨_, d2, _, ok_from F2 cWh, (He.glo_ok KX G (c.fact 2 (f := .glo "is_from") rfl)), F2.kp, b2⟩
    have cC1 : Cal CX0 l.prog w K mg base 1 "copied" spCopied := ⟨_, d5, _, ok_copied F5 B, (He.glo_ok KX G (c.fact 5 (f := .glo "copied") rfl)), F5.kp, b5⟩
    have xTooMany : Xc l.prog w K mg base 2 "TooMany" (He.ga K "TooMany") (spX3 K "what" "many" "most") := ⟨oexB_ok o0, (He.glo_ok KX G (c.fact 41 (f := .glo "TooMany") rfl)), _, d41, _, m41.at_, beq_iff_eq.mp m41.fn, ok_TMany F41 cC1, b41⟩
    have xBadLength : Xc l.prog w K mg base 2 "BadLength" (He.ga K "BadLength") (spX1 K "index") := ⟨oexB_ok o3, (He.glo_ok KX G (c.fact 44 (f := .glo "BadLength") rfl)), _, d44, _, m44.at_, beq_iff_eq.mp m44.fn, ok_BLen F44 cC1, b44⟩
    have xNotFull : Xc l.prog w K mg base 1 "NotFull" (He.ga K "NotFull") spX0 := ⟨oexB_ok o4, (He.glo_ok KX G (c.fact 45 (f := .glo "NotFull") rfl)), _, d45, _, m45.at_, beq_iff_eq.mp m45.fn, ok_NFull F45, b45⟩
    have xBadBits : Xc l.prog w K mg base 2 "BadBits" (He.ga K "BadBits") (spX1 K "index") := ⟨oexB_ok o1, (He.glo_ok KX G (c.fact 42 (f := .glo "BadBits") rfl)), _, d42, _, m42.at_, beq_iff_eq.mp m42.fn, ok_BBits F42 cC1, b42⟩
    have xBegins : Xc l.prog w K mg base 2 "Begins" (He.ga K "Begins") (spX2 K "index" "other") := ⟨oexB_ok o5, (He.glo_ok KX G (c.fact 46 (f := .glo "Begins") rfl)), _, d46, _, m46.at_, beq_iff_eq.mp m46.fn, ok_Begins F46 cC1, b46⟩
    have xBadTally : Xc l.prog w K mg base 2 "BadTally" (He.ga K "BadTally") (spX1 K "index") := ⟨oexB_ok o2, (He.glo_ok KX G (c.fact 43 (f := .glo "BadTally") rfl)), _, d43, _, m43.at_, beq_iff_eq.mp m43.fn, ok_BTally F43 cC1, b43⟩
    have cFo : Cal CX0 l.prog w K mg base 1 "first_one" (spFo K) := ⟨_, d7, _, ok_fo F7, (He.glo_ok KX G (c.fact 7 (f := .glo "first_one") rfl)), F7.kp, b7⟩
    have mkT : Mak CX0 l.prog w K mg base 6 "Tree" (He.ga K "Tree") (spTrI (He.ga K "Tree") (TbK K)) := ⟨_, d47, _, MK_Tree, ok_trI LF0 B Bz TR cFo List.mem_cons_self hu0, (He.glo_ok KX G (c.fact 47 (f := .glo "Tree") rfl)), b47⟩
    have cFwb : Cal CX0 l.prog w K mg base 1 "first_wrong_bit" spFwb := ⟨_, d10, _, ok_fwb F10 B Bz, (He.glo_ok KX G (c.fact 10 (f := .glo "first_wrong_bit") rfl)), F10.kp, b10⟩
    have cChW : Cal (L2.CX l.prog w) l.prog w K mg base 4 "check_words" (spChW (He.ga K "BadBits") (He.ga K "Begins")) := ⟨_, d9, _, ok_chW F9 B Bz cFwb xBadBits q_BadBits_index xBegins ⟨q_Begins_index, q_Begins_other⟩, (He.glo_ok KX G (c.fact 9 (f := .glo "check_words") rfl)), F9.kp, b9⟩
    have cCan : Cal CX0 l.prog w K mg base 6 "canonical_words" (spCa (TbK K)) := ⟨_, d11, _, ok_can LF1 B Bz (List.mem_cons_of_mem _ List.mem_cons_self) hu1, (He.glo_ok KX G (c.fact 11 (f := .glo "canonical_words") rfl)), F11.kp, b11⟩
    have fC : FnOk l.prog w K mg base (L2.CX l.prog w) 8 (He.ma K (He.ga K "Code") "__init__") d48 ["self", "lengths", "words"] (spCoI (He.ga K "Code") (He.ga K "TooMany") (He.ga K "BadLength") (He.ga K "NotFull") (He.ga K "BadBits") (He.ga K "Begins") (TbK K)) := ok_coI F48 B Bz MM TX ⟨q_TooMany_what, q_TooMany_many, q_TooMany_most, q_BadLength_index⟩ cB xTooMany xBadLength xNotFull cChW cCan mkT
    have mN : MakN (L2.CX l.prog w) l.prog w K mg base 8 "Code" (He.ga K "Code") (spCoI (He.ga K "Code") (He.ga K "TooMany") (He.ga K "BadLength") (He.ga K "NotFull") (He.ga K "BadBits") (He.ga K "Begins") (TbK K)) := ⟨_, d48, _, MK_Code, fC, (He.glo_ok KX G (c.fact 48 (f := .glo "Code") rfl)), bn48⟩
    have mC : Mak (L2.CX l.prog w) l.prog w K mg base 8 "Code" (He.ga K "Code") (spCoI (He.ga K "Code") (He.ga K "TooMany") (He.ga K "BadLength") (He.ga K "NotFull") (He.ga K "BadBits") (He.ga K "Begins") (TbK K)) := ⟨_, d48, _, MK_Code, fC, (He.glo_ok KX G (c.fact 48 (f := .glo "Code") rfl)), b48⟩
    have cCC : Cal (L2.CX l.prog w) l.prog w K mg base 4 "check_counts" (spCC (He.ga K "TooMany") (He.ga K "BadTally")) := ⟨_, d8, _, ok_chC F8 B MM cFr xTooMany xBadTally ⟨q_TooMany_what, q_TooMany_many, q_TooMany_most, q_BadTally_index⟩, (He.glo_ok KX G (c.fact 8 (f := .glo "check_counts") rfl)), F8.kp, b8⟩
    have cCO : Cal CX0 l.prog w K mg base 1 "cost_of" spCOfL := ⟨_, d13, _, ok_cofL F13 Bz Bz.zip, (He.glo_ok KX G (c.fact 13 (f := .glo "cost_of") rfl)), F13.kp, b13⟩
    have cJC : Cal CX0 l.prog w K mg base 1 "joined_counts" spJC := ⟨_, d15, _, ok_jc F15 B Bz.sorted, (He.glo_ok KX G (c.fact 15 (f := .glo "joined_counts") rfl)), F15.kp, b15⟩
    have cLO : Cal CX0 l.prog w K mg base 2 "least_of" spLO := ⟨_, d14, _, ok_lo F14 cJC, (He.glo_ok KX G (c.fact 14 (f := .glo "least_of") rfl)), F14.kp, b14⟩
    have cLC : Cal (L2.CX l.prog w) l.prog w K mg base 10 "least_code" (spLC (He.ga K "Code") (He.ga K "TooMany") (He.ga K "BadTally") (TbK K)) := ⟨_, d12, _, ok_lc F12 B cCC cJC mN, (He.glo_ok KX G (c.fact 12 (f := .glo "least_code") rfl)), F12.kp, b12⟩
    have cF0 : Cal CX0 l.prog w K mg base 1 "frozen" (spFz K 0) := ⟨_, d6, _, ok_fz0 F6 B, (He.glo_ok KX G (c.fact 6 (f := .glo "frozen") rfl)), F6.kp, b6⟩
    have cF1 : Cal CX0 l.prog w K mg base 2 "frozen" (spFz K 1) := ⟨_, d6, _, ok_fzS F6 B cF0, (He.glo_ok KX G (c.fact 6 (f := .glo "frozen") rfl)), F6.kp, b6⟩
    have cF2 : Cal CX0 l.prog w K mg base 3 "frozen" (spFz K 2) := ⟨_, d6, _, ok_fzS F6 B cF1, (He.glo_ok KX G (c.fact 6 (f := .glo "frozen") rfl)), F6.kp, b6⟩
    have cF3 : Cal CX0 l.prog w K mg base 4 "frozen" (spFz K 3) := ⟨_, d6, _, ok_fzS F6 B cF2, (He.glo_ok KX G (c.fact 6 (f := .glo "frozen") rfl)), F6.kp, b6⟩
    have cPt : Cal CX0 l.prog w K mg base 1 "parted" spPt := ⟨_, d17, _, ok_pt F17 B, (He.glo_ok KX G (c.fact 17 (f := .glo "parted") rfl)), F17.kp, b17⟩
    have cCf : Cal CX0 l.prog w K mg base 10 "code_of" (spCf (He.ga K "Code") (TbK K)) := ⟨_, d18, _, ok_cf F18 B mC, (He.glo_ok KX G (c.fact 18 (f := .glo "code_of") rfl)), F18.kp, b18⟩
    have cPS : Cal CX0 l.prog w K mg base 1 "parted_sign" spPS := ⟨_, d16, _, ok_ps F16 B, (He.glo_ok KX G (c.fact 16 (f := .glo "parted_sign") rfl)), F16.kp, b16⟩
    have cIsL : Cal CX0 l.prog w K mg base 1 "is_list" (spIsL K) := ⟨_, d3, _, ok_isL F3 B, (He.glo_ok KX G (c.fact 3 (f := .glo "is_list") rfl)), F3.kp, b3⟩
    have cTup : Cal CX0 l.prog w K mg base 1 "is_tuple_of" spTupOf := ⟨_, d4, _, ok_tupOf F4 B, (He.glo_ok KX G (c.fact 4 (f := .glo "is_tuple_of") rfl)), F4.kp, b4⟩
    have mG : Mak CX0 l.prog w K mg base 3 "Groups" (He.ga K "Groups") (spGrI (He.ga K "Groups")) := ⟨_, d49, _, MK_Groups, ok_grI F49 B TG cLO, (He.glo_ok KX G (c.fact 49 (f := .glo "Groups") rfl)), b49⟩
    have mP : Met CX0 l.prog w K mg base 2 (He.ga K "Groups") "put" (spGrP (He.ga K "Groups")) := ⟨_, d50, _, TG.cl, m50, ok_grP F50 B TG cPS, b50⟩
    have mT : Met CX0 l.prog w K mg base 3 (He.ga K "Groups") "takes" (spGrT (He.ga K "Groups")) := ⟨_, d51, _, TG.cl, m51, ok_grT F51 B TG Bz.zip cLO, b51⟩
    have cACo : Cal CX0 l.prog w K mg base 5 "are_counts" spACo := ⟨_, d22, _, ok_aco F22 VC cIsL cCC, (He.glo_ok KX G (c.fact 22 (f := .glo "are_counts") rfl)), F22.kp, b22⟩
    have cTB : Cal CX0 l.prog w K mg base 6 "tally_behind" spTB := ⟨_, d21, _, ok_tb F21 B Bz MM cTup cACo cB, (He.glo_ok KX G (c.fact 21 (f := .glo "tally_behind") rfl)), F21.kp, b21⟩
    have cTO : Cal CX0 l.prog w K mg base 7 "tallies_of" spTO := ⟨_, d20, _, ok_to F20 B MP cTB, (He.glo_ok KX G (c.fact 20 (f := .glo "tallies_of") rfl)), F20.kp, b20⟩
    have cFar : Cal CX0 l.prog w K mg base 5 "farthest" (spFar (He.ga K "Groups")) := ⟨_, d23, _, ok_far F23 B TG mG mP mT, (He.glo_ok KX G (c.fact 23 (f := .glo "farthest") rfl)), F23.kp, b23⟩
    have mPl : Mak CX0 l.prog w K mg base 5 "CodePlan" (He.ga K "CodePlan") (spPlI K (He.ga K "CodePlan")) := ⟨_, d52, _, MK_CodePlan, ok_plI F52 TP cF3, (He.glo_ok KX G (c.fact 50 (f := .glo "CodePlan") rfl)), b52⟩
    have cPn : Cal CX0 l.prog w K mg base 11 "plan_codes" (spPn (He.ga K "Code") (He.ga K "CodePlan") (TbK K)) := ⟨_, d19, _, ok_pn F19 B TG OC U cTO cFar cLC mPl, (He.glo_ok KX G (c.fact 19 (f := .glo "plan_codes") rfl)), F19.kp, b19⟩
    have cCa2 : Cal CX0 l.prog w K mg base 11 "code_at" (spCa2 (He.ga K "Code") (He.ga K "CodePlan") (TbK K)) := ⟨_, d24, _, ok_ca2 F24 B TP TX cB cTO cPS cPt cCf, (He.glo_ok KX G (c.fact 24 (f := .glo "code_at") rfl)), F24.kp, b24⟩
    have cSL : Cal CX0 l.prog w K mg base 3 "stays_least" (spSL (He.ga K "Code") (He.ga K "CodePlan")) := ⟨_, d27, _, ok_sl F27 B TP TX cPS cCO cLO, (He.glo_ok KX G (c.fact 27 (f := .glo "stays_least") rfl)), F27.kp, b27⟩
    have cAC : Cal CX0 l.prog w K mg base 4 "are_codes" (spAC (He.ga K "Code") (He.ga K "CodePlan")) := ⟨_, d26, _, ok_ac F26 B Bz Bz.zip TP TX TE (He.glo_ok KX G (c.fact 48 (f := .glo "Code") rfl)) cTup cB cSL, (He.glo_ok KX G (c.fact 26 (f := .glo "are_codes") rfl)), F26.kp, b26⟩
    have cAS : Cal CX0 l.prog w K mg base 6 "are_stops" (spAS (He.ga K "CodePlan")) := ⟨_, d28, _, ok_as F28 B Bz TP cTup cB cFar, (He.glo_ok KX G (c.fact 28 (f := .glo "are_stops") rfl)), F28.kp, b28⟩
    have cIP : Cal CX0 l.prog w K mg base 8 "is_plan" (spIP (He.ga K "Code") (He.ga K "CodePlan")) := ⟨_, d25, _, ok_ip F25 B TP cTO cAC cAS, (He.glo_ok KX G (c.fact 25 (f := .glo "is_plan") rfl)), F25.kp, b25⟩
    have cPen : Cal CX0 l.prog w K mg base 1 "_law_pen_of" (spPen K) := ⟨_, d29, _, ok_pen F29 B, (He.glo_ok KX G (c.fact 29 (f := .glo "_law_pen_of") rfl)), F29.kp, b29⟩
    have cD : Cal CX0 l.prog w K mg base 1 "_law_draw" spDraw := ⟨_, d30, _, ok_draw F30 B, (He.glo_ok KX G (c.fact 30 (f := .glo "_law_draw") rfl)), F30.kp, b30⟩
    have cPk : Cal CX0 l.prog w K mg base 2 "_law_pick" spPick := ⟨_, d31, _, ok_pick F31 B cD, (He.glo_ok KX G (c.fact 31 (f := .glo "_law_pick") rfl)), F31.kp, b31⟩
    have cLCo : Cal CX0 l.prog w K mg base 1 "_law_cost" spLCo := ⟨_, d32, _, ok_lco F32 Bz Bz.zip, (He.glo_ok KX G (c.fact 32 (f := .glo "_law_cost") rfl)), F32.kp, b32⟩
    have cLLe : Cal CX0 l.prog w K mg base 1 "_law_least" spLLe := ⟨_, d33, _, ok_lle F33 B Bz.sorted, (He.glo_ok KX G (c.fact 33 (f := .glo "_law_least") rfl)), F33.kp, b33⟩
    have cAL : Cal CX0 l.prog w K mg base 2 "_law_all_lengths" spAL := ⟨_, d34, _, ok_al F34 B Bz.sorted, (He.glo_ok KX G (c.fact 34 (f := .glo "_law_all_lengths") rfl)), F34.kp, b34⟩
    have cHis : Cal CX0 l.prog w K mg base 3 "_law_history" (spHis (TbK K)) := ⟨_, d35, _, ok_his F35 B cD cPk, (He.glo_ok KX G (c.fact 35 (f := .glo "_law_history") rfl)), F35.kp, b35⟩
    have cBeh : Cal CX0 l.prog w K mg base 1 "_law_behind" spBeh := ⟨_, d36, _, ok_beh F36 B, (He.glo_ok KX G (c.fact 36 (f := .glo "_law_behind") rfl)), F36.kp, b36⟩
    have cRo : Cal CX0 l.prog w K mg base 2 "_law_right_ones" spRo := ⟨_, d37, _, ok_ro F37 B cLLe cLCo, (He.glo_ok KX G (c.fact 37 (f := .glo "_law_right_ones") rfl)), F37.kp, b37⟩
    have cFew : Cal CX0 l.prog w K mg base 2 "_law_fewest" spFew := ⟨_, d38, _, ok_few F38 B cBeh, (He.glo_ok KX G (c.fact 38 (f := .glo "_law_fewest") rfl)), F38.kp, b38⟩
    have cSrv : Cal CX0 l.prog w K mg base 12 "_law_serves" (spSrv (He.ga K "Code") (He.ga K "CodePlan") (TbK K)) := ⟨_, d39, _, ok_srv F39 B Bz.sorted (He.free_ok KX G (c.fact 116 (f := .free "set") rfl)) TP TX cBeh cCa2, (He.glo_ok KX G (c.fact 39 (f := .glo "_law_serves") rfl)), F39.kp, b39⟩
    exact ok_law ⟨F40, B, TP, cPen, cAL, cHis, cPn, cRo, cFew, cSrv, cIP⟩
end K40
set_option Elab.async false
open PySem.W PySem PyProof.Rows in
set_option maxRecDepth 100001 in
set_option maxHeartbeats 0 in
theorem PySem.Challenge.cw_wordvault_k40_whole_plans_of_codes_holds : PySem.Challenge.rw_wordvault_k40_whole_plans_of_codes.Holds := by
  w_on; o_law
  k_head
  case hw => w_witness2
  k_fill
  refine LamX.walk_ofTs (l := PySem.Challenge.rw_wordvault_k40_whole_plans_of_codes) (n := 63) (k := 13) (x := "_law_script") (CX := fun _ => L2.CX0) rfl (by decide) rfl ⟨rfl, by decide, by decide⟩ (fun w h Y => PySem.W.km_in_of Y) ?F (fun _ _ _ _ _ z => z)
  case F =>
    intro w mg fa h Y KX G hmg
    refine K40.at_law KX G hmg ?c ?e (PySem.W.km_tabs_of Y)
    case c =>
      show He.obsD K40.faA K40.fnA _ = He.valD K40.fnA
      kernel_rfl
    case e => kernel_rfl
